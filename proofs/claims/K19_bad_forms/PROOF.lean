import PyProof.Rows.All
import Wide.All
import OpenK.AllK
import Wide.FinOn
import Lean
import PyProof.EqAt
import PyProof.EqKinds
import PyProof.TupleCall
import KE.KRevIter
import KE.KDictList
import PyProof.ZipIter
import PyProof.Draws
import PyProof.DictWalks
import PyProof.AttrMiss
import PyProof.FactsAll.zip_1
import KE.KDictOf
import PyProof.Rows.FStr
import PyProof.AutoSeq1
import PyProof.EnumMake
import PyProof.CallType
import PyProof.Rows.CallKwBuiltin
import PyProof.DictUpdate
import PyProof.NoPylong
import KE.KDictMeth
import PyProof.DictItemsLoops
import PyProof.SumWalk
import PyProof.SumWalkG
import PyProof.Rows.SumGenD
import PyProof.StrBlockH
import KE.KIntText
import KE.IntTextLaws
import OpenK.KTop
import PyProof.ExcBaseAll.ValueError
import KE.KTryMore
import PyProof.ReprStr
import KE.IntTextText
import PyProof.StrReplace2
import PyProof.StrCalls6
import PyProof.StrBlockL
import PyProof.Rows.StrIntSpec
import PyProof.StrLawsRepr
import KE.RegKTryMore
import PySem.Challenge.RW_idlegraph_k19_bad_forms
set_option Elab.async false
set_option linter.all false
set_option maxRecDepth 100000
/-! THE HAND LAYER, for ints, bools, texts, own classes, LISTS and tuples (index, slices, in, append, pop ..), calls, loops. Paste it whole ahead of your own text; what your proof does not reach may be deleted. -/
namespace L2
open PySem PySem.Spec PyProof.Rows
/-- a key: an int or a str -/
abbrev Key := Sum Int Str
def keyIs : Key → Value → Bool
  | .inl k, v => Value.isInt k v
  | .inr x, v => Value.isStrOf x v
def keyH (w : World) : Key → Int
  | .inl k => hashInt k
  | .inr x => hashStr w x
theorem keyIs_shape : ∀ {k : Key} {v : Value}, keyIs k v = true → (∃ i t, k = Sum.inl i ∧ v = Value.int i t) ∨ (∃ x t, k = Sum.inr x ∧ v = Value.str x t)
  | .inl i, v, h => by
    obtain ⟨t, e⟩ := Value.isInt_shape (k := i) (v := v) h
    exact .inl ⟨i, t, rfl, e⟩
  | .inr x, v, h => by
    obtain ⟨t, e⟩ := Value.isStrOf_shape (x := x) (v := v) h
    exact .inr ⟨x, t, rfl, e⟩
theorem key_ll (a b : Int) : decide ((Sum.inl a : Key) = Sum.inl b) = (a == b) := by
  by_cases e : a = b
  · subst e; simp
  · have h : ¬ (Sum.inl a : Key) = Sum.inl b := fun q => e (Sum.inl.inj q)
    rw [decide_eq_false h]
    exact (beq_eq_false_iff_ne.mpr e).symm
theorem key_rr (a b : Str) : decide ((Sum.inr a : Key) = Sum.inr b) = decide (a = b) := by
  by_cases e : a = b
  · subst e; simp
  · have h : ¬ (Sum.inr a : Key) = Sum.inr b := fun q => e (Sum.inr.inj q)
    rw [decide_eq_false h, decide_eq_false e]
theorem key_lr (a : Int) (b : Str) : decide ((Sum.inl a : Key) = Sum.inr b) = false := decide_eq_false (fun q => nomatch q)
theorem key_rl (a : Str) (b : Int) : decide ((Sum.inr a : Key) = Sum.inl b) = false := decide_eq_false (fun q => nomatch q)
def mixKind (prog : Program) (w : World) : PySem.KeyKind prog w Key where
  is := keyIs
  hash := keyH w
  inj := fun v a b ha hb => by
    rcases keyIs_shape ha with ⟨i, t, rfl, rfl⟩ | ⟨x, t, rfl, rfl⟩
    · rcases keyIs_shape hb with ⟨j, u, rfl, e⟩ | ⟨y, u, rfl, e⟩
      · injection e with e1 _; rw [e1]
      · exact nomatch e
    · rcases keyIs_shape hb with ⟨j, u, rfl, e⟩ | ⟨y, u, rfl, e⟩
      · exact nomatch e
      · injection e with e1 _; rw [e1]
  byValue := fun k v h => by
    rcases keyIs_shape h with ⟨i, t, rfl, rfl⟩ | ⟨x, t, rfl, rfl⟩ <;> rfl
  pyHash := fun hv h => by
    rcases keyIs_shape hv with ⟨i, t, rfl, rfl⟩ | ⟨x, t, rfl, rfl⟩
    · exact wpAny_pyHash_int h
    · exact wpAny_pyHash_str h
  eqBool := fun hu hv h => by
    rcases keyIs_shape hu with ⟨i, t, rfl, rfl⟩ | ⟨x, t, rfl, rfl⟩
    · rcases keyIs_shape hv with ⟨j, u, rfl, rfl⟩ | ⟨y, u, rfl, rfl⟩
      · rw [key_ll] at h; exact wpAny_eqBool_int h
      · rw [key_lr] at h; exact SeqAt.EqAt.int_str i t y u _ _ _ _ h
    · rcases keyIs_shape hv with ⟨j, u, rfl, rfl⟩ | ⟨y, u, rfl, rfl⟩
      · rw [key_rl] at h; exact SeqAt.EqAt.str_int x t j u _ _ _ _ h
      · rw [key_rr] at h; exact wpAny_eqBool_str h
  «strs» := fun k x t v h => by
    rcases keyIs_shape h with ⟨i, u, rfl, e⟩ | ⟨y, u, rfl, e⟩
    · exact nomatch e
    · injection e with e1 _
      subst e1
      cases v <;> rfl
end L2
namespace L2
open PySem PySem.Spec PyProof.Rows
/-- a value, without the heap -/
inductive V where
  | non | bl (b : Bool) | int (i : Int) | str (x : Str) | byt (b : Array UInt8) | flt (b : UInt64) | ref (a : Addr) | ty (n : String)
  deriving DecidableEq
def RelV : V → Value → Prop
  | .non, u => u = Value.none
  | .bl b, u => u = Value.bool b
  | .int i, u => ∃ t, u = Value.int i t
  | .str x, u => ∃ t, u = Value.str x t
  | .byt b, u => ∃ t, u = Value.bytes b t
  | .flt b, u => ∃ t, u = Value.float b t
  | .ref a, u => u = Value.ref a
  | .ty n, u => u = Value.type n
abbrev Vals : List V → List Value → Prop := Paired RelV
theorem Vals.length {xs : List V} {us : List Value} (r : Vals xs us) : xs.length = us.length := Paired.length r
theorem Vals.get : ∀ {xs : List V} {us : List Value} {i : Nat} {x : V}, Vals xs us → xs[i]? = some x → ∃ u, us[i]? = some u ∧ RelV x u
  | _, _, _, _, .nil, e => by simp at e
  | _, _, 0, _, .cons r _, e => by simp at e; subst e; exact ⟨_, rfl, r⟩
  | _, _, i + 1, x, .cons _ t, e => by
    obtain ⟨u, h1, h2⟩ := Vals.get (i := i) (x := x) t (by simpa using e)
    exact ⟨u, by simpa using h1, h2⟩
theorem Vals.append : ∀ {xs ys : List V} {us ws : List Value}, Vals xs us → Vals ys ws → Vals (xs ++ ys) (us ++ ws)
  | _, _, _, _, .nil, s => s
  | _, _, _, _, .cons r t, s => .cons r (Vals.append t s)
theorem Vals.take : ∀ {xs : List V} {us : List Value} (n : Nat), Vals xs us → Vals (xs.take n) (us.take n)
  | _, _, 0, _ => .nil
  | _, _, _ + 1, .nil => .nil
  | _, _, n + 1, .cons r t => .cons r (Vals.take n t)
theorem Vals.drop : ∀ {xs : List V} {us : List Value} (n : Nat), Vals xs us → Vals (xs.drop n) (us.drop n)
  | _, _, 0, r => r
  | _, _, _ + 1, .nil => .nil
  | _, _, n + 1, .cons _ t => Vals.drop n t
def RelO : Option V → Option Value → Prop
  | some v, some u => RelV v u
  | none, none => True
  | _, _ => False
def KV {κ : Type} : List (κ × V) → List (κ × Value) → Prop := Paired fun (p : κ × V) (q : κ × Value) => p.1 = q.1 ∧ RelV p.2 q.2
/-- a key of a dict (00_mix): an int or a text -/
def kV : Key → V
  | .inl i => .int i
  | .inr x => .str x
/-- what stands at a tracked address -/
inductive HO where
  /-- a list -/
  | lst (xs : List V)
  /-- a tuple (never changes) -/
  | tup (xs : List V)
  /-- a dict whose keys are ints and texts; one whose keys are tuples of ints and texts (the empty one is both) -/
  | dK (kvs : List (Key × V)) | dT (kvs : List (List Key × V))
  /-- a set of ints: its members, its size -/
  | set (S : Int → Bool) (n : Nat)
  /-- an instance of the class at C, its dict at dx, its attributes -/
  | ins (C dx : Addr) (fs : List (Str × V))
  /-- the dict of the instance at x -/
  | own (x : Addr)
  /-- the dict of an exception -/
  | xd (fs : List (Str × V))
  /-- a bound method, f of x -/
  | met (f x : Addr)
  /-- a range object lo, lo + 1, .. below hi -/
  | rng (lo hi : Int)
  /-- a thing that is known to the object (the script; a dict while a loop walks it): read, never written while it is so -/
  | frz (o : Obj) (u : HO)
  /-- a code object's table -/
  | tbl (ps : Array Value)
  /-- any other thing, by what is true of its one object (a def of one's own: SetO a S n := HO.ext fun h => ..) -/
  | ext (φ : Heap → Prop)
abbrev Hp := Addr → Option HO
def upd (H : Hp) (a : Addr) (o : HO) : Hp := fun b => if b = a then some o else H b
theorem upd_same {H : Hp} {a : Addr} {o : HO} : upd H a o a = some o := by unfold upd; rw [if_pos rfl]
theorem upd_ne {H : Hp} {a b : Addr} {o : HO} (h : b ≠ a) : upd H a o b = H b := by unfold upd; rw [if_neg h]
theorem ne_of_none {H : Hp} {a b : Addr} {o : HO} (h : H a = some o) (h' : H b = none) : a ≠ b := by
  intro e; subst e; rw [h] at h'; cases h'
section
variable (P : Program) (w : World)
def ObjOk (H : Hp) (h : Heap) (a : Addr) : HO → Prop
  | .lst xs => xs.length ≤ sizeLine ∧ ∃ (its : List Value) (n : Nat), Vals xs its ∧ h.get? a = some { cls := .type "list", data := .seq its.toArray n }
  | .tup xs => xs.length ≤ sizeLine ∧ ∃ its : List Value, Vals xs its ∧ IsTup h a its.toArray
  | .dK kvs => kvs.length ≤ sizeLine ∧ (a == sysModules) = false ∧ ∃ vs, KV kvs vs ∧ h.DictOf (mixKind P w) a vs
  | .dT kvs => kvs.length ≤ sizeLine ∧ (a == sysModules) = false ∧ ∃ xs : List (List Key × Addr × Value),
      Paired (fun (p : List Key × V) (q : List Key × Addr × Value) => p.1 = q.1 ∧ H q.2.1 = some (.tup (p.1.map kV)) ∧ RelV p.2 q.2.2) kvs xs ∧
      ∃ o es ep, h.get? a = some o ∧ o.ExactDict ∧ o.data = .dict es ep ∧ es.toList = xs.map (entryOfKey (tupleKind (mixKind P w))) ∧ (xs.map (·.1)).Nodup
  | .set S n => h.SetOf (intKind P w) a S n
  | .ins C dx fs => H dx = some (.own a) ∧ fs.length ≤ 1000 ∧ dx ≠ a ∧ h.get? a = some (PySem.W.instObj C dx) ∧
      ∃ mA, h.Ns1 dx mA ∧ (∀ f, RelO (fs.lookup f) (mA f)) ∧ PySem.Within mA (fs.map (·.1))
  | .own _ => ∃ o, h.get? a = some o
  | .xd fs => ∃ mA, h.Ns1 a mA ∧ ∀ f, RelO (fs.lookup f) (mA f)
  | .rng lo hi => ∃ t u v, h.get? a = some { cls := .type "range", data := .fields #[.int lo t, .int hi u, .int 1 v] }
  | .frz o u => h.get? a = some o ∧ ObjOk H h a u
  | .tbl ps => h.get? a = some { cls := .none, data := .fields ps }
  | .met f x => h.get? a = some (PySem.W.methodObj (.ref f) (.ref x))
  | .ext φ => φ h ∧ (∃ o, h.get? a = some o) ∧ ∀ h1 h2 : Heap, φ h1 → (∀ o, h1.get? a = some o → h2.get? a = some o) → φ h2
/-- the abstract heap is held -/
def HOk (H : Hp) (h : Heap) : Prop := ∀ a o, H a = some o → ObjOk P w H h a o
end
section
variable {P : Program} {w : World} {H H' : Hp} {h h' : Heap} {a : Addr} {o : HO}
theorem ObjOk.lt (x : ObjOk P w H h a o) : a < h.objs.size := by
  cases o with
  | lst xs => obtain ⟨_, _, _, _, e⟩ := x; exact Heap.lt_size e
  | tup xs => obtain ⟨_, _, _, p⟩ := x; exact p.lt
  | dK kvs => obtain ⟨_, _, _, _, o, _, _, e, _⟩ := x; exact Heap.lt_size e
  | dT kvs => obtain ⟨_, _, _, _, o, _, _, e, _⟩ := x; exact Heap.lt_size e
  | set S n => obtain ⟨o, _, _, _, e, _⟩ := x; exact Heap.lt_size e
  | ins C dx fs => obtain ⟨_, _, _, e, _⟩ := x; exact Heap.lt_size e
  | own y => obtain ⟨_, e⟩ := x; exact Heap.lt_size e
  | xd fs => obtain ⟨_, ⟨_, _, _, e, _⟩, _⟩ := x; exact Heap.lt_size e
  | rng lo hi => obtain ⟨_, _, _, e⟩ := x; exact Heap.lt_size e
  | frz ob u => obtain ⟨e, _⟩ := x; exact Heap.lt_size e
  | tbl ps => exact Heap.lt_size (show h.get? a = some _ from x)
  | met f y => exact Heap.lt_size (show h.get? a = some _ from x)
  | ext φ => obtain ⟨_, ⟨_, e⟩, _⟩ := x; exact Heap.lt_size e
theorem Paired.mapP {α β : Type} {F G : α → β → Prop} : ∀ {l₁ : List α} {l₂ : List β}, Paired F l₁ l₂ → (∀ a b, F a b → G a b) → Paired G l₁ l₂
  | _, _, .nil, _ => .nil
  | _, _, .cons r t, f => .cons (f _ _ r) (Paired.mapP t f)
/-- what an object's description leans on: its own object, its own dict, the tuples -/
theorem ObjOk.stay (x : ObjOk P w H h a o) (k : ∀ b u, (b = a ∨ H b = some (.own a)) → h.get? b = some u → h'.get? b = some u)
    (ho : ∀ b, H b = some (.own a) → H' b = some (.own a)) (ht : ∀ b xs, H b = some (.tup xs) → H' b = some (.tup xs)) : ObjOk P w H' h' a o := by
  induction o with
  | lst xs => obtain ⟨z, its, n, r, e⟩ := x; exact ⟨z, its, n, r, k _ _ (.inl rfl) e⟩
  | tup xs => obtain ⟨z, its, r, ob, e, c⟩ := x; exact ⟨z, its, r, ob, k _ _ (.inl rfl) e, c⟩
  | dK kvs => obtain ⟨z, y, vs, r, ob, es, ep, e, c⟩ := x; exact ⟨z, y, vs, r, ob, es, ep, k _ _ (.inl rfl) e, c⟩
  | dT kvs =>
    obtain ⟨z, y, xs, r, ob, es, ep, e, c⟩ := x
    exact ⟨z, y, xs, Paired.mapP r fun p q z => ⟨z.1, ht _ _ z.2.1, z.2.2⟩, ob, es, ep, k _ _ (.inl rfl) e, c⟩
  | set S n => obtain ⟨ob, es, ep, t, e, c⟩ := x; exact ⟨ob, es, ep, t, k _ _ (.inl rfl) e, c⟩
  | ins C dx fs =>
    obtain ⟨d, z, ne, e, mA, ⟨od, es, ep, e2, c⟩, r⟩ := x
    exact ⟨ho _ d, z, ne, k _ _ (.inl rfl) e, mA, ⟨od, es, ep, k _ _ (.inr d) e2, c⟩, r⟩
  | own y => obtain ⟨ob, e⟩ := x; exact ⟨ob, k _ _ (.inl rfl) e⟩
  | xd fs => obtain ⟨mA, ⟨od, es, ep, e, c⟩, r⟩ := x; exact ⟨mA, ⟨od, es, ep, k _ _ (.inl rfl) e, c⟩, r⟩
  | rng lo hi => obtain ⟨t, u, v, e⟩ := x; exact ⟨t, u, v, k _ _ (.inl rfl) e⟩
  | frz ob u ih => obtain ⟨e, q⟩ := x; exact ⟨k _ _ (.inl rfl) e, ih q⟩
  | tbl ps =>
    have e : h.get? a = some { cls := .none, data := .fields ps } := x
    show h'.get? a = some { cls := .none, data := .fields ps }
    exact k a _ (.inl rfl) e
  | met f y =>
    have e : h.get? a = some (PySem.W.methodObj (.ref f) (.ref y)) := x
    show h'.get? a = some (PySem.W.methodObj (.ref f) (.ref y))
    exact k a _ (.inl rfl) e
  | ext φ => obtain ⟨p, ⟨o, e⟩, st⟩ := x; exact ⟨st _ _ p fun o q => k _ _ (.inl rfl) q, ⟨o, k _ _ (.inl rfl) e⟩, st⟩
theorem HOk.lt (x : HOk P w H h) (e : H a = some o) : a < h.objs.size := (x a o e).lt
theorem HOk.fresh (x : HOk P w H h) (e : h.objs.size ≤ a) : H a = none := by
  cases q : H a with
  | none => rfl
  | some u => exact absurd (Nat.lt_of_lt_of_le (x.lt q) e) (Nat.lt_irrefl _)
/-- every object of the heap is kept -/
theorem HOk.kept (x : HOk P w H h) (k : ∀ b u, h.get? b = some u → h'.get? b = some u) : HOk P w H h' := fun a o e =>
  (x a o e).stay (fun b u _ q => k b u q) (fun _ q => q) fun _ _ q => q
/-- a new object is laid and tracked -/
theorem HOk.laid (x : HOk P w H h) (k : ∀ b u, h.get? b = some u → h'.get? b = some u) (hp : h.objs.size ≤ a) (new : ObjOk P w (upd H a o) h' a o) : HOk P w (upd H a o) h' := fun b u e => by
  have hn := x.fresh hp
  by_cases hb : b = a
  · subst hb; rw [upd_same] at e; cases e; exact new
  · rw [upd_ne hb] at e
    exact (x b u e).stay (fun c v _ q => k c v q) (fun c q => by rw [upd_ne (ne_of_none q hn)]; exact q) fun c xs q => by rw [upd_ne (ne_of_none q hn)]; exact q
end
/-- what may be read as u: it is u, or a known u -/
def Rd (H : Hp) (a : Addr) (u : HO) : Prop := H a = some u ∨ ∃ o, H a = some (.frz o u)
theorem Rd.ok {P : Program} {w : World} {H : Hp} {h : Heap} {a : Addr} {u : HO} (r : Rd H a u) (x : HOk P w H h) : ObjOk P w H h a u := by
  rcases r with r | ⟨o, r⟩
  · exact x a u r
  · obtain ⟨_, q⟩ := x a _ r
    exact q
/-- what may be written -/
def Mut : Option HO → Prop
  | some (.lst _) => True
  | some (.dK _) => True
  | some (.dT _) => True
  | some (.set _ _) => True
  | some (.ins _ _ _) => True
  | some (.ext _) => True
  | _ => False
section
variable {P : Program} {w : World} {H : Hp} {h h' : Heap} {x e : Addr} {o' : HO}
/-- the object at e is changed: x itself, or the dict of the instance x -/
theorem HOk.write (ok : HOk P w H h) (mu : Mut (H x)) (he : e = x ∨ H e = some (.own x)) (k : ∀ b u, b ≠ e → h.get? b = some u → h'.get? b = some u) (heo : ∃ u, h'.get? e = some u)
    (new : ObjOk P w (upd H x o') h' x o') : HOk P w (upd H x o') h' := fun b u q => by
  have nown : ∀ c y, H c = some (.own y) → c ≠ x := fun c y r z => by subst z; rw [r] at mu; exact mu
  have ntup : ∀ c xs, H c = some (.tup xs) → c ≠ x := fun c xs r z => by subst z; rw [r] at mu; exact mu
  by_cases hb : b = x
  · subst hb; rw [upd_same] at q; cases q; exact new
  · rw [upd_ne hb] at q
    by_cases hbe : b = e
    · have q' : H b = some (.own x) := by
        rcases he with z | z
        · exact absurd (hbe.trans z) hb
        · rw [hbe]; exact z
      rw [q] at q'; cases q'
      obtain ⟨v, hv⟩ := heo
      exact ⟨v, by rw [hbe]; exact hv⟩
    · refine (ok b u q).stay (fun c v hc r => k c v ?_ r) (fun c r => by rw [upd_ne (nown c b r)]; exact r) fun c xs r => by rw [upd_ne (ntup c xs r)]; exact r
      rcases hc with rfl | hc
      · exact hbe
      · rintro rfl
        rcases he with z | z
        · exact nown c b hc z
        · rw [hc] at z; cases z; exact hb rfl
end
/-! ### kept unless tracked; of the frames at fs (the callers') the slots may change (an exception that passes writes there); of the records at ex (iterators) nothing is said -/
structure Un (fs ex : List Addr) (H H' : Hp) (h h' : Heap) : Prop where
  keep : ∀ b o, h.get? b = some o → H b = none → b ∉ fs → b ∉ ex → h'.get? b = some o
  slot : ∀ b o, h.get? b = some o → H b = none → b ∈ fs → b ∉ ex → ∃ sl, h'.get? b = some { o with slots := sl }
  free : ∀ b o, h.get? b = some o → H b = none → b ∉ ex → H' b = none
  there : ∀ b o, h.get? b = some o → b ∉ ex → ∃ o', h'.get? b = some o'
  tups : ∀ b xs, H b = some (.tup xs) → H' b = some (.tup xs)
  frzs : ∀ b o u, H b = some (.frz o u) → H' b = some (.frz o u)
  tbls : ∀ b ps, H b = some (.tbl ps) → ∃ more, H' b = some (.tbl (ps ++ more))
section
variable {fs fs' ex ex' : List Addr} {H H1 H2 : Hp} {h h1 h2 h' : Heap} {a x e : Addr} {o : HO}
theorem Un.any (u : Un fs ex H H1 h h1) {b : Addr} {ob : Obj} (q : h.get? b = some ob) (n : H b = none) (hx : b ∉ ex) : ∃ sl, h1.get? b = some { ob with slots := sl } := by
  by_cases hb : b ∈ fs
  · exact u.slot b ob q n hb hx
  · exact ⟨ob.slots, u.keep b ob q n hb hx⟩
theorem Un.kept (k : ∀ b u, h.get? b = some u → h'.get? b = some u) : Un fs ex H H h h' :=
  ⟨fun b ob q _ _ _ => k b ob q, fun b ob q _ _ _ => ⟨ob.slots, k b ob q⟩, fun _ _ _ n _ => n, fun b ob q _ => ⟨ob, k b ob q⟩, fun _ _ q => q, fun _ _ _ q => q, fun _ ps q => ⟨#[], by rw [q]; simp⟩⟩
theorem Un.refl : Un fs ex H H h h := Un.kept fun _ _ q => q
theorem Un.laid (k : ∀ b u, h.get? b = some u → h'.get? b = some u) (hp : h.objs.size ≤ a) (hn : H a = none) : Un fs ex H (upd H a o) h h' where
  keep := fun b u q _ _ _ => k b u q
  slot := fun b u q _ _ _ => ⟨u.slots, k b u q⟩
  free := fun b u q n _ => by rw [upd_ne (Nat.ne_of_lt (Nat.lt_of_lt_of_le (Heap.lt_size q) hp))]; exact n
  there := fun b u q _ => ⟨u, k b u q⟩
  tups := fun b xs q => by rw [upd_ne (ne_of_none q hn)]; exact q
  frzs := fun b u xs q => by rw [upd_ne (ne_of_none q hn)]; exact q
  tbls := fun b ps q => ⟨#[], by rw [upd_ne (ne_of_none q hn), q]; simp⟩
theorem Un.write (mu : Mut (H x)) (he : e = x ∨ H e = some (.own x)) (k : ∀ b u, b ≠ e → h.get? b = some u → h'.get? b = some u) (heo : ∃ u, h'.get? e = some u) : Un fs ex H (upd H x o) h h' := by
  have hx : ∀ b, H b = none → b ≠ x := fun b n z => by subst z; rw [n] at mu; exact mu
  have hb : ∀ b, H b = none → b ≠ e := fun b n z => by
    subst z
    rcases he with r | r
    · exact hx b n r
    · rw [n] at r; cases r
  have hm : ∀ b u, H b = some u → ¬ Mut (some u) → b ≠ x := fun b u q nm z => by subst z; rw [q] at mu; exact nm mu
  refine ⟨fun b u q n _ _ => k b u (hb b n) q, fun b u q n _ _ => ⟨u.slots, k b u (hb b n) q⟩, fun b u q n _ => by rw [upd_ne (hx b n)]; exact n, fun b u q _ => ?_,
    fun b xs q => by rw [upd_ne (hm b _ q fun z => z)]; exact q, fun b u xs q => by rw [upd_ne (hm b _ q fun z => z)]; exact q, fun b ps q => ⟨#[], by rw [upd_ne (hm b _ q fun z => z), q]; simp⟩⟩
  by_cases hbe : b = e
  · subst hbe; exact heo
  · exact ⟨u, k b u hbe q⟩
end
/-! ### the heap without what is tracked -/
def trk (h : Heap) (H : Hp) : List Addr := (List.range h.objs.size).filter fun a => (H a).isSome
def hidT (h : Heap) (H : Hp) : Heap := PySem.W.hideAll h (trk h H)
theorem hidT_size (h : Heap) (H : Hp) : (hidT h H).objs.size = h.objs.size := PySem.W.hideAll_size _ _
theorem hidT_get {h : Heap} {H : Hp} {b : Addr} {o : Obj} (e : h.get? b = some o) (n : H b = none) : (hidT h H).get? b = some o :=
  PySem.W.hideAll_get _ e fun hm => by
    have q : (H b).isSome = true := (List.mem_filter.mp hm).2
    rw [n] at q; simp at q
theorem of_hidT {h : Heap} {H : Hp} {b : Addr} {o : Obj} (e : (hidT h H).get? b = some o) : h.get? b = some o ∧ H b = none := by
  have e' : h.get? b = some o := PySem.W.of_hideAll (trk h H) e
  refine ⟨e', ?_⟩
  cases q : H b with
  | none => rfl
  | some x =>
    have hm : b ∈ trk h H := List.mem_filter.mpr ⟨List.mem_range.mpr (Heap.lt_size e'), by simp [q]⟩
    have z : (hidT h H).get? b = none := PySem.W.hideAll_none (trk h H) hm
    rw [z] at e; cases e
/-! ### OpenK's ledger, filled with every new object but one -/
def allNews (g h : Heap) (L : Addr) : List (Addr × Obj) := (List.range h.objs.size).filterMap fun a => if a = L ∨ (g.get? a).isSome = true then none else (h.get? a).map fun o => (a, o)
def rest (g h : Heap) (L d : Addr) : List (Addr × Obj) := (allNews g h L).filter fun p => decide (p.1 ≠ d)
end L2
namespace L2
open PySem PySem.Spec PyProof.Rows
/-- the module's facts, over the base: the heap at the law's entry without what is tracked there -/
structure Mod (K : PySem.W.Frag) (mg : Str → Option Value) (base : Heap) : Prop where
  kin : K.In base
  glob : base.Ns mainGlobals mg
  blt : ∃ mb, base.Ns builtinsNs mb ∧ ∀ x : Str, x ≠ "__name__" → mb x = bootBuiltins x
  nolimit : base.NoLimit
/-- the context: a def's body (or a comprehension's block) running. base: fixed through the whole law; s₀, H₀: the entry; outer: the frames whose slots others may change (a def's callers); stack: all frames that run;
   ex: iterators that were made ahead of the entry and are walked here (a comprehension's); fn: the names whose cells were made at the entry (a def: all; a comprehension's block: its own); calm: not within an except suite; pn: pins that every state bears; xe: what is wanted of an exception that leaves the code -/
structure Cx where
  prog : Program
  w : World
  K : PySem.W.Frag
  mg : Str → Option Value
  base : Heap
  A : Around
  N : List Str
  s₀ : Shared
  H₀ : Hp
  env : Env
  outer : List Env
  stack : List Env
  ex : List Addr
  fn : Str → Bool
  calm : Bool
  pn : List (Addr × Obj)
  xe : Value → Shared → Prop
/-- the callers' frames -/
def frs (l : List Env) : List Addr := l.filterMap (·.frame)
abbrev Cx.fs (X : Cx) : List Addr := frs X.outer
def Vis (sc : Scope) (x : Str) : Prop := sc.names.lookup x = some .local ∨ sc.names.lookup x = some .cell ∨ sc.names.lookup x = some .free
def Loc (sc : Scope) (x : Str) : Prop := sc.names.lookup x = some .local ∨ sc.names.lookup x = some .cell
def Look (env : Env) (h : Heap) (m : Str → Option Value) (x : Str) (u : Value) : Prop :=
  (env.kindOf x = some .local ∧ m x = some u) ∨ ((env.kindOf x = some .cell ∨ env.kindOf x = some .free) ∧ ∃ c, env.cells.lookup x = some c ∧ h.IsCell c (some u))
structure Cx.Ok (X : Cx) : Prop where
  mod : Mod X.K X.mg X.base
  kind : X.env.scope.kind = .function
  glob : X.env.globals = mainGlobals
  blt : X.env.builtins = builtinsNs
  above : X.s₀.heap.objs.size ≤ X.env.locals
  inj : ∀ x y c, X.env.cells.lookup x = some c → X.env.cells.lookup y = some c → x = y
  has : ∀ x, (X.env.kindOf x = some .cell ∨ X.env.kindOf x = some .free) → ∃ c, X.env.cells.lookup x = some c
  cab : ∀ x c, X.fn x = true → X.env.cells.lookup x = some c → X.s₀.heap.objs.size ≤ c
  hd : X.calm = true → X.A.handled = none
  frames : X.A.frames = some X.stack
  stk : X.stack = X.outer ∨ (X.stack = X.env :: X.outer ∧ X.env.frame = some X.env.locals)
  exf : ∀ b ∈ X.ex, b ≠ X.env.locals ∧ ∀ x c, X.env.cells.lookup x = some c → c ≠ b
  bs : ∀ b o, X.base.get? b = some o → X.s₀.heap.get? b = some o ∧ X.H₀ b = none
  bsz : X.base.objs.size ≤ X.s₀.heap.objs.size
  noex : ∀ b o, X.base.get? b = some o → b ∉ X.ex
  exfs : ∀ b ∈ X.ex, b ∉ X.fs
  funs : X.s₀.heap.FunFrames X.base X.outer
  frf : ∀ b ∈ X.fs, X.H₀ b = none
structure Inv (X : Cx) (pins : List (Addr × Obj)) (σ : List (Option V)) (H : Hp) (s : Shared) : Prop where
  ok : X.Ok
  os : s.os = X.s₀.os
  bare : AllBare s.gens
  base : Un X.fs X.ex X.H₀ H X.s₀.heap s.heap
  loc : ∃ m, s.heap.Ns X.env.locals m ∧ ∀ (i : Nat) (x : Str) (v : V), X.N[i]? = some x → σ[i]? = some (some v) → Vis X.env.scope x → ∃ u, RelV v u ∧ Look X.env s.heap m x u
  cell : ∀ x c, X.env.cells.lookup x = some c → ∃ v, s.heap.IsCell c v
  free : H X.env.locals = none
  freeC : ∀ x c, X.env.cells.lookup x = some c → H c = none
  pin : ∀ p ∈ X.pn ++ pins, s.heap.get? p.1 = some p.2 ∧ H p.1 = none ∧ p.1 ≠ X.env.locals ∧ p.1 ∉ X.fs ∧ ∀ v, p.2.data ≠ .cell v
  hok : HOk X.prog X.w H s.heap
  len : σ.length = X.N.length
section
variable {X : Cx} {pins : List (Addr × Obj)} {σ : List (Option V)} {H H' : Hp} {s : Shared} {h' : Heap}
theorem Cx.Ok.nofr (ok : X.Ok) {b : Addr} {o : Obj} (e : X.base.get? b = some o) : b ∉ X.fs := fun hb => by
  have := (ok.funs.mem hb).1
  rw [e] at this; cases this
theorem Inv.bs (I : Inv X pins σ H s) : ∀ b o, X.base.get? b = some o → s.heap.get? b = some o ∧ H b = none := fun b o e =>
  ⟨I.base.keep b o (I.ok.bs b o e).1 (I.ok.bs b o e).2 (I.ok.nofr e) (I.ok.noex b o e), I.base.free b o (I.ok.bs b o e).1 (I.ok.bs b o e).2 (I.ok.noex b o e)⟩
theorem Inv.bk (I : Inv X pins σ H s) : ∀ b o, X.base.get? b = some o → s.heap.get? b = some o := fun b o e => (I.bs b o e).1
theorem Inv.mod (I : Inv X pins σ H s) : Mod X.K X.mg X.base := I.ok.mod
theorem Inv.kIn (I : Inv X pins σ H s) : X.K.In s.heap := I.ok.mod.kin.keeps I.bk
theorem Inv.lt (I : Inv X pins σ H s) : X.env.locals < s.heap.objs.size := let ⟨_, hn, _⟩ := I.loc; hn.lt
theorem Inv.sz (I : Inv X pins σ H s) : X.s₀.heap.objs.size ≤ s.heap.objs.size := Nat.le_trans I.ok.above (Nat.le_of_lt I.lt)
theorem Inv.nofs (I : Inv X pins σ H s) {a : Addr} (h : s.heap.objs.size ≤ a) : a ∉ X.fs := fun hb => by
  obtain ⟨_, o, ho, _⟩ := I.ok.funs.mem hb
  exact absurd (Nat.lt_of_lt_of_le (Heap.lt_size ho) (Nat.le_trans I.sz h)) (Nat.lt_irrefl _)
theorem Inv.cne (I : Inv X pins σ H s) : ∀ x c, X.env.cells.lookup x = some c → c ≠ X.env.locals := fun x c e z => by
  obtain ⟨v, o, ho, hd⟩ := I.cell x c e
  obtain ⟨m, ⟨o', es, ep, ho', hd', _⟩, _⟩ := I.loc
  rw [z, ho'] at ho; cases ho; rw [hd'] at hd; cases hd
theorem Inv.funs (I : Inv X pins σ H s) : s.heap.FunFrames X.base X.outer := by
  have all : ∀ (l : List Env), (∀ b ∈ frs l, b ∈ X.fs) → X.s₀.heap.FunFrames X.base l → s.heap.FunFrames X.base l := by
    intro l
    induction l with
    | nil => intro _ _; trivial
    | cons env r ih =>
      intro hs hl
      obtain ⟨hk, ⟨L, o, hf, hn, ho, hd⟩, hr⟩ := hl
      have hL : L ∈ X.fs := hs L (by unfold frs; rw [List.filterMap_cons, hf]; exact List.mem_cons_self)
      obtain ⟨sl, e⟩ := I.base.slot L o ho (I.ok.frf L hL) hL fun z => I.ok.exfs L z hL
      exact ⟨hk, ⟨L, _, hf, hn, e, hd⟩, ih (fun b hb => hs b (by unfold frs; rw [List.filterMap_cons, hf]; exact List.mem_cons_of_mem _ hb)) hr⟩
  exact all X.outer (fun _ hb => hb) I.ok.funs
/-- the frames that run, for a call -/
theorem Inv.stack (I : Inv X pins σ H s) : s.heap.FunFrames X.base X.stack := by
  rcases I.ok.stk with e | ⟨e, hf⟩
  · rw [e]; exact I.funs
  · rw [e]
    obtain ⟨m, hn, _⟩ := I.loc
    refine .cons (by rw [I.ok.kind]; decide) hf hn ?_ I.funs
    exact Heap.get?_none_of_le (Nat.le_trans I.ok.bsz I.ok.above)
theorem Inv.stkSub (I : Inv X pins σ H s) : ∀ b ∈ frs X.stack, b ∈ X.env.locals :: X.fs := fun b hb => by
  rcases I.ok.stk with e | ⟨e, hf⟩
  · rw [e] at hb; exact List.mem_cons_of_mem _ hb
  · rw [e] at hb
    unfold frs at hb
    rw [List.filterMap_cons, hf] at hb
    exact hb
theorem Inv.stkFree (I : Inv X pins σ H s) : ∀ b ∈ frs X.stack, H b = none := fun b hb => by
  rcases List.mem_cons.mp (I.stkSub b hb) with e | hb
  · rw [e]; exact I.free
  · obtain ⟨_, o, ho, _⟩ := I.ok.funs.mem hb
    exact I.base.free b o ho (I.ok.frf b hb) fun z => I.ok.exfs b z hb
/-- THE STEP: the untracked objects but the frame and the records at ch are kept (the callers' frames up to slots), the frame's map is kept, the new abstract heap is held -/
theorem Inv.step {g' : Array GenState} {t' : Nat} {d' : Drawn} {ch : List Addr} (I : Inv X pins σ H s)
    (hch : ∀ b ∈ ch, (b ∈ X.ex ∨ X.s₀.heap.objs.size ≤ b) ∧ b ≠ X.env.locals ∧ (∀ x c, X.env.cells.lookup x = some c → c ≠ b) ∧ ∀ p ∈ X.pn ++ pins, p.1 ≠ b)
    (keep : ∀ b o, b ≠ X.env.locals → b ∉ X.fs → b ∉ ch → s.heap.get? b = some o → H b = none → h'.get? b = some o)
    (slot : ∀ b o, b ≠ X.env.locals → b ∈ X.fs → b ∉ ch → s.heap.get? b = some o → H b = none → ∃ sl, h'.get? b = some { o with slots := sl }) (free : ∀ b o, b ∉ ch → s.heap.get? b = some o → H b = none → H' b = none)
    (there : ∀ b o, b ∉ ch → s.heap.get? b = some o → ∃ o', h'.get? b = some o')
    (tups : ∀ b xs, H b = some (.tup xs) → H' b = some (.tup xs)) (frzs : ∀ b o u, H b = some (.frz o u) → H' b = some (.frz o u)) (tbls : ∀ b ps, H b = some (.tbl ps) → ∃ more, H' b = some (.tbl (ps ++ more)))
    (ns : ∀ m, s.heap.Ns X.env.locals m → h'.Ns X.env.locals m) (hok : HOk X.prog X.w H' h') (hg : AllBare g') :
    Inv X pins σ H' { s with heap := h', gens := g', drawn := d', toks := t' } := by
  have neL : ∀ b o, X.s₀.heap.get? b = some o → b ≠ X.env.locals := fun b o e => Nat.ne_of_lt (Nat.lt_of_lt_of_le (Heap.lt_size e) I.ok.above)
  have neC : ∀ b o, X.s₀.heap.get? b = some o → b ∉ X.ex → b ∉ ch := fun b o e hx hb => by
    rcases (hch b hb).1 with z | z
    · exact hx z
    · exact absurd (Nat.lt_of_lt_of_le (Heap.lt_size e) z) (Nat.lt_irrefl _)
  have cellK : ∀ x c, X.env.cells.lookup x = some c → ∀ v, s.heap.IsCell c v → h'.IsCell c v := fun x c e v ⟨o, ho, hd⟩ => by
    have nch : c ∉ ch := fun z => (hch c z).2.2.1 x c e rfl
    by_cases hc : c ∈ X.fs
    · obtain ⟨sl, q⟩ := slot c o (I.cne x c e) hc nch ho (I.freeC x c e)
      exact ⟨_, q, hd⟩
    · exact ⟨o, keep c o (I.cne x c e) hc nch ho (I.freeC x c e), hd⟩
  refine ⟨I.ok, I.os, hg, ⟨fun b o e n hb hx => ?_, fun b o e n hb hx => ?_, fun b o e n hx => ?_, fun b o e hx => ?_, fun b xs e => tups b xs (I.base.tups b xs e), fun b o xs e => frzs b o xs (I.base.frzs b o xs e), fun b ps e => ?_⟩, ?_, fun x c e => ?_, ?_, fun x c e => ?_, fun p hp => ?_, hok, I.len⟩
  · exact keep b o (neL b o e) hb (neC b o e hx) (I.base.keep b o e n hb hx) (I.base.free b o e n hx)
  · obtain ⟨sl, e1⟩ := I.base.slot b o e n hb hx
    obtain ⟨sl', e2⟩ := slot b _ (neL b o e) hb (neC b o e hx) e1 (I.base.free b o e n hx)
    exact ⟨sl', e2⟩
  · obtain ⟨o', e1⟩ := I.base.there b o e hx
    exact free b o' (neC b o e hx) e1 (I.base.free b o e n hx)
  · obtain ⟨o', e1⟩ := I.base.there b o e hx
    exact there b o' (neC b o e hx) e1
  · obtain ⟨m1, e1⟩ := I.base.tbls b ps e
    obtain ⟨m2, e2⟩ := tbls b _ e1
    exact ⟨m1 ++ m2, by rw [e2, Array.append_assoc]⟩
  · obtain ⟨m, hn, hl⟩ := I.loc
    refine ⟨m, ns m hn, fun i x v e1 e2 e3 => ?_⟩
    obtain ⟨u, r, l⟩ := hl i x v e1 e2 e3
    refine ⟨u, r, ?_⟩
    rcases l with l | ⟨k, c, e, z⟩
    · exact .inl l
    · exact .inr ⟨k, c, e, cellK x c e _ z⟩
  · obtain ⟨v, z⟩ := I.cell x c e
    exact ⟨v, cellK x c e v z⟩
  · obtain ⟨m, ⟨o, _, _, ho, _⟩, _⟩ := I.loc
    exact free _ o (fun z => (hch _ z).2.1 rfl) ho I.free
  · obtain ⟨v, o, ho, hd⟩ := I.cell x c e
    exact free c o (fun z => (hch c z).2.2.1 x c e rfl) ho (I.freeC x c e)
  · obtain ⟨e, n, ne, nf, d⟩ := I.pin p hp
    have nch : p.1 ∉ ch := fun z => (hch p.1 z).2.2.2 p hp rfl
    exact ⟨keep p.1 p.2 ne nf nch e n, free p.1 p.2 nch e n, ne, nf, d⟩
/-- .. where the frame's own object is kept too -/
theorem Inv.un {t' : Nat} (I : Inv X pins σ H s) (u : Un X.fs [] H H' s.heap h') (hok : HOk X.prog X.w H' h') : Inv X pins σ H' { s with heap := h', toks := t' } := by
  obtain ⟨m, ⟨o, es, ep, ho, r⟩, _⟩ := id I.loc
  obtain ⟨sl, hL⟩ := u.any ho I.free (by simp)
  exact I.step (g' := s.gens) (d' := s.drawn) (ch := []) (fun _ z => nomatch z) (fun b o _ hb _ e n => u.keep b o e n hb (by simp)) (fun b o _ hb _ e n => u.slot b o e n hb (by simp)) (fun b o _ e n => u.free b o e n (by simp)) (fun b o _ e => u.there b o e (by simp)) u.tups u.frzs u.tbls (fun m' hm => by
    obtain ⟨o', es', ep', ho', r'⟩ := hm
    rw [ho] at ho'; cases ho'
    exact ⟨_, es', ep', hL, r'⟩) hok I.bare
/-- behind a call (or a comprehension's block): the slots of this frame may have changed too, the records at ch may have turned -/
theorem Inv.call {g' : Array GenState} {t' : Nat} {d' : Drawn} {ch : List Addr} (I : Inv X pins σ H s) (u : Un (frs X.stack) ch H H' s.heap h') (hok : HOk X.prog X.w H' h') (hg : AllBare g')
    (hch : ∀ b ∈ ch, (b ∈ X.ex ∨ X.s₀.heap.objs.size ≤ b) ∧ b ≠ X.env.locals ∧ (∀ x c, X.env.cells.lookup x = some c → c ≠ b) ∧ ∀ p ∈ X.pn ++ pins, p.1 ≠ b) :
    Inv X pins σ H' { s with heap := h', gens := g', drawn := d', toks := t' } := by
  obtain ⟨m, ⟨o, es, ep, ho, r⟩, _⟩ := id I.loc
  obtain ⟨sl, hL⟩ := u.any ho I.free fun z => (hch _ z).2.1 rfl
  exact I.step (ch := ch) hch (fun b o hL hb hc e n => u.keep b o e n (fun z => (List.mem_cons.mp (I.stkSub b z)).elim hL hb) hc) (fun b o _ _ hc e n => u.any e n hc) (fun b o hc e n => u.free b o e n hc) (fun b o hc e => u.there b o e hc) u.tups u.frzs u.tbls (fun m' hm => by
    obtain ⟨o', es', ep', ho', r'⟩ := hm
    rw [ho] at ho'; cases ho'
    exact ⟨_, es', ep', hL, r'⟩) hok hg
/-- an untracked record of ours (an iterator) has turned -/
theorem Inv.turned {t' : Nat} {it : Addr} (I : Inv X pins σ H s) (k : ∀ b o, b ≠ it → s.heap.get? b = some o → h'.get? b = some o) (hn : H it = none) (hL : it ≠ X.env.locals)
    (h1 : it ∈ X.ex ∨ X.s₀.heap.objs.size ≤ it) (h2 : ∀ x c, X.env.cells.lookup x = some c → c ≠ it) (h3 : ∀ p ∈ X.pn ++ pins, p.1 ≠ it) : Inv X pins σ H { s with heap := h', toks := t' } := by
  have nit : ∀ b u, H b = some u → b ≠ it := fun b u e z => by rw [z, hn] at e; cases e
  refine I.step (g' := s.gens) (d' := s.drawn) (ch := [it]) (fun b hb => ?_) (fun b o _ _ hc e _ => k b o (fun z => hc (by simp [z])) e) (fun b o _ _ hc e _ => ⟨o.slots, k b o (fun z => hc (by simp [z])) e⟩) (fun _ _ _ _ n => n)
    (fun b o hc e => ⟨o, k b o (fun z => hc (by simp [z])) e⟩) (fun _ _ e => e) (fun _ _ _ e => e) (fun b ps e => ⟨#[], by rw [e]; simp⟩) (fun m hm => ?_) (fun b u e => ?_) I.bare
  · have e : b = it := by simpa using hb
    subst e
    exact ⟨h1, hL, h2, h3⟩
  · obtain ⟨o, es, ep, ho, r⟩ := hm
    exact ⟨o, es, ep, k _ o (Ne.symm hL) ho, r⟩
  · refine (I.hok b u e).stay (fun c v hc q => k c v ?_ q) (fun _ q => q) fun _ _ q => q
    rcases hc with z | z
    · rw [z]; exact nit b u e
    · exact nit c _ z
theorem Inv.tok (I : Inv X pins σ H s) (t : Nat) : Inv X pins σ H { s with toks := t } := I.un (h' := s.heap) (t' := t) Un.refl I.hok
/-- all objects kept -/
theorem Inv.kept {t' : Nat} (I : Inv X pins σ H s) (k : ∀ b u, s.heap.get? b = some u → h'.get? b = some u) : Inv X pins σ H { s with heap := h', toks := t' } := I.un (Un.kept k) (I.hok.kept k)
/-- a new object laid and tracked -/
theorem Inv.laid {a : Addr} {o : HO} {t' : Nat} (I : Inv X pins σ H s) (k : ∀ b u, s.heap.get? b = some u → h'.get? b = some u) (hp : s.heap.objs.size ≤ a) (new : ObjOk X.prog X.w (upd H a o) h' a o) :
    Inv X pins σ (upd H a o) { s with heap := h', toks := t' } := I.un (Un.laid k hp (I.hok.fresh hp)) (I.hok.laid k hp new)
/-- an object written -/
theorem Inv.write {x e : Addr} {o : HO} {t' : Nat} (I : Inv X pins σ H s) (mu : Mut (H x)) (he : e = x ∨ H e = some (.own x)) (k : ∀ b u, b ≠ e → s.heap.get? b = some u → h'.get? b = some u) (heo : ∃ u, h'.get? e = some u)
    (new : ObjOk X.prog X.w (upd H x o) h' x o) : Inv X pins σ (upd H x o) { s with heap := h', toks := t' } := I.un (Un.write mu he k heo) (I.hok.write mu he k heo new)
/-- forgetting slots, pins -/
theorem Inv.weak {σ' : List (Option V)} (I : Inv X pins σ H s) (hl : σ'.length = σ.length) (w : ∀ (i : Nat) v, σ'[i]? = some (some v) → σ[i]? = some (some v)) : Inv X pins σ' H s :=
  ⟨I.ok, I.os, I.bare, I.base, let ⟨m, hn, hl'⟩ := I.loc; ⟨m, hn, fun i x v e1 e2 e3 => hl' i x v e1 (w i v e2) e3⟩, I.cell, I.free, I.freeC, I.pin, I.hok, hl.trans I.len⟩
theorem Inv.pins_of {pins' : List (Addr × Obj)} (I : Inv X pins σ H s) (h : ∀ p ∈ pins', s.heap.get? p.1 = some p.2 ∧ H p.1 = none ∧ p.1 ≠ X.env.locals ∧ p.1 ∉ X.fs ∧ ∀ v, p.2.data ≠ .cell v) : Inv X pins' σ H s :=
  ⟨I.ok, I.os, I.bare, I.base, I.loc, I.cell, I.free, I.freeC, fun p hp => (List.mem_append.mp hp).elim (fun z => I.pin p (List.mem_append_left _ z)) (h p), I.hok, I.len⟩
theorem nodup_ix {N : List Str} (hN : N.Nodup) {i j : Nat} {x : Str} (a : N[i]? = some x) (b : N[j]? = some x) : i = j := by
  obtain ⟨h1, e1⟩ := List.getElem?_eq_some_iff.mp a
  obtain ⟨h2, e2⟩ := List.getElem?_eq_some_iff.mp b
  exact (List.getElem_inj hN).mp (e1.trans e2.symm)
/-- a name is stored; what changed -/
theorem store_ok2 {M : Model} {A : Around} {E : Value → Shared → Prop} {i : Nat} {x : Str} {v : V} {u : Value} {Q : Unit → Shared → Prop} (I : Inv X pins σ H s) (hN : X.N.Nodup) (hi : X.N[i]? = some x) (hx : Loc X.env.scope x) (r : RelV v u)
    (h : ∀ s', Inv X pins (σ.set i (some v)) H s' → (∃ a, Heap.SameBut a s.heap s'.heap ∧ (a = X.env.locals ∨ X.env.cells.lookup x = some a)) → Q () s') (hf : X.fn x = true ∨ X.env.scope.names.lookup x = some .local := by first | exact .inl rfl | exact .inr rfl | assumption) : wpAny M A (storeName X.env x u) Q E s := by
  obtain ⟨m, hn, hl⟩ := id I.loc
  have hcls : (X.env.scope.kind == .class || (X.env.scope.kind == .module && X.env.locals != X.env.globals)) = false := by rw [I.ok.kind]; rfl
  have hiσ : i < σ.length := by rw [I.len]; exact (List.getElem?_eq_some_iff.mp hi).1
  have cne := I.cne
  have tracked : ∀ {a : Addr} {h' : Heap}, (∃ o, s.heap.get? a = some o ∧ H a = none) → Heap.SameBut a s.heap h' → HOk X.prog X.w H h' := fun {a h'} ha hs b ob e => by
    obtain ⟨_, _, hfree⟩ := ha
    refine (I.hok b ob e).stay (fun c w' hc q => (hs.2 c ?_).trans q) (fun _ q => q) fun _ _ q => q
    rintro rfl
    rcases hc with rfl | hc
    · rw [hfree] at e; cases e
    · rw [hfree] at hc; cases hc
  rcases hx with hk | hk
  · refine wpAny_storeName_local hk hn (fun h' hn' hs => ?_) hcls
    obtain ⟨oL, _, _, hoL, _⟩ := id hn
    refine h _ ⟨I.ok, I.os, I.bare, ⟨fun b o e n hb hx => ?_, fun b o e n hb hx => ?_, I.base.free, fun b o e hx => ?_, I.base.tups, I.base.frzs, I.base.tbls⟩, ⟨_, hn', fun j y v' e1 e2 e3 => ?_⟩, fun y c e => ?_, I.free, I.freeC, fun p hp => ?_, tracked ⟨oL, hoL, I.free⟩ hs, by simpa using I.len⟩ ⟨_, hs, .inl rfl⟩
    · exact (hs.2 b (Nat.ne_of_lt (Nat.lt_of_lt_of_le (Heap.lt_size e) I.ok.above))).trans (I.base.keep b o e n hb hx)
    · obtain ⟨sl, e1⟩ := I.base.slot b o e n hb hx
      exact ⟨sl, (hs.2 b (Nat.ne_of_lt (Nat.lt_of_lt_of_le (Heap.lt_size e) I.ok.above))).trans e1⟩
    · obtain ⟨o', e1⟩ := I.base.there b o e hx
      exact ⟨o', (hs.2 b (Nat.ne_of_lt (Nat.lt_of_lt_of_le (Heap.lt_size e) I.ok.above))).trans e1⟩
    · by_cases hj : j = i
      · subst hj
        rw [hi] at e1; cases e1
        rw [List.getElem?_set_self hiσ] at e2
        cases e2
        exact ⟨u, r, .inl ⟨hk, by simp⟩⟩
      · rw [List.getElem?_set_ne (Ne.symm hj)] at e2
        obtain ⟨u', r', q⟩ := hl j y v' e1 e2 e3
        refine ⟨u', r', ?_⟩
        rcases q with ⟨k, e⟩ | ⟨k, c, e, z⟩
        · refine .inl ⟨k, ?_⟩
          have : y ≠ x := fun e => hj (nodup_ix hN e1 (e ▸ hi))
          simp [this, e]
        · exact .inr ⟨k, c, e, z.sameBut hs (cne y c e)⟩
    · obtain ⟨w', z⟩ := I.cell y c e
      exact ⟨w', z.sameBut hs (cne y c e)⟩
    · obtain ⟨e, n, ne, nf, d⟩ := I.pin p hp
      exact ⟨(hs.2 p.1 ne).trans e, n, ne, nf, d⟩
  · have hfn : X.fn x = true := by
      rcases hf with z | z
      · exact z
      · rw [z] at hk; cases hk
    obtain ⟨c, hc⟩ := I.ok.has x (.inl hk)
    obtain ⟨w', z⟩ := I.cell x c hc
    refine wpAny_storeName_cell I.ok.kind hk hc z (fun h' hc' hs => ?_)
    obtain ⟨oc, hoc, hocd⟩ := id z
    refine h { s with heap := h' } ⟨I.ok, I.os, I.bare, ⟨fun b o e n hb hx => ?_, fun b o e n hb hx => ?_, I.base.free, fun b o e hx => ?_, I.base.tups, I.base.frzs, I.base.tbls⟩, ⟨m, hn.sameBut hs (Ne.symm (cne x c hc)), fun j y v' e1 e2 e3 => ?_⟩, fun y c' e => ?_, I.free, I.freeC, fun p hp => ?_, tracked ⟨oc, hoc, I.freeC x c hc⟩ hs, by simpa using I.len⟩ ⟨c, hs, .inr hc⟩
    · exact (hs.2 b (Nat.ne_of_lt (Nat.lt_of_lt_of_le (Heap.lt_size e) (I.ok.cab x c hfn hc)))).trans (I.base.keep b o e n hb hx)
    · obtain ⟨sl, e1⟩ := I.base.slot b o e n hb hx
      exact ⟨sl, (hs.2 b (Nat.ne_of_lt (Nat.lt_of_lt_of_le (Heap.lt_size e) (I.ok.cab x c hfn hc)))).trans e1⟩
    · obtain ⟨o', e1⟩ := I.base.there b o e hx
      exact ⟨o', (hs.2 b (Nat.ne_of_lt (Nat.lt_of_lt_of_le (Heap.lt_size e) (I.ok.cab x c hfn hc)))).trans e1⟩
    · by_cases hj : j = i
      · subst hj
        rw [hi] at e1; cases e1
        rw [List.getElem?_set_self hiσ] at e2
        cases e2
        exact ⟨u, r, .inr ⟨.inl hk, c, hc, hc'⟩⟩
      · rw [List.getElem?_set_ne (Ne.symm hj)] at e2
        obtain ⟨u', r', q⟩ := hl j y v' e1 e2 e3
        refine ⟨u', r', ?_⟩
        rcases q with q | ⟨k, c', e, z'⟩
        · exact .inl q
        · refine .inr ⟨k, c', e, z'.sameBut hs ?_⟩
          rintro rfl
          exact hj (nodup_ix hN e1 (I.ok.inj _ _ _ e hc ▸ hi))
    · by_cases hcc : c' = c
      · subst hcc; exact ⟨_, hc'⟩
      · obtain ⟨w2, z2⟩ := I.cell y c' e
        exact ⟨w2, z2.sameBut hs hcc⟩
    · obtain ⟨e, n, ne, nf, d⟩ := I.pin p hp
      refine ⟨(hs.2 p.1 ?_).trans e, n, ne, nf, d⟩
      intro q
      rw [q, hoc] at e
      have q' : oc = p.2 := Option.some.inj e
      exact d w' (by rw [← q']; exact hocd)
theorem store_ok {M : Model} {A : Around} {E : Value → Shared → Prop} {i : Nat} {x : Str} {v : V} {u : Value} {Q : Unit → Shared → Prop} (I : Inv X pins σ H s) (hN : X.N.Nodup) (hi : X.N[i]? = some x) (hx : Loc X.env.scope x) (r : RelV v u)
    (h : ∀ s', Inv X pins (σ.set i (some v)) H s' → Q () s') (hf : X.fn x = true ∨ X.env.scope.names.lookup x = some .local := by first | exact .inl rfl | exact .inr rfl | assumption) : wpAny M A (storeName X.env x u) Q E s :=
  store_ok2 I hN hi hx r (fun s' I' _ => h s' I') hf
/-- behind a call or a block, the state as it is -/
theorem Inv.call' {s' : Shared} {ch : List Addr} (I : Inv X pins σ H s) (ho : s'.os = s.os) (u : Un (frs X.stack) ch H H' s.heap s'.heap) (hok : HOk X.prog X.w H' s'.heap) (hg : AllBare s'.gens)
    (hch : ∀ b ∈ ch, (b ∈ X.ex ∨ X.s₀.heap.objs.size ≤ b) ∧ b ≠ X.env.locals ∧ (∀ x c, X.env.cells.lookup x = some c → c ≠ b) ∧ ∀ p ∈ X.pn ++ pins, p.1 ≠ b) : Inv X pins σ H' s' := by
  obtain ⟨h', g', d', t', o'⟩ := s'
  have e : o' = s.os := ho
  subst e
  exact I.call (g' := g') (t' := t') (d' := d') u hok hg hch
end
/-! ### the judgements -/
/-- an exception: its class, its own dict's address (where it has one), the abstract heap behind it -/
abbrev XK := Value → Option Addr → Hp → Prop
abbrev St := List (Option V)
abbrev VK := V → Hp → Prop
/-- an expression's reading; a test's; an argument list's -/
abbrev TE := St → Hp → VK → Prop
abbrev TT := St → Hp → (Bool → Hp → Prop) → Prop
abbrev TA := St → Hp → (List V → Hp → Prop) → Prop
/-- what is wanted behind a statement -/
structure Ends where
  nx : St → Hp → Prop
  rt : VK
  bk : St → Hp → Prop := fun _ _ => False
  ct : St → Hp → Prop := fun _ _ => False
abbrev TS := Ends → St → Hp → Prop
def EP (X : Cx) (pins : List (Addr × Obj)) (σ : St) (Q : VK) (u : Value) (s' : Shared) : Prop := ∃ v H', Inv X pins σ H' s' ∧ RelV v u ∧ Q v H'
def TP (X : Cx) (pins : List (Addr × Obj)) (σ : St) (Q : Bool → Hp → Prop) (b : Bool) (s' : Shared) : Prop := ∃ H', Inv X pins σ H' s' ∧ Q b H'
def AP (X : Cx) (pins : List (Addr × Obj)) (σ : St) (Q : List V → Hp → Prop) (us : List Value) (s' : Shared) : Prop := ∃ vs H', Inv X pins σ H' s' ∧ Vals vs us ∧ Q vs H'
def SP (X : Cx) (pins : List (Addr × Obj)) (D : Ends) (f : Flow) (s' : Shared) : Prop :=
  match f with
  | .next => ∃ σ' H', Inv X pins σ' H' s' ∧ D.nx σ' H'
  | .brk => ∃ σ' H', Inv X pins σ' H' s' ∧ D.bk σ' H'
  | .cont => ∃ σ' H', Inv X pins σ' H' s' ∧ D.ct σ' H'
  | .ret u => ∃ v σ' H', Inv X pins σ' H' s' ∧ RelV v u ∧ D.rt v H'
def PE (X : Cx) (e : Expr) (t : TE) : Prop :=
  ∀ (pins : List (Addr × Obj)) (s : Shared) (σ : St) (H : Hp) (Q : VK), Inv X pins σ H s → t σ H Q → wpAny (model X.prog X.w) X.A (eval e X.env) (EP X pins σ Q) X.xe s
def PT (X : Cx) (e : Expr) (t : TT) : Prop :=
  ∀ (pins : List (Addr × Obj)) (s : Shared) (σ : St) (H : Hp) (Q : Bool → Hp → Prop), Inv X pins σ H s → t σ H Q → wpAny (model X.prog X.w) X.A (isTrue e X.env (eval e X.env)) (TP X pins σ Q) X.xe s
/-- a test whatever its 'whole' is (and, or) -/
def PW (X : Cx) (e : Expr) (t : TT) : Prop :=
  ∀ (whole : Sem Value) (pins : List (Addr × Obj)) (s : Shared) (σ : St) (H : Hp) (Q : Bool → Hp → Prop), Inv X pins σ H s → t σ H Q → wpAny (model X.prog X.w) X.A (isTrue e X.env whole) (TP X pins σ Q) X.xe s
theorem PW.pt {X : Cx} {e : Expr} {t : TT} (h : PW X e t) : PT X e t := h _
/-- an argument list (no star), from the left -/
def PA (X : Cx) (es : List Expr) (t : TA) : Prop :=
  ∀ (pos : Pos) (pins : List (Addr × Obj)) (s : Shared) (σ : St) (H : Hp) (Q : List V → Hp → Prop), Inv X pins σ H s → t σ H Q → wpAny (model X.prog X.w) X.A (spliced (backTo pos (starEach es X.env))) (AP X pins σ Q) X.xe s
def PS (X : Cx) (st : Stmt) (t : TS) : Prop :=
  ∀ (pins : List (Addr × Obj)) (s : Shared) (σ : St) (H : Hp) (D : Ends), Inv X pins σ H s → t D σ H → wpAny (model X.prog X.w) X.A (exec st X.env) (SP X pins D) X.xe s
def PSs (X : Cx) (st : List Stmt) (t : TS) : Prop :=
  ∀ (pins : List (Addr × Obj)) (s : Shared) (σ : St) (H : Hp) (D : Ends), Inv X pins σ H s → t D σ H → wpAny (model X.prog X.w) X.A (execs st X.env) (SP X pins D) X.xe s
/-- weaken the end -/
theorem thn {α : Type} {t : Sem α} {Q Q' : α → Shared → Prop} {M : Model} {A : Around} {E : Value → Shared → Prop} {s : Shared} (h : wpAny M A t Q E s) (hQ : ∀ a s, Q a s → Q' a s) : wpAny M A t Q' E s := wpAny_mono h hQ fun _ _ x => x
end L2
namespace L2
open PySem PySem.Spec PyProof.Rows
section
variable {X : Cx}
/-! ### names and constants -/
def tVar (i : Nat) : TE := fun σ H Q => ∃ v, σ[i]? = some (some v) ∧ Q v H
def tC (v : V) : TE := fun _ H Q => Q v H
theorem pe_var {i : Nat} {x : Str} {pos : Pos} (hN : X.N[i]? = some x) (hv : Vis X.env.scope x) (hd : (x == ("__debug__" : Str)) = false := by decide) (hcd : (x == ("__classdict__" : Str)) = false := by decide) : PE X (.Name x pos) (tVar i) := by
  intro pins s σ H Q I h
  obtain ⟨v, e, h⟩ := h
  obtain ⟨m, hn, hl⟩ := I.loc
  obtain ⟨u, r, l⟩ := hl i x v hN e hv
  have fin : EP X pins σ Q u s := ⟨v, H, I, r, h⟩
  rcases l with ⟨hk, hm⟩ | ⟨hk, c, hc, hcell⟩
  · exact wpAny_Name (wpAny_loadName_local I.ok.kind hk hn hm fin) hd
  · rcases hk with hk | hk
    · exact wpAny_Name (wpAny_loadName_cell I.ok.kind hk hc hcell fin) hd
    · exact wpAny_Name (wpAny_loadName_free I.ok.kind hk hc hcell fin hcd) hd
theorem pe_int {i j pos} : PE X (.Constant (.int i) j pos) (tC (.int i)) := fun _ _ _ H _ I h => wpAny_Constant_int ⟨.int i, H, I.tok _, ⟨_, rfl⟩, h⟩
theorem pe_bl {b j pos} : PE X (.Constant (.bool b) j pos) (tC (.bl b)) := fun _ _ _ H _ I h => Constant_bool ⟨.bl b, H, I, rfl, h⟩
theorem pe_str {x j pos} : PE X (.Constant (.str x) j pos) (tC (.str x)) := fun _ _ _ H _ I h => Calls.Constant_str ⟨.str x, H, I.tok _, ⟨_, rfl⟩, h⟩
/-- a global name of the def -/
def Gl (X : Cx) (x : Str) : Prop := X.env.kindOf x = some .globalImplicit
theorem ld_glob {E : Value → Shared → Prop} {pins : List (Addr × Obj)} {s : Shared} {σ : St} {H : Hp} {x : Str} {u : Value} {pos : Pos} {Q : Value → Shared → Prop} (I : Inv X pins σ H s) (hg : Gl X x) (hm : X.mg x = some u) (h : Q u s)
    (hd : (x == ("__debug__" : Str)) = false := by decide) : wpAny (model X.prog X.w) X.A (eval (.Name x pos) X.env) Q E s :=
  Calls.Name_function_global I.ok.kind hg (Calls.loadGlobal_global (by rw [I.ok.glob]; exact I.mod.glob.keeps I.bk) hm h) hd
theorem ld_blt {E : Value → Shared → Prop} {pins : List (Addr × Obj)} {s : Shared} {σ : St} {H : Hp} {x : Str} {u : Value} {pos : Pos} {Q : Value → Shared → Prop} (I : Inv X pins σ H s) (hg : Gl X x) (hm : X.mg x = none) (hv : bootBuiltins x = some u) (h : Q u s)
    (hn : x ≠ "__name__" := by decide) (hd : (x == ("__debug__" : Str)) = false := by decide) : wpAny (model X.prog X.w) X.A (eval (.Name x pos) X.env) Q E s := by
  obtain ⟨mb, h1, h2⟩ := I.mod.blt
  exact Calls.Name_function_global I.ok.kind hg (Calls.loadGlobal_builtin (by rw [I.ok.glob]; exact I.mod.glob.keeps I.bk) hm (by rw [I.ok.blt]; exact h1.keeps I.bk) ((h2 x hn).trans hv) h) hd
/-- a module's constant, a class, a function, as a value -/
theorem pe_glob {x : Str} {v : V} {u : Value} {pos : Pos} (hg : Gl X x) (hm : X.mg x = some u) (r : RelV v u) (hd : (x == ("__debug__" : Str)) = false := by decide) : PE X (.Name x pos) (tC v) :=
  fun _ _ _ H _ I h => ld_glob I hg hm ⟨v, H, I, r, h⟩ hd
theorem pe_bltn {x : Str} {v : V} {u : Value} {pos : Pos} (hg : Gl X x) (hm : X.mg x = none) (hv : bootBuiltins x = some u) (r : RelV v u) (hn : x ≠ "__name__" := by decide) (hd : (x == ("__debug__" : Str)) = false := by decide) : PE X (.Name x pos) (tC v) :=
  fun _ _ _ H _ I h => ld_blt I hg hm hv ⟨v, H, I, r, h⟩ hn hd
/-! ### arithmetic -/
/-- two ints -/
def t2I (ta tb : TE) (k : Int → Int → Hp → Prop) : St → Hp → Prop := fun σ H => ta σ H fun x H1 => tb σ H1 fun y H2 => ∃ i j, x = .int i ∧ y = .int j ∧ k i j H2
/-- the left factor below 2^64 -/
def tMul (ta tb : TE) : TE := fun σ H Q => t2I ta tb (fun i j H2 => (-(2 ^ 64) < i ∧ i < 2 ^ 64) ∧ Q (.int (i * j)) H2) σ H
variable {a b : Expr} {ta tb : TE} {pos : Pos}
/-! ### comparisons -/
/-- is None -/
def tIsN (ta : TE) : TE := fun σ H Q => ta σ H fun x H1 => Q (.bl (decide (x = .non))) H1
/-- a comparison as a value, as a test -/
def tB (t : TE) : TT := fun σ H Q => t σ H fun x H1 => ∃ c, x = .bl c ∧ Q c H1
/-! ### and, or, not -/
variable {tA tB' : TT} {rest : List Expr}
def tAnd (t u : TT) : TT := fun σ H Q => t σ H fun c H1 => if c = true then u σ H1 Q else Q false H1
def tOr (t u : TT) : TT := fun σ H Q => t σ H fun c H1 => if c = true then Q true H1 else u σ H1 Q
def tNot (t : TT) : TT := fun σ H Q => t σ H fun c H1 => Q (!c) H1
theorem pw_and1 (ha : PT X a tA) : PW X (.BoolOp .And [a] pos) tA := by
  intro wh pins s σ H Q I h
  refine isTrue_and (thn (ha pins s σ H Q I h) fun c s1 e => ?_)
  cases c with
  | true => exact isTrue_and_nil e
  | false => exact e
theorem pw_or1 (ha : PT X a tA) : PW X (.BoolOp .Or [a] pos) tA := by
  intro wh pins s σ H Q I h
  refine isTrue_or (thn (ha pins s σ H Q I h) fun c s1 e => ?_)
  cases c with
  | false => exact isTrue_or_nil e
  | true => exact e
theorem pw_and (ha : PT X a tA) (hb : PW X (.BoolOp .And (b :: rest) pos) tB') : PW X (.BoolOp .And (a :: b :: rest) pos) (tAnd tA tB') := by
  intro wh pins s σ H Q I h
  refine isTrue_and (thn (ha pins s σ H _ I h) fun c s1 ⟨H1, I1, q1⟩ => ?_)
  cases c with
  | true => exact hb wh pins s1 σ H1 Q I1 q1
  | false => exact ⟨H1, I1, q1⟩
theorem pw_or (ha : PT X a tA) (hb : PW X (.BoolOp .Or (b :: rest) pos) tB') : PW X (.BoolOp .Or (a :: b :: rest) pos) (tOr tA tB') := by
  intro wh pins s σ H Q I h
  refine isTrue_or (thn (ha pins s σ H _ I h) fun c s1 ⟨H1, I1, q1⟩ => ?_)
  cases c with
  | true => exact ⟨H1, I1, q1⟩
  | false => exact hb wh pins s1 σ H1 Q I1 q1
theorem pt_not (ha : PT X a tA) : PT X (.UnaryOp .Not a pos) (tNot tA) := by
  intro pins s σ H Q I h
  exact isTrue_not (ha pins s σ H (fun c H1 => Q (!c) H1) I h)
/-- .. as values (bools) -/
def tAndV (ta tb : TE) : TE := fun σ H Q => ta σ H fun x H1 => ∃ c, x = .bl c ∧ if c = true then tb σ H1 Q else Q (.bl false) H1
def tOrV (ta tb : TE) : TE := fun σ H Q => ta σ H fun x H1 => ∃ c, x = .bl c ∧ if c = true then Q (.bl true) H1 else tb σ H1 Q
def tNotV (ta : TE) : TE := fun σ H Q => ta σ H fun x H1 => ∃ c, x = .bl c ∧ Q (.bl (!c)) H1
theorem pe_one {op} {t : TE} (h : PE X a t) : PE X (.BoolOp op [a] pos) t := fun pins s σ H Q I hw => BoolOp_one (h pins s σ H Q I hw)
theorem pe_or (ha : PE X a ta) (hb : PE X (.BoolOp .Or (b :: rest) pos) tb) : PE X (.BoolOp .Or (a :: b :: rest) pos) (tOrV ta tb) := by
  intro pins s σ H Q I h
  refine BoolOp_or (thn (ha pins s σ H _ I h) fun v s1 ⟨x, H1, I1, r1, q1⟩ => ?_)
  obtain ⟨c, rfl, q1⟩ := q1
  cases r1
  refine wpAny_truthy_bool ?_
  cases c with
  | false => exact hb pins s1 σ H1 Q I1 q1
  | true => exact ⟨.bl true, H1, I1, rfl, q1⟩
theorem pe_not (ha : PE X a ta) : PE X (.UnaryOp .Not a pos) (tNotV ta) := by
  intro pins s σ H Q I h
  refine UnaryOp_ (thn (ha pins s σ H _ I h) fun v s1 ⟨x, H1, I1, r1, q1⟩ => ?_)
  obtain ⟨c, rfl, q1⟩ := q1
  cases r1
  exact not_of (wpAny_truthy_bool ⟨.bl (!c), H1, I1, rfl, q1⟩)
/-- a if t else b -/
def tIf (t : TT) (ta tb : TE) : TE := fun σ H Q => t σ H fun c H1 => if c = true then ta σ H1 Q else tb σ H1 Q
end
end L2
namespace L2
open PySem PySem.Spec PyProof.Rows
/-! ### a list, a tuple that is read: tracked, frozen, or an object of the module -/
def SqL (K : PySem.W.Frag) (H : Hp) (a : Addr) (xs : List V) : Prop :=
  Rd H a (.lst xs) ∨
    ∃ (o : Obj) (its : Array Value) (n : Nat), K.lookup a = some o ∧ o.cls = .type "list" ∧ o.dict = none ∧ o.data = .seq its n ∧ its.size ≤ sizeLine ∧ Vals xs its.toList
def SqT (K : PySem.W.Frag) (H : Hp) (a : Addr) (xs : List V) : Prop :=
  Rd H a (.tup xs) ∨
    ∃ (o : Obj) (its : Array Value) (n : Nat), K.lookup a = some o ∧ o.cls = .type "tuple" ∧ o.data = .seq its n ∧ its.size ≤ sizeLine ∧ Vals xs its.toList
def absV : Value → Option V
  | .none => some .non
  | .bool b => some (.bl b)
  | .int i _ => some (.int i)
  | .str x _ => some (.str x)
  | .bytes b _ => some (.byt b)
  | .float b _ => some (.flt b)
  | .ref a => some (.ref a)
  | .type n => some (.ty n)
  | _ => none
theorem RelV.abs {x : V} {u : Value} (r : RelV x u) : absV u = some x := by
  cases x with
  | non => cases r; rfl
  | bl _ => cases r; rfl
  | int _ => obtain ⟨t, rfl⟩ := r; rfl
  | str _ => obtain ⟨t, rfl⟩ := r; rfl
  | byt _ => obtain ⟨t, rfl⟩ := r; rfl
  | flt _ => obtain ⟨t, rfl⟩ := r; rfl
  | ref _ => cases r; rfl
  | ty _ => cases r; rfl
theorem RelV.inj {x y : V} {u : Value} (r : RelV x u) (q : RelV y u) : x = y := Option.some.inj (r.abs.symm.trans q.abs)
theorem Vals.inj : ∀ {xs ys : List V} {us : List Value}, Vals xs us → Vals ys us → xs = ys
  | _, _, _, .nil, .nil => rfl
  | _, _, _, .cons r t, .cons r' t' => by rw [r.inj r', Vals.inj t t']
section
variable {X : Cx} {pins : List (Addr × Obj)} {σ : St} {H : Hp} {s : Shared} {a : Addr} {xs ys : List V}
theorem SqL.of {K : PySem.W.Frag} (h : H a = some (.lst xs)) : SqL K H a xs := .inl (.inl h)
theorem SqT.of {K : PySem.W.Frag} (h : H a = some (.tup xs)) : SqT K H a xs := .inl (.inl h)
theorem Inv.list (I : Inv X pins σ H s) (h : SqL X.K H a xs) : ∃ its : List Value, Vals xs its ∧ PlainL s.heap a its.toArray ∧ xs.length ≤ sizeLine := by
  rcases h with h | ⟨o, its, n, hk, hc, hd, hs, hz, r⟩
  · obtain ⟨z, its, n, r, e⟩ := h.ok I.hok
    exact ⟨its, r, ⟨_, n, e, rfl, rfl, rfl⟩, z⟩
  · refine ⟨its.toList, r, ⟨o, n, I.kIn a o hk, hc, hd, by simpa using hs⟩, ?_⟩
    have e := r.length
    simp only [Array.length_toList] at e
    omega
theorem Inv.tuple (I : Inv X pins σ H s) (h : SqT X.K H a xs) : ∃ its : List Value, Vals xs its ∧ IsTup s.heap a its.toArray ∧ xs.length ≤ sizeLine := by
  rcases h with h | ⟨o, its, n, hk, hc, hs, hz, r⟩
  · obtain ⟨z, its, r, p⟩ := h.ok I.hok
    exact ⟨its, r, p, z⟩
  · refine ⟨its.toList, r, ⟨o, I.kIn a o hk, hc, n, by simpa using hs⟩, ?_⟩
    have e := r.length
    simp only [Array.length_toList] at e
    omega
theorem Inv.list_inj (I : Inv X pins σ H s) (h : SqL X.K H a xs) (h' : SqL X.K H a ys) : xs = ys := by
  obtain ⟨its, r, ⟨o, n, e, _, _, d⟩, _⟩ := I.list h
  obtain ⟨its', r', ⟨o', n', e', _, _, d'⟩, _⟩ := I.list h'
  rw [e] at e'; cases e'
  rw [d] at d'
  injection d' with d1 _
  have : its = its' := by simpa using congrArg Array.toList d1
  subst this
  exact r.inj r'
theorem Inv.tuple_inj (I : Inv X pins σ H s) (h : SqT X.K H a xs) (h' : SqT X.K H a ys) : xs = ys := by
  obtain ⟨its, r, ⟨o, e, _, n, d⟩, _⟩ := I.tuple h
  obtain ⟨its', r', ⟨o', e', _, n', d'⟩, _⟩ := I.tuple h'
  rw [e] at e'; cases e'
  rw [d] at d'
  injection d' with d1 _
  have : its = its' := by simpa using congrArg Array.toList d1
  subst this
  exact r.inj r'
end
/-! ### another wish about exceptions -/
abbrev Cx.wish (X : Cx) (E : Value → Shared → Prop) : Cx := { X with xe := E }
/-- no exception leaves -/
abbrev Cx.nox (X : Cx) : Cx := X.wish fun _ _ => False
theorem Cx.Ok.wish {X : Cx} (ok : X.Ok) (E : Value → Shared → Prop) : (X.wish E).Ok :=
  ⟨ok.mod, ok.kind, ok.glob, ok.blt, ok.above, ok.inj, ok.has, ok.cab, ok.hd, ok.frames, ok.stk, ok.exf, ok.bs, ok.bsz, ok.noex, ok.exfs, ok.funs, ok.frf⟩
theorem Cx.Ok.unwish {X : Cx} {E : Value → Shared → Prop} (ok : (X.wish E).Ok) : X.Ok :=
  ⟨ok.mod, ok.kind, ok.glob, ok.blt, ok.above, ok.inj, ok.has, ok.cab, ok.hd, ok.frames, ok.stk, ok.exf, ok.bs, ok.bsz, ok.noex, ok.exfs, ok.funs, ok.frf⟩
section
variable {X : Cx} {pins : List (Addr × Obj)} {σ : St} {H : Hp} {s : Shared} {E : Value → Shared → Prop}
theorem Inv.wish (I : Inv X pins σ H s) (E : Value → Shared → Prop) : Inv (X.wish E) pins σ H s := ⟨I.ok.wish E, I.os, I.bare, I.base, I.loc, I.cell, I.free, I.freeC, I.pin, I.hok, I.len⟩
theorem Inv.unwish (I : Inv (X.wish E) pins σ H s) : Inv X pins σ H s := ⟨I.ok.unwish, I.os, I.bare, I.base, I.loc, I.cell, I.free, I.freeC, I.pin, I.hok, I.len⟩
theorem SP.unwish {D : Ends} {f : Flow} {s' : Shared} (h : SP (X.wish E) pins D f s') : SP X pins D f s' := by
  cases f with
  | next => obtain ⟨σ', H', I, q⟩ := h; exact ⟨σ', H', I.unwish, q⟩
  | brk => obtain ⟨σ', H', I, q⟩ := h; exact ⟨σ', H', I.unwish, q⟩
  | cont => obtain ⟨σ', H', I, q⟩ := h; exact ⟨σ', H', I.unwish, q⟩
  | ret u => obtain ⟨v, σ', H', I, r, q⟩ := h; exact ⟨v, σ', H', I.unwish, r, q⟩
theorem PSs.nox {st : List Stmt} {t : TS} (h : PSs X.nox st t) : PSs X st t := fun pins s σ H D I hw =>
  wpAny_mono (h pins s σ H D (I.wish _) hw) (fun _ _ q => q.unwish) fun _ _ z => False.elim z
end
/-! ### blocks and small statements -/
section
variable {X : Cx} {st : Stmt} {rest : List Stmt} {t u : TS} {e : Expr} {te : TE} {pos : Pos}
def tNext : TS := fun D σ H => D.nx σ H
def tSeq (t u : TS) : TS := fun D σ H => t { D with nx := u D } σ H
theorem pss_nil : PSs X [] tNext := fun _ _ σ H _ I h => wpAny_execs_nil ⟨σ, H, I, h⟩
theorem pss_cons (h1 : PS X st t) (h2 : PSs X rest u) : PSs X (st :: rest) (tSeq t u) := by
  intro pins s σ H D I h
  refine wpAny_execs_cons (thn (h1 pins s σ H { D with nx := u D } I h) fun f s1 q => ?_)
  cases f with
  | next =>
    obtain ⟨σ', H', I', q⟩ := q
    exact h2 pins s1 σ' H' D I' q
  | ret v => exact q
  | brk => exact q
  | cont => exact q
theorem pss_one (h1 : PS X st t) : PSs X [st] t := by
  intro pins s σ H D I h
  refine wpAny_execs_cons (thn (h1 pins s σ H D I h) fun f s1 q => ?_)
  cases f with
  | next => exact wpAny_execs_nil q
  | ret v => exact q
  | brk => exact q
  | cont => exact q
/-- in a def's body nothing is shown -/
theorem Inv.quiet {pins : List (Addr × Obj)} {σ : St} {H : Hp} {s : Shared} (I : Inv X pins σ H s) : interactive X.env = false := by simp [interactive, I.ok.kind]
/-- an expression whose value is dropped -/
def tDrop (te : TE) : TS := fun D σ H => te σ H fun _ H1 => D.nx σ H1
theorem ps_expr (he : PE X e te) (hs : swapsWith e none pos.line X.env = pure false := by rfl) : PS X (.Expr e pos) (tDrop te) := by
  intro pins s σ H D I h
  exact wpAny_Expr_any (thn (he pins s σ H _ I h) fun v s1 ⟨x, H1, I1, r1, q1⟩ => ⟨σ, H1, I1, q1⟩) I.quiet hs
def tRet (te : TE) : TS := fun D σ H => te σ H D.rt
theorem ps_ret (he : PE X e te) : PS X (.Return (some e) pos) (tRet te) := by
  intro pins s σ H D I h
  exact wpAny_Return_some (thn (he pins s σ H _ I h) fun v s1 ⟨x, H1, I1, r1, q1⟩ => ⟨x, σ, H1, I1, r1, q1⟩)
def tIfS (c : TT) (t u : TS) : TS := fun D σ H => c σ H fun b H1 => if b = true then t D σ H1 else u D σ H1
theorem ps_if {c : Expr} {a b : List Stmt} {tc : TT} (hc : PT X c tc) (ha : PSs X a t) (hb : PSs X b u) : PS X (.If c a b pos) (tIfS tc t u) := by
  intro pins s σ H D I h
  refine wpAny_If (thn (hc pins s σ H _ I h) fun d s1 ⟨H1, I1, q1⟩ => ?_)
  cases d with
  | true => exact ha pins s1 σ H1 D I1 q1
  | false => exact hb pins s1 σ H1 D I1 q1
/-- code that the proof never comes to -/
def tNever : TS := fun _ _ _ => False
end
/-! ### targets -/
abbrev TG := V → St → Hp → (St → Hp → Prop) → Prop
abbrev TGs := List V → St → Hp → (St → Hp → Prop) → Prop
def PG (X : Cx) (target : Expr) (t : TG) : Prop :=
  ∀ (pins : List (Addr × Obj)) (s : Shared) (σ : St) (H : Hp) (v : V) (u : Value) (Q : St → Hp → Prop), Inv X pins σ H s → RelV v u → t v σ H Q →
    wpAny (model X.prog X.w) X.A (assign target X.env u) (fun _ s' => ∃ σ' H', Inv X pins σ' H' s' ∧ Q σ' H') X.xe s
/-- several targets, one after another -/
def PGs (X : Cx) (ts : List Expr) (t : TGs) : Prop :=
  ∀ (pins : List (Addr × Obj)) (s : Shared) (σ : St) (H : Hp) (vs : List V) (us : List Value) (Q : St → Hp → Prop), Inv X pins σ H s → Vals vs us → t vs σ H Q →
    wpAny (model X.prog X.w) X.A (assignInOrder ((assignEach ts X.env).map (·.2)) us) (fun _ s' => ∃ σ' H', Inv X pins σ' H' s' ∧ Q σ' H') X.xe s
/-- o[i] = v, by values -/
abbrev TSet := V → V → V → Hp → (Hp → Prop) → Prop
/-- a op= b, by values -/
abbrev TIp := V → V → Hp → VK → Prop
section
variable {X : Cx} {pos : Pos}
def gName (i : Nat) : TG := fun v σ H Q => Q (σ.set i (some v)) H
theorem pg_name {i : Nat} {x : Str} (hN : X.N.Nodup) (hi : X.N[i]? = some x) (hx : Loc X.env.scope x) (hf : X.fn x = true ∨ X.env.scope.names.lookup x = some .local := by first | exact .inl rfl | exact .inr rfl | assumption) : PG X (.Name x pos) (gName i) := by
  intro pins s σ H v u Q I r h
  exact wpAny_assign_Name (store_ok I hN hi hx r (fun s' I' => ⟨_, H, I', h⟩) hf)
def gNil : TGs := fun vs σ H Q => vs = [] ∧ Q σ H
def gCons (t : TG) (u : TGs) : TGs := fun vs σ H Q => ∃ v r, vs = v :: r ∧ t v σ H fun σ' H' => u r σ' H' Q
theorem pgs_nil : PGs X [] gNil := by
  intro pins s σ H vs us Q I r h
  obtain ⟨e, h⟩ := h
  subst e
  cases r
  exact assignInOrder_nil ⟨σ, H, I, h⟩
theorem pgs_cons {e : Expr} {es : List Expr} {t : TG} {u : TGs} (h1 : PG X e t) (h2 : PGs X es u)
    (hs : (assignEach (e :: es) X.env).map (·.2) = assign e X.env :: (assignEach es X.env).map (·.2) := by rfl) : PGs X (e :: es) (gCons t u) := by
  intro pins s σ H vs us Q I r h
  obtain ⟨v, vr, e1, h⟩ := h
  subst e1
  cases r with
  | cons r rr =>
    rw [hs]
    refine assignInOrder_cons (thn (h1 pins s σ H _ _ _ I r h) fun _ s1 ⟨σ1, H1, I1, q1⟩ => ?_)
    exact h2 pins s1 σ1 H1 _ _ Q I1 rr q1
/-- (a, b, ..) = a tuple of that length -/
def gTup (K : PySem.W.Frag) (n : Nat) (t : TGs) : TG := fun v σ H Q => ∃ a xs, v = .ref a ∧ SqT K H a xs ∧ xs.length = n ∧ t xs σ H Q
theorem pg_tup {es : List Expr} {k : Nat} {t : TGs} {n : Nat} (hc : X.calm = true) (h : PGs X es t)
    (hn : (assignEach es X.env).length = n := by rfl) (hst : (assignEach es X.env).findIdx? (·.1) = none := by rfl) : PG X (.Tuple es k pos) (gTup X.K n t) := by
  intro pins s σ H v u Q I r hw
  obtain ⟨a, xs, e1, hq, hl, hw⟩ := hw
  subst e1
  cases r
  obtain ⟨its, rv, ht, hz⟩ := I.tuple hq
  refine assign_Tuple_tuple (I.ok.hd hc) ht (by simp [hn, ← hl, rv.length]) hst fun h' hx => ?_
  have I1 : Inv X pins σ H { s with heap := h' } := I.kept (t' := s.toks) fun b o e => hx b o (Nat.ne_of_lt (Heap.lt_size e)) e
  exact h pins _ σ H xs _ Q I1 (by simpa using rv) hw
/-- o[i] = .. -/
def gSub (to ti : TE) (t : TSet) : TG := fun v σ H Q => to σ H fun o H1 => ti σ H1 fun i H2 => t o i v H2 fun H3 => Q σ H3
/-- target = value -/
def tAsg (te : TE) (g : TG) : TS := fun D σ H => te σ H fun x H1 => g x σ H1 D.nx
/-- name = value -/
theorem ps_set {i : Nat} {x : Str} {e : Expr} {te : TE} {pos' : Pos} (hN : X.N.Nodup) (hi : X.N[i]? = some x) (hx : Loc X.env.scope x) (he : PE X e te) (hs : swapsWith e (some (.Name x pos')) pos.line X.env = pure false := by rfl) (hf : X.fn x = true ∨ X.env.scope.names.lookup x = some .local := by first | exact .inl rfl | exact .inr rfl | assumption) :
    PS X (.Assign [.Name x pos'] e pos) (tAsg te (gName i)) := by
  intro pins s σ H D I h
  refine wpAny_Assign_Name (thn (he pins s σ H _ I h) fun v s1 ⟨y, H1, I1, r1, q1⟩ => ?_) hs
  exact store_ok I1 hN hi hx r1 (fun s2 I2 => ⟨_, H1, I2, q1⟩) hf
/-- a, b = x, y with plain local names: stored from the right; the pair itself is not tracked (the opening rows as in PyProof/Rows/TupAssign.lean:23) -/
def tPar (i j : Nat) (ta : TA) : TS := fun D σ H => ta σ H fun vs H1 => ∃ v w, vs = [v, w] ∧ D.nx ((σ.set i (some v)).set j (some w)) H1
/-- name op= e -/
def tAug (i : Nat) (te : TE) (ti : TIp) : TS := fun D σ H => ∃ x, σ[i]? = some (some x) ∧ te σ H fun y H1 => ti x y H1 fun z H2 => D.nx (σ.set i (some z)) H2
/-- o[i] op= e -/
def tAugS (to ti te : TE) (tget : V → V → Hp → VK → Prop) (tip : TIp) (tset : TSet) : TS := fun D σ H => to σ H fun o H1 => ti σ H1 fun i H2 => tget o i H2 fun x H3 => te σ H3 fun y H4 => tip x y H4 fun z H5 => tset o i z H5 fun H6 => D.nx σ H6
/-- o[i], by values -/
def PGet (X : Cx) (t : V → V → Hp → VK → Prop) : Prop :=
  ∀ (pins : List (Addr × Obj)) (s : Shared) (σ : St) (H : Hp) (o i : V) (ov iv : Value) (Q : VK), Inv X pins σ H s → RelV o ov → RelV i iv → t o i H Q →
    wpAny (model X.prog X.w) X.A (getItem ov iv) (EP X pins σ Q) X.xe s
/-- ints -/
def ipI (f : Int → Int → Int) : TIp := fun x y H Q => ∃ i j, x = .int i ∧ y = .int j ∧ Q (.int (f i j)) H
end
/-! ### while -/
section
variable {X : Cx} {pos : Pos}
/-- the invariant W with its measure -/
def tWhile (c : TT) (tb : TS) : TS := fun D σ H => ∃ W : Nat → St → Hp → Prop, (∃ m, W m σ H) ∧ ∀ m σ H, W m σ H →
  c σ H fun b H1 => if b = true then ∃ N : St → Hp → Prop, (∀ σ' H', N σ' H' → ∃ m', m' < m ∧ W m' σ' H') ∧ tb { D with nx := N, ct := N, bk := D.nx } σ H1 else D.nx σ H1
end
/-! ### what a loop or a comprehension walks -/
/-- at turn i: it yields x (the heap may grow), or it stops -/
structure It where
  go : Nat → Hp → Prop
  yld : Nat → Hp → V → Hp → Prop
  stop : Nat → Hp → Prop
/-- the iterator's own objects may turn: they are not the frame's, not pinned, younger than the entry (or a comprehension's own) -/
def FpOk (X : Cx) (pins : List (Addr × Obj)) (H : Hp) (b : Addr) : Prop :=
  H b = none ∧ b ≠ X.env.locals ∧ b ∉ X.fs ∧ (b ∈ X.ex ∨ X.s₀.heap.objs.size ≤ b) ∧ (∀ x c, X.env.cells.lookup x = some c → c ≠ b) ∧ ∀ p ∈ X.pn ++ pins, p.1 ≠ b
theorem Inv.fpOk {X : Cx} {pins : List (Addr × Obj)} {σ : St} {H H' : Hp} {s : Shared} {b : Addr} (I : Inv X pins σ H s) (hb : s.heap.objs.size ≤ b) (hn : H' b = none) : FpOk X pins H' b := by
  refine ⟨hn, Nat.ne_of_gt (Nat.lt_of_lt_of_le I.lt hb), I.nofs hb, .inr (Nat.le_trans I.sz hb), fun x c e z => ?_, fun p hp z => ?_⟩
  · obtain ⟨v, q⟩ := I.cell x c e
    exact absurd (Nat.lt_of_lt_of_le q.lt (by rw [z]; exact hb)) (Nat.lt_irrefl _)
  · exact absurd (Nat.lt_of_lt_of_le (Heap.lt_size (I.pin p hp).1) (by rw [z]; exact hb)) (Nat.lt_irrefl _)
structure Turn (P : Program) (w : World) (K : PySem.W.Frag) (tg : Expr) (J : It) (fp : List Addr) (it : Addr) (tn : Nat → Heap → Prop) : Prop where
  mem : it ∈ fp
  obj : ∀ i h, tn i h → ∀ b ∈ fp, ∃ o, h.get? b = some o ∧ ∀ v, o.data ≠ .cell v
  keep : ∀ i h h', tn i h → (∀ b ∈ fp, ∀ o, h.get? b = some o → h'.get? b = some o) → tn i h'
  item : ∀ (X : Cx), X.prog = P → X.w = w → X.K = K → X.calm = true → ∀ (i : Nat) (pins : List (Addr × Obj)) (s : Shared) (σ : St) (H : Hp) (E : Value → Shared → Prop), Inv X pins σ H s → (∀ b ∈ fp, FpOk X pins H b) → tn i s.heap → J.go i H →
    wpAny (model P w) X.A (pyNext (.ref it)) (fun r s1 => ∃ u, r = some u ∧
      wpAny (model P w) X.A (letOwnedTupleGo tg (.ref it) u) (fun _ s2 => ∃ x H', Inv X pins σ H' s2 ∧ RelV x u ∧ J.yld i H x H' ∧ tn (i + 1) s2.heap ∧ ∀ b ∈ fp, H' b = none) E s1) E s
  done : ∀ (X : Cx), X.prog = P → X.w = w → X.K = K → X.calm = true → ∀ (i : Nat) (pins : List (Addr × Obj)) (s : Shared) (σ : St) (H : Hp) (E : Value → Shared → Prop), Inv X pins σ H s → (∀ b ∈ fp, FpOk X pins H b) → tn i s.heap → J.stop i H →
    wpAny (model P w) X.A (pyNext (.ref it)) (fun r s1 => r = none ∧ Inv X pins σ H s1) E s
  self : ∀ (A : Around) (i : Nat) (s : Shared) (Q : Value → Shared → Prop) (E : Value → Shared → Prop), tn i s.heap → Q (.ref it) s → wpAny (model P w) A (pyIter (.ref it)) Q E s
abbrev TI := St → Hp → (It → Hp → Prop) → Prop
/-- an iterator has come -/
def PIE (X : Cx) (pins : List (Addr × Obj)) (σ : St) (tg : Expr) (R : It → Hp → Prop) (itv : Value) (s2 : Shared) : Prop :=
  ∃ (it : Addr) (fp : List Addr) (tn : Nat → Heap → Prop) (J : It) (H' : Hp), itv = .ref it ∧ Inv X pins σ H' s2 ∧ Turn X.prog X.w X.K tg J fp it tn ∧ tn 0 s2.heap ∧ (∀ b ∈ fp, FpOk X pins H' b) ∧ R J H'
def PI (X : Cx) (tg iter : Expr) (wi : TI) : Prop :=
  ∀ (pins : List (Addr × Obj)) (s : Shared) (σ : St) (H : Hp) (R : It → Hp → Prop), Inv X pins σ H s → wi σ H R →
    wpAny (model X.prog X.w) X.A (eval iter X.env) (fun v s1 => wpAny (model X.prog X.w) X.A (pyIter v) (PIE X pins σ tg R) X.xe s1) X.xe s
/-- the step ahead of the store is nothing for an iterator that keeps no tuple -/
theorem go_of {M : Model} {A : Around} {E : Value → Shared → Prop} {s : Shared} {tg : Expr} {it : Addr} {u : Value} {o : Obj} {n : String} {vs : Array Value} {Q : Unit → Shared → Prop} (ho : s.heap.get? it = some o) (hc : o.cls = .type n) (hd : o.data = .fields vs)
    (hn : ["enumerate", "zip", "dict_itemiterator", "dict_reverseitemiterator", "odict_iterator", "itertools.zip_longest", "itertools.pairwise"].contains n = false) (hQ : Q () s) : wpAny M A (letOwnedTupleGo tg (.ref it) u) Q E s := by
  unfold letOwnedTupleGo
  cases tg <;> first
    | exact wpAny_pure hQ
    | (cases u <;> first
        | exact wpAny_pure hQ
        | (refine wpAny_bind (wpAny_load ho ?_)
           rw [hc, hd]
           show wpAny M A (if (["enumerate", "zip", "dict_itemiterator", "dict_reverseitemiterator", "odict_iterator", "itertools.zip_longest", "itertools.pairwise"].contains n && vs[0]? == some (rawInt _)) = true then _ else _) Q E s
           rw [if_neg (by intro h; rw [hn, Bool.false_and] at h; cases h)]
           exact wpAny_pure hQ))
/-- the list at a, as it stands at each turn (a loop may append to it) -/
def Itl (K : PySem.W.Frag) (a : Addr) : It :=
  ⟨fun i H => ∃ xs x, SqL K H a xs ∧ xs[i]? = some x, fun i H x H' => H' = H ∧ ∀ xs, SqL K H a xs → xs[i]? = some x, fun i H => ∃ xs, SqL K H a xs ∧ xs.length ≤ i⟩
def Itt (K : PySem.W.Frag) (a : Addr) : It :=
  ⟨fun i H => ∃ xs x, SqT K H a xs ∧ xs[i]? = some x, fun i H x H' => H' = H ∧ ∀ xs, SqT K H a xs → xs[i]? = some x, fun i H => ∃ xs, SqT K H a xs ∧ xs.length ≤ i⟩
/-- lo, lo + 1, .. (n of them) -/
def Itr (lo : Int) (n : Nat) : It := ⟨fun i _ => i < n, fun i H x H' => H' = H ∧ x = .int (lo + i), fun i _ => n ≤ i⟩
theorem turn_list {P : Program} {w : World} {K : PySem.W.Frag} {tg : Expr} (a it : Addr) : Turn P w K tg (Itl K a) [it] it (fun i h => h.IsListIter it a i) where
  mem := by simp
  obj := fun i h st b hb => by
    have e : b = it := by simpa using hb
    subst e
    obtain ⟨o, e, c, d⟩ := st
    exact ⟨o, e, fun v z => by rw [d] at z; cases z⟩
  keep := fun i h h' st k => st.at fun o e => k it (by simp) o e
  item := by
    intro X hP hw hK hc i pins s σ H E I hf st hg
    subst hP hw hK
    obtain ⟨xs, x, hq, hx⟩ := hg
    obtain ⟨its, rv, p, hz⟩ := I.list hq
    obtain ⟨u, hu, ru⟩ := rv.get hx
    obtain ⟨f0, f1, f2, f3, f4, f5⟩ := hf it (by simp)
    refine wpAny_pyNext_list_item st p.isList (x := u) (by simpa using hu) fun h' st' sb => ?_
    have I1 : Inv X pins σ H { s with heap := h' } := I.turned (t' := s.toks) (fun b o hb e => (sb.2 b hb).trans e) f0 f1 f3 f4 f5
    obtain ⟨o, e, c, d⟩ := id st'
    exact ⟨u, rfl, go_of (s := { s with heap := h' }) e c d (by decide) ⟨x, H, I1, ru, ⟨rfl, fun ys hy => by rw [I.list_inj hy hq]; exact hx⟩, st', fun b hb => (hf b hb).1⟩⟩
  done := by
    intro X hP hw hK hc i pins s σ H E I hf st hg
    subst hP hw hK
    obtain ⟨xs, hq, hx⟩ := hg
    obtain ⟨its, rv, p, hz⟩ := I.list hq
    obtain ⟨f0, f1, f2, f3, f4, f5⟩ := hf it (by simp)
    have hl := rv.length
    exact wpAny_pyNext_list_end (I.ok.hd hc) st p.isList (by simp; omega) fun h' eb => ⟨rfl, I.turned (t' := s.toks) (fun b o hb e => eb b o hb e) f0 f1 f3 f4 f5⟩
  self := fun _ _ _ _ _ st h => wpAny_pyIter_listiter st h
theorem turn_tuple {P : Program} {w : World} {K : PySem.W.Frag} {tg : Expr} (a it : Addr) : Turn P w K tg (Itt K a) [it] it (fun i h => h.IsTupleIter it a i) where
  mem := by simp
  obj := fun i h st b hb => by
    have e : b = it := by simpa using hb
    subst e
    obtain ⟨o, e, c, d⟩ := st
    exact ⟨o, e, fun v z => by rw [d] at z; cases z⟩
  keep := fun i h h' st k => st.at fun o e => k it (by simp) o e
  item := by
    intro X hP hw hK hc i pins s σ H E I hf st hg
    subst hP hw hK
    obtain ⟨xs, x, hq, hx⟩ := hg
    obtain ⟨its, rv, p, hz⟩ := I.tuple hq
    obtain ⟨u, hu, ru⟩ := rv.get hx
    obtain ⟨f0, f1, f2, f3, f4, f5⟩ := hf it (by simp)
    refine wpAny_pyNext_tuple_item st (show s.heap.IsTuple a its.toArray from p) (x := u) (by simpa using hu) fun h' st' sb => ?_
    have I1 : Inv X pins σ H { s with heap := h' } := I.turned (t' := s.toks) (fun b o hb e => (sb.2 b hb).trans e) f0 f1 f3 f4 f5
    obtain ⟨o, e, c, d⟩ := id st'
    exact ⟨u, rfl, go_of (s := { s with heap := h' }) e c d (by decide) ⟨x, H, I1, ru, ⟨rfl, fun ys hy => by rw [I.tuple_inj hy hq]; exact hx⟩, st', fun b hb => (hf b hb).1⟩⟩
  done := by
    intro X hP hw hK hc i pins s σ H E I hf st hg
    subst hP hw hK
    obtain ⟨xs, hq, hx⟩ := hg
    obtain ⟨its, rv, p, hz⟩ := I.tuple hq
    obtain ⟨f0, f1, f2, f3, f4, f5⟩ := hf it (by simp)
    have hl := rv.length
    exact wpAny_pyNext_tuple_end (I.ok.hd hc) st (show s.heap.IsTuple a its.toArray from p) (by simp; omega) fun h' eb => ⟨rfl, I.turned (t' := s.toks) (fun b o hb e => eb b o hb e) f0 f1 f3 f4 f5⟩
  self := fun _ _ _ _ _ st h => wpAny_pyIter_tupleiter st h
theorem turn_range {P : Program} {w : World} {K : PySem.W.Frag} {tg : Expr} (it : Addr) (lo : Int) (n : Nat) : Turn P w K tg (Itr lo n) [it] it (fun i h => IsRangeIter h it (lo + (i : Nat) * 1) ((n : Int) - (i : Nat)) 1) where
  mem := by simp
  obj := fun i h st b hb => by
    have e : b = it := by simpa using hb
    subst e
    exact ⟨_, st, fun v z => by
      have z' : Data.fields _ = Data.cell v := z
      cases z'⟩
  keep := fun i h h' st k => k it (by simp) _ st
  item := by
    intro X hP hw hK hc i pins s σ H E I hf st hg
    subst hP hw hK
    obtain ⟨f0, f1, f2, f3, f4, f5⟩ := hf it (by simp)
    have W := Walks.range (prog := X.prog) (w := X.w) (I.ok.hd hc) it lo 1 n
    refine W.item i s _ _ hg st fun v h' tk hv st' kk => ?_
    obtain ⟨t, rfl⟩ := hv
    have I1 : Inv X pins σ H { s with heap := h', toks := tk } := I.turned (fun b o hb e => kk b o (by simpa using hb) e) f0 f1 f3 f4 f5
    refine ⟨_, rfl, go_of (s := { s with heap := h', toks := tk }) (n := "range_iterator") st' rfl rfl (by decide) ⟨.int (lo + i), H, I1, ⟨t, ?_⟩, ⟨rfl, rfl⟩, st', fun b hb => (hf b hb).1⟩⟩
    rw [Int.mul_one]
  done := by
    intro X hP hw hK hc i pins s σ H E I hf st hg
    subst hP hw hK
    obtain ⟨f0, f1, f2, f3, f4, f5⟩ := hf it (by simp)
    exact wpAny_pyNext_range_end (I.ok.hd hc) st (by have : n ≤ i := hg; omega) fun h' eb => ⟨rfl, I.turned (t' := s.toks) (fun b o hb e => eb b o hb e) f0 f1 f3 f4 f5⟩
  self := fun _ _ _ _ _ st h => wpAny_pyIter_rangeiter st h
end L2
namespace L2
open PySem PySem.Spec PyProof.Rows
section
variable {X : Cx} {tg : Expr}
/-- a range object just made, walked -/
theorem range_it {pins : List (Addr × Obj)} {σ : St} {H : Hp} {s : Shared} {R : It → Hp → Prop} {E : Value → Shared → Prop} {lo hi : Int} {t u v : Tok} {tk : Nat} (I : Inv X pins σ H s) (h1 : -(2 ^ 62) ≤ lo) (h2 : lo < 2 ^ 62) (h3 : -(2 ^ 62) ≤ hi) (h4 : hi < 2 ^ 62)
    (q : R (Itr lo (hi - lo).toNat) H) : wpAny (model X.prog X.w) X.A (pyIter (.ref s.heap.objs.size)) (PIE X pins σ tg R) E { s with heap := s.heap.push { cls := .type "range", data := .fields #[.int lo t, .int hi u, .int 1 v] }, toks := tk } := by
  refine wpAny_pyIter_range (IsRange.new ..) (small_one h1 h2 h3 h4) ?_
  have I1 : Inv X pins σ H { s with heap := s.heap.push { cls := .type "range", data := .fields #[.int lo t, .int hi u, .int 1 v] }, toks := tk } := I.kept fun b o e => Heap.get?_push_of_some _ e
  refine ⟨(s.heap.push { cls := .type "range", data := .fields #[.int lo t, .int hi u, .int 1 v] }).objs.size, [(s.heap.push { cls := .type "range", data := .fields #[.int lo t, .int hi u, .int 1 v] }).objs.size], _, _, H, rfl,
    I1.kept (t' := tk) fun b o e => Heap.get?_push_of_some _ e, turn_range _ lo (hi - lo).toNat, ?_, fun b hb => ?_, q⟩
  · have e1 : lo + ((0 : Nat) : Int) * 1 = lo := by simp
    have e2 : (((hi - lo).toNat : Nat) : Int) - ((0 : Nat) : Int) = Builtin.Range.rangeSize lo hi 1 := by rw [rangeSize_one]; split <;> omega
    show IsRangeIter _ _ (lo + ((0 : Nat) : Int) * 1) ((((hi - lo).toNat : Nat) : Int) - ((0 : Nat) : Int)) 1
    rw [e1, e2]
    exact Heap.get?_push_size _ rfl
  · have e : b = (s.heap.push { cls := .type "range", data := .fields #[.int lo t, .int hi u, .int 1 v] }).objs.size := by simpa using hb
    subst e
    exact I1.fpOk (Nat.le_refl _) (I1.hok.fresh (Nat.le_refl _))
def iRng1 (ta : TA) : TI := fun σ H R => ta σ H fun vs H1 => ∃ j : Int, vs = [.int j] ∧ -(2 ^ 62) ≤ j ∧ j < 2 ^ 62 ∧ R (Itr 0 j.toNat) H1
theorem pi_range1 {a : Expr} {ta : TA} {p pos : Pos} (hg : Gl X "range") (hm : X.mg "range" = none) (ha : PA X [a] ta) (hs : starEach [a] X.env = [(false, eval a X.env)] := by rfl) : PI X tg (.Call (.Name "range" p) [a] [] pos) (iRng1 ta) := by
  intro pins s σ H R I h
  refine Call_ (ld_blt I hg hm boot_range (PyProof.Rows.callWith_type1 (thn (ha pos pins s σ H _ I h) fun us s1 ⟨vs, H1, I1, r1, q1⟩ => ?_) hs rfl))
  obtain ⟨j, e, q1, q2, q⟩ := q1
  subst e
  cases r1 with
  | cons r rr =>
    cases rr
    obtain ⟨t, rfl⟩ := r
    exact call_range_1 (range_it I1 (by omega) (by omega) q1 q2 (by simpa using q))
/-! ### for -/
/-- W: the invariant by the turn and a measure; N: what the body is to reach -/
def tFor (wi : TI) (g : TG) (tb : TS) : TS := fun D σ H => wi σ H fun J H1 => ∃ W : Nat → Nat → St → Hp → Prop, (∃ m, W 0 m σ H1) ∧ ∀ i m σ H, W i m σ H →
  (J.stop i H ∧ D.nx σ H) ∨ (J.go i H ∧ ∃ N : St → Hp → Prop, (∀ σ' H', N σ' H' → ∃ m', m' < m ∧ W (i + 1) m' σ' H') ∧ ∀ x H', J.yld i H x H' → g x σ H' fun σ2 H2 => tb { D with nx := N, ct := N, bk := D.nx } σ2 H2)
/-- the records at fp as they stand -/
def pinsAt (fp : List Addr) (h : Heap) : List (Addr × Obj) := fp.filterMap fun b => (h.get? b).map fun o => (b, o)
theorem mem_pinsAt {fp : List Addr} {h : Heap} {b : Addr} {o : Obj} (hb : b ∈ fp) (e : h.get? b = some o) : (b, o) ∈ pinsAt fp h := List.mem_filterMap.mpr ⟨b, hb, by rw [e]; rfl⟩
theorem of_pinsAt {fp : List Addr} {h : Heap} {p : Addr × Obj} (hp : p ∈ pinsAt fp h) : p.1 ∈ fp ∧ h.get? p.1 = some p.2 := by
  obtain ⟨b, hb, e⟩ := List.mem_filterMap.mp hp
  cases q : h.get? b with
  | none => rw [q] at e; cases e
  | some o =>
    rw [q] at e
    have e' : (b, o) = p := Option.some.inj e
    subst e'
    exact ⟨hb, q⟩
theorem Inv.pinned {pins : List (Addr × Obj)} {σ : St} {H : Hp} {s : Shared} {fp : List Addr} (I : Inv X pins σ H s) (hf : ∀ b ∈ fp, FpOk X pins H b) (ho : ∀ b ∈ fp, ∃ o, s.heap.get? b = some o ∧ ∀ v, o.data ≠ .cell v) : Inv X (pins ++ pinsAt fp s.heap) σ H s :=
  I.pins_of fun p hp => (List.mem_append.mp hp).elim (fun z => I.pin p (List.mem_append_right _ z)) fun z => by
    obtain ⟨hb, e⟩ := of_pinsAt z
    obtain ⟨f0, f1, f2, _⟩ := hf p.1 hb
    obtain ⟨o, e', d⟩ := ho p.1 hb
    rw [e] at e'; cases e'
    exact ⟨e, f0, f1, f2, d⟩
theorem Inv.unpinned {pins pl : List (Addr × Obj)} {σ : St} {H : Hp} {s : Shared} (I : Inv X (pins ++ pl) σ H s) : Inv X pins σ H s := I.pins_of fun p hp => I.pin p (List.mem_append_right _ (List.mem_append_left _ hp))
theorem ps_for {iter : Expr} {body : List Stmt} {wi : TI} {g : TG} {tb : TS} {pos : Pos} (hp : PassesOwn (model X.prog X.w) X.A X.env X.xe) (hc : X.calm = true) (hi : PI X tg iter wi) (hg : PG X tg g) (hb : PSs X body tb)
    (hs : ∀ x, foldedSetIterable iter X.env x = pure x := by intro _; rfl) : PS X (.For tg iter body [] pos) (tFor wi g tb) := by
  intro pins s σ H D I h
  refine wpAny_For (thn (hi pins s σ H _ I h) fun v s1 h1 => thn h1 fun itv s2 h2 => ?_) hs
  obtain ⟨it, fp, tn, J, H2, e, I2, T, st2, f2, W, ⟨m0, w0⟩, turn⟩ := h2
  subst e
  -- what stays true of the iterator's objects through the loop
  have stat : ∀ {H' : Hp}, (∀ b ∈ fp, H' b = none) → ∀ b ∈ fp, FpOk X pins H' b := fun hn b hb => ⟨hn b hb, (f2 b hb).2⟩
  refine codeAny_forLoop_any (fun n s' => ∃ i σ' H', Inv X pins σ' H' s' ∧ tn i s'.heap ∧ (∀ b ∈ fp, H' b = none) ∧ W i n σ' H') ?_ m0 ⟨0, σ, H2, I2, st2, fun b hb => (f2 b hb).1, w0⟩
  rintro n s3 ⟨i, σ3, H3, I3, st3, fr3, w3⟩
  rcases turn i n σ3 H3 w3 with ⟨stop, qn⟩ | ⟨go, N, hN, step⟩
  · refine wpAny_passesOwn hp (thn (T.done X rfl rfl rfl hc i pins s3 σ3 H3 X.xe I3 (stat fr3) st3 stop) fun r s4 ⟨hr, I4⟩ => ?_)
    subst hr
    exact wpAny_execs_nil ⟨σ3, H3, I4, qn⟩
  · refine wpAny_passesOwn hp (thn (T.item X rfl rfl rfl hc i pins s3 σ3 H3 X.xe I3 (stat fr3) st3 go) fun r s4 ⟨u, hr, h4⟩ => ?_)
    subst hr
    refine wpAny_passesOwn hp (thn h4 fun _ s5 ⟨x, H5, I5, r5, y5, st5, fr5⟩ => ?_)
    have I5' := I5.pinned (stat fr5) (T.obj _ _ st5)
    refine wpAny_passesOwn hp (thn (hg _ s5 σ3 H5 x u _ I5' r5 (step x H5 y5)) fun _ s6 ⟨σ6, H6, I6, q6⟩ => ?_)
    refine wpAny_passesOwn hp (thn (hb _ s6 σ6 H6 _ I6 q6) fun f s7 q7 => ?_)
    have again : ∀ {σ7 : St} {H7 : Hp}, Inv X (pins ++ pinsAt fp s5.heap) σ7 H7 s7 → N σ7 H7 → ∃ m, m < n ∧ ∃ i σ' H', Inv X pins σ' H' s7 ∧ tn i s7.heap ∧ (∀ b ∈ fp, H' b = none) ∧ W i m σ' H' := fun {σ7 H7} I7 n7 => by
      obtain ⟨m', hm, w7⟩ := hN σ7 H7 n7
      refine ⟨m', hm, i + 1, σ7, H7, I7.unpinned, T.keep _ _ _ st5 fun b hb o e => (I7.pin (b, o) (List.mem_append_right _ (List.mem_append_right _ (mem_pinsAt hb e)))).1, fun b hb => ?_, w7⟩
      obtain ⟨o, e, d⟩ := T.obj _ _ st5 b hb
      exact (I7.pin (b, o) (List.mem_append_right _ (List.mem_append_right _ (mem_pinsAt hb e)))).2.1
    cases f with
    | next => obtain ⟨σ7, H7, I7, n7⟩ := q7; exact again I7 n7
    | cont => obtain ⟨σ7, H7, I7, n7⟩ := q7; exact again I7 n7
    | brk => obtain ⟨σ7, H7, I7, q7⟩ := q7; exact ⟨σ7, H7, I7.unpinned, q7⟩
    | ret v => obtain ⟨x7, σ7, H7, I7, r7, q7⟩ := q7; exact ⟨x7, σ7, H7, I7.unpinned, r7, q7⟩
end
/-! ### the forms one uses -/
end L2
namespace L2
open PySem PySem.Spec PyProof.Rows
abbrev R2 := V → V → Hp → VK → Prop
/-- a two-place operation on values: f is binaryOp op, inplaceOp op or compareOp op -/
def OpR (X : Cx) (f : Value → Value → Sem Value) (r : R2) : Prop :=
  ∀ (pins : List (Addr × Obj)) (s : Shared) (σ : St) (H : Hp) (x y : V) (v u : Value) (Q : VK), Inv X pins σ H s → RelV x v → RelV y u → r x y H Q →
    wpAny (model X.prog X.w) X.A (f v u) (EP X pins σ Q) X.xe s
/-- a one-place operation -/
def UnR (X : Cx) (f : Value → Sem Value) (r : V → Hp → VK → Prop) : Prop :=
  ∀ (pins : List (Addr × Obj)) (s : Shared) (σ : St) (H : Hp) (x : V) (v : Value) (Q : VK), Inv X pins σ H s → RelV x v → r x H Q →
    wpAny (model X.prog X.w) X.A (f v) (EP X pins σ Q) X.xe s
/-- a call of a value that is known (a builtin, a type) with values -/
def CallR (X : Cx) (f : Value) (r : List V → Hp → VK → Prop) : Prop :=
  ∀ (pins : List (Addr × Obj)) (s : Shared) (σ : St) (H : Hp) (xs : List V) (us : List Value) (Q : VK), Inv X pins σ H s → Vals xs us → r xs H Q →
    wpAny (model X.prog X.w) X.A (call f us) (EP X pins σ Q) X.xe s
/-- a value's truth -/
def TruR (X : Cx) (r : V → Hp → (Bool → Hp → Prop) → Prop) : Prop :=
  ∀ (pins : List (Addr × Obj)) (s : Shared) (σ : St) (H : Hp) (x : V) (v : Value) (Q : Bool → Hp → Prop), Inv X pins σ H s → RelV x v → r x H Q →
    wpAny (model X.prog X.w) X.A (truthy v) (TP X pins σ Q) X.xe s
def tOp (r : R2) (ta tb : TE) : TE := fun σ H Q => ta σ H fun x H1 => tb σ H1 fun y H2 => r x y H2 Q
def tUn (r : V → Hp → VK → Prop) (ta : TE) : TE := fun σ H Q => ta σ H fun x H1 => r x H1 Q
/-- ints in, under C, and a value out -/
def rI (C : Int → Int → Prop) (g : Int → Int → V) : R2 := fun x y H Q => ∃ i j, x = .int i ∧ y = .int j ∧ C i j ∧ Q (g i j) H
def rI0 (g : Int → Int → V) : R2 := fun x y H Q => ∃ i j, x = .int i ∧ y = .int j ∧ Q (g i j) H
def rU (g : Int → V) : V → Hp → VK → Prop := fun x H Q => ∃ i, x = .int i ∧ Q (g i) H
section
variable {X : Cx} {a b c : Expr} {ta tb tc : TE} {pos : Pos}
theorem binT (ha : PE X a ta) (hb : PE X b tb) {pins : List (Addr × Obj)} {s : Shared} {σ : St} {H : Hp} {R : V → V → Hp → Prop} (I : Inv X pins σ H s)
    (h : ta σ H fun x H1 => tb σ H1 fun y H2 => R x y H2) {Q : Value → Shared → Prop} {f : Value → Value → Sem Value}
    (hf : ∀ v u s2 x y H2, Inv X pins σ H2 s2 → RelV x v → RelV y u → R x y H2 → wpAny (model X.prog X.w) X.A (f v u) Q X.xe s2) :
    wpAny (model X.prog X.w) X.A (eval a X.env) (fun v s₁ => wpAny (model X.prog X.w) X.A (eval b X.env) (fun u s₂ => wpAny (model X.prog X.w) X.A (f v u) Q X.xe s₂) X.xe s₁) X.xe s := by
  refine thn (ha pins s σ H _ I h) fun v s1 ⟨x, H1, I1, r1, q1⟩ => ?_
  refine thn (hb pins s1 σ H1 _ I1 q1) fun u s2 ⟨y, H2, I2, r2, q2⟩ => ?_
  exact hf v u s2 x y H2 I2 r1 r2 q2
theorem pe_op {op : Operator} {r : R2} (ho : OpR X (binaryOp op) r) (ha : PE X a ta) (hb : PE X b tb) : PE X (.BinOp a op b pos) (tOp r ta tb) := by
  intro pins s σ H Q I h
  exact wpAny_BinOp (binT ha hb I h fun v u s2 x y H2 I2 rx ry q => ho pins s2 σ H2 x y v u Q I2 rx ry q)
theorem pe_un {op : UnaryOp} {r : V → Hp → VK → Prop} (ho : UnR X (unaryOp op) r) (ha : PE X a ta) : PE X (.UnaryOp op a pos) (tUn r ta) := by
  intro pins s σ H Q I h
  exact UnaryOp_ (thn (ha pins s σ H _ I h) fun v s1 ⟨x, H1, I1, r1, q1⟩ => ho pins s1 σ H1 x v Q I1 r1 q1)
/-! ### ints -/
theorem opI {f : Value → Value → Sem Value} {C : Int → Int → Prop} {g : Int → Int → Int}
    (rule : ∀ (i j : Int) (t u : Tok) (s : Shared) (Q : Value → Shared → Prop) (E : Value → Shared → Prop), C i j → Q (.int (g i j) s.toks) { s with toks := s.toks + 1 } → wpAny (model X.prog X.w) X.A (f (.int i t) (.int j u)) Q E s) :
    OpR X f (rI C fun i j => .int (g i j)) := by
  intro pins s σ H x y v u Q I rx ry h
  obtain ⟨i, j, rfl, rfl, hc, q⟩ := h
  obtain ⟨t, rfl⟩ := rx
  obtain ⟨t', rfl⟩ := ry
  exact rule i j t t' s _ _ hc ⟨.int (g i j), H, I.tok _, ⟨_, rfl⟩, q⟩
theorem opI0 {f : Value → Value → Sem Value} {g : Int → Int → Int}
    (rule : ∀ (i j : Int) (t u : Tok) (s : Shared) (Q : Value → Shared → Prop) (E : Value → Shared → Prop), Q (.int (g i j) s.toks) { s with toks := s.toks + 1 } → wpAny (model X.prog X.w) X.A (f (.int i t) (.int j u)) Q E s) :
    OpR X f (rI0 fun i j => .int (g i j)) := by
  intro pins s σ H x y v u Q I rx ry h
  obtain ⟨i, j, rfl, rfl, q⟩ := h
  obtain ⟨t, rfl⟩ := rx
  obtain ⟨t', rfl⟩ := ry
  exact rule i j t t' s _ _ ⟨.int (g i j), H, I.tok _, ⟨_, rfl⟩, q⟩
theorem opB0 {f : Value → Value → Sem Value} {g : Int → Int → Bool}
    (rule : ∀ (i j : Int) (t u : Tok) (s : Shared) (Q : Value → Shared → Prop) (E : Value → Shared → Prop), Q (.bool (g i j)) s → wpAny (model X.prog X.w) X.A (f (.int i t) (.int j u)) Q E s) :
    OpR X f (rI0 fun i j => .bl (g i j)) := by
  intro pins s σ H x y v u Q I rx ry h
  obtain ⟨i, j, rfl, rfl, q⟩ := h
  obtain ⟨t, rfl⟩ := rx
  obtain ⟨t', rfl⟩ := ry
  exact rule i j t t' s _ _ ⟨.bl (g i j), H, I, rfl, q⟩
def CDiv (i j : Int) : Prop := 0 < j ∧ j < 1073741824
def CPow (i j : Int) : Prop := 0 ≤ j ∧ j ≤ 1000000 ∧ i.natAbs < 2 ^ 64
def CMul (i j : Int) : Prop := (-(2 ^ 64) < i ∧ i < 2 ^ 64) ∨ (-(2 ^ 64) < j ∧ j < 2 ^ 64)
theorem CMul.ok {i j : Int} (h : CMul i j) : IntMulOk i j := by
  rcases h with ⟨h1, h2⟩ | ⟨h1, h2⟩
  · exact .of_left (intBits_le_64 h1 h2)
  · exact .of_right (intBits_le_64 h1 h2)
theorem op_add : OpR X (binaryOp .Add) (rI0 fun i j => .int (i + j)) := opI0 fun _ _ _ _ _ _ _ q => add_int q
theorem op_sub : OpR X (binaryOp .Sub) (rI0 fun i j => .int (i - j)) := opI0 fun _ _ _ _ _ _ _ q => sub_int q
theorem op_mul : OpR X (binaryOp .Mult) (rI CMul fun i j => .int (i * j)) := opI fun _ _ _ _ _ _ _ hc q => mul_int q hc.ok
/-- // by a positive divisor -/
theorem op_fdiv : OpR X (binaryOp .FloorDiv) (rI CDiv fun i j => .int (i / j)) := opI fun i j _ _ _ _ _ hc q => by
  have h1 : (0 : Int) < j := hc.1
  have h2 : j < 1073741824 := hc.2
  exact floordiv_int (by omega) (by rw [Int.fdiv_eq_ediv_of_nonneg i (by omega)]; exact q) (.inl (PyProof.noPylong_small (by omega)))
/-- % by a positive divisor of any size -/
theorem op_mod : OpR X (binaryOp .Mod) (rI (fun _ j => 0 < j) fun i j => .int (i % j)) := opI fun i j _ _ _ _ _ hc q => by
  have h1 : (0 : Int) < j := hc
  exact mod_int' (by omega) (by rw [Int.fmod_eq_emod_of_nonneg i (by omega)]; exact q)
theorem op_pow : OpR X (binaryOp .Pow) (rI CPow fun i j => .int (i ^ j.toNat)) := opI fun _ _ _ _ _ _ _ hc q => pow_int_small hc.1 hc.2.1 hc.2.2 q
theorem unI {f : Value → Sem Value} {g : Int → Int}
    (rule : ∀ (i : Int) (t : Tok) (s : Shared) (Q : Value → Shared → Prop) (E : Value → Shared → Prop), Q (.int (g i) s.toks) { s with toks := s.toks + 1 } → wpAny (model X.prog X.w) X.A (f (.int i t)) Q E s) :
    UnR X f (rU fun i => .int (g i)) := by
  intro pins s σ H x v Q I rx h
  obtain ⟨i, rfl, q⟩ := h
  obtain ⟨t, rfl⟩ := rx
  exact rule i t s _ _ ⟨.int (g i), H, I.tok _, ⟨_, rfl⟩, q⟩
theorem un_neg : UnR X (unaryOp .USub) (rU fun i => .int (-i)) := unI fun _ _ _ _ _ q => neg_int q
/-! ### bools among ints: n += (a < b) -/
end
/-! ### comparisons -/
/-- the scalars that == tells apart as data does -/
def scal : V → V → Bool
  | .non, .non => true | .non, .int _ => true | .int _, .non => true | .non, .bl _ => true | .bl _, .non => true | .non, .str _ => true | .str _, .non => true
  | .int _, .int _ => true | .bl _, .bl _ => true | .str _, .str _ => true | .byt _, .byt _ => true
  | .int _, .str _ => true | .str _, .int _ => true | .bl _, .str _ => true | .str _, .bl _ => true
  | _, _ => false
section
variable {X : Cx} {a b c : Expr} {ta tb tc : TE} {pos : Pos}
theorem fin_bl {pins : List (Addr × Obj)} {σ : St} {H : Hp} {s : Shared} {Q : VK} {k k' : Bool} (I : Inv X pins σ H s) (q : Q (.bl k) H) (e : k = k') : EP X pins σ Q (.bool k') s := by
  subst e
  exact ⟨.bl k, H, I, rfl, q⟩
theorem op_lt : OpR X (compareOp .Lt) (rI0 fun i j => .bl (decide (i < j))) := opB0 fun _ _ _ _ _ _ _ q => lt_int q
theorem op_gt : OpR X (compareOp .Gt) (rI0 fun i j => .bl (decide (j < i))) := opB0 fun _ _ _ _ _ _ _ q => gt_int q
theorem op_lt_str : OpR X (compareOp .Lt) (fun x y H Q => ∃ i j, x = .str i ∧ y = .str j ∧ Q (.bl (decide (i.cps.toList < j.cps.toList))) H) := by
  intro pins s σ H x y v u Q I rx ry h
  obtain ⟨i, j, rfl, rfl, q⟩ := h
  obtain ⟨t, rfl⟩ := rx
  obtain ⟨t', rfl⟩ := ry
  exact lt_str (fin_bl I q rfl)
/-- is, is not of two objects that are tracked lists or instances -/
def isObj : HO → Bool
  | .lst _ => true
  | .ins _ _ _ => true
  | _ => false
/-- two rules for one operation: by cases -/
theorem OpR.or {f : Value → Value → Sem Value} {r r' : R2} (h : OpR X f r) (h' : OpR X f r') : OpR X f (fun x y H Q => r x y H Q ∨ r' x y H Q) := by
  intro pins s σ H x y v u Q I rx ry q
  rcases q with q | q
  · exact h pins s σ H x y v u Q I rx ry q
  · exact h' pins s σ H x y v u Q I rx ry q
theorem nomark (b : Expr) {op : CmpOp} (h : op ≠ .In := by decide) (h2 : op ≠ .NotIn := by decide) : behindInMarks op b = false := by
  have e1 : (op == CmpOp.In) = false := by cases op <;> first | rfl | exact absurd rfl h
  have e2 : (op == CmpOp.NotIn) = false := by cases op <;> first | rfl | exact absurd rfl h2
  cases b <;> simp [behindInMarks, e1, e2]
/-- a comparison as a value; hm: nomark b, or (for in, not in) by with_unfolding_all rfl -/
theorem pe_cmpR {op : CmpOp} {r : R2} (ho : OpR X (compareOp op) r) (ha : PE X a ta) (hb : PE X b tb) (hm : behindInMarks op b = false) : PE X (.Compare a [op] [b] pos) (tOp r ta tb) := by
  intro pins s σ H Q I h
  exact wpAny_Compare1 (binT ha hb I h fun v u s2 x y H2 I2 rx ry q => ho pins s2 σ H2 x y v u Q I2 rx ry q) hm
/-- a reading of a value as a test -/
def tTest (t : TE) : TT := fun σ H Q => t σ H fun x H' => ∃ k, x = .bl k ∧ Q k H'
theorem pt_cmpR {op : CmpOp} {r : R2} (ho : OpR X (compareOp op) r) (ha : PE X a ta) (hb : PE X b tb) (hm : behindInMarks op b = false) : PT X (.Compare a [op] [b] pos) (tTest (tOp r ta tb)) := by
  intro pins s σ H Q I h
  refine wpAny_isTrue_Compare1 (thn (ha pins s σ H _ I h) fun v s1 ⟨x, H1, I1, r1, q1⟩ => thn (hb pins s1 σ H1 _ I1 q1) fun u s2 ⟨y, H2, I2, r2, q2⟩ =>
    thn (ho pins s2 σ H2 x y v u _ I2 r1 r2 q2) fun c s3 ⟨z, H3, I3, r3, k, e, q3⟩ => ?_) hm
  subst e
  cases r3
  exact wpAny_truthy_bool ⟨H3, I3, q3⟩
/-- a op1 b op2 c -/
def tChain (r r' : R2) (ta tb tc : TE) : TE := fun σ H Q => ta σ H fun x H1 => tb σ H1 fun y H2 => r x y H2 fun z H3 => ∃ k, z = .bl k ∧
  (if k = true then tc σ H3 fun w' H4 => r' y w' H4 Q else Q (.bl false) H3)
/-! ### truth -/
/-- a value's truth by the abstract heap -/
def TruV (K : PySem.W.Frag) (x : V) (H : Hp) (k : Bool) : Prop :=
  match x with
  | .non => k = false
  | .bl b => k = b
  | .int i => k = (i != 0)
  | .str y => y.length ≤ sizeLine ∧ k = ((y.length : Int) != 0)
  | .byt y => y.size ≤ sizeLine ∧ k = ((y.size : Int) != 0)
  | .ref p => (∃ xs, SqL K H p xs ∧ k = !xs.isEmpty) ∨ (∃ xs, SqT K H p xs ∧ k = !xs.isEmpty) ∨ ∃ kvs, H p = some (.dK kvs) ∧ k = !kvs.isEmpty
  | _ => False
theorem isEmpty_kv {κ : Type} {kvs : List (κ × V)} {vs : List (κ × Value)} (r : KV kvs vs) : (!vs.isEmpty) = !kvs.isEmpty := by
  cases r <;> rfl
theorem isEmpty_of {xs : List V} {its : List Value} (r : Vals xs its) : (!its.toArray.isEmpty) = !xs.isEmpty := by
  cases r <;> simp
theorem line63 : (sizeLine : Nat) < 2 ^ 63 := by rw [sizeLine_eq]; decide
theorem tru_ok : TruR X (fun x H Q => ∃ k, TruV X.K x H k ∧ Q k H) := by
  intro pins s σ H x v Q I rx h
  obtain ⟨k, e, q⟩ := h
  have hl := line63
  have hs : sizeLine = 16777216 := sizeLine_eq
  cases x with
  | non =>
    cases rx
    have e' : k = false := e
    subst e'
    exact truthy_none ⟨H, I, q⟩
  | bl b =>
    cases rx
    have e' : k = b := e
    subst e'
    exact wpAny_truthy_bool ⟨H, I, q⟩
  | int i =>
    obtain ⟨t, rfl⟩ := rx
    have e' : k = (i != 0) := e
    subst e'
    exact PySem.P.truthy_int ⟨H, I, q⟩
  | str y =>
    obtain ⟨t, rfl⟩ := rx
    obtain ⟨hy, e'⟩ : y.length ≤ sizeLine ∧ k = ((y.length : Int) != 0) := e
    subst e'
    exact PySem.P.truthy_str (by omega) ⟨H, I.tok _, q⟩
  | byt y =>
    obtain ⟨t, rfl⟩ := rx
    obtain ⟨hy, e'⟩ : y.size ≤ sizeLine ∧ k = ((y.size : Int) != 0) := e
    subst e'
    exact PySem.W.truthy_bytes (by omega) ⟨H, I.tok _, q⟩
  | ref p =>
    cases rx
    have e' : (∃ xs, SqL X.K H p xs ∧ k = !xs.isEmpty) ∨ (∃ xs, SqT X.K H p xs ∧ k = !xs.isEmpty) ∨ ∃ kvs, H p = some (.dK kvs) ∧ k = !kvs.isEmpty := e
    rcases e' with ⟨xs, hx, e'⟩ | ⟨xs, hx, e'⟩ | ⟨kvs, hx, e'⟩
    · subst e'
      obtain ⟨its, r, pl, hz⟩ := I.list hx
      have hlen := r.length
      exact wpAny_truthy_list pl.isList (by simp only [List.size_toArray]; omega) ⟨H, I.tok _, by rw [isEmpty_of r]; exact q⟩
    · subst e'
      obtain ⟨its, r, pl, hz⟩ := I.tuple hx
      have hlen := r.length
      exact truthy_tuple pl (by simp only [List.size_toArray]; omega) ⟨H, I.tok _, by rw [isEmpty_of r]; exact q⟩
    · subst e'
      obtain ⟨hz, hS, vs, r, m⟩ : kvs.length ≤ sizeLine ∧ (p == sysModules) = false ∧ ∃ vs, KV kvs vs ∧ s.heap.DictOf (mixKind X.prog X.w) p vs := I.hok p _ hx
      have hlen : kvs.length = vs.length := Paired.length r
      exact wpAny_truthy_dict hS m (by omega) ⟨H, I.tok _, by rw [isEmpty_kv r]; exact q⟩
  | _ => exact (show False from e).elim
/-- any expression whose test is its value's truth (a name, a call, a subscript, a field ..: he by fun _ => rfl) -/
theorem pt_truth (ha : PE X a ta) (he : ∀ whole, isTrue a X.env whole = (do let v ← whole; standAt a.pos; holding [v] (truthy v))) :
    PT X a (fun σ H Q => ta σ H fun x H' => ∃ k, TruV X.K x H' k ∧ Q k H') := by
  intro pins s σ H Q I h
  exact isTrue_plain (thn (ha pins s σ H _ I h) fun v s1 ⟨x, H1, I1, r1, q1⟩ => tru_ok pins s1 σ H1 x v Q I1 r1 q1) (he _)
/-! ### strs and bytes -/
theorem op_add_str : OpR X (binaryOp .Add) (fun x y H Q => ∃ i j, x = .str i ∧ y = .str j ∧ i.length + j.length ≤ sizeLine ∧ Q (.str (i ++ j)) H) := by
  intro pins s σ H x y v u Q I rx ry h
  obtain ⟨i, j, rfl, rfl, hz, q⟩ := h
  obtain ⟨t, rfl⟩ := rx
  obtain ⟨t', rfl⟩ := ry
  exact add_str (fun t' tk => ⟨.str (i ++ j), H, I.tok _, ⟨_, rfl⟩, q⟩) hz
/-! ### scalar builtins, by CallR -/
theorem vals1 {x : V} {us : List Value} (r : Vals [x] us) : ∃ u, us = [u] ∧ RelV x u := by
  cases r with
  | cons r1 r2 => cases r2; exact ⟨_, rfl, r1⟩
theorem vals2 {x y : V} {us : List Value} (r : Vals [x, y] us) : ∃ u w', us = [u, w'] ∧ RelV x u ∧ RelV y w' := by
  cases r with
  | cons r1 r2 =>
    cases r2 with
    | cons r3 r4 => cases r4; exact ⟨_, _, rfl, r1, r3⟩
theorem call_max2 (hc : X.calm = true) : CallR X (.builtin "max") (fun xs H Q => ∃ i j, xs = [.int i, .int j] ∧ Q (.int (if j > i then j else i)) H) := by
  intro pins s σ H xs us Q I r h
  obtain ⟨i, j, rfl, q⟩ := h
  obtain ⟨u, w', rfl, ⟨t, rfl⟩, ⟨t', rfl⟩⟩ := vals2 r
  refine max_two_ints (I.ok.hd hc) fun h' tk k => ⟨_, H, I.kept k, ?_, q⟩
  by_cases hj : j > i
  · rw [if_pos hj, if_pos hj]; exact ⟨_, rfl⟩
  · rw [if_neg hj, if_neg hj]; exact ⟨_, rfl⟩
theorem call_str_int : CallR X (.type "str") (fun xs H Q => ∃ i, xs = [.int i] ∧ i.natAbs.log2 < 1920 ∧ Q (.str (toString i)) H) := by
  intro pins s σ H xs us Q I r h
  obtain ⟨i, rfl, hz, q⟩ := h
  obtain ⟨u, rfl, t, rfl⟩ := vals1 r
  exact PySem.P.str_of_int hz ⟨.str _, H, I.tok _, ⟨_, rfl⟩, q⟩
/-- len of a str, a bytes, a list, a tuple -/
def LenV (K : PySem.W.Frag) (x : V) (H : Hp) (n : Nat) : Prop :=
  match x with
  | .str y => y.length ≤ sizeLine ∧ n = y.length
  | .byt y => y.size ≤ sizeLine ∧ n = y.size
  | .ref p => (∃ xs, SqL K H p xs ∧ n = xs.length) ∨ ∃ xs, SqT K H p xs ∧ n = xs.length
  | _ => False
end
end L2
namespace L2
open PySem PySem.Spec PyProof.Rows
/-! ### an instance, its attributes a map -/
structure ObjM (h : Heap) (x dx C : Addr) (mA : Str → Option Value) : Prop where
  obj : h.get? x = some (PySem.W.instObj C dx)
  ns : h.Ns1 dx mA
  ne : dx ≠ x
theorem lookIn_ns {h : Heap} {dx : Addr} {mA : Str → Option Value} (n : h.Ns1 dx mA) : ∃ od, h.get? dx = some od ∧ ∀ name, PySem.W.lookIn name od = some (mA name) := by
  obtain ⟨o, es, ep, ho, hd, hk, _, hm⟩ := n
  refine ⟨o, ho, fun name => ?_⟩
  have e := hm name
  unfold nsFind findBy at e
  rw [← Array.find?_toList] at e
  unfold PySem.W.lookIn
  rw [hd]
  dsimp only
  split
  · rename_i y q
    rw [q] at e
    exact congrArg some e
  · rename_i q
    rw [q] at e
    have a : es.toList.any (·.refKey) = false := by
      rw [List.any_eq_false]
      intro y hy
      obtain ⟨z, t, hkey⟩ := hk y (Array.mem_toList_iff.mp hy)
      simp [DictEntry.refKey, hkey]
    have a' : ¬ es.toList.any (·.refKey) = true := by rw [a]; exact Bool.false_ne_true
    rw [if_neg a']
    exact congrArg some e
theorem ObjM.look {h : Heap} {x dx C : Addr} {mA : Str → Option Value} (I : ObjM h x dx C mA) : ∃ od, PySem.W.InstAt h x (PySem.W.instObj C dx) C (some od) ∧ ∀ name, PySem.W.lookIn name od = some (mA name) :=
  let ⟨od, ho, hl⟩ := lookIn_ns I.ns
  ⟨od, ⟨I.obj, rfl, rfl, ho⟩, hl⟩
section
variable {prog : Program} {w : World} {A : Around} {E : Value → Shared → Prop} {s : Shared} {K : PySem.W.Frag} {x dx C f : Addr} {mA : Str → Option Value} {name : Str} {v : Value}
end
/-! ### the attributes as a list of pairs -/
def putF (f : Str) (v : V) : List (Str × V) → List (Str × V)
  | [] => [(f, v)]
  | (g, x) :: r => if g = f then (g, v) :: r else (g, x) :: putF f v r
section
variable {P : Program} {w : World} {H H' : Hp} {h h' : Heap} {a C dx : Addr} {fs fs' : List (Str × V)}
theorem ins_get (hok : HOk P w H h) (e : H a = some (.ins C dx fs)) : ∃ mA, ObjM h a dx C mA ∧ (∀ f, RelO (fs.lookup f) (mA f)) ∧ PySem.Within mA (fs.map (·.1)) ∧ fs.length ≤ 1000 ∧ H dx = some (.own a) := by
  obtain ⟨d, z, ne, ob, mA, n, r, q⟩ := (show ObjOk P w H h a (.ins C dx fs) from hok a _ e)
  exact ⟨mA, ⟨ob, n, ne⟩, r, q, z, d⟩
end
/-! ### what of the text a class must have -/
structure Cls (K : PySem.W.Frag) (C : Addr) : Prop where
  pg : PySem.W.plainGet K C Str.empty = true
  hd : PySem.W.hasDictIn K C = true
  po : PySem.W.plainOver K C = true
  sa : PySem.W.findIn K (.ref C) "__setattr__" = some (some (.builtin "object.__setattr__"))
theorem Cls.get {K : PySem.W.Frag} {C : Addr} (c : Cls K C) (f : Str) : PySem.W.plainGet K C f = true := c.pg
/-- no class of it has the name -/
def NoAttr (K : PySem.W.Frag) (C : Addr) (f : Str) : Prop := PySem.W.findIn K (.ref C) f = some none
/-- a constant of the class -/
structure Con (K : PySem.W.Frag) (C : Addr) (f : Str) (v : V) (u : Value) : Prop where
  at_ : PySem.W.findIn K (.ref C) f = some (some u)
  rel : RelV v u
  get : PySem.W.specialIn K u "__get__" = some none
  cp : PySem.W.copiedNames.contains f = false
/-- a method: a plain def of the class or of one above it -/
structure Meth (K : PySem.W.Frag) (C : Addr) (m : Str) (f : Addr) : Prop where
  at_ : PySem.W.findIn K (.ref C) m = some (some (.ref f))
  fn : PySem.W.isFn K (.ref f) = true
  kp : PySem.W.keepIn K (.ref f) = true
section
variable {X : Cx} {pins : List (Addr × Obj)} {σ : St} {H : Hp} {s : Shared} {a C dx : Addr} {fs : List (Str × V)} {f : Str} {v : V} {A : Around} {E : Value → Shared → Prop}
end
/-! ### readings and rules -/
/-- e.f, an attribute of the instance -/
def tFld (K : PySem.W.Frag) (ta : TE) (f : Str) : TE := fun σ H Q => ta σ H fun x H1 => ∃ a C dx fs v, x = .ref a ∧ H1 a = some (.ins C dx fs) ∧ Cls K C ∧ NoAttr K C f ∧ fs.lookup f = some v ∧ Q v H1
/-- e.f, a constant of the class -/
def tCon (K : PySem.W.Frag) (ta : TE) (f : Str) : TE := fun σ H Q => ta σ H fun x H1 => ∃ a C dx fs v u, x = .ref a ∧ H1 a = some (.ins C dx fs) ∧ Cls K C ∧ Con K C f v u ∧ fs.lookup f = none ∧ Q v H1
/-- e.f = value -/
def sFld (K : PySem.W.Frag) (ta tv : TE) (f : Str) : TS := fun D σ H => tv σ H fun y H1 => ta σ H1 fun x H2 => ∃ a C dx fs, x = .ref a ∧ H2 a = some (.ins C dx fs) ∧ Cls K C ∧ NoAttr K C f ∧ fs.length < 1000 ∧
  D.nx σ (upd H2 a (.ins C dx (putF f y fs)))
/-- an augmented operator on two values -/
def InOp (X : Cx) (op : Operator) (rd : V → V → Hp → VK → Prop) : Prop :=
  ∀ (pins : List (Addr × Obj)) (s : Shared) (σ : St) (H : Hp) (x y : V) (u v : Value) (Q : VK), Inv X pins σ H s → RelV x u → RelV y v → rd x y H Q → wpAny (model X.prog X.w) X.A (inplaceOp op u v) (EP X pins σ Q) X.xe s
/-- e.f op= value -/
def sFldAug (K : PySem.W.Frag) (ta tv : TE) (rd : V → V → Hp → VK → Prop) (f : Str) : TS := fun D σ H => ta σ H fun x H1 => ∃ a C dx fs v, x = .ref a ∧ H1 a = some (.ins C dx fs) ∧ Cls K C ∧ NoAttr K C f ∧ fs.lookup f = some v ∧
  tv σ H1 fun y H2 => rd v y H2 fun z H3 => ∃ dx' fs', H3 a = some (.ins C dx' fs') ∧ fs'.length < 1000 ∧ D.nx σ (upd H3 a (.ins C dx' (putF f z fs')))
section
variable {X : Cx} {o e value : Expr} {f : Str} {pos pos' tpos : Pos} {ta tv : TE}
end
/-! ### isinstance -/
section
variable {X : Cx} {pins : List (Addr × Obj)} {σ : St} {H : Hp} {s : Shared} {A : Around} {E : Value → Shared → Prop} {Q : Value → Shared → Prop} {c : Value} {b : Bool}
/-- the type of a value, as the fragment's deciders take it; for an instance its class -/
inductive TyOf (K : PySem.W.Frag) (H : Hp) : V → Value → Prop where
  | non : TyOf K H .non (.type "NoneType")
  | bl (x : Bool) : TyOf K H (.bl x) (.type "bool")
  | int (i : Int) : TyOf K H (.int i) (.type "int")
  | str (x : Str) : TyOf K H (.str x) (.type "str")
  | flt (x : UInt64) : TyOf K H (.flt x) (.type "float")
  | lst {a : Addr} {xs : List V} (e : H a = some (.lst xs)) : TyOf K H (.ref a) (.type "list")
  | frz {a : Addr} {o : Obj} {xs : List V} (e : H a = some (.frz o (.lst xs))) : TyOf K H (.ref a) (.type "list")
  | tup {a : Addr} {xs : List V} (e : H a = some (.tup xs)) : TyOf K H (.ref a) (.type "tuple")
  | dK {a : Addr} {kvs : List (Key × V)} (e : H a = some (.dK kvs)) : TyOf K H (.ref a) (.type "dict")
  | dT {a : Addr} {kvs : List (List Key × V)} (e : H a = some (.dT kvs)) : TyOf K H (.ref a) (.type "dict")
  | ins {a C dx : Addr} {fs : List (Str × V)} (e : H a = some (.ins C dx fs)) (cl : Cls K C) (ha : PySem.W.findIn K (.ref C) "__class__" = some (some (.builtin "object.__class__")))
      (hn : PySem.W.specialIn K (.builtin "object.__class__") "__get__" = some (some (.builtin "getset_descriptor.__get__"))) (htk : PySem.W.takesIn K (.builtin "object.__class__") = some true)
      (hm : PySem.W.mroIn K C (.type "object") = some true) : TyOf K H (.ref a) (.ref C)
/-- isinstance(x, c) for one class c, a built-in or an own one: kitOne's answer -/
theorem isinst_ok {x : V} {u t : Value} (I : Inv X pins σ H s) (rx : RelV x u) (ty : TyOf X.K H x t) (e : PySem.W.kitOne X.K t c = some b) (h : ∀ tk, Q (.bool b) { s with toks := tk }) :
    wpAny (model X.prog X.w) A (call (.builtin "isinstance") [u, c]) Q E s := by
  cases ty with
  | non => cases (show u = Value.none from rx); exact PySem.W.kia_one PySem.W.kitx_none I.kIn True.intro e (fun z => nomatch z) h
  | bl y => cases (show u = Value.bool y from rx); exact PySem.W.kia_one PySem.W.kitx_bool I.kIn True.intro e (fun z => nomatch z) h
  | int i => obtain ⟨t, q⟩ := (show ∃ t, u = Value.int i t from rx); cases q; exact PySem.W.kia_one PySem.W.kitx_int I.kIn True.intro e (fun z => nomatch z) h
  | str y => obtain ⟨t, q⟩ := (show ∃ t, u = Value.str y t from rx); cases q; exact PySem.W.kia_one PySem.W.kitx_str I.kIn True.intro e (fun z => nomatch z) h
  | flt y => obtain ⟨t, q⟩ := (show ∃ t, u = Value.float y t from rx); cases q; exact PySem.W.kia_one PySem.W.kitx_float I.kIn True.intro e (fun z => nomatch z) h
  | @lst a xs ea =>
    cases (show u = Value.ref a from rx)
    obtain ⟨_, _, n, _, h1⟩ := (show ObjOk X.prog X.w H s.heap a (.lst xs) from I.hok a _ ea)
    exact PySem.W.kia_one PySem.W.kitx_list I.kIn ⟨_, h1, rfl⟩ e (fun z => nomatch z) h
  | @frz a ob xs ea =>
    cases (show u = Value.ref a from rx)
    obtain ⟨_, _, _, n, _, h1⟩ := (show ObjOk X.prog X.w H s.heap a (.frz ob (.lst xs)) from I.hok a _ ea)
    exact PySem.W.kia_one PySem.W.kitx_list I.kIn ⟨_, h1, rfl⟩ e (fun z => nomatch z) h
  | @tup a xs ea =>
    cases (show u = Value.ref a from rx)
    obtain ⟨_, _, _, p⟩ := (show ObjOk X.prog X.w H s.heap a (.tup xs) from I.hok a _ ea)
    obtain ⟨o, h1, h2, _⟩ := p
    exact PySem.W.kia_one PySem.W.kitx_tuple I.kIn ⟨o, h1, h2⟩ e (fun z => nomatch z) h
  | @dK a kvs ea =>
    cases (show u = Value.ref a from rx)
    obtain ⟨_, _, vs, _, p⟩ := (show ObjOk X.prog X.w H s.heap a (.dK kvs) from I.hok a _ ea)
    obtain ⟨o, es, ep, h1, h2, _⟩ := p
    exact PySem.W.kia_one PySem.W.kitx_dict I.kIn ⟨o, h1, h2.1⟩ e (fun z => nomatch z) h
  | @dT a kvs ea =>
    cases (show u = Value.ref a from rx)
    obtain ⟨_, _, xs, _, o, es, ep, h1, h2, _⟩ := (show ObjOk X.prog X.w H s.heap a (.dT kvs) from I.hok a _ ea)
    exact PySem.W.kia_one PySem.W.kitx_dict I.kIn ⟨o, h1, h2.1⟩ e (fun z => nomatch z) h
  | @ins a C dx fs ea cl ha hn htk hm =>
    cases (show u = Value.ref a from rx)
    obtain ⟨mA, O, _⟩ := ins_get I.hok ea
    obtain ⟨od, J, _⟩ := O.look
    exact PySem.W.kia_one (PySem.W.kitx_own (cl.get _) cl.hd ha hn htk hm) I.kIn J e (fun z => nomatch z) h
end
end L2
namespace L2
open PySem PySem.Spec PyProof.Rows
/-! ### room -/
structure Room (k : Nat) (A : Around) : Prop where
  hd : A.handled = none
  dp : A.depth + 3 * k + 5 < recursionLimit
  un : A.units + 16 * k + 200 < cLine
theorem Room.deeper {k : Nat} {A : Around} (r : Room (k + 1) A) (env : Env) : Room k (A.deeper env) :=
  ⟨r.hd, by have := r.dp; show A.depth + 1 + 3 * k + 5 < _; omega, by have := r.un; show A.units + 3 + 16 * k + 200 < _; omega⟩
theorem Room.depth {k : Nat} {A : Around} (r : Room k A) : A.depth < recursionLimit := by have := r.dp; omega
/-! ### argument lists and displays -/
def tNil : TA := fun _ H Q => Q [] H
def tCons (ta : TE) (tr : TA) : TA := fun σ H Q => ta σ H fun x H1 => tr σ H1 fun xs H2 => Q (x :: xs) H2
section
variable {X : Cx} {e : Expr} {es : List Expr} {te : TE} {t : TA} {pos : Pos}
theorem pa_nil : PA X [] tNil := fun _ _ _ _ H Q I h => Calls.spliced_nil ⟨[], H, I, .nil, h⟩
theorem pa_cons (ha : PE X e te) (hr : PA X es t) (hs : starEach (e :: es) X.env = (false, eval e X.env) :: starEach es X.env := by rfl) : PA X (e :: es) (tCons te t) := by
  intro pos pins s σ H Q I h
  rw [hs]
  show wpAny _ _ (spliced ((false, eval e X.env) :: backTo pos (starEach es X.env))) _ _ s
  refine Calls.spliced_cons (thn (ha pins s σ H _ I h) fun u s1 ⟨x, H1, I1, r1, q1⟩ => ?_)
  exact thn (hr pos pins s1 σ H1 _ I1 q1) fun us s2 ⟨xs, H2, I2, r2, q2⟩ => ⟨x :: xs, H2, I2, .cons r1 r2, q2⟩
/-- a tuple, a list of written items -/
def tTup (t : TA) : TE := fun σ H Q => t σ H fun xs H1 => xs.length ≤ sizeLine ∧ ∀ p, H1 p = none → Q (.ref p) (upd H1 p (.tup xs))
def tLst (t : TA) : TE := fun σ H Q => t σ H fun xs H1 => xs.length ≤ sizeLine ∧ ∀ p, H1 p = none → Q (.ref p) (upd H1 p (.lst xs))
theorem pe_tup {x1} (h : PA X es t) : PE X (.Tuple es x1 pos) (tTup t) := by
  intro pins s σ H Q I hq
  refine wpAny_Tuple_spliced (thn (h pos pins s σ H _ I hq) fun us s1 ⟨xs, H1, I1, r, z, q⟩ => ⟨by rw [← r.length]; exact z, ?_⟩)
  have hf : H1 s1.heap.objs.size = none := I1.hok.fresh (Nat.le_refl _)
  refine ⟨.ref s1.heap.objs.size, upd H1 s1.heap.objs.size (.tup xs), I1.laid (t' := s1.toks) (fun b u e => Heap.get?_push_of_some _ e) (Nat.le_refl _) ?_, rfl, q _ hf⟩
  exact ⟨z, us, r, ⟨_, Heap.get?_push_size _ rfl, rfl, _, rfl⟩⟩
theorem pe_lst (h : PA X es t) : PE X (.List es pos) (tLst t) := by
  intro pins s σ H Q I hq
  refine wpAny_List_spliced (thn (h pos pins s σ H _ I hq) fun us s1 ⟨xs, H1, I1, r, z, q⟩ => ⟨by rw [← r.length]; exact z, ?_⟩)
  have hf : H1 s1.heap.objs.size = none := I1.hok.fresh (Nat.le_refl _)
  refine ⟨.ref s1.heap.objs.size, upd H1 s1.heap.objs.size (.lst xs), I1.laid (t' := s1.toks) (fun b u e => Heap.get?_push_of_some _ e) (Nat.le_refl _) ?_, rfl, q _ hf⟩
  exact ⟨z, us, 0, r, Heap.get?_push_size _ rfl⟩
end
/-! ### what a def promises -/
/-- a def's promise: the bound arguments in the parameters' order, the heap, the wanted end, the wanted exception -/
abbrev Sp := List V → Hp → VK → XK → Prop
/-- how an exception lies behind a call (file 08 gives it): the callers' frames, abstract heap and state ahead of the call, the wish, the exception, the state -/
abbrev CXT := List Env → Hp → Shared → XK → Value → Shared → Prop
/-- the state at a call -/
structure Env0 (P : Program) (w : World) (K : PySem.W.Frag) (mg : Str → Option Value) (base : Heap) (A : Around) (outer : List Env) (s : Shared) (H : Hp) : Prop where
  frames : A.frames = some outer
  mod : Mod K mg base
  bs : ∀ b o, base.get? b = some o → s.heap.get? b = some o ∧ H b = none
  bsz : base.objs.size ≤ s.heap.objs.size
  funs : s.heap.FunFrames base outer
  frf : ∀ b ∈ frs outer, H b = none
  hok : HOk P w H s.heap
  bare : AllBare s.gens
/-- a call's end -/
def CE (outer : List Env) (P : Program) (w : World) (H : Hp) (s : Shared) (Q : VK) (u : Value) (s' : Shared) : Prop :=
  ∃ v H', s'.os = s.os ∧ AllBare s'.gens ∧ Un (frs outer) [] H H' s.heap s'.heap ∧ HOk P w H' s'.heap ∧ RelV v u ∧ Q v H'
def CR (CX : CXT) (outer : List Env) (P : Program) (w : World) (H : Hp) (s : Shared) (Q : VK) (E : XK) (r : Result) (s' : Shared) : Prop :=
  match r with
  | .ok (.ret u) => CE outer P w H s Q u s'
  | .ok _ => False
  | .error e => CX outer H s E e s'
structure FnOk (P : Program) (w : World) (K : PySem.W.Frag) (mg : Str → Option Value) (base : Heap) (CX : CXT) (k : Nat) (f : Addr) (fd : FuncData) (ps : List Str) (sp : Sp) : Prop where
  len : ∀ vs H Q E, sp vs H Q E → vs.length = ps.length
  run : ∀ (A : Around) (outer : List Env) (s : Shared) (H : Hp) (args : Args) (us : List Value) (vs : List V) (Q : VK) (E : XK), Room k A → Env0 P w K mg base A outer s H → BindsTo s fd args (ps.zip us) → Vals vs us → sp vs H Q E →
    codeAny (model P w) A (.call (.ref f) args) (CR CX outer P w H s Q E) s
section
variable {X : Cx} {pins : List (Addr × Obj)} {σ : St} {H : Hp} {s s' : Shared}
/-- from a body: what a callee wants -/
theorem Inv.env0 (I : Inv X pins σ H s) : Env0 X.prog X.w X.K X.mg X.base X.A X.stack s H :=
  ⟨I.ok.frames, I.ok.mod, I.bs, Nat.le_trans I.ok.bsz I.sz, I.stack, I.stkFree, I.hok, I.bare⟩
/-- behind a call -/
theorem Inv.after {Q : VK} {u : Value} (I : Inv X pins σ H s) (h : CE X.stack X.prog X.w H s Q u s') : EP X pins σ Q u s' := by
  obtain ⟨v, H', os, bare, un, hok, r, q⟩ := h
  obtain ⟨hh, g, d, t, os'⟩ := s'
  obtain rfl : os' = s.os := os
  exact ⟨v, H', I.call (h' := hh) (g' := g) (d' := d) (t' := t) (ch := []) un hok bare (fun b z => absurd z (by simp)), r, q⟩
end
/-! ### calls -/
/-- f(..): the written arguments, then the defaults dvs; E: what is wanted of an exception -/
def tCall (sp : Sp) (dvs : List V) (E : XK) (t : TA) : TE := fun σ H Q => t σ H fun vs H1 => sp (vs ++ dvs) H1 Q E
/-- o.m(..) of an instance of the class at C -/
def tMeth (C : Addr) (m : Str) (sp : Sp) (dvs : List V) (E : XK) (ta : TE) (t : TA) : TE := fun σ H Q => ta σ H fun x H1 => ∃ a dx fs, x = .ref a ∧ H1 a = some (.ins C dx fs) ∧ fs.lookup m = none ∧
  t σ H1 fun vs H2 => sp (x :: (vs ++ dvs)) H2 Q E
/-- C(..): a new instance and its dict, then __init__ -/
def tMake (C : Addr) (sp : Sp) (dvs : List V) (E : XK) (t : TA) : TE := fun σ H Q => t σ H fun vs H1 => ∀ x dx, H1 x = none → H1 dx = none → dx ≠ x →
  sp (.ref x :: (vs ++ dvs)) (upd (upd H1 dx (.own x)) x (.ins C dx [])) (fun v H2 => v = .non ∧ Q (.ref x) H2) E
/-- how the parameters are bound: us the positional arguments, kw the keywords' values by name, ds the defaults that fill up -/
def Binds (K : PySem.W.Frag) (fd : FuncData) (ps : List Str) (ds : List Value) : Prop :=
  ∀ (s : Shared) (us : List Value), K.In s.heap → (us ++ ds).length = ps.length → BindsTo s fd ⟨us, []⟩ (ps.zip (us ++ ds))
/-- every parameter is given -/
theorem Binds.all {K : PySem.W.Frag} {fd : FuncData} {ps : List Str} (h : ∀ us : List Value, us.length = ps.length → bindArgs fd ⟨us, []⟩ = pure (ps.zip us)) : Binds K fd ps [] := fun s us _ hl => by
  rw [List.append_nil] at hl ⊢
  exact .of_eq (h us hl)
/-- an exception of a callee reaches what this body wants of exceptions -/
def Passes (CX : CXT) (X : Cx) (E : XK) : Prop := ∀ (pins : List (Addr × Obj)) (σ : St) (H : Hp) (s : Shared) (e : Value) (s' : Shared), Inv X pins σ H s → CX X.stack H s E e s' → X.xe e s'
section
variable {X : Cx} {CX : CXT} {k : Nat} {f C : Addr} {fd : FuncData} {ps : List Str} {sp : Sp} {dvs : List V} {ds : List Value} {E : XK} {x m : Str} {p pos apos : Pos} {e o : Expr} {es : List Expr} {ta : TE} {t : TA}
/-- the callee runs -/
theorem run_fn {pins : List (Addr × Obj)} {σ : St} {H : Hp} {s : Shared} {Q : VK} {us : List Value} {vs : List V} (F : FnOk X.prog X.w X.K X.mg X.base CX k f fd ps sp) (hr : Room k X.A) (hb : Binds X.K fd ps ds) (hd : Vals dvs ds) (hx : Passes CX X E)
    (I : Inv X pins σ H s) (r : Vals vs us) (h : sp (vs ++ dvs) H Q E) : wpAny (model X.prog X.w) X.A (call (.ref f) us) (EP X pins σ Q) X.xe s := by
  have r2 : Vals (vs ++ dvs) (us ++ ds) := r.append hd
  have hl : (us ++ ds).length = ps.length := by rw [← r2.length]; exact F.len _ _ _ _ h
  refine wpAny_call (codeAny_mono (F.run X.A X.stack s H ⟨us, []⟩ (us ++ ds) (vs ++ dvs) Q E hr I.env0 (hb s us I.kIn hl) r2 h) fun r s' hq => ?_)
  cases r with
  | error e => exact hx pins σ H s e s' I hq
  | ok fl =>
    cases fl with
    | ret u => exact I.after hq
    | next => exact False.elim hq
    | brk => exact False.elim hq
    | cont => exact False.elim hq
theorem pe_call (F : FnOk X.prog X.w X.K X.mg X.base CX k f fd ps sp) (hr : Room k X.A) (hg : Gl X x) (hm : X.mg x = some (.ref f)) (hk : PySem.W.keepIn X.K (.ref f) = true) (hb : Binds X.K fd ps ds) (hd : Vals dvs ds) (hx : Passes CX X E)
    (ha : PA X (e :: es) t) (hdb : (x == ("__debug__" : Str)) = false := by decide) (he : starEach (e :: es) X.env = (false, eval e X.env) :: starEach es X.env := by rfl) (hpl : (backTo pos (starEach es X.env)).any (·.1) = false := by rfl) :
    PE X (.Call (.Name x p) (e :: es) [] pos) (tCall sp dvs E t) := by
  intro pins s σ H Q I h
  refine wpAny_Call_Name_kw (ld_glob I hg hm ?_ hdb)
  refine PySem.W.callWith_K (h₀ := X.base) I.ok.mod.kin hk (thn (ha pos pins s σ H _ I h) fun us s1 ⟨vs, H1, I1, r, q⟩ => ⟨I1.kIn, ?_⟩) he hpl
  exact run_fn F hr hb hd hx I1 r q
/-- what a class must have to be made -/
structure Mk (K : PySem.W.Frag) (C f : Addr) : Prop where
  makes : PySem.W.makesIn K C = true
  init : PySem.W.findIn K (.ref C) "__init__" = some (some (.ref f))
  fn : PySem.W.isFn K (.ref f) = true
  kp : PySem.W.keepIn K (.ref C) = true
end
/-! ### keywords -/
/-- the values of the keywords, from the left -/
def PK (X : Cx) (kws : List Keyword) (t : TA) : Prop :=
  ∀ (pos : Pos) (pins : List (Addr × Obj)) (s : Shared) (σ : St) (H : Hp) (Q : List V → Hp → Prop), Inv X pins σ H s → t σ H Q → wpAny (model X.prog X.w) X.A (evalAll ((backToKw pos (keywordEach kws X.env)).map (·.2))) (AP X pins σ Q) X.xe s
section
variable {X : Cx} {CX : CXT} {k : Nat} {f C : Addr} {fd : FuncData} {ps ks : List Str} {sp : Sp} {E : XK} {x m : Str} {p pos apos kpos : Pos} {e o : Expr} {es : List Expr} {kws : List Keyword} {te ta : TE} {t tk : TA} {nm : Option Str}
/-- how a call with keywords binds: g puts the positional values us and the keywords' values ws (names ks) in the parameters' order, defaults among them -/
structure KBinds (K : PySem.W.Frag) (fd : FuncData) (ps ks : List Str) (g : List Value → List Value → List Value) (gV : List V → List V → List V) : Prop where
  to : ∀ (s : Shared) (us ws : List Value), K.In s.heap → (g us ws).length = ps.length → BindsTo s fd ⟨us, ks.zip ws⟩ (ps.zip (g us ws))
  rel : ∀ {vs : List V} {us : List Value} {zs : List V} {ws : List Value}, Vals vs us → Vals zs ws → Vals (gV vs zs) (g us ws)
variable {g : List Value → List Value → List Value} {gV : List V → List V → List V}
end
/-! ### a def's body keeps its promise -/
/-- names: the parameters first -/
structure FnScope (N P : List Str) (sc : Scope) : Prop where
  kind : sc.kind = .function
  co : sc.isCoroutine = false
  gen : sc.isGenerator = false
  nd : N.Nodup
  pre : N.take P.length = P
  par : ∀ x ∈ P, sc.names.lookup x = some .local ∨ sc.names.lookup x = some .cell
  nofree : ∀ y ∈ sc.names, y.2 ≠ .free
theorem bindL_out {kindOf : Str → Option NameKind} {x : Str} : ∀ {binds : List (Str × Value)} {m : Str → Option Value}, (∀ v, (x, v) ∉ binds) → bindL kindOf binds m x = m x
  | [], _, _ => rfl
  | (n, v) :: r, m, h => by
    unfold bindL
    rw [bindL_out fun w hw => h w (List.mem_cons_of_mem _ hw)]
    split
    · have : x ≠ n := by rintro rfl; exact h v List.mem_cons_self
      simp [this]
    · rfl
theorem bindC_out {kindOf : Str → Option NameKind} {x : Str} : ∀ {binds : List (Str × Value)} {m : Str → Option Value}, (∀ v, (x, v) ∉ binds) → bindC kindOf binds m x = m x
  | [], _, _ => rfl
  | (n, v) :: r, m, h => by
    unfold bindC
    rw [bindC_out fun w hw => h w (List.mem_cons_of_mem _ hw)]
    split
    · rfl
    · have : x ≠ n := by rintro rfl; exact h v List.mem_cons_self
      simp [this]
theorem bindL_get {kindOf : Str → Option NameKind} {x : Str} {v : Value} : ∀ {P : List Str} {vs : List Value} {i : Nat} {m : Str → Option Value}, P.Nodup → P[i]? = some x → vs[i]? = some v → kindOf x = some .local →
    bindL kindOf (P.zip vs) m x = some v
  | [], _, _, _, _, h, _, _ => by simp at h
  | _ :: _, [], _, _, _, _, h, _ => by simp at h
  | p :: P, w :: vs, 0, m, nd, h1, h2, hk => by
    simp at h1 h2; subst h1; subst h2
    show bindL kindOf ((p, w) :: P.zip vs) m p = _
    unfold bindL
    rw [bindL_out fun v hv => (List.nodup_cons.mp nd).1 (List.of_mem_zip hv).1, if_pos hk]
    simp
  | p :: P, w :: vs, i + 1, m, nd, h1, h2, hk => by
    show bindL kindOf ((p, w) :: P.zip vs) m x = _
    unfold bindL
    exact bindL_get (i := i) (List.nodup_cons.mp nd).2 (by simpa using h1) (by simpa using h2) hk
theorem bindC_get {kindOf : Str → Option NameKind} {x : Str} {v : Value} : ∀ {P : List Str} {vs : List Value} {i : Nat} {m : Str → Option Value}, P.Nodup → P[i]? = some x → vs[i]? = some v → kindOf x ≠ some .local →
    bindC kindOf (P.zip vs) m x = some v
  | [], _, _, _, _, h, _, _ => by simp at h
  | _ :: _, [], _, _, _, _, h, _ => by simp at h
  | p :: P, w :: vs, 0, m, nd, h1, h2, hk => by
    simp at h1 h2; subst h1; subst h2
    show bindC kindOf ((p, w) :: P.zip vs) m p = _
    unfold bindC
    rw [bindC_out fun v hv => (List.nodup_cons.mp nd).1 (List.of_mem_zip hv).1, if_neg hk]
    simp
  | p :: P, w :: vs, i + 1, m, nd, h1, h2, hk => by
    show bindC kindOf ((p, w) :: P.zip vs) m x = _
    unfold bindC
    exact bindC_get (i := i) (List.nodup_cons.mp nd).2 (by simpa using h1) (by simpa using h2) hk
/-- the names' values at the entry -/
def start (N : List Str) (vs : List V) : St := vs.map some ++ List.replicate (N.length - vs.length) none
/-- the context of a def's body, at its entry; an exception leaves the frame, then lies as CX says -/
def cxOf (CX : CXT) (P : Program) (w : World) (K : PySem.W.Frag) (mg : Str → Option Value) (base : Heap) (N : List Str) (qual : Str) (scope : Scope) (f : Addr) (cd : Value) (A : Around) (outer : List Env) (s : Shared) (H : Hp) (E : XK) : Cx where
  prog := P
  w := w
  K := K
  mg := mg
  base := base
  A := A.deeper (envOfC qual scope s.heap.objs.size f cd)
  N := N
  s₀ := s
  H₀ := H
  env := envOfC qual scope s.heap.objs.size f cd
  outer := outer
  stack := envOfC qual scope s.heap.objs.size f cd :: outer
  ex := []
  calm := true
  fn := fun _ => true
  pn := []
  xe := fun e s' => wpAny (model P w) (A.deeper (envOfC qual scope s.heap.objs.size f cd)) (leaving (envOfC qual scope s.heap.objs.size f cd) e) (fun _ s'' => CX outer H s E e s'') (fun e' s'' => CX outer H s E e' s'') s'
theorem cell_has {sc : Scope} {n : Nat} {x : Str} (h : sc.names.lookup x = some .cell) : ∃ c, (cellsFrom n sc.names []).lookup x = some c := by
  have q := PySem.W.cellsFrom_some sc.names n [] (.inl h)
  exact Option.isSome_iff_exists.mp q
theorem inv_start {CX : CXT} {P : Program} {w : World} {K : PySem.W.Frag} {mg : Str → Option Value} {base : Heap} {N ps : List Str} {qual : Str} {scope : Scope} {f : Addr} {cd : Value} {A : Around} {outer : List Env} {s s1 : Shared} {H : Hp} {E : XK} {us : List Value} {vs : List V}
    (S : FnScope N ps scope) (hd : A.handled = none) (e0 : Env0 P w K mg base A outer s H) (hl : vs.length = ps.length) (r : Vals vs us)
    (x : InCallC s s.heap.objs.size (bindL (envOfC qual scope s.heap.objs.size f cd).kindOf (ps.zip us) fun _ => none) (cellsFrom (s.heap.objs.size + 1) scope.names []) (bindC (envOfC qual scope s.heap.objs.size f cd).kindOf (ps.zip us) fun _ => none) s1) :
    Inv (cxOf CX P w K mg base N qual scope f cd A outer s H E) [] (start N vs) H s1 := by
  have hpl : ps.length ≤ N.length := by have := congrArg List.length S.pre; rw [List.length_take] at this; omega
  obtain ⟨h1, tk, rfl, hk⟩ := x.done
  have noA : ∀ b : Addr, b ∉ (cxOf CX P w K mg base N qual scope f cd A outer s H E).ex := fun b z => absurd (show b ∈ ([] : List Addr) from z) (by simp)
  refine ⟨⟨e0.mod, S.kind, rfl, rfl, Nat.le_refl _, fun y z c h1 h2 => ?_, fun y hy => ?_, fun y c _ h => ?_, fun _ => hd, Around.frames_deeper e0.frames, .inr ⟨rfl, rfl⟩, fun b z => absurd z (noA b), e0.bs, e0.bsz, fun b _ _ => noA b, fun b z => absurd z (noA b), e0.funs, e0.frf⟩,
    rfl, e0.bare, Un.kept hk, ⟨_, x.toInCall.ns, fun i y v h1 h2 h3 => ?_⟩, fun y c h => ⟨_, x.cell y c h⟩, e0.hok.fresh (Nat.le_refl _), fun y c h => ?_, fun p hp => absurd (show p ∈ ([] : List (Addr × Obj)) from hp) (by simp), e0.hok.kept hk, ?_⟩
  · exact name_of_addr x.apart (PySem.mem_of_lookup h1) (PySem.mem_of_lookup h2)
  · have hy : scope.names.lookup y = some .cell ∨ scope.names.lookup y = some .free := hy
    rcases hy with hy | hy
    · exact cell_has hy
    · exact absurd rfl (S.nofree _ (PySem.mem_of_lookup hy))
  · exact Nat.le_of_lt (x.above y c (PySem.mem_of_lookup h))
  · have hi : i < vs.length := by
      unfold start at h2
      by_cases hi : i < vs.length
      · exact hi
      · rw [List.getElem?_append_right (by simpa using hi)] at h2
        rw [List.getElem?_replicate] at h2
        split at h2 <;> cases h2
    have ha : vs[i]? = some v := by
      unfold start at h2
      rw [List.getElem?_append_left (by simpa using hi), List.getElem?_map] at h2
      cases e : vs[i]? with
      | none => rw [e] at h2; cases h2
      | some a => rw [e] at h2; cases h2; rfl
    obtain ⟨u, hu, rv⟩ := r.get ha
    have hp : ps[i]? = some y := by
      rw [← S.pre, List.getElem?_take_of_lt (by omega)]; exact h1
    have ndP : ps.Nodup := by rw [← S.pre]; exact S.nd.sublist (List.take_sublist _ _)
    refine ⟨u, rv, ?_⟩
    rcases S.par y (List.mem_of_getElem? hp) with k | k
    · exact .inl ⟨k, bindL_get ndP hp hu k⟩
    · obtain ⟨c, e⟩ := cell_has (n := s.heap.objs.size + 1) k
      refine .inr ⟨.inl k, c, e, ?_⟩
      have q := x.cell y c e
      rw [bindC_get ndP hp hu (by show scope.names.lookup y ≠ _; rw [k]; decide)] at q
      exact q
  · exact e0.hok.fresh (Nat.le_of_lt (x.above y c (PySem.mem_of_lookup h)))
  · unfold start
    show _ = N.length
    rw [List.length_append, List.length_map, List.length_replicate]
    omega
/-- THE RULE: a def (or a method) of the text, by its body. The body's reading t is chosen for each entry; it is run at the parameters' values -/
theorem fn_of {CX : CXT} {P : Program} {w : World} {K : PySem.W.Frag} {mg : Str → Option Value} {base : Heap} {k : Nat} {f : Addr} {name qual : Str} {params : Arguments} {body : List Stmt} {scope : Scope} {dV kV doc pm cdv ct oc : Value} {an od : Option Addr}
    {osl : Array (Option Value)} {N ps : List Str} {sp : Sp} (lk : K.lookup f = some ⟨oc, od, .func (PySem.W.fnOf name qual params body scope dV kV doc pm an cdv ct), osl⟩) (hcd : PySem.W.codeIn K cdv qual = true) (S : FnScope N ps scope)
    (len : ∀ vs H Q E, sp vs H Q E → vs.length = ps.length)
    (hbody : ∀ (A : Around) (outer : List Env) (s : Shared) (H : Hp) (vs : List V) (Q : VK) (E : XK), Room k (A.deeper (envOfC qual scope s.heap.objs.size f cdv)) → sp vs H Q E →
      ∃ t, PSs (cxOf CX P w K mg base N qual scope f cdv A outer s H E) body t ∧ t { nx := fun _ H' => Q .non H', rt := Q } (start N vs) H) :
    FnOk P w K mg base CX (k + 1) f (PySem.W.fnOf name qual params body scope dV kV doc pm an cdv ct) ps sp := by
  refine ⟨len, fun A outer s H args us vs Q E hr e0 hb r hsp => ?_⟩
  have hl := len _ _ _ _ hsp
  have KX : K.In s.heap := e0.mod.kin.keeps fun b o e => (e0.bs b o e).1
  have lim : s.heap.NoLimit := e0.mod.nolimit.keeps fun b o e => (e0.bs b o e).1
  have hkind : ∀ y ∈ ps.zip us, scope.names.lookup y.1 = some .local ∨ (scope.names.lookup y.1 = some .cell ∧ ((cellsFrom (s.heap.objs.size + 1) scope.names []).lookup y.1).isSome = true) := fun ⟨n, v⟩ hy => by
    rcases S.par n (List.of_mem_zip hy).1 with q | q
    · exact .inl q
    · exact .inr ⟨q, PySem.W.cellsFrom_some _ _ _ (.inl q)⟩
  refine codeAny_call_function hr.depth (KX _ _ lk) rfl S.co S.gen rfl (PySem.W.codeRec_of KX hcd) (hb _ _ _ _ ?_)
  refine wpAny_newFunctionEnv_cells S.kind hkind fun env he s1 x => ?_
  subst he
  refine ⟨lim.keeps x.toInCall.keep, codeAny_func ?_⟩
  obtain ⟨t, ht, hq⟩ := hbody A outer s H vs Q E (hr.deeper _) hsp
  have I : Inv (cxOf CX P w K mg base N qual scope f cdv A outer s H E) [] (start N vs) H s1 := inv_start S hr.hd e0 hl r x
  refine wpAny_mono (ht [] s1 (start N vs) H _ I hq) (fun fl s' hs => ?_) fun e s' hs => hs
  have fin : ∀ {σ' : St} {H' : Hp} {v : V} {u : Value}, Inv (cxOf CX P w K mg base N qual scope f cdv A outer s H E) [] σ' H' s' → RelV v u → Q v H' → CE outer P w H s Q u s' :=
    fun {σ' H' v u} J rv q => ⟨v, H', J.os, J.bare, J.base, J.hok, rv, q⟩
  cases fl with
  | ret u =>
    obtain ⟨v, σ', H', J, rv, q⟩ := hs
    exact fin J rv q
  | next =>
    obtain ⟨σ', H', J, q⟩ := hs
    exact fin (v := V.non) (u := Value.none) J rfl q
  | brk =>
    obtain ⟨_, _, _, q⟩ := hs
    exact False.elim q
  | cont =>
    obtain ⟨_, _, _, q⟩ := hs
    exact False.elim q
end L2
namespace L2
open PySem PySem.Spec PyProof.Rows
section
variable {X : Cx} {x : Str} {p pos : Pos} {e : Expr} {es : List Expr} {t : TA} {id T : String} {r : List V → Hp → VK → Prop}
def tCB (r : List V → Hp → VK → Prop) (t : TA) : TE := fun σ H Q => t σ H fun vs H1 => r vs H1 Q
/-- f(e, ..), f a built-in function -/
theorem pe_callB (hc : CallR X (.builtin id) r) (hg : Gl X x) (hm : X.mg x = none) (hv : bootBuiltins x = some (.builtin id)) (ha : PA X (e :: es) t) (hn : x ≠ "__name__" := by decide) (hdb : (x == ("__debug__" : Str)) = false := by decide)
    (he : starEach (e :: es) X.env = (false, eval e X.env) :: starEach es X.env := by rfl) (hpl : (backTo pos (starEach es X.env)).any (·.1) = false := by rfl) : PE X (.Call (.Name x p) (e :: es) [] pos) (tCB r t) := by
  intro pins s σ H Q I h
  refine wpAny_Call_Name_kw (ld_blt I hg hm hv ?_ hn hdb)
  exact PyProof.Rows.callWith_builtin1 (thn (ha pos pins s σ H _ I h) fun us s1 ⟨vs, H1, I1, r1, q1⟩ => hc pins s1 σ H1 vs us Q I1 r1 q1) he hpl
/-- T(e, ..), T a built-in type -/
theorem pe_callTy (hc : CallR X (.type T) r) (hg : Gl X x) (hm : X.mg x = none) (hv : bootBuiltins x = some (.type T)) (ha : PA X (e :: es) t) (hn : x ≠ "__name__" := by decide) (hdb : (x == ("__debug__" : Str)) = false := by decide)
    (he : starEach (e :: es) X.env = (false, eval e X.env) :: starEach es X.env := by rfl) (hpl : (backTo pos (starEach es X.env)).any (·.1) = false := by rfl) : PE X (.Call (.Name x p) (e :: es) [] pos) (tCB r t) := by
  intro pins s σ H Q I h
  refine wpAny_Call_Name_kw (ld_blt I hg hm hv ?_ hn hdb)
  exact PyProof.Rows.callWith_type1 (thn (ha pos pins s σ H _ I h) fun us s1 ⟨vs, H1, I1, r1, q1⟩ => hc pins s1 σ H1 vs us Q I1 r1 q1) he hpl
end
end L2
namespace HT
open PySem PyProof.Rows
/-- t < u of tuples of ints -/
def lexLt : List Int → List Int → Bool
  | [], [] => false
  | [], _ :: _ => true
  | _ :: _, [] => false
  | x :: xs, y :: ys => if x = y then lexLt xs ys else decide (x < y)
section
open PySem.SeqAt
open PySem.AutoSeq1 (wpAny_loadPart')
open PySem.MeetsSeq PySem.MeetsSeq2 PySem.MeetsSeq3
end
section
variable {prog : Program} {w : World} {A : Around} {E : Value → Shared → Prop} {s : Shared}
/-- t + u, t not empty -/
theorem cat_tup {t b : Addr} {vs ws : List Value} {Q : Value → Shared → Prop} (ht : IsTup s.heap t vs.toArray) (hb : IsTup s.heap b ws.toArray) (hv : vs ≠ [])
    (h1 : ws = [] → Q (.ref t) s) (h2 : ws ≠ [] → Q (.ref s.heap.objs.size) { s with heap := s.heap.push { cls := .type "tuple", data := .seq (vs ++ ws).toArray } })
    (hsz : vs.length + ws.length ≤ sizeLine) : wpAny (model prog w) A (binaryOp .Add (.ref t) (.ref b)) Q E s := by
  obtain ⟨⟨cls, dd, data, sl⟩, ho, hc, n, hd⟩ := id ht
  obtain ⟨⟨cls2, dd2, data2, sl2⟩, ho2, hc2, n2, hd2⟩ := id hb
  simp only at hc hd hc2 hd2
  subst hc hd hc2 hd2
  have e : vs.toArray ++ ws.toArray = (vs ++ ws).toArray := by simp
  by_cases hw : ws = []
  · exact concat_meets ⟨_, ho, rfl⟩ ⟨_, ho2, rfl⟩ noFill_tuple_add seq_tuple_add PySem.F.slot_tuple_add PySem.F.entry_tuple_add (PySem.F.args_tuple_add_2 _ _)
      (tuple_addW1 t b vs.toArray ws.toArray n n2 dd dd2 sl sl2 (by simpa using hv) (by simp [hw])) ⟨ho, ho2, h1 hw⟩
  · refine concat_meets ⟨_, ho, rfl⟩ ⟨_, ho2, rfl⟩ noFill_tuple_add seq_tuple_add PySem.F.slot_tuple_add PySem.F.entry_tuple_add (PySem.F.args_tuple_add_2 _ _)
      (tuple_addW2 t b vs.toArray ws.toArray n n2 dd dd2 sl sl2 (by simpa using hv) (by simpa using hw) (by rw [List.size_toArray, List.size_toArray]; exact hsz)) ⟨ho, ho2, ?_⟩
    rw [e]
    exact h2 hw
/-! ### t[a:b], not the whole -/
/-- a slice's bound as a place among n (d where it is left out) -/
def sIx (n d : Nat) : Option Int → Nat
  | none => d
  | some v => if v < 0 then (v + (n : Int)).toNat else min v.toNat n
theorem sIx_none (n d : Nat) : sIx n d none = d := rfl
theorem sIx_nat (n d k : Nat) : sIx n d (some (k : Int)) = min k n := by
  show (if (k : Int) < 0 then ((k : Int) + (n : Int)).toNat else min (k : Int).toNat n) = min k n
  rw [if_neg (by omega), Int.toNat_natCast]
theorem sIx_le (n d : Nat) (hd : d ≤ n) (o : Option Int) : sIx n d o ≤ n := by
  cases o with
  | none => exact hd
  | some v =>
    show (if v < 0 then (v + (n : Int)).toNat else min v.toNat n) ≤ n
    by_cases hv : v < 0
    · rw [if_pos hv]; omega
    · rw [if_neg hv]; exact Nat.min_le_right _ _
theorem clip_eq (v : Int) (n d : Nat) : (if v < 0 then max (v + (n : Int)) 0 else min v (n : Int)) = ((sIx n d (some v) : Nat) : Int) := by
  show (if v < 0 then max (v + (n : Int)) 0 else min v (n : Int)) = (((if v < 0 then (v + (n : Int)).toNat else min v.toNat n) : Nat) : Int)
  by_cases hv : v < 0
  · simp only [if_pos hv]; omega
  · simp only [if_neg hv]; omega
theorem adjust_gen (lo hi : Option Int) (n : Nat) : Builtin.Slice.sliceAdjust lo hi 1 (n : Int) = (((sIx n 0 lo : Nat) : Int), ((sIx n n hi : Nat) : Int)) := by
  have h1 : ¬ ((1 : Int) < 0) := by omega
  unfold Builtin.Slice.sliceAdjust
  simp only [h1, if_false]
  refine Prod.ext ?_ ?_
  · cases lo with
    | none => rfl
    | some v => exact clip_eq v n 0
  · cases hi with
    | none => rfl
    | some v => exact clip_eq v n n
theorem places_gen (i j : Nat) : Builtin.Slice.slicePlaces (i : Int) (j : Int) 1 = j - i := by
  unfold Builtin.Slice.slicePlaces
  have h1 : (1 : Int) > 0 := by omega
  simp only [h1, if_true, Int.ediv_one]
  split <;> omega
theorem slicePart_ {v : Value} {o : Option Int} {Q : Option Int → Shared → Prop} (p : IsPart v o) (h : Q o s) : wpAny (model prog w) A (Builtin.Slice.slicePartIndex v) Q E s := by
  cases p with
  | none => exact slicePart_none h
  | int i t => exact slicePart_int h
theorem sliceApplied_gen {sl : Addr} {vl vu : Value} {lo hi : Option Int} {n : Nat} {Q : Int × Int × Nat → Shared → Prop} (hs : s.heap.IsSliceOf sl vl vu .none) (pl : IsPart vl lo) (pu : IsPart vu hi)
    (h : Q (((sIx n 0 lo : Nat) : Int), 1, sIx n n hi - sIx n 0 lo) s) : wpAny (model prog w) A (Builtin.Slice.sliceApplied (.ref sl) (pure (n : Int))) Q E s := by
  obtain ⟨os, hos, hcs, hds⟩ := id hs
  unfold Builtin.Slice.sliceApplied Builtin.Slice.sliceFields
  refine wpAny_bind (wpAny_bind (wpAny_field hos hds (x := vl) rfl (wpAny_bind (wpAny_field hos hds (x := vu) rfl (wpAny_bind (wpAny_field hos hds (x := .none) rfl (wpAny_pure ?_)))))))
  refine wpAny_bind (slicePart_none ?_)
  show wpAny _ _ (if ((1 : Int) == 0) = true then _ else _) _ _ s
  rw [if_neg (by decide)]
  refine wpAny_bind (slicePart_ pl (wpAny_bind (slicePart_ pu (wpAny_bind (wpAny_pure ?_)))))
  show wpAny _ _ (match Builtin.Slice.sliceAdjust lo hi 1 (n : Int) with | (lo, hi) => pure (lo, (1 : Int), Builtin.Slice.slicePlaces lo hi 1)) _ _ s
  rw [adjust_gen lo hi n]
  show wpAny _ _ (pure (((sIx n 0 lo : Nat) : Int), (1 : Int), Builtin.Slice.slicePlaces ((sIx n 0 lo : Nat) : Int) ((sIx n n hi : Nat) : Int) 1)) _ _ s
  rw [places_gen]
  exact wpAny_pure h
theorem pick_gen (xs : Array Value) (i k : Nat) : ((List.range k).filterMap fun (m : Nat) => xs[((i : Int) + (m : Int) * 1).toNat]?).toArray = ((xs.toList.drop i).take k).toArray := by
  have e : (fun (m : Nat) => xs[((i : Int) + (m : Int) * 1).toNat]?) = fun m => xs[i + m]? := by
    funext m
    have : ((i : Int) + (m : Int) * 1).toNat = i + m := by omega
    rw [this]
  rw [e]
  have := pick_run xs i k
  rw [List.filterMap_map] at this
  have e2 : ((fun x => xs[x]?) ∘ fun x => i + x) = fun m => xs[i + m]? := rfl
  rw [e2] at this
  rw [this]
theorem getItem_tuple_cut {t sl : Addr} {items : Array Value} {vl vu : Value} {lo hi : Option Int} {Q : Value → Shared → Prop} (ht : IsTup s.heap t items) (hs : s.heap.IsSliceOf sl vl vu .none) (pl : IsPart vl lo) (pu : IsPart vu hi)
    (hw : ¬ (sIx items.size 0 lo = 0 ∧ sIx items.size items.size hi = items.size))
    (h : Q (.ref s.heap.objs.size) { s with heap := s.heap.push { cls := .type "tuple", data := .seq ((items.toList.drop (sIx items.size 0 lo)).take (sIx items.size items.size hi - sIx items.size 0 lo)).toArray } })
    (hsz : items.size ≤ sizeLine) : wpAny (model prog w) A (getItem (.ref t) (.ref sl)) Q E s := by
  have htake : sizeOk (.seq ((items.toList.drop (sIx items.size 0 lo)).take (sIx items.size items.size hi - sIx items.size 0 lo)).toArray) := by
    show ((items.toList.drop (sIx items.size 0 lo)).take (sIx items.size items.size hi - sIx items.size 0 lo)).toArray.size ≤ sizeLine
    rw [List.size_toArray, List.length_take, List.length_drop, Array.length_toList]
    omega
  have hj : sIx items.size items.size hi ≤ items.size := sIx_le _ _ (Nat.le_refl _) hi
  obtain ⟨os, hos, hcs, hds⟩ := id hs
  have hTs : s.TypeIs (.ref sl) "slice" := ⟨os, hos, hcs⟩
  unfold getItem
  try with_reducible refine wpAny_holding ?_
  first | refine wpAny_bind (wpAny_pure ?_) | skip
  refine wpAny_bind (wpAny_sequenceKey ht.typeIs (by decide) ?_)
  refine wpAny_bind (wpAny_callSpecial?_slot (name := Str.ofString "__getitem__") ht.typeIs PyProof.Rows.slot_tuple_getitem
    (wpAny_call_entry PyProof.Rows.slot_tuple_getitem ht.typeIs entry_tuple_getitem ?_ (args_tuple_getitem _ _)))
  show wpAny _ _ (Builtin.Tuple.tupleItemsOf (.ref t) >>= _) _ _ s
  refine wpAny_bind (tupleItemsOf_ ht ?_)
  refine wpAny_bind (wpAny_typeOf hTs ?_)
  rw [if_pos (by decide)]
  refine wpAny_bind (sliceApplied_gen hs pl pu ?_)
  have hno : ¬ ((((sIx items.size 0 lo : Nat) : Int) == 0 && (1 : Int) == 1 && (sIx items.size items.size hi - sIx items.size 0 lo) == items.size) = true) := by
    intro q
    rw [Bool.and_eq_true, Bool.and_eq_true] at q
    have q1 : ((sIx items.size 0 lo : Nat) : Int) = 0 := eq_of_beq q.1.1
    have q2 : sIx items.size items.size hi - sIx items.size 0 lo = items.size := eq_of_beq q.2
    exact hw ⟨by omega, by omega⟩
  show wpAny _ _ (if (((sIx items.size 0 lo : Nat) : Int) == 0 && (1 : Int) == 1 && (sIx items.size items.size hi - sIx items.size 0 lo) == items.size) = true then _ else _) _ _ s
  rw [if_neg hno, pick_gen]
  first
    | exact wpAny_bind (m := Builtin.Tuple.tupleExact _) (wpAny_newObj_type (wpAny_pure ⟨_, rfl, wpAny_pure h⟩) htake)
    | exact wpAny_bind (m := Builtin.Tuple.tupleExact _) (wpAny_newObj_type (wpAny_bind (wpAny_pure (wpAny_pure ⟨_, rfl, wpAny_pure h⟩))) htake)
    | exact wpAny_bind (wpAny_bind (m := Builtin.Tuple.tupleExact _) (wpAny_newObj_type (wpAny_pure (wpAny_pure ⟨_, rfl, wpAny_pure h⟩)) htake))
    | exact wpAny_bind (wpAny_bind (m := Builtin.Tuple.tupleExact _) (wpAny_newObj_type (wpAny_pure ⟨_, rfl, wpAny_pure h⟩) htake))
end
end HT
namespace L2
open PySem PySem.Spec PyProof.Rows
/-! ### the parts of a slice -/
abbrev TO := St → Hp → (Option Int → Hp → Prop) → Prop
/-- a slice's part (left out, or an int) -/
def PO (X : Cx) (e : Option Expr) (t : TO) : Prop :=
  ∀ (pins : List (Addr × Obj)) (s : Shared) (σ : St) (H : Hp) (Q : Option Int → Hp → Prop), Inv X pins σ H s → t σ H Q →
    wpAny (model X.prog X.w) X.A (evalPart e X.env) (fun u s' => ∃ o H', Inv X pins σ H' s' ∧ IsPart u o ∧ Q o H') X.xe s
def tNoPart : TO := fun _ H Q => Q none H
def tPart (t : TE) : TO := fun σ H Q => t σ H fun x H1 => ∃ i, x = .int i ∧ Q (some i) H1
section
variable {X : Cx} {e : Expr} {te : TE} {lo hi : Option Expr} {tl th : TO} {pos p2 : Pos}
theorem po_none : PO X none tNoPart := by
  intro pins s σ H Q I h
  rw [evalPart_none]
  exact wpAny_pure ⟨none, H, I, .none, h⟩
theorem po_some (h : PE X e te) : PO X (some e) (tPart te) := by
  intro pins s σ H Q I hw
  rw [evalPart_some]
  refine thn (h pins s σ H _ I hw) fun u s1 ⟨x, H1, I1, r1, q1⟩ => ?_
  obtain ⟨i, rfl, q⟩ := q1
  obtain ⟨t, rfl⟩ := r1
  exact ⟨some i, H1, I1, .int i t, q⟩
/-- what a slice of a value is, by values: the slice object stands at sl -/
def SlR (X : Cx) (r : V → Option Int → Option Int → Hp → VK → Prop) : Prop :=
  ∀ (pins : List (Addr × Obj)) (s : Shared) (σ : St) (H : Hp) (x : V) (v vl vu : Value) (lo hi : Option Int) (sl : Addr) (Q : VK), Inv X pins σ H s → RelV x v → s.heap.IsSliceOf sl vl vu .none → IsPart vl lo → IsPart vu hi → r x lo hi H Q →
    ∃ T id, typeLookup (.type T) "__getitem__" = pure (some (.builtin id)) ∧ s.TypeIs v T ∧ wpAny (model X.prog X.w) X.A (getItem v (.ref sl)) (EP X pins σ Q) X.xe s
theorem SlR.or {r r' : V → Option Int → Option Int → Hp → VK → Prop} (h : SlR X r) (h' : SlR X r') : SlR X (fun x lo hi H Q => r x lo hi H Q ∨ r' x lo hi H Q) := by
  intro pins s σ H x v vl vu lo hi sl Q I rx hs pl pu q
  rcases q with q | q
  · exact h pins s σ H x v vl vu lo hi sl Q I rx hs pl pu q
  · exact h' pins s σ H x v vl vu lo hi sl Q I rx hs pl pu q
def tSl (r : V → Option Int → Option Int → Hp → VK → Prop) (te : TE) (tl th : TO) : TE := fun σ H Q => te σ H fun x H1 => tl σ H1 fun l H2 => th σ H2 fun u H3 => r x l u H3 Q
/-- a[lo:hi], any a -/
theorem pe_slice {r : V → Option Int → Option Int → Hp → VK → Prop} (hr : SlR X r) (he : PE X e te) (hl : PO X lo tl) (hu : PO X hi th) : PE X (.Subscript e (.Slice lo hi none p2) pos) (tSl r te tl th) := by
  intro pins s σ H Q I h
  refine Subscript_ (thn (he pins s σ H _ I h) fun v s1 ⟨x, H1, I1, r1, q1⟩ => ?_)
  refine wpAny_Slice (thn (hl pins s1 σ H1 _ I1 q1) fun vl s2 ⟨l, H2, I2, pl, q2⟩ => thn (hu pins s2 σ H2 _ I2 q2) fun vu s3 ⟨u, H3, I3, pu, q3⟩ => ?_)
  rw [evalPart_none]
  refine wpAny_pure ?_
  have I4 : Inv X pins σ H3 { s3 with heap := s3.heap.push { cls := .type "slice", data := .fields #[vl, vu, .none] } } := I3.kept (t' := s3.toks) fun b ob q => Heap.get?_push_of_some _ q
  obtain ⟨T, id, hT, ht, hg⟩ := hr pins { s3 with heap := s3.heap.push { cls := .type "slice", data := .fields #[vl, vu, .none] } } σ H3 x v vl vu l u s3.heap.objs.size Q I4 r1 (Heap.IsSliceOf.new ..) pl pu q3
  show wpAny (model X.prog X.w) X.A (subscriptTail e (.Slice lo hi none p2) v (.ref s3.heap.objs.size)) (EP X pins σ Q) X.xe { s3 with heap := s3.heap.push { cls := .type "slice", data := .fields #[vl, vu, .none] } }
  exact tail_any (ops := [.ref s3.heap.objs.size, v]) ht hT hg (by with_unfolding_all rfl)
/-- the items of xs[lo:hi] -/
def cutV (xs : List V) (lo hi : Option Int) : List V := (xs.drop (HT.sIx xs.length 0 lo)).take (HT.sIx xs.length xs.length hi - HT.sIx xs.length 0 lo)
theorem cutV_length (xs : List V) (lo hi : Option Int) : (cutV xs lo hi).length ≤ xs.length := by
  unfold cutV
  rw [List.length_take, List.length_drop]
  omega
/-- t[lo:hi], not the whole of it (the whole would be t itself) -/
def rSlT (K : PySem.W.Frag) : V → Option Int → Option Int → Hp → VK → Prop := fun x lo hi H Q => ∃ a xs, x = .ref a ∧ SqT K H a xs ∧
  ¬ (HT.sIx xs.length 0 lo = 0 ∧ HT.sIx xs.length xs.length hi = xs.length) ∧ ∀ p, H p = none → Q (.ref p) (upd H p (.tup (cutV xs lo hi)))
theorem sl_tup : SlR X (rSlT X.K) := by
  intro pins s σ H x v vl vu lo hi sl Q I rx hs pl pu h
  obtain ⟨a, xs, rfl, hx, hw, q⟩ := h
  cases rx
  obtain ⟨its, r, ht, hz⟩ := I.tuple hx
  have hlen : its.toArray.size = xs.length := by rw [List.size_toArray]; exact r.length.symm
  refine ⟨"tuple", _, PyProof.Rows.slot_tuple_getitem.lookup, ht.typeIs, ?_⟩
  refine HT.getItem_tuple_cut ht hs pl pu (by rw [hlen]; exact hw) ?_ (by rw [hlen]; exact hz)
  rw [hlen]
  refine ⟨.ref s.heap.objs.size, _, I.laid (t' := s.toks) (o := .tup (cutV xs lo hi)) (fun b ob q => Heap.get?_push_of_some _ q) (Nat.le_refl _) ?_, rfl, q _ (I.hok.fresh (Nat.le_refl _))⟩
  exact ⟨Nat.le_trans (cutV_length xs lo hi) hz, _, (r.drop (HT.sIx xs.length 0 lo)).take (HT.sIx xs.length xs.length hi - HT.sIx xs.length 0 lo), IsTup.new _ _⟩
/-! ### t < u, t + u -/
/-- t + u, t not empty: u empty gives t itself -/
def rCatT (K : PySem.W.Frag) : R2 := fun x y H Q => ∃ a b xs ys, x = .ref a ∧ y = .ref b ∧ SqT K H a xs ∧ SqT K H b ys ∧ xs ≠ [] ∧ xs.length + ys.length ≤ sizeLine ∧
  (ys = [] → Q (.ref a) H) ∧ (ys ≠ [] → ∀ p, H p = none → Q (.ref p) (upd H p (.tup (xs ++ ys))))
theorem Vals.nil_iff {xs : List V} {us : List Value} (r : Vals xs us) : us = [] ↔ xs = [] := by
  cases r with
  | nil => simp
  | cons _ _ => simp
theorem op_catT : OpR X (binaryOp .Add) (rCatT X.K) := by
  intro pins s σ H x y v u Q I rx ry h
  obtain ⟨a, b, xs, ys, rfl, rfl, ha, hb, hx, hz, q1, q2⟩ := h
  cases rx
  cases ry
  obtain ⟨its, r1, p1, _⟩ := I.tuple ha
  obtain ⟨its2, r2, p2, _⟩ := I.tuple hb
  refine HT.cat_tup p1 p2 (fun z => hx (r1.nil_iff.mp z)) (fun z => ⟨.ref a, H, I, rfl, q1 (r2.nil_iff.mp z)⟩) (fun z => ?_) (by rw [← r1.length, ← r2.length]; exact hz)
  refine ⟨.ref s.heap.objs.size, _, I.laid (t' := s.toks) (o := .tup (xs ++ ys)) (fun b ob q => Heap.get?_push_of_some _ q) (Nat.le_refl _) ?_, rfl, q2 (fun w => z (r2.nil_iff.mpr w)) _ (I.hok.fresh (Nat.le_refl _))⟩
  exact ⟨by rw [List.length_append]; exact hz, _, r1.append r2, IsTup.new _ _⟩
end
end L2
namespace L2
open PySem PySem.Spec PyProof.Rows
/-! ### places -/
/-- the place that an index of any sign means -/
def ixN (n : Nat) (i : Int) : Option Nat := if 0 ≤ i then (if i < n then some i.toNat else none) else if -(n : Int) ≤ i then some (i + n).toNat else none
def atI {α : Type} (xs : List α) (i : Int) : Option α := (ixN xs.length i).bind fun j => xs[j]?
theorem ixN_seq {n : Nat} {i : Int} {j : Nat} (h : ixN n i = some j) : seqIndex? i n = some j ∧ j < n ∧ -(n : Int) ≤ i ∧ i < n := by
  unfold ixN at h
  by_cases h0 : 0 ≤ i
  · rw [if_pos h0] at h
    by_cases h1 : i < n
    · rw [if_pos h1] at h
      have e : i.toNat = j := Option.some.inj h
      exact ⟨by rw [seqIndex_of h0 h1, e], by omega, by omega, h1⟩
    · rw [if_neg h1] at h; cases h
  · rw [if_neg h0] at h
    by_cases h1 : -(n : Int) ≤ i
    · rw [if_pos h1] at h
      have e : (i + n).toNat = j := Option.some.inj h
      exact ⟨by rw [seqIndex_neg (by omega) h1, e], by omega, h1, by omega⟩
    · rw [if_neg h1] at h; cases h
theorem atI_get {α : Type} {xs : List α} {i : Int} {v : α} (h : atI xs i = some v) : ∃ j, seqIndex? i xs.length = some j ∧ xs[j]? = some v ∧ j < xs.length ∧ -(xs.length : Int) ≤ i ∧ i < xs.length := by
  unfold atI at h
  cases e : ixN xs.length i with
  | none => rw [e] at h; cases h
  | some j =>
    rw [e] at h
    obtain ⟨h1, h2, h3, h4⟩ := ixN_seq e
    exact ⟨j, h1, h, h2, h3, h4⟩
theorem atI_nat {α : Type} {xs : List α} {j : Nat} {v : α} (h : xs[j]? = some v) : atI xs (j : Int) = some v := by
  have hj : j < xs.length := (List.getElem?_eq_some_iff.mp h).1
  have e : ixN xs.length (j : Int) = some j := by
    unfold ixN
    rw [if_pos (by omega), if_pos (by omega)]; simp
  unfold atI; rw [e]; exact h
theorem atI_last {α : Type} (xs : List α) (v : α) : atI (xs ++ [v]) (-1) = some v := by
  have hl : (xs ++ [v]).length = xs.length + 1 := by simp
  have e : ixN (xs ++ [v]).length (-1) = some xs.length := by
    unfold ixN
    rw [hl, if_neg (by decide), if_pos (by omega)]
    congr 1
    omega
  unfold atI
  rw [e]
  show (xs ++ [v])[xs.length]? = some v
  simp
/-! ### what may be subscripted -/
/-- what stands as an index of a plain subscript -/
def PlainIx (b : Expr) : Prop := ∀ o i, subscripted b false o i = operate [o, i] (getItem o i)
/-- a subscript by values -/
def IxR (X : Cx) (r : R2) : Prop :=
  ∀ (value slice : Expr) (pins : List (Addr × Obj)) (s : Shared) (σ : St) (H : Hp) (x y : V) (v u : Value) (Q : VK), Inv X pins σ H s → RelV x v → RelV y u → r x y H Q →
    subscripted slice false v u = operate [v, u] (getItem v u) → wpAny (model X.prog X.w) X.A (subscriptTail value slice v u) (EP X pins σ Q) X.xe s
/-- a call of a builtin's method by values: the receiver, the arguments -/
def MtR (X : Cx) (id : String) (r : V → List V → Hp → VK → Prop) : Prop :=
  ∀ (pins : List (Addr × Obj)) (s : Shared) (σ : St) (H : Hp) (x : V) (xs : List V) (v : Value) (us : List Value) (Q : VK), Inv X pins σ H s → RelV x v → Vals xs us → r x xs H Q →
    wpAny (model X.prog X.w) X.A (call (.builtin id) (v :: us)) (EP X pins σ Q) X.xe s
section
variable {X : Cx} {a b : Expr} {ta tb : TE} {pos : Pos}
theorem IxR.or {r r' : R2} (h : IxR X r) (h' : IxR X r') : IxR X (fun x y H Q => r x y H Q ∨ r' x y H Q) := by
  intro value slice pins s σ H x y v u Q I rx ry q hs
  rcases q with q | q
  · exact h value slice pins s σ H x y v u Q I rx ry q hs
  · exact h' value slice pins s σ H x y v u Q I rx ry q hs
/-- a[b] -/
theorem pe_ix {r : R2} (hr : IxR X r) (ha : PE X a ta) (hb : PE X b tb) (hs : PlainIx b) : PE X (.Subscript a b pos) (tOp r ta tb) := by
  intro pins s σ H Q I h
  exact Subscript_ (binT ha hb I h fun v u s2 x y H2 I2 rx ry q => hr a b pins s2 σ H2 x y v u Q I2 rx ry q (hs _ _))
def rIxL (K : PySem.W.Frag) : R2 := fun x y H Q => ∃ p xs i v, x = .ref p ∧ y = .int i ∧ SqL K H p xs ∧ atI xs i = some v ∧ Q v H
def rIxT (K : PySem.W.Frag) : R2 := fun x y H Q => ∃ p xs i v, x = .ref p ∧ y = .int i ∧ SqT K H p xs ∧ atI xs i = some v ∧ Q v H
def rIxS : R2 := fun x y H Q => ∃ z i c, x = .str z ∧ y = .int i ∧ z.length ≤ sizeLine ∧ atI z.cps.toList i = some c ∧ Q (.str ⟨#[c]⟩) H
theorem ix_list : IxR X (rIxL X.K) := by
  intro value slice pins s σ H x y v u Q I rx ry h hs
  obtain ⟨p, xs, i, z, rfl, rfl, hq, he, q⟩ := h
  cases rx
  obtain ⟨t, rfl⟩ := ry
  obtain ⟨its, r, pl, hz⟩ := I.list hq
  obtain ⟨j, h1, h2, h3, h4, h5⟩ := atI_get he
  obtain ⟨w, ew, rw'⟩ := r.get h2
  have hl := r.length
  have hn := line63
  have fin : EP X pins σ Q w s := ⟨z, H, I, rw', q⟩
  by_cases h0 : 0 ≤ i
  · have hj : i.toNat = j := by
      rw [seqIndex_of h0 h5] at h1
      exact Option.some.inj h1
    exact item_listR pl.isList h0 (by omega) (by rw [hj]; simpa using ew) fin hs
  · have hj : (i + (its.toArray.size : Int)).toNat = j := by
      rw [seqIndex_neg (by omega) h4] at h1
      rw [List.size_toArray, ← hl]
      exact Option.some.inj h1
    exact subscriptTail_builtinR (x := w) pl.isList.typeIs slot_list_getitem.lookup
      (wpAny_getItem_list_neg (Q := fun r s' => r = w ∧ EP X pins σ Q r s') pl.isList (by omega) (by rw [List.size_toArray] <;> omega) (by omega) (by rw [hj]; simpa using ew) ⟨rfl, fin⟩) hs
theorem ix_tup : IxR X (rIxT X.K) := by
  intro value slice pins s σ H x y v u Q I rx ry h hs
  obtain ⟨p, xs, i, z, rfl, rfl, hq, he, q⟩ := h
  cases rx
  obtain ⟨t, rfl⟩ := ry
  obtain ⟨its, r, pl, hz⟩ := I.tuple hq
  obtain ⟨j, h1, h2, h3, h4, h5⟩ := atI_get he
  obtain ⟨w, ew, rw'⟩ := r.get h2
  have hl := r.length
  have hn := line63
  have fin : EP X pins σ Q w s := ⟨z, H, I, rw', q⟩
  exact subscriptTail_builtinR (x := w) pl.typeIs slot_tuple_getitem.lookup
    (getItem_tuple (j := j) (Q := fun r s' => r = w ∧ EP X pins σ Q r s') pl (by omega) (by omega) (by rw [List.size_toArray, ← hl]; exact h1) (by simpa using ew) ⟨rfl, fin⟩) hs
theorem ix_str : IxR X rIxS := by
  intro value slice pins s σ H x y v u Q I rx ry h hs
  obtain ⟨z, i, c, rfl, rfl, hz, he, q⟩ := h
  obtain ⟨t, rfl⟩ := rx
  obtain ⟨t', rfl⟩ := ry
  obtain ⟨j, h1, h2, h3, h4, h5⟩ := atI_get he
  have hl : z.cps.toList.length = z.length := by simp [Str.length]
  rw [hl] at h1 h4 h5
  have hn := line63
  exact tail_any (typeIs_str s z t) slot_str_getitem.lookup (getItem_str (c := c) (by
    have e1 : decide (i < -(2 ^ 63 : Int)) = false := decide_eq_false (by omega)
    have e2 : decide (i ≥ 2 ^ 63) = false := decide_eq_false (by omega)
    rw [e1, e2, Bool.or_false]) (by rw [h1]; simpa using h2) ⟨.str ⟨#[c]⟩, H, I.tok _, ⟨_, rfl⟩, q⟩) hs
/-- list, tuple or str -/
def rIx (K : PySem.W.Frag) : R2 := fun x y H Q => rIxL K x y H Q ∨ rIxT K x y H Q ∨ rIxS x y H Q
theorem ix_seq : IxR X (rIx X.K) := ix_list.or (ix_tup.or ix_str)
/-! ### xs[i] = v, any sign -/
theorem Inv.lst {pins : List (Addr × Obj)} {σ : St} {H : Hp} {s : Shared} {p : Addr} {xs : List V} (I : Inv X pins σ H s) (h : H p = some (.lst xs)) :
    ∃ (its : List Value) (n : Nat), Vals xs its ∧ s.heap.get? p = some { cls := .type "list", data := .seq its.toArray n } ∧ xs.length ≤ sizeLine := by
  obtain ⟨z, its, n, r, e⟩ := I.hok p _ h
  exact ⟨its, n, r, e, z⟩
/-! ### slices -/
theorem slice_bounds (lo hi : Option Int) (n : Nat) : (sliceBounds lo hi none n).1 = ((HT.sIx n 0 lo : Nat) : Int) ∧ (sliceBounds lo hi none n).2.1 = ((HT.sIx n n hi : Nat) : Int) ∧ (sliceBounds lo hi none n).2.2 = 1 := by
  refine ⟨?_, ?_, rfl⟩
  · cases lo with
    | none => simp [sliceBounds, HT.sIx]
    | some i =>
      simp only [sliceBounds, HT.sIx, Option.getD_none, show (1 : Int) > 0 by decide, if_true]
      by_cases h : i < 0
      · simp only [h, if_true] <;> omega
      · simp only [h, if_false] <;> omega
  · cases hi with
    | none => simp [sliceBounds, HT.sIx]
    | some i =>
      simp only [sliceBounds, HT.sIx, Option.getD_none, show (1 : Int) > 0 by decide, if_true]
      by_cases h : i < 0
      · simp only [h, if_true] <;> omega
      · simp only [h, if_false] <;> omega
theorem slicePick_cut (its : List Value) (lo hi : Option Int) : slicePick its.toArray lo hi none = ((its.drop (HT.sIx its.length 0 lo)).take (HT.sIx its.length its.length hi - HT.sIx its.length 0 lo)).toArray := by
  obtain ⟨h1, h2, h3⟩ := slice_bounds lo hi its.toArray.size
  unfold slicePick
  rw [h1, h2, h3]
  simp only [sliceRange_one, pick_run, List.size_toArray] <;> rfl
/-- xs[lo:hi] of a list: a new list -/
def rSlL (K : PySem.W.Frag) : V → Option Int → Option Int → Hp → VK → Prop := fun x lo hi H Q => ∃ a xs, x = .ref a ∧ SqL K H a xs ∧ ∀ p, H p = none → Q (.ref p) (upd H p (.lst (cutV xs lo hi)))
theorem sl_list : SlR X (rSlL X.K) := by
  intro pins s σ H x v vl vu lo hi sl Q I rx hs pl pu h
  obtain ⟨a, xs, rfl, hx, q⟩ := h
  cases rx
  obtain ⟨its, r, ht, hz⟩ := I.list hx
  have hlen := r.length
  refine ⟨"list", _, slot_list_getitem.lookup, ht.isList.typeIs, ?_⟩
  refine wpAny_getItem_list_slice ht.isList hs pl pu .none (by simp) ?_ (by rw [List.size_toArray] <;> omega)
  rw [slicePick_cut, ← hlen]
  refine ⟨.ref s.heap.objs.size, _, I.laid (t' := s.toks) (o := .lst (cutV xs lo hi)) (fun b ob q => Heap.get?_push_of_some _ q) (Nat.le_refl _) ?_, rfl, q _ (I.hok.fresh (Nat.le_refl _))⟩
  exact ⟨Nat.le_trans (cutV_length xs lo hi) hz, _, 0, (r.drop (HT.sIx xs.length 0 lo)).take (HT.sIx xs.length xs.length hi - HT.sIx xs.length 0 lo), Heap.get?_push_size _ rfl⟩
/-! ### in, not in: flat items -/
def flatV : V → Bool
  | .non => true
  | .bl _ => true
  | .int _ => true
  | .str _ => true
  | _ => false
/-- == of flat values -/
def eqV : V → V → Bool
  | .non, .non => true
  | .bl a, .bl b => a == b
  | .bl a, .int b => (if a then 1 else 0) == b
  | .int a, .bl b => a == (if b then 1 else 0)
  | .int a, .int b => a == b
  | .str a, .str b => a == b
  | _, _ => false
theorem eqAt_V {A : Around} {s : Shared} {y x : V} {u v : Value} (ry : RelV y u) (rx : RelV x v) (fy : flatV y = true) (fx : flatV x = true) : SeqAt.EqAt A s u v (eqV y x) := by
  cases y with
  | non =>
    cases ry
    cases x with
    | non => cases rx; exact SeqAt.EqAt.same _
    | bl b => cases rx; exact SeqAt.EqAt.none_bool b
    | int b => obtain ⟨t, rfl⟩ := rx; exact SeqAt.EqAt.none_int b t
    | str b => obtain ⟨t, rfl⟩ := rx; exact SeqAt.EqAt.none_str b t
    | _ => exact absurd (show false = true from fx) Bool.false_ne_true
  | bl a =>
    cases ry
    cases x with
    | non => cases rx; exact SeqAt.EqAt.bool_none a
    | bl b => cases rx; exact SeqAt.EqAt.bool_bool a b
    | int b => obtain ⟨t, rfl⟩ := rx; exact SeqAt.EqAt.bool_int a b t
    | str b => obtain ⟨t, rfl⟩ := rx; exact SeqAt.EqAt.bool_str a b t
    | _ => exact absurd (show false = true from fx) Bool.false_ne_true
  | int a =>
    obtain ⟨t', rfl⟩ := ry
    cases x with
    | non => cases rx; exact SeqAt.EqAt.int_none a t'
    | bl b => cases rx; exact SeqAt.EqAt.int_bool a t' b
    | int b => obtain ⟨t, rfl⟩ := rx; exact SeqAt.EqAt.int_int a t' b t
    | str b => obtain ⟨t, rfl⟩ := rx; exact SeqAt.EqAt.int_str a t' b t
    | _ => exact absurd (show false = true from fx) Bool.false_ne_true
  | str a =>
    obtain ⟨t', rfl⟩ := ry
    cases x with
    | non => cases rx; exact SeqAt.EqAt.str_none a t'
    | bl b => cases rx; exact SeqAt.EqAt.str_bool a t' b
    | int b => obtain ⟨t, rfl⟩ := rx; exact SeqAt.EqAt.str_int a t' b t
    | str b => obtain ⟨t, rfl⟩ := rx; exact SeqAt.EqAt.str_str a t' b t
    | _ => exact absurd (show false = true from fx) Bool.false_ne_true
  | _ => exact absurd (show false = true from fy) Bool.false_ne_true
/-- the items' answers, read off the values (a value's own answer does not lean on its token) -/
def eqU (x : V) (u : Value) : Bool := match u with
  | .none => eqV .non x
  | .bool b => eqV (.bl b) x
  | .int i _ => eqV (.int i) x
  | .str z _ => eqV (.str z) x
  | _ => false
def inV (x : V) (xs : List V) : Bool := xs.any fun y => eqV y x
/-- x in a list or tuple of flat items -/
def rIn (K : PySem.W.Frag) (neg : Bool) : R2 := fun x y H Q => ∃ p xs, y = .ref p ∧ (SqL K H p xs ∨ SqT K H p xs) ∧ flatV x = true ∧ xs.all flatV = true ∧ Q (.bl (if neg then !inV x xs else inV x xs)) H
/-! ### len, list(x), tuple(x) of any list or tuple that is read -/
theorem call_len_seq : CallR X (.builtin "len") (fun xs H Q => ∃ p ys, xs = [.ref p] ∧ (SqL X.K H p ys ∨ SqT X.K H p ys) ∧ Q (.int ys.length) H) := by
  intro pins s σ H xs us Q I r h
  obtain ⟨p, ys, rfl, hq, q⟩ := h
  obtain ⟨u, rfl, rx⟩ := vals1 r
  cases rx
  have hn := line63
  rcases hq with hq | hq
  · obtain ⟨its, r', pl, hz⟩ := I.list hq
    have hlen := r'.length
    exact Calls.call_len_list pl.isList (by simp only [List.size_toArray] <;> omega) ⟨.int ys.length, H, I.tok _, ⟨s.toks + 1, by rw [List.size_toArray, hlen]⟩, q⟩
  · obtain ⟨its, r', pl, hz⟩ := I.tuple hq
    have hlen := r'.length
    exact len_tuple pl (by simp only [List.size_toArray] <;> omega) ⟨.int ys.length, H, I.tok _, ⟨s.toks + 1, by rw [List.size_toArray, hlen]⟩, q⟩
theorem call_len_str : CallR X (.builtin "len") (fun xs H Q => ∃ z, xs = [.str z] ∧ z.length ≤ sizeLine ∧ Q (.int z.length) H) := by
  intro pins s σ H xs us Q I r h
  obtain ⟨z, rfl, hz, q⟩ := h
  obtain ⟨u, rfl, t, rfl⟩ := vals1 r
  have hn := line63
  exact len_str (by omega) ⟨.int z.length, H, I.tok _, ⟨_, rfl⟩, q⟩
theorem CallR.or {f : Value} {r r' : List V → Hp → VK → Prop} (h : CallR X f r) (h' : CallR X f r') : CallR X f (fun xs H Q => r xs H Q ∨ r' xs H Q) := by
  intro pins s σ H xs us Q I rs q
  rcases q with q | q
  · exact h pins s σ H xs us Q I rs q
  · exact h' pins s σ H xs us Q I rs q
theorem call_tuple_of : CallR X (.type "tuple") (fun xs H Q => ∃ p ys, xs = [.ref p] ∧ ((SqL X.K H p ys ∧ ∀ l, H l = none → Q (.ref l) (upd H l (.tup ys))) ∨ (SqT X.K H p ys ∧ Q (.ref p) H))) := by
  intro pins s σ H xs us Q I r h
  obtain ⟨p, ys, rfl, h⟩ := h
  obtain ⟨u, rfl, rx⟩ := vals1 r
  cases rx
  rcases h with ⟨hq, q⟩ | ⟨hq, q⟩
  · obtain ⟨its, r', pl, hz⟩ := I.list hq
    have hlen := r'.length
    refine call_tuple_list pl.isList (fun h' kp => ?_) (by simp only [List.size_toArray] <;> omega)
    have I1 : Inv X pins σ H { s with heap := h' } := I.kept (t' := s.toks) kp
    have I2 : Inv X pins σ (upd H h'.objs.size (.tup ys)) { s with heap := h'.push { cls := .type "tuple", data := .seq its.toArray } } :=
      I1.laid (t' := s.toks) (fun b o e => Heap.get?_push_of_some _ e) (Nat.le_refl _) (show ObjOk X.prog X.w _ _ _ (.tup ys) from ⟨hz, its, r', IsTup.new _ _⟩)
    exact ⟨.ref h'.objs.size, _, I2, rfl, q _ (I1.hok.fresh (Nat.le_refl _))⟩
  · obtain ⟨its, r', pl, hz⟩ := I.tuple hq
    exact call_tuple_same pl ⟨.ref p, H, I, rfl, q⟩
/-! ### the call of a builtin's method: o.m(..) -/
/-- the value is of that builtin type -/
def tyV (K : PySem.W.Frag) (T : String) (x : V) (H : Hp) : Prop := match x with
  | .str _ => T = "str"
  | .int _ => T = "int"
  | .ref p => (T = "list" ∧ ∃ xs, SqL K H p xs) ∨ (T = "tuple" ∧ ∃ o, K.lookup p = some o ∧ o.cls = .type "tuple" ∧ o.dict = none) ∨
      (T = "dict" ∧ ((∃ kvs, H p = some (.dK kvs)) ∨ ∃ kvs, H p = some (.dT kvs))) ∨ (T = "set" ∧ ∃ S n, H p = some (.set S n))
  | _ => False
theorem tyV_is {pins : List (Addr × Obj)} {σ : St} {H : Hp} {s : Shared} {T : String} {x : V} {v : Value} (I : Inv X pins σ H s) (r : RelV x v) (ty : tyV X.K T x H) :
    s.TypeIs v T ∧ ∀ a, v = .ref a → ∃ ob, s.heap.get? a = some ob ∧ ob.dict = none := by
  cases x with
  | str z =>
    obtain ⟨t, rfl⟩ := r
    cases (show T = "str" from ty)
    exact ⟨typeIs_str s z t, fun _ e => nomatch e⟩
  | int i =>
    obtain ⟨t, rfl⟩ := r
    cases (show T = "int" from ty)
    exact ⟨typeIs_int s i t, fun _ e => nomatch e⟩
  | ref p =>
    cases r
    rcases ty with ⟨rfl, xs, hq⟩ | ⟨rfl, o, hk, hc, hd⟩ | ⟨rfl, hk⟩ | ⟨rfl, S, n, hk⟩
    · obtain ⟨its, _, pl, _⟩ := I.list hq
      refine ⟨pl.isList.typeIs, fun a e => ?_⟩
      cases e
      obtain ⟨o, n, e, c, hd, _⟩ := pl
      exact ⟨o, e, hd⟩
    · refine ⟨⟨o, I.kIn p o hk, hc⟩, fun a e => ?_⟩
      cases e
      exact ⟨o, I.kIn _ o hk, hd⟩
    · have z : ∃ o, s.heap.get? p = some o ∧ o.ExactDict := by
        rcases hk with ⟨kvs, hk⟩ | ⟨kvs, hk⟩
        · obtain ⟨_, _, _, _, o, _, _, e, ex, _⟩ := I.hok p _ hk
          exact ⟨o, e, ex⟩
        · obtain ⟨_, _, _, _, o, _, _, e, ex, _⟩ := I.hok p _ hk
          exact ⟨o, e, ex⟩
      obtain ⟨o, e, ex⟩ := z
      refine ⟨⟨o, e, ex.1⟩, fun a e2 => ?_⟩
      cases e2
      exact ⟨o, e, ex.2.1⟩
    · obtain ⟨o, _, _, _, e, ex, _⟩ := I.hok p _ hk
      refine ⟨⟨o, e, ex.1⟩, fun a e2 => ?_⟩
      cases e2
      exact ⟨o, e, ex.2.1⟩
  | _ => exact False.elim ty
def tBM0 (K : PySem.W.Frag) (T : String) (r : V → List V → Hp → VK → Prop) (to : TE) : TE := fun σ H Q => to σ H fun x H1 => tyV K T x H1 ∧ r x [] H1 Q
def tBM (K : PySem.W.Frag) (T : String) (r : V → List V → Hp → VK → Prop) (to : TE) (t : TA) : TE := fun σ H Q => to σ H fun x H1 => tyV K T x H1 ∧ t σ H1 fun xs H2 => r x xs H2 Q
variable {o e : Expr} {es : List Expr} {to : TE} {t : TA} {name : Str} {apos cpos : Pos} {T id : String} {r : V → List V → Hp → VK → Prop}
theorem pe_bm0 (pa : PlainAttrs T) (slot : Slot T name id) (hty : typeOf (.builtin id) = pure (.type "method_descriptor")) (hm : MtR X id r) (ho : PE X o to)
    (hbase : attributeBase o name X.env (eval o X.env) = eval o X.env := by rfl) (hline : (apos.endLine == cpos.line) = true := by rfl) : PE X (.Call (.Attribute o name apos) [] [] cpos) (tBM0 X.K T r to) := by
  intro pins s σ H Q I h
  refine wpAny_Call_method0_late hbase hline (thn (ho pins s σ H _ I h) fun v s1 ⟨x, H1, I1, r1, ty, q1⟩ => ?_)
  obtain ⟨h1, h2⟩ := tyV_is I1 r1 ty
  exact ⟨T, id, pa, slot, hty, h1, h2, Calls.callWith_builtin rfl (PySem.evalArgs_none (hm pins s1 σ H1 x [] v [] Q I1 r1 .nil q1))⟩
theorem pe_bm (pa : PlainAttrs T) (slot : Slot T name id) (hty : typeOf (.builtin id) = pure (.type "method_descriptor")) (hm : MtR X id r) (ho : PE X o to) (ha : PA X (e :: es) t)
    (hbase : attributeBase o name X.env (eval o X.env) = eval o X.env := by rfl)
    (hfew : ((backTo cpos (starEach (e :: es) X.env)).all (fun x => !x.1) && (backToKw cpos (keywordEach [] X.env)).all (fun x => x.1.isSome)
      && decide ((e :: es).length + ([] : List Keyword).length + (if ([] : List Keyword).isEmpty then 0 else 1) < 30)) = true := by rfl)
    (hline : (apos.endLine == cpos.line) = true := by rfl) (hs : starEach (e :: es) X.env = (false, eval e X.env) :: starEach es X.env := by rfl) (hplain : (backTo cpos (starEach es X.env)).any (·.1) = false := by rfl) :
    PE X (.Call (.Attribute o name apos) (e :: es) [] cpos) (tBM X.K T r to t) := by
  intro pins s σ H Q I h
  refine wpAny_Call_method_late hbase hfew hline rfl (thn (ho pins s σ H _ I h) fun v s1 ⟨x, H1, I1, r1, ty, q1⟩ => ?_)
  obtain ⟨h1, h2⟩ := tyV_is I1 r1 ty
  refine ⟨T, id, pa, slot, hty, h1, h2, ?_⟩
  have hA := ha cpos pins s1 σ H1 _ I1 q1
  rw [hs] at hA ⊢
  refine Calls.callWith_builtin (by show (false || (backTo cpos (starEach es X.env)).any (·.1)) = false; rw [hplain] <;> rfl) (Calls.evalArgs_plain ?_)
  exact thn hA fun us s2 ⟨vs, H2, I2, r2, q2⟩ => hm pins s2 σ H2 x vs v us Q I2 r1 r2 q2
/- xs.append(e), list.index on a module's tuple .. are MtR facts of 06m -/
end
end L2
namespace L2
open PySem PySem.Spec PyProof.Rows
def MtM (X : Cx) (id : String) (r : V → List V → Hp → VK → Prop) : Prop :=
  ∀ (pins : List (Addr × Obj)) (s : Shared) (σ : St) (H : Hp) (x : V) (xs : List V) (v : Value) (us : List Value) (Q : VK), Inv X pins σ H s → RelV x v → Vals xs us → r x xs H Q →
    wpAny (model X.prog X.w) X.A (call (.builtin id) (v :: us)) (EP X pins σ Q) X.xe s
/-! ### lists of values -/
theorem Vals.one : ∀ {x : V} {us : List Value}, Vals [x] us → ∃ u, us = [u] ∧ RelV x u
  | _, _, .cons r .nil => ⟨_, rfl, r⟩
theorem Vals.two : ∀ {x y : V} {us : List Value}, Vals [x, y] us → ∃ u v, us = [u, v] ∧ RelV x u ∧ RelV y v
  | _, _, _, .cons r (.cons q .nil) => ⟨_, _, rfl, r, q⟩
theorem Vals.zero : ∀ {us : List Value}, Vals [] us → us = []
  | _, .nil => rfl
theorem Vals.dropLast {xs : List V} {us : List Value} (h : Vals xs us) : Vals xs.dropLast us.dropLast := by
  induction h with
  | nil => exact .nil
  | cons r t ih =>
    cases t with
    | nil => exact .nil
    | cons q t' => exact .cons r ih
theorem erase_last {α : Type} (l : List α) : l.eraseIdx (l.length - 1) = l.dropLast := by
  induction l with
  | nil => rfl
  | cons a r ih =>
    cases r with
    | nil => rfl
    | cons b r =>
      have e : (a :: b :: r).length - 1 = ((b :: r).length - 1) + 1 := by
        have h1 : (a :: b :: r).length = r.length + 2 := rfl
        have h2 : (b :: r).length = r.length + 1 := rfl
        omega
      rw [e, List.eraseIdx_cons_succ, ih]
      all_goals rfl
section
variable {X : Cx} {pins : List (Addr × Obj)} {σ : St} {H : Hp} {s : Shared} {l b : Addr} {xs ys zs : List V}
/-! ### the two steps: a tracked list is rewritten, a new list is laid -/
theorem Inv.lset {its its' : List Value} {n : Nat} {f : Array Value → Array Value} {t' : Nat} (I : Inv X pins σ H s) (hH : H l = some (.lst xs))
    (e : s.heap.get? l = some { cls := .type "list", data := .seq its.toArray n }) (hf : f its.toArray = its'.toArray) (hv : Vals ys its') (hz : ys.length ≤ sizeLine) :
    Inv X pins σ (upd H l (.lst ys)) { s with heap := s.heap.update l (Obj.mapSeq f), toks := t' } := by
  have q := PySem.IsL.update e f
  rw [hf] at q
  refine I.write (x := l) (e := l) (by rw [hH]; exact trivial) (.inl rfl) (fun b' u hb hu => (Heap.get?_update_other s.heap (Obj.mapSeq f) (Ne.symm hb)).trans hu) ⟨_, q⟩ ?_
  exact ⟨hz, its', _, hv, q⟩
theorem Inv.lnew {its : List Value} {t' : Nat} (I : Inv X pins σ H s) (hv : Vals ys its) (hz : ys.length ≤ sizeLine) :
    Inv X pins σ (upd H s.heap.objs.size (.lst ys)) { s with heap := s.heap.push { cls := .type "list", data := .seq its.toArray }, toks := t' } :=
  I.laid (fun _ _ q => Heap.get?_push_of_some _ q) (Nat.le_refl _) ⟨hz, its, 0, hv, Heap.get?_push_size _ rfl⟩
theorem Inv.fresh (I : Inv X pins σ H s) : H s.heap.objs.size = none := I.hok.fresh (Nat.le_refl _)
theorem Inv.lstM (I : Inv X pins σ H s) (hH : H l = some (.lst xs)) : xs.length ≤ sizeLine ∧ ∃ (its : List Value) (n : Nat), Vals xs its ∧ xs.length = its.length ∧ s.heap.get? l = some { cls := .type "list", data := .seq its.toArray n } := by
  obtain ⟨z, its, n, r, e⟩ := I.hok l _ hH
  exact ⟨z, its, n, r, r.length, e⟩
end
section
variable {X : Cx}
/-! ### methods -/
def rAppend : V → List V → Hp → VK → Prop := fun x vs H Q => ∃ l xs y, x = .ref l ∧ vs = [y] ∧ H l = some (.lst xs) ∧ xs.length < sizeLine ∧ Q .non (upd H l (.lst (xs ++ [y])))
theorem mt_append : MtM X "list.append" rAppend := by
  intro pins s σ H x vs v us Q I rx rv h
  obtain ⟨l, xs, y, rfl, rfl, hH, hz, q⟩ := h
  cases rx
  obtain ⟨u, rfl, ru⟩ := rv.one
  obtain ⟨z, its, n, r, hl, e⟩ := I.lstM hH
  refine call_meets F.slot_list_append ⟨_, e, rfl⟩ F.entry_list_append (F.args_list_append_2 _ _) (PySem.list_append l its.toArray n u (by rw [List.size_toArray]; omega)) ⟨e, ?_⟩
  refine ⟨.non, _, I.lset (its' := its ++ [u]) hH e (by simp) (r.append (.cons ru .nil)) ?_, rfl, q⟩
  rw [List.length_append, List.length_singleton]
  omega
def rPop : V → List V → Hp → VK → Prop := fun x vs H Q => ∃ l xs y, x = .ref l ∧ vs = [] ∧ H l = some (.lst xs) ∧ xs[xs.length - 1]? = some y ∧ Q y (upd H l (.lst xs.dropLast))
theorem mt_pop : MtM X "list.pop" rPop := by
  intro pins s σ H x vs v us Q I rx rv h
  obtain ⟨l, xs, y, rfl, rfl, hH, hy, q⟩ := h
  cases rx
  have hus := rv.zero
  subst hus
  obtain ⟨z, its, n, r, hl, e⟩ := I.lstM hH
  obtain ⟨u, hu, ru⟩ := r.get hy
  have hy' : its.toArray[its.toArray.size - 1]? = some u := by
    show its.toArray[its.length - 1]? = some u
    rw [← Array.getElem?_toList, ← hl]
    exact hu
  refine call_meets F.slot_list_pop ⟨_, e, rfl⟩ F.entry_list_pop (F.args_list_pop_1 _) (MeetsSeq.list_pop_last l its.toArray n u hy' (by rw [List.size_toArray]; omega)) ⟨e, ?_⟩
  refine ⟨y, _, I.lset (its' := its.dropLast) hH e ?_ r.dropLast ?_, ru, q⟩
  · show its.toArray.eraseIdxIfInBounds (its.toArray.size - 1) = its.dropLast.toArray
    rw [List.size_toArray, List.eraseIdxIfInBounds_toArray, erase_last]
  · rw [List.length_dropLast]
    omega
/-! ### list + list, list += list, list * int -/
def rCat : R2 := fun x y H Q => ∃ l b xs zs, x = .ref l ∧ y = .ref b ∧ H l = some (.lst xs) ∧ H b = some (.lst zs) ∧ xs.length + zs.length ≤ sizeLine ∧ ∀ p, H p = none → Q (.ref p) (upd H p (.lst (xs ++ zs)))
theorem op_cat : OpR X (binaryOp .Add) rCat := by
  intro pins s σ H x y v u Q I rx ry h
  obtain ⟨l, b, xs, zs, rfl, rfl, hH, hB, hz, q⟩ := h
  cases rx
  cases ry
  obtain ⟨z, its, n, r, hl, e⟩ := I.lstM hH
  obtain ⟨z2, its2, n2, r2, hl2, e2⟩ := I.lstM hB
  refine PySem.P.add_list e e2 ?_ (by rw [List.size_toArray, List.size_toArray]; omega)
  have ea : its.toArray ++ its2.toArray = (its ++ its2).toArray := by simp
  rw [ea]
  exact ⟨.ref _, _, I.lnew (t' := s.toks) (r.append r2) (by rw [List.length_append]; omega), rfl, q _ I.fresh⟩
/-- a list times an int (a negative one is nothing) -/
def rRep : R2 := fun x y H Q => ∃ l k xs, x = .ref l ∧ y = .int k ∧ H l = some (.lst xs) ∧ -(2 ^ 63) ≤ k ∧ k < 2 ^ 63 ∧ xs.length * k.toNat ≤ sizeLine ∧
  ∀ p, H p = none → Q (.ref p) (upd H p (.lst (List.replicate k.toNat xs).flatten))
/-! ### del xs[i] -/
end
/-! ### xs[a:b] = ys -/
section
variable {prog : Program} {w : World} {A : Around} {E : Value → Shared → Prop} {s : Shared}
end
section
variable {X : Cx}
end
end L2
namespace Att
open PySem PySem.W PySem.Calls PyProof.Rows
/-! ### the script -/
theorem ints_of_wellAll {P : Params} {h : Heap} : ∀ (ns : List Int) (vs : List Value), WellAll P h vs (ns.map WData.int) → IntsAre vs ns := by
  intro ns
  induction ns with
  | nil =>
    intro vs w
    rw [List.map_nil] at w
    cases w
    exact .nil
  | cons n ns ih =>
    intro vs w
    rw [List.map_cons] at w
    cases w with
    | cons a b =>
      cases a
      exact .cons _ _ (ih _ b)
theorem script_of {l : OpenLaw} {n : Nat} (hn : l.most = some n) {P : Params} {h : Heap} {args : List WData} {vals : List Value}
    (hpre : l.row.toRowW.claim.pre args = true) (hwl : WellAll P h vals args) :
    ∃ a vs ns, vals = [Value.ref a] ∧ args = [WData.list (ns.map WData.int)] ∧ h.get? a = some { cls := .type "list", data := .seq vs.toArray } ∧ IntsAre vs ns ∧ ns.length ≤ n := by
  have hsh : WShape.hasAll [] args [.list .int] = true := (pre_splitW hpre).1
  have hc : l.pre.holds [] { args := args } = true := (pre_splitW hpre).2
  obtain ⟨d, r, rfl, h1, h2⟩ := hasAllW_cons hsh
  obtain rfl := hasAllW_nil h2
  obtain ⟨xs, rfl, h3⟩ := hasW_list h1
  obtain ⟨ns, rfl⟩ := items_int h3
  have hlen : ns.length ≤ n := by
    unfold OpenLaw.pre at hc
    have h4 : (WTm.not (.lt (.lit (.int (n : Int))) (.len (.arg 0)))).holds [] { args := [.list (ns.map .int)] } = true := by
      have h4 := (holds_andW hc).1
      rw [hn] at h4
      exact h4
    have h5 := condW_of h4 (w_not (w_lt w_lit (w_len_list (w_arg rfl))))
    rw [List.length_map] at h5
    refine Nat.le_of_not_lt fun q => ?_
    have q' : (n : Int) < ((ns.length : Nat) : Int) := by omega
    first
      | (rw [decide_eq_true q'] at h5; exact absurd h5 (by decide))
      | (simp at h5; omega)
  cases hwl with
  | cons w1 w2 =>
    cases w2
    cases w1 with
    | list ho hall => exact ⟨_, _, ns, rfl, rfl, ho, ints_of_wellAll ns _ hall, hlen⟩
theorem post_true (l : OpenLaw) (args : List WData) : l.row.toRowW.claim.post args (.bool true) args = true :=
  postW_of (r := l.row.toRowW) (X := (true == true))
    (show WShape.has [] (.bool true) .bool = true by first | rfl | decide | simp [WShape.has, WShape.arms, WShape.armsAll])
    (show (WTm.eq .res (.lit (.bool true))).value [] { args := args, res := some (.bool true), after := args } = some (.bool (true == true)) from w_eq_bool (w_res rfl) w_lit) rfl
/-! ### the attachment: holds_open's last premise (the goal 'hc' behind k_head) from a wpAny of the law's body -/
/-- the same from a codeAny of the CALL (for a layer whose function contracts speak of calls) -/
theorem attach_call {l : OpenLaw} {n : Nat} {q : Program} {loose : List Str} {XP : (Str → Option Value) → Heap → Prop} {YP : World → Heap → Prop} {d : DefRec}
    (hn : l.most = some n) (hdf : d.params.defaults = [])
    (call : ∀ (w : World) (s₀ s₁ : Shared) (mg mb : Str → Option Value) (fa : Addr) (o : Obj) (pm cd doc : Value) (a : Addr) (vs : List Value) (ns : List Int),
      Ground q loose [] XP w s₀ mg mb s₁.heap → YP w s₁.heap →
      s₁.heap.get? fa = some o → o.data = .func (docDef d.name d.params d.body d.scope pm cd doc) → s₁.heap.CodeRec cd d.name → mg d.name = some (.ref fa) →
      s₁.heap.get? a = some { cls := .type "list", data := .seq vs.toArray } → IntsAre vs ns → ns.length ≤ n → s₁.gens = #[] →
      codeAny (model l.prog w) callerA (.call (.ref fa) ⟨[.ref a], []⟩) (fun r s' => r = .ok (.ret (.bool true)) ∧ OldK s₁.heap s'.heap ∧ s'.os = s₁.os ∧ AllBare s'.gens) s₁) :
    WalkO q loose XP YP l.row.toRowW d [] (fun f vs => PySem.call f vs) := by
  intro w s₀ s₁ mg mb G Y fa o pm cd doc dV kV ho hd hcd hD hmg hg args vals as hpre hlay hrd hwl hlo
  obtain rfl : dV = .none := Dflts.none hD hdf
  obtain rfl : kV = .none := Dflts.noKw hD
  obtain ⟨a, vs, ns, rfl, rfl, hobj, hints, hlen⟩ := script_of hn hpre hwl
  refine enter_call (codeAny_mono (call w s₀ s₁ mg mb fa o pm cd doc a vs ns G Y ho (fd_plain hd) hcd hmg hobj hints hlen hg) fun r s' hq => ?_)
  obtain ⟨rfl, h2, h3, h4⟩ := hq
  exact ⟨.inl ⟨.bool true, .bool true, [], rfl, fun _ => rfl, .bool true, post_true l _, fun _ => ⟨List.Pairwise.nil, fun _ hm => (nomatch hm)⟩⟩, h2, h3, h4⟩
/-! ### rules over ANY heap (no ledger) from facts about the written part K: the library's own take a ledger (News) for what they write -/
section
variable {prog : Program} {w : World} {A : Around} {E : Value → Shared → Prop} {s : Shared} {K : Frag}
/-! the whole heap as the ledger: makes every rule that writes through a ledger a rule over any heap -/
def ledger (h : Heap) (L d : Addr) : List (Addr × Obj) := (List.range h.objs.size).filterMap fun a => if a = L ∨ a = d then none else (h.get? a).map fun o => (a, o)
end
end Att
namespace L2
open PySem PySem.Spec PyProof.Rows
theorem vals_ints : ∀ {vs : List Value} {ns : List Int}, IntsAre vs ns → Vals (ns.map V.int) vs
  | _, _, .nil => .nil
  | _, _, .cons n t h => .cons ⟨t, rfl⟩ (vals_ints h)
/-- nothing is tracked but the script, known to the object (or it is an object of the module) -/
def Only (H : Hp) : Prop := ∀ b, H b = none ∨ ∃ o xs, H b = some (.frz o (.lst xs))
/-- THE HEAD: the law's promise, at the heap behind the top. F, the promise of the law's def, may use that base is part of the heap (so K.In base, base.Ns mainGlobals mg stand in Mod) -/
theorem law_call {P : Program} {w : World} {K : PySem.W.Frag} {mg mb : Str → Option Value} {CX : CXT} {k : Nat} {fa a : Addr} {fd : FuncData} {x : Str} {sp : Sp} {s₁ : Shared} {vs : List Value} {ns : List Int}
    (KX : K.In s₁.heap) (hns : s₁.heap.Ns mainGlobals mg) (hb : s₁.heap.Ns builtinsNs mb) (hbb : ∀ x : Str, x ≠ "__name__" → mb x = bootBuiltins x) (hlim : s₁.heap.NoLimit) (hg : s₁.gens = #[])
    (ha : s₁.heap.get? a = some { cls := .type "list", data := .seq vs.toArray }) (hi : IntsAre vs ns) (hl : ns.length ≤ sizeLine) (hr : Room k callerA)
    (F : ∀ base : Heap, K.In base → base.Ns mainGlobals mg → FnOk P w K mg base CX k fa fd [x] sp) (hbind : ∀ (s : Shared) (u : Value), BindsTo s fd ⟨[u], []⟩ [(x, u)])
    (hsp : ∀ H : Hp, Only H → SqL K H a (ns.map V.int) → sp [.ref a] H (fun v _ => v = .bl true) fun _ _ _ => False)
    (hCX : ∀ H e s', CX [] H s₁ (fun _ _ _ => False) e s' → False) :
    codeAny (model P w) callerA (.call (.ref fa) ⟨[.ref a], []⟩) (fun r s' => r = .ok (.ret (.bool true)) ∧ OldK s₁.heap s'.heap ∧ s'.os = s₁.os ∧ AllBare s'.gens) s₁ := by
  have rv := vals_ints hi
  have lenV := hi.length
  -- from an abstract heap in which nothing but the script may be tracked
  have core : ∀ H : Hp, Only H → SqL K H a (ns.map V.int) → HOk P w H s₁.heap → (∀ b, H b ≠ none → b = a) → (H a ≠ none → K.lookup a = none) →
      codeAny (model P w) callerA (.call (.ref fa) ⟨[.ref a], []⟩) (fun r s' => r = .ok (.ret (.bool true)) ∧ OldK s₁.heap s'.heap ∧ s'.os = s₁.os ∧ AllBare s'.gens) s₁ := by
    intro H hO hS hok hA hK
    have base_of : ∀ {b : Addr} {o : Obj}, s₁.heap.get? b = some o → H b = none → (hidT s₁.heap H).get? b = some o := fun e n => hidT_get e n
    have noA : ∀ {b : Addr} {o : Obj} {es : Array DictEntry} {ep : Nat}, s₁.heap.get? b = some o → o.data = .dict es ep → H b = none := fun {b o es ep} e d => by
      cases q : H b with
      | none => rfl
      | some u =>
        have e' : b = a := hA b (by rw [q]; simp)
        subst e'
        rw [ha] at e; cases e
        have d' : Data.seq vs.toArray _ = Data.dict es ep := d
        cases d'
    have nsK : ∀ {b : Addr} {m : Str → Option Value}, s₁.heap.Ns b m → (hidT s₁.heap H).Ns b m := fun {b m} ⟨o, es, ep, e, d, r⟩ => ⟨o, es, ep, base_of e (noA e d), d, r⟩
    have hKb : K.In (hidT s₁.heap H) := fun b o e => base_of (KX b o e) (by
      cases q : H b with
      | none => rfl
      | some u =>
        have e' : b = a := hA b (by rw [q]; simp)
        subst e'
        rw [hK (by rw [q]; simp)] at e; cases e)
    have hM : Mod K mg (hidT s₁.heap H) := ⟨hKb, nsK hns, ⟨mb, nsK hb, hbb⟩, let ⟨mc, h1, h2⟩ := hlim; ⟨mc, nsK h1, h2⟩⟩
    have e0 : Env0 P w K mg (hidT s₁.heap H) callerA [] s₁ H := ⟨rfl, hM, fun b o e => of_hidT e, Nat.le_of_eq (hidT_size _ _), trivial, fun b hb => absurd (show b ∈ ([] : List Addr) from hb) (by simp), hok, .of_eq hg⟩
    refine codeAny_mono ((F _ hKb (nsK hns)).run callerA [] s₁ H ⟨[.ref a], []⟩ [.ref a] [.ref a] _ _ hr e0 (hbind s₁ (.ref a)) (.cons rfl .nil) (hsp H hO hS)) fun r s' h => ?_
    cases r with
    | error e => exact (hCX H e s' h).elim
    | ok fl =>
      cases fl with
      | next => exact False.elim h
      | brk => exact False.elim h
      | cont => exact False.elim h
      | ret u =>
        obtain ⟨v, H', os, bare, un, hok', r', q⟩ := h
        have q' : v = .bl true := q
        subst q'
        obtain rfl : u = Value.bool true := r'
        refine ⟨rfl, OldK.of_keep fun b o e => ?_, os, bare⟩
        cases q : H b with
        | none => exact un.keep b o e q (by intro z; exact absurd (show b ∈ ([] : List Addr) from z) (by simp)) (by simp)
        | some u =>
          rcases hO b with z | ⟨ob, xs, z⟩
          · rw [q] at z; cases z
          · have z2 := un.frzs b ob _ z
            obtain ⟨e1, _⟩ := hok b _ z
            obtain ⟨e2, _⟩ := hok' b _ z2
            rw [e] at e1; cases e1
            exact e2
  cases hk : K.lookup a with
  | some o =>
    -- the script is one of the module's own objects
    have e := KX a o hk
    rw [ha] at e
    cases e
    refine core (fun _ => none) (fun _ => .inl rfl) (.inr ⟨_, vs.toArray, _, hk, rfl, rfl, rfl, by rw [List.size_toArray, lenV]; exact hl, by simpa using rv⟩) (fun b u z => by have z' : (none : Option HO) = some u := z; cases z') (fun b z => absurd rfl z) fun z => absurd rfl z
  | none =>
    refine core (fun b => if b = a then some (.frz { cls := .type "list", data := .seq vs.toArray } (.lst (ns.map V.int))) else none) (fun b => ?_) (.inl (.inr ⟨{ cls := .type "list", data := .seq vs.toArray }, if_pos rfl⟩)) (fun b u z => ?_) (fun b z => ?_) fun _ => hk
    · by_cases hb : b = a
      · exact .inr ⟨_, _, if_pos hb⟩
      · exact .inl (if_neg hb)
    · by_cases hb : b = a
      · have z' := (if_pos hb).symm.trans z
        cases z'
        subst hb
        exact ⟨ha, by rw [List.length_map]; exact hl, vs, _, rv, ha⟩
      · have z' := (if_neg hb).symm.trans z
        cases z'
    · by_cases hb : b = a
      · exact hb
      · exact absurd (if_neg hb) z
end L2
namespace L2
open PySem PySem.Spec PyProof.Rows
abbrev KOf {K : PySem.W.Frag} {h : Heap} (_ : K.In h) : PySem.W.Frag := K
/-- the goal that k_head leaves (case hc), from the law's promise. F gives the function object fd (K's own) once, then the promise over every base -/
theorem walk_of {l : PySem.W.OpenLaw} {n k : Nat} {q : Program} {loose : List Str} {XP : (Str → Option Value) → Heap → Prop} {YP : World → Heap → Prop} {d : DefRec} {K : Params → PySem.W.Frag} {CX : World → CXT} {sp : World → Sp} {x : Str}
    (hn : l.most = some n) (hn2 : n ≤ sizeLine) (hdf : d.params.defaults = []) (hr : Room k callerA)
    (hY : ∀ (w : World) (h : Heap), YP w h → (K w.params).In h)
    (F : ∀ (w : World) (mg : Str → Option Value) (fa : Addr) (h : Heap), (K w.params).In h → h.Ns mainGlobals mg → mg d.name = some (.ref fa) →
      ∃ fd : FuncData, (∀ (s : Shared) (u : Value), BindsTo s fd ⟨[u], []⟩ [(x, u)]) ∧
        ∀ base : Heap, (K w.params).In base → base.Ns mainGlobals mg → FnOk l.prog w (K w.params) mg base (CX w) k fa fd [x] (sp w))
    (hsp : ∀ (w : World) (H : Hp) (a : Addr) (ns : List Int), ns.length ≤ n → Only H → SqL (K w.params) H a (ns.map V.int) → sp w [.ref a] H (fun v _ => v = .bl true) fun _ _ _ => False)
    (hCX : ∀ (w : World) (H : Hp) (s : Shared) (e : Value) (s' : Shared), CX w [] H s (fun _ _ _ => False) e s' → False) :
    PySem.W.WalkO q loose XP YP l.row.toRowW d [] (fun f vs => PySem.call f vs) := by
  refine Att.attach_call hn hdf fun w s₀ s₁ mg mb fa o pm cd doc a vs ns G Y ho hd hcd hmg hobj hints hlen hg => ?_
  have KX := hY w _ Y
  obtain ⟨fd, hb, hF⟩ := F w mg fa _ KX G.T.g hmg
  exact law_call KX G.T.g G.T.b G.T.builtins G.T.nolimit hg hobj hints (Nat.le_trans hlen hn2) hr hF hb (fun H hO hS => hsp w H a ns hlen hO hS) fun H e s' => hCX w H s₁ e s'
/-- the same where the promise hangs on the written part alone: (sp := My.sp_law), no hole under a binder -/
theorem walk_ofK {l : PySem.W.OpenLaw} {n k : Nat} {q : Program} {loose : List Str} {XP : (Str → Option Value) → Heap → Prop} {YP : World → Heap → Prop} {d : DefRec} {K : Params → PySem.W.Frag} {CX : CXT} {sp : PySem.W.Frag → Sp} {x : Str}
    (hn : l.most = some n) (hn2 : n ≤ sizeLine) (hdf : d.params.defaults = []) (hr : Room k callerA)
    (hY : ∀ (w : World) (h : Heap), YP w h → (K w.params).In h)
    (F : ∀ (w : World) (mg : Str → Option Value) (fa : Addr) (h : Heap), (K w.params).In h → h.Ns mainGlobals mg → mg d.name = some (.ref fa) →
      ∃ fd : FuncData, (∀ (s : Shared) (u : Value), BindsTo s fd ⟨[u], []⟩ [(x, u)]) ∧
        ∀ base : Heap, (K w.params).In base → base.Ns mainGlobals mg → FnOk l.prog w (K w.params) mg base CX k fa fd [x] (sp (K w.params)))
    (hsp : ∀ (K : PySem.W.Frag) (H : Hp) (a : Addr) (ns : List Int), ns.length ≤ n → Only H → SqL K H a (ns.map V.int) → sp K [.ref a] H (fun v _ => v = .bl true) fun _ _ _ => False)
    (hCX : ∀ (H : Hp) (s : Shared) (e : Value) (s' : Shared), CX [] H s (fun _ _ _ => False) e s' → False) :
    PySem.W.WalkO q loose XP YP l.row.toRowW d [] (fun f vs => PySem.call f vs) :=
  walk_of (K := K) (CX := fun _ => CX) (sp := fun w => sp (K w.params)) hn hn2 hdf hr hY F (fun w H a ns h1 h2 h3 => hsp (K w.params) H a ns h1 h2 h3) fun _ H s e s' => hCX H s e s'
end L2
/- THE LAST THEOREM (shape; LID, My.* are yours):
   My.Adr: a structure of the addresses that your layer names (classes, functions); My.Txt K t: a structure (Prop) of the equations over K;
   My.txt_mk : {K} {implicit addresses ..} (e1 : nsIn K mainGlobals "law" = some (some (.ref f))) (e2 : K.lookup f = some ⟨oc, od, .func (fnOf "law" "law" params body scope dV kV doc pm an cdv ct), sl⟩) (e3 : codeIn K cdv "law" = true) .. : ∃ t, My.Txt K t
set_option maxRecDepth 100000 in
set_option maxHeartbeats 0 in
theorem PySem.Challenge.cw_LID_holds : PySem.Challenge.rw_LID.Holds := by
  w_on; o_law; k_head; (case hw => w_witness2)
  k_fill
  refine L2.walk_of (l := PySem.Challenge.rw_LID) (n := 63) (k := 40) (x := "script") (CX := fun w => ..) (sp := fun _ => My.sp_law) rfl (by decide) rfl ⟨rfl, by decide, by decide⟩ (fun w h Y => PySem.W.kIn_of Y) ?F ?S ?C
  case F =>
    intro w mg fa h KX G hmg
    have T : ∃ t, My.Txt (L2.KOf KX) t := by
      dsimp only [L2.KOf]                          -- K must stand as «<heap const> w.params» for k_is
      refine' My.txt_mk ?e1 ?e2 ?e3 ..
      (case e1 => PySem.W.k_is)                    -- in the order: a name -> its address -> its object -> its parts
      (case e2 => PySem.W.k_is)
      ..
    obtain ⟨t, T⟩ := T
    have e0 := hmg.symm.trans (PySem.W.mg_of KX G T.law)
    cases e0                                       -- fa is the law's own address
    exact ⟨_, fun s u => .of_eq rfl, fun base kb nb => My.law_fn T kb nb⟩     -- if «.of_eq rfl» comes too early: refine' ⟨_, ?b, fun base kb nb => My.law_fn T kb nb⟩; exact fun s u => .of_eq rfl
  case S => exact fun w H a ns hl hO hS => ..
  case C => exact ..
(the tactic k_is has no namespace: write k_is) -/
/-! SHORT WORDS over the layer: a def of the text, its body, what a loop and a test want. -/
namespace L2
open PySem PySem.Spec PyProof.Rows
/-! ### the text by places -/
/-- the j-th statement of a class's body -/
def inClass (s : Stmt) (j : Nat) : Stmt := match s with
  | .ClassDef _ _ _ body _ _ _ _ _ _ _ => body.getD j (.Pass ⟨0, 0, 0, 0⟩)
  | _ => .Pass ⟨0, 0, 0, 0⟩
def defArgs (s : Stmt) : Arguments := match s with
  | .FunctionDef _ a _ _ _ _ _ _ _ _ => a
  | _ => { posonlyargs := [], args := [], vararg := none, kwonlyargs := [], kw_defaults := [], kwarg := none, defaults := [] }
def defBody (s : Stmt) : List Stmt := match s with
  | .FunctionDef _ _ b _ _ _ _ _ _ _ => b
  | _ => []
def defScope (s : Stmt) : Scope := match s with
  | .FunctionDef _ _ _ _ _ _ sc _ _ _ => sc
  | _ => { kind := .function, names := [], isGenerator := false, isCoroutine := false }
/-! ### no exception leaves a def -/
abbrev CX0 : CXT := fun _ _ _ _ _ _ => False
abbrev E0 : XK := fun _ _ _ => False
theorem pass0 {X : Cx} : Passes CX0 X E0 := fun _ _ _ _ _ _ _ h => h.elim
/-! ### a def (or method) of the text as it stands behind the top -/
structure Fun (K : PySem.W.Frag) (x qual : Str) (st : Stmt) (f : Addr) (fd : FuncData) : Prop where
  ex : ∃ (oc : Value) (od : Option Addr) (kV doc pm : Value) (an : Option Addr) (cdv ct : Value) (osl : Array (Option Value)),
    fd = PySem.W.fnOf x qual (defArgs st) (defBody st) (defScope st) .none kV doc pm an cdv ct ∧ K.lookup f = some ⟨oc, od, .func fd, osl⟩ ∧ PySem.W.codeIn K cdv qual = true
  kp : PySem.W.keepIn K (.ref f) = true
section
variable {P : Program} {w : World} {K : PySem.W.Frag} {mg : Str → Option Value} {base : Heap}
/-- THE RULE for a def: its body as a term of rules, and the reading of that term -/
theorem Fun.ok {x qual : Str} {st : Stmt} {f : Addr} {fd : FuncData} {N ps : List Str} {k : Nat} {sp : Sp} (F : Fun K x qual st f fd) (S : FnScope N ps (defScope st)) (len : ∀ vs H Q E, sp vs H Q E → vs.length = ps.length)
    (hbody : ∀ (cdv : Value) (A : Around) (outer : List Env) (s : Shared) (H : Hp) (vs : List V) (Q : VK) (E : XK), Room k (A.deeper (envOfC qual (defScope st) s.heap.objs.size f cdv)) → sp vs H Q E →
      ∃ t, PSs (cxOf CX0 P w K mg base N qual (defScope st) f cdv A outer s H E).nox (defBody st) t ∧ t { nx := fun _ H' => Q .non H', rt := Q } (start N vs) H) : FnOk P w K mg base CX0 (k + 1) f fd ps sp := by
  obtain ⟨oc, od, kV, doc, pm, an, cdv, ct, osl, rfl, lk, hcd⟩ := F.ex
  refine fn_of lk hcd S len fun A outer s H vs Q E hr hsp => ?_
  obtain ⟨t, h, q⟩ := hbody cdv A outer s H vs Q E hr hsp
  exact ⟨t, h.nox, q⟩
/-- how its arguments bind (no defaults): h is «fun _ _ _ _ _ _ us hl => match us, hl with | [_, _], _ => rfl», one _ a parameter -/
theorem Fun.binds {x qual : Str} {st : Stmt} {f : Addr} {fd : FuncData} {ps : List Str} (F : Fun K x qual st f fd)
    (h : ∀ (kV doc pm : Value) (an : Option Addr) (cdv ct : Value) (us : List Value), us.length = ps.length → bindArgs (PySem.W.fnOf x qual (defArgs st) (defBody st) (defScope st) .none kV doc pm an cdv ct) ⟨us, []⟩ = pure (ps.zip us)) : Binds K fd ps [] := by
  obtain ⟨oc, od, kV, doc, pm, an, cdv, ct, osl, rfl, lk, hcd⟩ := F.ex
  exact .all (h kV doc pm an cdv ct)
theorem fun_mk {x qual : Str} {st : Stmt} {f : Addr} {oc : Value} {od an : Option Addr} {osl : Array (Option Value)} {kV doc pm cdv ct : Value} (l : K.lookup f = some ⟨oc, od, .func (PySem.W.fnOf x qual (defArgs st) (defBody st) (defScope st) .none kV doc pm an cdv ct), osl⟩)
    (c : PySem.W.codeIn K cdv qual = true) (k : PySem.W.keepIn K (.ref f) = true) : Fun K x qual st f (PySem.W.fnOf x qual (defArgs st) (defBody st) (defScope st) .none kV doc pm an cdv ct) := ⟨⟨oc, od, kV, doc, pm, an, cdv, ct, osl, rfl, l, c⟩, k⟩
end
theorem small1000 {n : Nat} (h : n ≤ 1000) : n < sizeLine := Nat.lt_of_le_of_lt h (by decide)
/-! ### expressions in short: the name that stands in the i-th slot -/
section
variable {X : Cx}
end
/-! ### tests -/
theorem ite2 {c A B : Prop} [Decidable c] (h1 : c → A) (h2 : ¬ c → B) : if c then A else B := by
  by_cases h : c
  · rw [if_pos h]
    exact h1 h
  · rw [if_neg h]
    exact h2 h
/-! ### heaps -/
/-- all that was tracked is as it was -/
def Same (H H' : Hp) : Prop := ∀ b o, H b = some o → H' b = some o
end L2
set_option Elab.async false
set_option linter.all false
set_option maxRecDepth 100000
set_option maxHeartbeats 4000000
/-! list comprehensions over the layer -/
namespace L2
open PySem PySem.Spec PyProof.Rows
section
variable {X : Cx}
/-- the block's slots: those that stand in the frame around, by their places there -/
def capS (cap : List (Option Nat)) (σ : St) : St := cap.map fun o => o.bind fun i => (σ[i]?).join
/-- the block's context -/
def cxComp (X : Cx) (cN : List Str) (scope : Scope) (cl : List (Str × Addr)) (fp : List Addr) (s : Shared) (H : Hp) : Cx :=
  { X with N := cN, s₀ := s, H₀ := H, env := compEnvC scope cl s.heap.objs.size X.env, outer := X.stack, ex := fp, fn := fun _ => false, pn := [], xe := fun _ _ => False }
/-- the tests of a clause -/
def PIfs (X : Cx) (ifs : List Expr) (c : TT) : Prop :=
  ∀ (pins : List (Addr × Obj)) (s : Shared) (σ : St) (H : Hp) (Q : Bool → Hp → Prop), Inv X pins σ H s → c σ H Q →
    wpAny (model X.prog X.w) X.A (forIn ifs true fun c r => if r = true then do let ok ← isTrue c X.env (eval c X.env); pure (ForInStep.yield ok) else pure (ForInStep.yield r)) (TP X pins σ Q) X.xe s
def tNoIf : TT := fun _ H Q => Q true H
theorem pif_nil : PIfs X [] tNoIf := fun _ _ _ H _ I h => wpAny_tests_nil ⟨H, I, h⟩
theorem pif_one {e : Expr} {t : TT} (h : PT X e t) : PIfs X [e] t := fun pins s σ H Q I q => wpAny_tests_one (h pins s σ H Q I q)
/-- a target stores nowhere but at js -/
def GKeep (js : List Nat) (g : TG) : Prop := ∀ x σ H Q, g x σ H Q → g x σ H fun σ' H' => Q σ' H' ∧ σ'.length = σ.length ∧ ∀ i, i ∉ js → σ'[i]? = σ[i]?
def GsKeep (js : List Nat) (g : TGs) : Prop := ∀ x σ H Q, g x σ H Q → g x σ H fun σ' H' => Q σ' H' ∧ σ'.length = σ.length ∧ ∀ i, i ∉ js → σ'[i]? = σ[i]?
theorem gk_name {i : Nat} : GKeep [i] (gName i) := fun x σ H Q h => ⟨h, by simp, fun j hj => by
  rw [List.getElem?_set_ne]
  intro e; exact hj (by simp [e])⟩
theorem gk_nil : GsKeep [] gNil := fun x σ H Q h => ⟨h.1, h.2, rfl, fun _ _ => rfl⟩
def TGmono (g : TG) : Prop := ∀ x σ H (Q Q' : St → Hp → Prop), (∀ σ' H', Q σ' H' → Q' σ' H') → g x σ H Q → g x σ H Q'
def TGsmono (g : TGs) : Prop := ∀ x σ H (Q Q' : St → Hp → Prop), (∀ σ' H', Q σ' H' → Q' σ' H') → g x σ H Q → g x σ H Q'
theorem gm_name {i : Nat} : TGmono (gName i) := fun x σ H Q Q' h q => h _ _ q
theorem gm_nil : TGsmono gNil := fun x σ H Q Q' h q => ⟨q.1, h _ _ q.2⟩
theorem gm_cons {g : TG} {u : TGs} (a : TGmono g) (b : TGsmono u) : TGsmono (gCons g u) := fun x σ H Q Q' h q => by
  obtain ⟨v, r, e, q⟩ := q
  exact ⟨v, r, e, a _ _ _ _ _ (fun σ' H' z => b _ _ _ _ _ h z) q⟩
theorem gk_cons {g : TG} {u : TGs} {js ks : List Nat} (a : GKeep js g) (am : TGmono g) (b : GsKeep ks u) (bm : TGsmono u) : GsKeep (js ++ ks) (gCons g u) := fun x σ H Q q => by
  obtain ⟨v, r, e, q⟩ := q
  refine ⟨v, r, e, am _ _ _ _ _ (fun σ' H' z => ?_) (a _ _ _ _ q)⟩
  obtain ⟨z, l1, k1⟩ := z
  refine bm _ _ _ _ _ (fun σ2 H2 z2 => ?_) (b _ _ _ _ z)
  obtain ⟨z2, l2, k2⟩ := z2
  exact ⟨z2, l2.trans l1, fun i hi => (k2 i fun z => hi (List.mem_append_right _ z)).trans (k1 i fun z => hi (List.mem_append_left _ z))⟩
theorem gk_tup {K : PySem.W.Frag} {n : Nat} {u : TGs} {js : List Nat} (b : GsKeep js u) : GKeep js (gTup K n u) := fun x σ H Q q => by
  obtain ⟨a, xs, e, hq, hl, q⟩ := q
  exact ⟨a, xs, e, hq, hl, b _ _ _ _ q⟩
/-- a comprehension's turns: p is the new list -/
def tGo (cap : List (Option Nat)) (g : TG) (c : TT) (te : TE) (σ : St) (Q : Addr → Hp → Prop) (J : It) (H1 : Hp) : Prop := ∀ p, H1 p = none → ∃ W : Nat → Nat → Hp → Prop, (∃ m, W 0 m (upd H1 p (.lst []))) ∧ ∀ i m H, W i m H →
  (J.stop i H ∧ Q p H) ∨ (J.go i H ∧ ∃ N : Hp → Prop, (∀ H', N H' → ∃ m', m' < m ∧ W (i + 1) m' H') ∧ ∀ x H', J.yld i H x H' → g x (capS cap σ) H' fun σ2 H2 => c σ2 H2 fun b H3 =>
    if b = true then te σ2 H3 fun v H4 => ∃ xs, H4 p = some (.lst xs) ∧ xs.length < sizeLine ∧ N (upd H4 p (.lst (xs ++ [v]))) else N H3)
/-- a comprehension's reading -/
def tCompL (cap : List (Option Nat)) (wi : TI) (g : TG) (c : TT) (te : TE) : St → Hp → (Addr → Hp → Prop) → Prop := fun σ H Q => wi σ H fun J H1 => tGo cap g c te σ Q J H1
structure CompOk (X : Cx) (cN : List Str) (cap : List (Option Nat)) (scope : Scope) (cl : List (Str × Addr)) : Prop where
  clos : closureFor scope X.env = pure cl
  sub : ∀ n a, cl.lookup n = some a → X.env.cells.lookup n = some a
  cell : ∀ y ∈ scope.names, y.2 ≠ .cell
  kind : scope.kind = .function
  names : ∀ x ∈ scope.names, x.2 = .local → scope.names.lookup x.1 = some .local
  len : cap.length = cN.length
  has : ∀ x, ((relabel scope X.env).names.lookup x = some .cell ∨ (relabel scope X.env).names.lookup x = some .free) → ∃ a, cl.lookup x = some a
  capd : ∀ (i j : Nat) (x : Str), cap[i]? = some (some j) → cN[i]? = some x → X.N[j]? = some x ∧ Vis X.env.scope x ∧ X.env.scope.names.lookup x ≠ some .local ∧ ((relabel scope X.env).names.lookup x = some .cell ∨ (relabel scope X.env).names.lookup x = some .free)
theorem capS_len {cap : List (Option Nat)} {σ : St} : (capS cap σ).length = cap.length := List.length_map _
theorem capS_get {cap : List (Option Nat)} {σ : St} {i : Nat} {v : V} (h : (capS cap σ)[i]? = some (some v)) : ∃ j, cap[i]? = some (some j) ∧ σ[j]? = some (some v) := by
  unfold capS at h
  rw [List.getElem?_map] at h
  cases e : cap[i]? with
  | none => rw [e] at h; cases h
  | some o =>
    rw [e] at h
    cases o with
    | none => cases h
    | some j =>
      refine ⟨j, rfl, ?_⟩
      simp only [Option.map_some, Option.bind_some, Option.some.injEq] at h
      cases q : σ[j]? with
      | none => rw [q] at h; cases h
      | some u => rw [q] at h; simp only [Option.join_some] at h; rw [h]
/-- the block begins -/
theorem comp_start {cN : List Str} {cap : List (Option Nat)} {scope : Scope} {cl : List (Str × Addr)} {fp : List Addr} {pins : List (Addr × Obj)} {σ : St} {H : Hp} {s : Shared} {h' : Heap} {m : Str → Option Value} {tk : Nat}
    (C : CompOk X cN cap scope cl) (I : Inv X pins σ H s) (f : ∀ b ∈ fp, FpOk X pins H b) (fl : ∀ b ∈ fp, b < s.heap.objs.size) (hn : h'.Ns s.heap.objs.size m) (k : ∀ b o, s.heap.get? b = some o → h'.get? b = some o) :
    Inv (cxComp X cN scope cl fp s H) [] (capS cap σ) H { s with heap := h', toks := tk } := by
  have hfs : ∀ b ∈ fp, b ∉ frs X.stack := fun b hb z => by
    rcases List.mem_cons.mp (I.stkSub b z) with e | z
    · exact (f b hb).2.1 e
    · exact (f b hb).2.2.1 z
  have hcl : ∀ x c, cl.lookup x = some c → ∃ v, s.heap.IsCell c v := fun x c e => I.cell x c (C.sub x c e)
  refine ⟨⟨I.ok.mod, ?_, I.ok.glob, I.ok.blt, Nat.le_refl _, fun x y c e1 e2 => I.ok.inj x y c (C.sub x c e1) (C.sub y c e2), C.has, fun _ _ z => (nomatch z), I.ok.hd, I.ok.frames, .inl rfl, fun b hb => ⟨Nat.ne_of_lt (fl b hb), fun x c e => (f b hb).2.2.2.2.1 x c (C.sub x c e)⟩,
      I.bs, Nat.le_trans I.ok.bsz I.sz, fun b o e z => ?_, hfs, I.stack, I.stkFree⟩, rfl, I.bare, Un.kept k, ⟨m, hn, fun i x v h1 h2 h3 => ?_⟩, fun x c e => ?_, I.fresh, fun x c e => I.freeC x c (C.sub x c e), fun p hp => absurd hp (by simp [cxComp]), I.hok.kept k, ?_⟩
  · exact C.kind
  · rcases (f b z).2.2.2.1 with q | q
    · exact I.ok.noex b o e q
    · exact absurd (Nat.lt_of_lt_of_le (Heap.lt_size (I.ok.bs b o e).1) q) (Nat.lt_irrefl _)
  · obtain ⟨j, hj, hσ⟩ := capS_get h2
    obtain ⟨n1, n2, n3, n4⟩ := C.capd i j x hj h1
    obtain ⟨mo, hno, hlo⟩ := I.loc
    obtain ⟨u, ru, lk⟩ := hlo j x v n1 hσ n2
    refine ⟨u, ru, ?_⟩
    rcases lk with ⟨k1, _⟩ | ⟨_, c, e, z⟩
    · exact absurd k1 n3
    · obtain ⟨a, ha⟩ := C.has x n4
      have ea := C.sub x a ha
      rw [e] at ea; cases ea
      obtain ⟨o, ho, hd⟩ := z
      exact .inr ⟨n4, c, ha, ⟨o, k _ _ ho, hd⟩⟩
  · obtain ⟨v, o, ho, hd⟩ := hcl x c e
    exact ⟨v, o, k _ _ ho, hd⟩
  · show (capS cap σ).length = cN.length
    rw [capS_len, C.len]
/-- the block is left -/
theorem comp_end {cN : List Str} {scope : Scope} {cl : List (Str × Addr)} {fp : List Addr} {pins pins' : List (Addr × Obj)} {σ σ' : St} {H H' : Hp} {s s' : Shared} {h' : Heap}
    (I : Inv X pins σ H s) (f : ∀ b ∈ fp, FpOk X pins H b) (J : Inv (cxComp X cN scope cl fp s H) pins' σ' H' s') (sb : Heap.SameBut s.heap.objs.size s'.heap h') : Inv X pins σ H' { s' with heap := h' } := by
  have ne : ∀ b o, s.heap.get? b = some o → b ≠ s.heap.objs.size := fun b o e => Nat.ne_of_lt (Heap.lt_size e)
  have B : Un (frs X.stack) fp H H' s.heap s'.heap := J.base
  refine I.call' (s' := { s' with heap := h' }) (ch := fp) J.os ⟨fun b o e n hb hx => ?_, fun b o e n hb hx => ?_, B.free, fun b o e hx => ?_, B.tups, B.frzs, B.tbls⟩ (fun b o e => ?_) J.bare fun b hb => ?_
  · exact (sb.2 b (ne b o e)).trans (B.keep b o e n hb hx)
  · obtain ⟨sl, q⟩ := B.slot b o e n hb hx
    exact ⟨sl, (sb.2 b (ne b o e)).trans q⟩
  · obtain ⟨o', q⟩ := B.there b o e hx
    exact ⟨o', (sb.2 b (ne b o e)).trans q⟩
  · have hf : H' s.heap.objs.size = none := J.free
    refine (J.hok b o e).stay (fun c w' hc q => (sb.2 c ?_).trans q) (fun _ q => q) fun _ _ q => q
    rintro rfl
    rcases hc with rfl | hc
    · rw [hf] at e; cases e
    · rw [hf] at hc; cases hc
  · obtain ⟨f0, f1, f2, f3, f4, f5⟩ := f b hb
    exact ⟨f3, f1, f4, f5⟩
theorem wpAny_falseE {α : Type} {t : Sem α} {Q : α → Shared → Prop} {M : Model} {A : Around} {E : Value → Shared → Prop} {s : Shared} (h : wpAny M A t Q (fun _ _ => False) s) : wpAny M A t Q E s := wpAny_mono h (fun _ _ q => q) fun _ _ f => f.elim
/-- the loop of the block -/
theorem comp_loop {tg iter elt : Expr} {ifs : List Expr} {scope : Scope} {pos : Pos} {cN : List Str} {cap : List (Option Nat)} {cl : List (Str × Addr)} {js : List Nat} {g : TG} {c : TT} {te : TE} {fp : List Addr} {it D : Addr} {tn : Nat → Heap → Prop} {J : It}
    {σ : St} {H : Hp} {s s' : Shared} {Q : Addr → Hp → Prop} {R : Result → Shared → Prop} {H₀ : Hp} (X : Cx)
    (hc : X.calm = true) (hg : PG (cxComp X cN scope cl fp s H₀) tg g) (gm : TGmono g) (gk : GKeep js g) (hjs : ∀ j ∈ js, (cap[j]?).join = none) (ht : PIfs (cxComp X cN scope cl fp s H₀) ifs c) (tm : ∀ σ H (Q Q' : Bool → Hp → Prop), (∀ b H', Q b H' → Q' b H') → c σ H Q → c σ H Q') (he : PE (cxComp X cN scope cl fp s H₀) elt te)
    (T : Turn X.prog X.w X.K tg J fp it tn) (W : Nat → Nat → Hp → Prop)
    (turn : ∀ i m H, W i m H → (J.stop i H ∧ Q D H) ∨ (J.go i H ∧ ∃ N : Hp → Prop, (∀ H', N H' → ∃ m', m' < m ∧ W (i + 1) m' H') ∧ ∀ x H', J.yld i H x H' → g x (capS cap σ) H' fun σ2 H2 => c σ2 H2 fun b H3 =>
      if b = true then te σ2 H3 fun v H4 => ∃ xs, H4 D = some (.lst xs) ∧ xs.length < sizeLine ∧ N (upd H4 D (.lst (xs ++ [v]))) else N H3))
    (m : Nat) (w0 : W 0 m H) (I : Inv (cxComp X cN scope cl fp s H₀) [] (capS cap σ) H s') (st : tn 0 s'.heap) (f : ∀ b ∈ fp, FpOk (cxComp X cN scope cl fp s H₀) [] H b)
    (hR : ∀ σ' H' s', Inv (cxComp X cN scope cl fp s H₀) [] σ' H' s' → Q D H' → R (.ok .next) s') :
    codeAny (model X.prog X.w) X.A (.compLoop (.ListComp elt [⟨tg, iter, ifs, 0⟩] scope pos) 0 (.ref it) (.ref D) (cxComp X cN scope cl fp s H₀).env) R s' := by
  have stat : ∀ {H' : Hp}, (∀ b ∈ fp, H' b = none) → ∀ b ∈ fp, FpOk (cxComp X cN scope cl fp s H₀) [] H' b := fun hn b hb => ⟨hn b hb, (f b hb).2⟩
  refine codeAny_loop rfl (fun n s' => ∃ i H', Inv (cxComp X cN scope cl fp s H₀) [] (capS cap σ) H' s' ∧ tn i s'.heap ∧ (∀ b ∈ fp, H' b = none) ∧ W i n H') ?_ m ⟨0, H, I, st, fun b hb => (f b hb).1, w0⟩
  rintro n s3 ⟨i, H3, I3, st3, fr3, w3⟩
  show wpAny _ X.A ((compTurn (.ListComp elt [⟨tg, iter, ifs, 0⟩] scope pos) 0 (.ref it) (.ref D) (cxComp X cN scope cl fp s H₀).env).onRaise (fun x => do noteFrame x (cxComp X cN scope cl fp s H₀).env; theTreesLotGoes x)) _ _ s3
  refine wpAny_noted (wpAny_falseE ?_)
  rw [compTurn_list]
  refine wpAny_bind (wpAny_standAt (wpAny_bind ?_))
  rcases turn i n H3 w3 with ⟨stop, qn⟩ | ⟨go, N, hN, step⟩
  · refine thn (T.done (cxComp X cN scope cl fp s H₀) rfl rfl rfl hc i [] s3 _ H3 _ I3 (stat fr3) st3 stop) fun r s4 ⟨hr, I4⟩ => ?_
    subst hr
    exact wpAny_pure (hR _ _ _ I4 qn)
  · refine thn (T.item (cxComp X cN scope cl fp s H₀) rfl rfl rfl hc i [] s3 _ H3 _ I3 (stat fr3) st3 go) fun r s4 ⟨u, hr, h4⟩ => ?_
    subst hr
    refine wpAny_bind (thn h4 fun _ s5 ⟨x, H5, I5, r5, y5, st5, fr5⟩ => ?_)
    have I5' := I5.pinned (stat fr5) (T.obj _ _ st5)
    refine wpAny_bind (thn (hg _ s5 _ H5 x u _ I5' r5 (gk _ _ _ _ (step x H5 y5))) fun _ s6 ⟨σ6, H6, I6, q6, l6, k6⟩ => ?_)
    have back : ∀ {H7 : Hp} {s7 : Shared}, Inv (cxComp X cN scope cl fp s H₀) ([] ++ pinsAt fp s5.heap) σ6 H7 s7 → N H7 → ∃ m, m < n ∧ ∃ i H', Inv (cxComp X cN scope cl fp s H₀) [] (capS cap σ) H' s7 ∧ tn i s7.heap ∧ (∀ b ∈ fp, H' b = none) ∧ W i m H' := fun {H7 s7} I7 n7 => by
      obtain ⟨m', hm, w7⟩ := hN H7 n7
      refine ⟨m', hm, i + 1, H7, I7.unpinned.weak l6.symm fun j v hj => ?_, T.keep _ _ _ st5 fun b hb o e => (I7.pin (b, o) (List.mem_append_right _ (List.mem_append_right _ (mem_pinsAt hb e)))).1, fun b hb => ?_, w7⟩
      · by_cases hjj : j ∈ js
        · obtain ⟨z, hz, _⟩ := capS_get hj
          have := hjs j hjj
          rw [hz] at this; cases this
        · rw [k6 j hjj]; exact hj
      · obtain ⟨o, e, d⟩ := T.obj _ _ st5 b hb
        exact (I7.pin (b, o) (List.mem_append_right _ (List.mem_append_right _ (mem_pinsAt hb e)))).2.1
    refine wpAny_bind (thn (ht _ s6 σ6 H6 _ I6 q6) fun b s7 ⟨H7, I7, q7⟩ => ?_)
    cases b with
    | false =>
      rw [if_neg Bool.false_ne_true] at q7
      exact wpAny_pure ⟨rfl, back I7 q7⟩
    | true =>
      rw [if_pos rfl] at q7
      refine wpAny_bind (wpAny_bind (thn (he _ s7 σ6 H7 _ I7 q7) fun y s8 ⟨v, H8, I8, r8, xs, e8, z8, n8⟩ => ?_))
      refine wpAny_bind (thn (mt_append _ s8 σ6 H8 (.ref D) [v] (.ref D) [y] (fun _ H9 => N H9) I8 rfl (.cons r8 .nil) ⟨D, xs, v, rfl, rfl, e8, z8, n8⟩) fun _ s9 ⟨_, H9, I9, _, q9⟩ => ?_)
      exact wpAny_pure (wpAny_pure ⟨rfl, back I9 q9⟩)
section
variable {X : Cx} {tg iter elt : Expr} {ifs : List Expr} {scope : Scope} {pos : Pos} {cN : List Str} {cap : List (Option Nat)} {cl : List (Str × Addr)} {js : List Nat} {wi : TI} {g : TG} {c : TT} {te : TE}
/-- what a comprehension's parts must be -/
structure CompP (X : Cx) (tg iter elt : Expr) (ifs : List Expr) (scope : Scope) (cN : List Str) (cap : List (Option Nat)) (cl : List (Str × Addr)) (js : List Nat) (wi : TI) (g : TG) (c : TT) (te : TE) : Prop where
  calm : X.calm = true
  ok : X.Ok → CompOk X cN cap scope cl
  it : PI X tg iter wi
  tgt : ∀ fp s H, PG (cxComp X cN scope cl fp s H) tg g
  gm : TGmono g
  gk : GKeep js g
  js0 : ∀ j ∈ js, (cap[j]?).join = none
  ts : ∀ fp s H, PIfs (cxComp X cN scope cl fp s H) ifs c
  tm : ∀ σ H (Q Q' : Bool → Hp → Prop), (∀ b H', Q b H' → Q' b H') → c σ H Q → c σ H Q'
  el : ∀ fp s H, PE (cxComp X cN scope cl fp s H) elt te
  fold : ∀ x, foldedSetIterable iter X.env x = pure x
theorem comp_block {pins : List (Addr × Obj)} {σ : St} {H : Hp} {s : Shared} {Q : Addr → Hp → Prop} {RR : Value → Addr → Result → Shared → Prop} (C : CompP X tg iter elt ifs scope cN cap cl js wi g c te) (I : Inv X pins σ H s) (h : tCompL cap wi g c te σ H Q)
    (hRR : ∀ (D : Addr) (fp : List Addr) (s3 : Shared) (H3 : Hp) (σ' : St) (H' : Hp) (s' : Shared), Inv X pins σ H3 s3 → (∀ b ∈ fp, FpOk X pins H3 b) → Inv (cxComp X cN scope cl fp s3 H3) [] σ' H' s' → Q D H' → RR (.ref D) s3.heap.objs.size (.ok .next) s') :
    wpAny (model X.prog X.w) X.A (eval iter X.env) (fun x s₁ => wpAny (model X.prog X.w) X.A (pyIter x) (fun it s₂ => wpAny (model X.prog X.w) X.A (newList []) (fun acc s₃ =>
      wpAny (model X.prog X.w) X.A (newFunctionEnv scope X.env.globals cl [] X.env.qual none .none (some X.env)) (fun cenv s₄ =>
        codeAny (model X.prog X.w) X.A (.compStart (.ListComp elt [⟨tg, iter, ifs, 0⟩] scope pos) 0 it acc { cenv with scope := relabel scope X.env }) (RR acc cenv.locals) s₄) X.xe s₃) X.xe s₂) X.xe s₁) X.xe s := by
  refine thn (C.it pins s σ H _ I h) fun v s1 h1 => thn h1 fun itv s2 h2 => ?_
  obtain ⟨it, fp, tn, J, H2, e, I2, T, st2, f2, R2⟩ := h2
  subst e
  obtain ⟨W, ⟨m, w0⟩, turn⟩ := R2 s2.heap.objs.size I2.fresh
  have I3 : Inv X pins σ (upd H2 s2.heap.objs.size (.lst [])) { s2 with heap := s2.heap.push { cls := .type "list", data := .seq ([] : List Value).toArray }, toks := s2.toks } := I2.lnew (ys := []) (its := []) .nil (Nat.zero_le _)
  have fl : ∀ b ∈ fp, b < s2.heap.objs.size := fun b hb => by
    obtain ⟨o, e, _⟩ := T.obj _ _ st2 b hb
    exact Heap.lt_size e
  have f3 : ∀ b ∈ fp, FpOk X pins (upd H2 s2.heap.objs.size (.lst [])) b := fun b hb => ⟨by rw [upd_ne (Nat.ne_of_lt (fl b hb))]; exact (f2 b hb).1, (f2 b hb).2⟩
  refine wpAny_newObj_type (wpAny_newFunctionEnv (C.ok I.ok).cell (by intro y hy; simp at hy) (fun h₁ hns₁ hsb₁ => ?_) (C.ok I.ok).kind)
  dsimp only at hns₁ hsb₁ ⊢
  generalize hs3 : ({ s2 with heap := s2.heap.push { cls := .type "list", data := .seq ([] : List Value).toArray }, toks := s2.toks } : Shared) = s3 at I3
  have hh3 : s3.heap = s2.heap.push { cls := .type "list", data := .seq ([] : List Value).toArray } := by rw [← hs3]
  rw [← hh3] at hns₁ hsb₁ ⊢
  have fl3 : ∀ b ∈ fp, b < s3.heap.objs.size := fun b hb => by rw [hh3, Heap.size_push]; exact Nat.lt_succ_of_lt (fl b hb)
  have k1 : ∀ b o, s3.heap.get? b = some o → h₁.get? b = some o := fun b o e => (hsb₁.2 b (Nat.ne_of_lt (Heap.lt_size e))).trans (Heap.get?_push_of_some _ e)
  have I4 := comp_start (tk := s2.toks + ([] : List (Str × Value)).length) (C.ok I.ok) I3 f3 fl3 hns₁ k1
  have e4 : ({ s3 with heap := h₁, toks := s2.toks + ([] : List (Str × Value)).length } : Shared) = { s2 with heap := h₁, toks := s2.toks + ([] : List (Str × Value)).length } := by rw [← hs3]
  rw [e4] at I4
  have st4 : tn 0 h₁ := T.keep _ _ _ st2 fun b hb o e => k1 b o (by rw [hh3]; exact Heap.get?_push_of_some _ e)
  have f4 : ∀ b ∈ fp, FpOk (cxComp X cN scope cl fp s3 (upd H2 s2.heap.objs.size (.lst []))) [] (upd H2 s2.heap.objs.size (.lst [])) b := fun b hb => by
    obtain ⟨g0, g1, g2, g3, g4, g5⟩ := f3 b hb
    refine ⟨g0, Nat.ne_of_lt (fl3 b hb), fun z => ?_, .inl hb, fun x c e => g4 x c ((C.ok I.ok).sub x c e), fun p hp => absurd hp (by simp [cxComp])⟩
    rcases List.mem_cons.mp (I3.stkSub b z) with e | z
    · exact g1 e
    · exact g2 z
  have loop : codeAny (model X.prog X.w) X.A (.compLoop (.ListComp elt [⟨tg, iter, ifs, 0⟩] scope pos) 0 (.ref it) (.ref s2.heap.objs.size) (cxComp X cN scope cl fp s3 (upd H2 s2.heap.objs.size (.lst []))).env) (RR (.ref s2.heap.objs.size) s3.heap.objs.size)
      { s2 with heap := h₁, toks := s2.toks + ([] : List (Str × Value)).length } :=
    comp_loop X C.calm (C.tgt _ _ _) C.gm C.gk C.js0 (C.ts _ _ _) C.tm (C.el _ _ _) T W turn m w0 I4 st4 f4 fun σ' H' s' I' q => hRR _ fp s3 _ σ' H' s' I3 f3 I' q
  exact codeAny_compStart_list loop (T.self _ 0 _ _ _ st4 loop)
def tComp (cap : List (Option Nat)) (wi : TI) (g : TG) (c : TT) (te : TE) : TE := fun σ H Q => tCompL cap wi g c te σ H fun p H' => Q (.ref p) H'
theorem pe_comp (C : CompP X tg iter elt ifs scope cN cap cl js wi g c te) : PE X (.ListComp elt [⟨tg, iter, ifs, 0⟩] scope pos) (tComp cap wi g c te) := by
  intro pins s σ H Q I h
  rw [eval_ListComp]
  refine wpAny_comprehension_free (use := none) rfl C.fold (C.ok I.ok).clos (C.ok I.ok).kind (C.ok I.ok).names (comp_block (RR := fun acc C' => compPost (model X.prog X.w) X.A X.xe none (EP X pins σ Q) acc C') C I h ?_)
  intro D fp s3 H3 σ' H' s' I3 f3 J q
  obtain ⟨m, hn, _⟩ := J.loc
  exact ⟨m, hn, fun h' sb => ⟨.ref D, H', comp_end I3 f3 J sb, rfl, q⟩⟩
/-- x = [.. for ..], x a plain local: stored ahead of the block's end -/
def tSetComp (i : Nat) (cap : List (Option Nat)) (wi : TI) (g : TG) (c : TT) (te : TE) : TS := fun D σ H => tCompL cap wi g c te σ H fun p H' => D.nx (σ.set i (some (.ref p))) H'
end
end
end L2
set_option Elab.async false
set_option linter.all false
set_option maxRecDepth 100000
set_option maxHeartbeats 4000000
/-! more rules over the layer: texts walked, enumerate, all, isinstance, lists compared, slices of texts, () + t -/
namespace L2
open PySem PySem.Spec PyProof.Rows
/-! ### for c in a text -/
def Its (z : Str) : It := ⟨fun i _ => i < z.cps.size, fun i H x H' => H' = H ∧ ∃ c, z.cps[i]? = some c ∧ x = .str ⟨#[c]⟩, fun i _ => i = z.cps.size⟩
theorem turn_walks {P : Program} {w : World} {K : PySem.W.Frag} {tg : Expr} {ty : String} {it : Addr} {z : Str} {t : Tok} (hty : ["enumerate", "zip", "dict_itemiterator", "dict_reverseitemiterator", "odict_iterator", "itertools.zip_longest", "itertools.pairwise"].contains ty = false)
    (W : ∀ A : Around, A.handled = none → Walks P w A it [it] [it] z.cps.size (SignAt z) (fun i h => h.IsStrIter it ty z t i))
    (self : ∀ (A : Around) (i : Nat) (s : Shared) (Q : Value → Shared → Prop) (E : Value → Shared → Prop), s.heap.IsStrIter it ty z t i → Q (.ref it) s → wpAny (model P w) A (pyIter (.ref it)) Q E s) :
    Turn P w K tg (Its z) [it] it (fun i h => h.IsStrIter it ty z t i) where
  mem := by simp
  obj := fun i h st b hb => by
    have e : b = it := by simpa using hb
    subst e
    obtain ⟨o, e, c, d⟩ := st
    exact ⟨o, e, fun v z => by rw [d] at z; cases z⟩
  keep := fun i h h' st k => let ⟨o, e, r⟩ := st; ⟨o, k it (by simp) o e, r⟩
  item := by
    intro X hP hw hK hc i pins s σ H E I hf st hg
    subst hP hw hK
    obtain ⟨f0, f1, f2, f3, f4, f5⟩ := hf it (by simp)
    refine (W X.A (I.ok.hd hc)).item i s _ _ hg st fun v h' tk hv st' kk => ?_
    obtain ⟨c, u, hcp, rfl⟩ := hv
    have I1 : Inv X pins σ H { s with heap := h', toks := tk } := I.turned (fun b o hb e => kk b o (by simpa using hb) e) f0 f1 f3 f4 f5
    obtain ⟨o, e, c', d⟩ := id st'
    exact ⟨_, rfl, go_of (s := { s with heap := h', toks := tk }) e c' d hty ⟨.str ⟨#[c]⟩, H, I1, ⟨u, rfl⟩, ⟨rfl, c, hcp, rfl⟩, st', fun b hb => (hf b hb).1⟩⟩
  done := by
    intro X hP hw hK hc i pins s σ H E I hf st hg
    subst hP hw hK
    obtain ⟨f0, f1, f2, f3, f4, f5⟩ := hf it (by simp)
    have e : i = z.cps.size := hg
    subst e
    exact (W X.A (I.ok.hd hc)).done s _ _ st fun h' tk kk => ⟨rfl, I.turned (fun b o hb e => kk b o (by simpa using hb) e) f0 f1 f3 f4 f5⟩
  self := self
section
variable {X : Cx} {tg : Expr}
end
/-! ### for k, c in enumerate(a text) -/
section
variable {X : Cx} {elts : List Expr} {ek : Nat} {epos : Pos}
end
section
variable {X : Cx}
/-! ### all of a list of truths -/
theorem range_allB (bs : List Bool) : ((List.range bs.length).all fun i => (bs[i]?).getD true) = bs.all id := by
  rw [Bool.eq_iff_iff, List.all_eq_true, List.all_eq_true]
  constructor
  · intro h x hx
    obtain ⟨i, hi, rfl⟩ := List.mem_iff_getElem.mp hx
    have := h i (List.mem_range.mpr hi)
    simpa [hi] using this
  · intro h i hi
    have hi' := List.mem_range.mp hi
    simpa [hi'] using h bs[i] (List.getElem_mem hi')
theorem call_allB (hc : X.calm = true) : CallR X (.builtin "all") (fun xs H Q => ∃ (p : Addr) (bs : List Bool), xs = [.ref p] ∧ SqL X.K H p (bs.map V.bl) ∧ Q (.bl (bs.all id)) H) := by
  intro pins s σ H xs us Q I r h
  obtain ⟨p, bs, rfl, hq, q⟩ := h
  obtain ⟨u, rfl, ru⟩ := vals1 r
  cases ru
  obtain ⟨its, rv, pl, hz⟩ := I.list hq
  have hl := pl.isList
  have hlt : p < s.heap.objs.size := by obtain ⟨_, e, _⟩ := hl; exact Heap.lt_size e
  have hlen : its.length = bs.length := by have := rv.length; simp at this; omega
  refine call_all_walk (wpAny_pyIter_list hl ?_)
  refine ⟨s.heap.objs.size, [s.heap.objs.size, p], [s.heap.objs.size], its.toArray.size, _, _, fun i => (bs[i]?).getD true, rfl, Walks.list (A := X.A.in1) (I.ok.hd hc) _ p (Nat.ne_of_lt hlt) its.toArray,
    ⟨⟨_, Heap.get?_push_size _ rfl, rfl, rfl⟩, hl.push _⟩, fun i v s' Q' E' hP hQ => ?_, fun h' tk hk => ?_⟩
  · have hv : its[i]? = some v := by simpa using hP
    have hi : i < its.length := (List.getElem?_eq_some_iff.mp hv).1
    have hb : (bs.map V.bl)[i]? = some (.bl bs[i]) := by simp [show i < bs.length by omega]
    obtain ⟨u, hu, ru⟩ := rv.get hb
    rw [hv] at hu; cases hu
    cases ru
    have e : (bs[i]?).getD true = bs[i] := by simp [show i < bs.length by omega]
    have hQ2 : Q' ((bs[i]?).getD true) s' := hQ
    rw [e] at hQ2
    exact wpAny_truthy_bool hQ2
  · have e : ((List.range its.toArray.size).all fun i => (bs[i]?).getD true) = bs.all id := by
      rw [List.size_toArray, hlen]; exact range_allB bs
    rw [e]
    refine ⟨.bl (bs.all id), H, I.kept fun b o x => hk b o (fun hm => ?_) (Heap.get?_push_of_some _ x), rfl, q⟩
    rw [List.mem_singleton.mp hm] at x; exact Nat.lt_irrefl _ (Heap.lt_size x)
/-! ### isinstance of a built-in class -/
/-! ### two lists of the very same items -/
def okV : V → Bool
  | .flt _ => false
  | .byt _ => false
  | _ => true
/-! ### () + t -/
def rCatT0 (K : PySem.W.Frag) : R2 := fun x y H Q => ∃ a b ys, x = .ref a ∧ y = .ref b ∧ SqT K H a [] ∧ SqT K H b ys ∧ Q (.ref b) H
theorem op_catT0 : OpR X (binaryOp .Add) (rCatT0 X.K) := by
  intro pins s σ H x y v u Q I rx ry h
  obtain ⟨a, b, ys, rfl, rfl, ha, hb, q⟩ := h
  cases rx
  cases ry
  obtain ⟨its, r1, p1, _⟩ := I.tuple ha
  obtain ⟨its2, r2, p2, _⟩ := I.tuple hb
  cases r1
  obtain ⟨⟨cls, dd, data, sl⟩, ho, hc, n, hd⟩ := id p1
  obtain ⟨⟨cls2, dd2, data2, sl2⟩, ho2, hc2, n2, hd2⟩ := id p2
  simp only at hc hd hc2 hd2
  subst hc hd hc2 hd2
  exact concat_meets ⟨_, ho, rfl⟩ ⟨_, ho2, rfl⟩ noFill_tuple_add seq_tuple_add PySem.F.slot_tuple_add PySem.F.entry_tuple_add (PySem.F.args_tuple_add_2 _ _)
    (tuple_addW0 a b _ _ n n2 dd dd2 sl sl2 (by simp)) ⟨ho, ho2, ⟨.ref b, H, I, rfl, q⟩⟩
/-! ### a text's slice -/
theorem part_of {v : Value} {o : Option Int} (h : IsPart v o) : ∃ l : Option (Int × Tok), v = partValue l ∧ l.map (·.1) = o := by
  cases h with
  | none => exact ⟨none, rfl, rfl⟩
  | int i t => exact ⟨some (i, t), rfl, rfl⟩
def rSlS : V → Option Int → Option Int → Hp → VK → Prop := fun x lo hi H Q => ∃ z, x = .str z ∧ z.length ≤ sizeLine ∧ Q (.str (Txt.slice z lo hi)) H
theorem sl_str : SlR X rSlS := by
  intro pins s σ H x v vl vu lo hi sl Q I rx hs pl pu h
  obtain ⟨z, rfl, hz, q⟩ := h
  obtain ⟨t, rfl⟩ := rx
  obtain ⟨l, rfl, rfl⟩ := part_of pl
  obtain ⟨u, rfl, rfl⟩ := part_of pu
  refine ⟨"str", _, PySem.F.slot_str_getitem.lookup, typeIs_str _ _ _, ?_⟩
  obtain ⟨o, ho, hc, hd⟩ := hs
  refine wpAny_getItem_str_slice (l := l) (u := u) (st := none) ⟨o, ho, hc, hd⟩ rfl ?_
  have hle := Txt.slice_le z (l.map (·.1)) (u.map (·.1))
  unfold sliceMade
  unfold Txt.slice at q hle
  show Made.post (if ((1 : Int) == 1 && (PySem.Builtin.Str.strSliceIndices (l.map (·.1)) (u.map (·.1)) 1 z.length).length == z.length) = true then _ else Made.str ⟨((PySem.Builtin.Str.strSliceIndices (l.map (·.1)) (u.map (·.1)) 1 z.length).filterMap (z.cps[·]?)).toArray⟩) _ s
  split
  · rename_i hif
    rw [if_pos hif] at q
    exact ⟨.str z, H, I, ⟨t, rfl⟩, q⟩
  · rename_i hif
    rw [if_neg hif] at q
    rw [if_neg hif] at hle
    exact ⟨Nat.le_trans hle hz, .str _, H, I.tok _, ⟨_, rfl⟩, q⟩
end
end L2
set_option Elab.async false
set_option linter.all false
set_option maxRecDepth 100000
set_option maxHeartbeats 4000000
namespace L2
open PySem PySem.Spec PyProof.Rows
theorem bt_max : bootBuiltins "max" = some (.builtin "max") := by decide +kernel
theorem bt_all : bootBuiltins "all" = some (.builtin "all") := by decide +kernel
theorem bt_isinstance : bootBuiltins "isinstance" = some (.builtin "isinstance") := by decide +kernel
theorem bt_int : bootBuiltins "int" = some (.type "int") := by decide +kernel
theorem bt_str : bootBuiltins "str" = some (.type "str") := by decide +kernel
theorem bt_tuple : bootBuiltins "tuple" = some (.type "tuple") := by decide +kernel
section
variable {X : Cx}
/-- a def that keeps its promise, whatever its address -/
structure Ca (P : Program) (w : World) (K : PySem.W.Frag) (mg : Str → Option Value) (base : Heap) (k : Nat) (x : Str) (ps : List Str) (sp : Sp) : Prop where
  ex : ∃ (f : Addr) (fd : FuncData), FnOk P w K mg base CX0 k f fd ps sp ∧ Binds K fd ps [] ∧ PySem.W.keepIn K (.ref f) = true ∧ mg x = some (.ref f)
theorem pe_ca {k : Nat} {x : Str} {ps : List Str} {sp : Sp} {p pos : Pos} {e : Expr} {es : List Expr} {t : TA} (C : Ca X.prog X.w X.K X.mg X.base k x ps sp) (hr : Room k X.A) (hg : Gl X x) (ha : PA X (e :: es) t)
    (hdb : (x == ("__debug__" : Str)) = false := by decide) (he : starEach (e :: es) X.env = (false, eval e X.env) :: starEach es X.env := by rfl) (hpl : (backTo pos (starEach es X.env)).any (·.1) = false := by rfl) :
    PE X (.Call (.Name x p) (e :: es) [] pos) (tCall sp [] E0 t) := by
  obtain ⟨f, fd, F, B, kp, m⟩ := C.ex
  exact pe_call F hr hg m kp B .nil pass0 ha hdb he hpl
theorem gm_tup {K : PySem.W.Frag} {n : Nat} {u : TGs} (b : TGsmono u) : TGmono (gTup K n u) := fun x σ H Q Q' h q => by
  obtain ⟨a, xs, e, hq, hl, q⟩ := q
  exact ⟨a, xs, e, hq, hl, b _ _ _ _ _ h q⟩
/-! the names of a block -/
theorem mem_relabel {scope : Scope} {env : Env} {x : Str} {k : NameKind} (h : (relabel scope env).names.lookup x = some k) : ∃ k', (x, k') ∈ scope.names ∧ (k' = k ∨ k' = .free) := by
  have m := PySem.mem_of_lookup h
  unfold relabel at m
  obtain ⟨⟨n, k'⟩, hm, e⟩ := List.mem_map.mp m
  dsimp only at e
  split at e
  · rename_i hc
    cases e
    refine ⟨k', hm, .inr ?_⟩
    simp only [Bool.and_eq_true, beq_iff_eq] at hc
    exact hc.1.1
  · cases e
    exact ⟨_, hm, .inl rfl⟩
theorem compOk0 {cN : List Str} {cap : List (Option Nat)} {scope : Scope} (hk : scope.kind = .function) (h1 : scope.names.all (fun y => y.2 != .free && y.2 != .cell) = true) (h2 : scope.names.all (fun y => y.2 != .local || scope.names.lookup y.1 == some .local) = true)
    (hl : cap.length = cN.length) (hc : cap.all (fun o => o.isNone) = true) : CompOk X cN cap scope [] where
  clos := closureFor_none fun y hy => by
    have := List.all_eq_true.mp h1 y hy
    simp only [Bool.and_eq_true, bne_iff_ne, ne_eq] at this
    exact this.1
  sub := fun n a h => by cases h
  cell := fun y hy => by
    have := List.all_eq_true.mp h1 y hy
    simp only [Bool.and_eq_true, bne_iff_ne, ne_eq] at this
    exact this.2
  kind := hk
  names := fun y hy e => by
    have := List.all_eq_true.mp h2 y hy
    simp only [Bool.or_eq_true, bne_iff_ne, ne_eq, beq_iff_eq] at this
    rcases this with q | q
    · exact absurd e q
    · exact q
  len := hl
  has := fun x h => by
    exfalso
    have no : ∀ k', (x, k') ∈ scope.names → k' ≠ .free ∧ k' ≠ .cell := fun k' hy => by
      have := List.all_eq_true.mp h1 _ hy
      simpa only [Bool.and_eq_true, bne_iff_ne, ne_eq] using this
    rcases h with h | h
    · obtain ⟨k', hm, e⟩ := mem_relabel h
      rcases e with e | e
      · exact (no k' hm).2 e
      · exact (no k' hm).1 e
    · obtain ⟨k', hm, e⟩ := mem_relabel h
      rcases e with e | e
      · exact (no k' hm).1 e
      · exact (no k' hm).1 e
  capd := fun i j x h _ => by
    have := List.all_eq_true.mp hc _ (List.mem_of_getElem? h)
    cases this
/-- the cells that a block takes -/
def closOf (cells : List (Str × Addr)) : List (Str × NameKind) → List (Str × Addr) → List (Str × Addr)
  | [], cs => cs
  | (n, k) :: r, cs => closOf cells r (if k == .free then (n, (cells.lookup n).getD 0) :: cs else cs)
/-- the block's names stand at these places of the frame around, as cells -/
def capOk (N : List Str) (outer inner : List (Str × NameKind)) : List (Option Nat) → List Str → Bool
  | [], _ => true
  | _, [] => true
  | none :: r, _ :: xs => capOk N outer inner r xs
  | some j :: r, x :: xs => N[j]? == some x && outer.lookup x == some .cell && inner.lookup x == some .free && capOk N outer inner r xs
end
end L2
set_option Elab.async false
set_option linter.all false
set_option maxRecDepth 100000
set_option maxHeartbeats 4000000
namespace L2
open PySem PySem.Spec PyProof.Rows
/-- the list grown so far, and what holds of it -/
def CN (p : Addr) (Pv : Nat → List V → Hp → Prop) (i : Nat) (H : Hp) : Prop := ∃ ys, H p = some (.lst ys) ∧ ys.length ≤ i ∧ Pv i ys H
section
variable {K : PySem.W.Frag} {cap : List (Option Nat)} {g : TG} {c : TT} {te : TE} {σ : St} {Q : Addr → Hp → Prop} {H : Hp}
end
/-- a for's turns -/
def tForGo (g : TG) (tb : TS) (D : Ends) (σ : St) (J : It) (H1 : Hp) : Prop := ∃ W : Nat → Nat → St → Hp → Prop, (∃ m, W 0 m σ H1) ∧ ∀ i m σ H, W i m σ H →
  (J.stop i H ∧ D.nx σ H) ∨ (J.go i H ∧ ∃ N : St → Hp → Prop, (∀ σ' H', N σ' H' → ∃ m', m' < m ∧ W (i + 1) m' σ' H') ∧ ∀ x H', J.yld i H x H' → g x σ H' fun σ2 H2 => tb { D with nx := N, ct := N, bk := D.nx } σ2 H2)
section
variable {K : PySem.W.Frag} {a : Addr} {xs : List V} {g : TG} {tb : TS} {D : Ends} {σ : St} {H : Hp} {z : Str}
end
theorem tyL {K : PySem.W.Frag} {H : Hp} {r : Addr} {xs : List V} (h : H r = some (.lst xs)) : tyV K "list" (.ref r) H := by
  unfold tyV
  exact .inl ⟨rfl, xs, SqL.of h⟩
theorem atI_in {α : Type} {xs : List α} {i : Int} (h0 : 0 ≤ i) (h1 : i < (xs.length : Int)) : ∃ v, atI xs i = some v ∧ v ∈ xs := by
  have hk : i.toNat < xs.length := by omega
  have ek : ((i.toNat : Nat) : Int) = i := by omega
  have q : atI xs ((i.toNat : Nat) : Int) = some xs[i.toNat] := atI_nat (by simp [hk])
  rw [ek] at q
  exact ⟨xs[i.toNat], q, List.getElem_mem hk⟩
end L2
set_option Elab.async false
set_option linter.all false
set_option maxRecDepth 100000
set_option maxHeartbeats 4000000
/-! a second level over the layer: tuples are values, lists and objects stand in a heap of their own; what a def does is a wish transformer over these -/
namespace WL
open PySem PySem.Spec PyProof.Rows L2
inductive T where
  | non | bl (b : Bool) | int (i : Int) | str (x : Str) | tup (xs : List T)
  /-- a list, a dict, an object of ours -/
  | ref (a : Addr)
  /-- a list that nobody changes (the script, a list of the module) -/
  | cl (xs : List T)
inductive O where
  | lst (xs : List T)
  | dic (kvs : List (Key × T))
  | ins (cn : Str) (fs : List (Str × T))
  /-- a dict that is read alone -/
  | fdic (kvs : List (Key × T))
  /-- an exception of an own class, by its name -/
  | exc (cn : Str)
abbrev Hw := Addr → Option O
def up (C : Hw) (a : Addr) (o : O) : Hw := fun b => if b = a then some o else C b
theorem up_same {C : Hw} {a : Addr} {o : O} : up C a o a = some o := by unfold up; rw [if_pos rfl]
theorem up_ne {C : Hw} {a b : Addr} {o : O} (h : b ≠ a) : up C a o b = C b := by unfold up; rw [if_neg h]
theorem up_up {C : Hw} {a : Addr} {o u : O} : up (up C a o) a u = up C a u := by
  funext b; unfold up; split <;> rfl
/-! ### how a value stands in the abstract heap -/
def SqC (K : PySem.W.Frag) (H : Hp) (a : Addr) (xs : List V) : Prop :=
  (∃ o, H a = some (.frz o (.lst xs))) ∨
    ∃ (o : Obj) (its : Array Value) (n : Nat), K.lookup a = some o ∧ o.cls = .type "list" ∧ o.dict = none ∧ o.data = .seq its n ∧ its.size ≤ sizeLine ∧ Vals xs its.toList
theorem SqC.sq {K : PySem.W.Frag} {H : Hp} {a : Addr} {xs : List V} (h : SqC K H a xs) : SqL K H a xs := by
  rcases h with ⟨o, h⟩ | h
  · exact .inl (.inr ⟨o, h⟩)
  · exact .inr h
mutual
def Rep (K : PySem.W.Frag) (H : Hp) (x : V) : T → Prop
  | .non => x = .non
  | .bl b => x = .bl b
  | .int i => x = .int i
  | .str z => x = .str z
  | .ref a => x = .ref a
  | .tup ts => ∃ a ys, x = .ref a ∧ SqT K H a ys ∧ Reps K H ys ts
  | .cl ts => ∃ a ys, x = .ref a ∧ SqC K H a ys ∧ Reps K H ys ts
def Reps (K : PySem.W.Frag) (H : Hp) (ys : List V) : List T → Prop
  | [] => ys = []
  | t :: ts => ∃ y r, ys = y :: r ∧ Rep K H y t ∧ Reps K H r ts
end
def Stb : HO → Prop
  | .tup _ => True
  | .frz _ _ => True
  | _ => False
/-- tuples and frozen things stay -/
def Tx (H H' : Hp) : Prop := ∀ b o, H b = some o → Stb o → H' b = some o
theorem Tx.refl (H : Hp) : Tx H H := fun _ _ h _ => h
theorem Tx.trans {H H1 H2 : Hp} (a : Tx H H1) (b : Tx H1 H2) : Tx H H2 := fun c o h n => b c o (a c o h n) n
theorem Tx.new {H : Hp} {p : Addr} {o : HO} (h : H p = none) : Tx H (upd H p o) := fun b u q _ => by rw [upd_ne (ne_of_none q h)]; exact q
theorem Tx.put {H : Hp} {p : Addr} {o u : HO} (h : H p = some o) (n : ¬ Stb o) : Tx H (upd H p u) := fun b v q s => by
  by_cases e : b = p
  · subst e; rw [h] at q; cases q; exact absurd s n
  · rw [upd_ne e]; exact q
theorem Tx.sqt {K : PySem.W.Frag} {H H' : Hp} (t : Tx H H') {a : Addr} {xs : List V} (h : SqT K H a xs) : SqT K H' a xs := by
  rcases h with (h | ⟨o, h⟩) | h
  · exact .inl (.inl (t _ _ h trivial))
  · exact .inl (.inr ⟨o, t _ _ h trivial⟩)
  · exact .inr h
theorem Tx.sqc {K : PySem.W.Frag} {H H' : Hp} (t : Tx H H') {a : Addr} {xs : List V} (h : SqC K H a xs) : SqC K H' a xs := by
  rcases h with ⟨o, h⟩ | h
  · exact .inl ⟨o, t _ _ h trivial⟩
  · exact .inr h
mutual
theorem Rep.tx {K : PySem.W.Frag} {H H' : Hp} (t : Tx H H') {x : V} : ∀ {v : T}, Rep K H x v → Rep K H' x v
  | .non, h => by simpa [Rep] using h
  | .bl b, h => by simpa [Rep] using h
  | .int i, h => by simpa [Rep] using h
  | .str z, h => by simpa [Rep] using h
  | .ref a, h => by simpa [Rep] using h
  | .tup ts, h => by
    unfold Rep at h ⊢
    obtain ⟨a, ys, e, q, r⟩ := h
    exact ⟨a, ys, e, t.sqt q, Reps.tx t r⟩
  | .cl ts, h => by
    unfold Rep at h ⊢
    obtain ⟨a, ys, e, q, r⟩ := h
    exact ⟨a, ys, e, t.sqc q, Reps.tx t r⟩
theorem Reps.tx {K : PySem.W.Frag} {H H' : Hp} (t : Tx H H') {ys : List V} : ∀ {vs : List T}, Reps K H ys vs → Reps K H' ys vs
  | [], h => by simpa [Reps] using h
  | v :: vs, h => by
    unfold Reps at h ⊢
    obtain ⟨y, r, e, q, s⟩ := h
    exact ⟨y, r, e, Rep.tx t q, Reps.tx t s⟩
end
section
variable {K : PySem.W.Frag} {H : Hp}
theorem rep_int {i : Int} : Rep K H (.int i) (.int i) := by unfold Rep; rfl
theorem rep_str {i : Str} : Rep K H (.str i) (.str i) := by unfold Rep; rfl
theorem rep_bl {i : Bool} : Rep K H (.bl i) (.bl i) := by unfold Rep; rfl
theorem rep_non : Rep K H .non .non := by unfold Rep; rfl
theorem rep_ref {a : Addr} : Rep K H (.ref a) (.ref a) := by unfold Rep; rfl
theorem rep_tup {a : Addr} {ys : List V} {ts : List T} (h : SqT K H a ys) (r : Reps K H ys ts) : Rep K H (.ref a) (.tup ts) := by unfold Rep; exact ⟨a, ys, rfl, h, r⟩
theorem of_int {x : V} {i : Int} (h : Rep K H x (.int i)) : x = .int i := by unfold Rep at h; exact h
theorem of_str {x : V} {i : Str} (h : Rep K H x (.str i)) : x = .str i := by unfold Rep at h; exact h
theorem of_bl {x : V} {i : Bool} (h : Rep K H x (.bl i)) : x = .bl i := by unfold Rep at h; exact h
theorem of_non {x : V} (h : Rep K H x .non) : x = .non := by unfold Rep at h; exact h
theorem of_ref {x : V} {a : Addr} (h : Rep K H x (.ref a)) : x = .ref a := by unfold Rep at h; exact h
theorem of_tup {x : V} {ts : List T} (h : Rep K H x (.tup ts)) : ∃ a ys, x = .ref a ∧ SqT K H a ys ∧ Reps K H ys ts := by unfold Rep at h; exact h
theorem of_cl {x : V} {ts : List T} (h : Rep K H x (.cl ts)) : ∃ a ys, x = .ref a ∧ SqC K H a ys ∧ Reps K H ys ts := by unfold Rep at h; exact h
theorem reps_nil : Reps K H [] [] := by unfold Reps; rfl
theorem reps_cons {y : V} {ys : List V} {t : T} {ts : List T} (a : Rep K H y t) (b : Reps K H ys ts) : Reps K H (y :: ys) (t :: ts) := by unfold Reps; exact ⟨y, ys, rfl, a, b⟩
theorem of_nil {ys : List V} (h : Reps K H ys []) : ys = [] := by unfold Reps at h; exact h
theorem of_cons {ys : List V} {t : T} {ts : List T} (h : Reps K H ys (t :: ts)) : ∃ y r, ys = y :: r ∧ Rep K H y t ∧ Reps K H r ts := by unfold Reps at h; exact h
theorem Reps.length : ∀ {vs : List T} {ys : List V}, Reps K H ys vs → ys.length = vs.length
  | [], _, h => by rw [of_nil h]; rfl
  | _ :: _, _, h => by obtain ⟨y, r, rfl, _, q⟩ := of_cons h; rw [List.length_cons, List.length_cons, q.length]
theorem Reps.get : ∀ {vs : List T} {ys : List V} {i : Nat} {v : T}, Reps K H ys vs → vs[i]? = some v → ∃ y, ys[i]? = some y ∧ Rep K H y v
  | [], _, _, _, _, e => by simp at e
  | _ :: _, _, 0, _, h, e => by obtain ⟨y, r, rfl, a, _⟩ := of_cons h; simp at e; subst e; exact ⟨y, rfl, a⟩
  | _ :: _, _, i + 1, v, h, e => by
    obtain ⟨y, r, rfl, _, q⟩ := of_cons h
    obtain ⟨z, h1, h2⟩ := Reps.get (i := i) (v := v) q (by simpa using e)
    exact ⟨z, by simpa using h1, h2⟩
theorem Reps.app : ∀ {vs ws : List T} {ys zs : List V}, Reps K H ys vs → Reps K H zs ws → Reps K H (ys ++ zs) (vs ++ ws)
  | [], _, _, _, h, q => by rw [of_nil h]; exact q
  | _ :: _, _, _, _, h, q => by obtain ⟨y, r, rfl, a, b⟩ := of_cons h; exact reps_cons a (b.app q)
theorem Reps.take : ∀ (n : Nat) {vs : List T} {ys : List V}, Reps K H ys vs → Reps K H (ys.take n) (vs.take n)
  | 0, _, _, _ => by simpa using reps_nil
  | _ + 1, [], _, h => by rw [of_nil h]; exact reps_nil
  | n + 1, _ :: _, _, h => by obtain ⟨y, r, rfl, a, b⟩ := of_cons h; exact reps_cons a (b.take n)
theorem Reps.drop : ∀ (n : Nat) {vs : List T} {ys : List V}, Reps K H ys vs → Reps K H (ys.drop n) (vs.drop n)
  | 0, _, _, h => h
  | _ + 1, [], _, h => by rw [of_nil h]; exact reps_nil
  | n + 1, _ :: _, _, h => by obtain ⟨y, r, rfl, a, b⟩ := of_cons h; exact b.drop n
theorem Reps.dropLast {vs : List T} {ys : List V} (h : Reps K H ys vs) : Reps K H ys.dropLast vs.dropLast := by
  rw [List.dropLast_eq_take, List.dropLast_eq_take, h.length]; exact h.take _
theorem Reps.snoc {vs : List T} {ys : List V} {y : V} {v : T} (h : Reps K H ys vs) (q : Rep K H y v) : Reps K H (ys ++ [y]) (vs ++ [v]) := h.app (reps_cons q reps_nil)
theorem Reps.at {vs : List T} {ys : List V} {i : Int} {v : T} (h : Reps K H ys vs) (e : atI vs i = some v) : ∃ y, atI ys i = some y ∧ Rep K H y v := by
  unfold atI at e ⊢
  rw [h.length]
  cases q : ixN vs.length i with
  | none => rw [q] at e; cases e
  | some j =>
    rw [q] at e
    exact h.get e
theorem reps_ints : ∀ ns : List Int, Reps K H (ns.map V.int) (ns.map T.int)
  | [] => reps_nil
  | n :: r => reps_cons rep_int (reps_ints r)
theorem reps_strs : ∀ ns : List Str, Reps K H (ns.map V.str) (ns.map T.str)
  | [] => reps_nil
  | n :: r => reps_cons rep_str (reps_strs r)
end
/-! ### two heaps -/
abbrev PR (K : PySem.W.Frag) (H : Hp) {κ : Type} (kvs : List (κ × V)) (kws : List (κ × T)) : Prop := PySem.Paired (fun p q => p.1 = q.1 ∧ Rep K H p.2 q.2) kvs kws
def ORel (K : PySem.W.Frag) (H : Hp) (a : Addr) : O → Prop
  | .lst xs => ∃ ys, H a = some (.lst ys) ∧ Reps K H ys xs
  | .dic kvs => ∃ ks, H a = some (.dK ks) ∧ PR K H ks kvs
  | .ins cn fs => ∃ Cl dx ks, PySem.W.nsIn K mainGlobals cn = some (some (.ref Cl)) ∧ H a = some (.ins Cl dx ks) ∧ PR K H ks fs
  | .fdic kvs => ∃ ks, Rd H a (.dK ks) ∧ PR K H ks kvs
  | .exc cn => ∃ Cl ob u, PySem.W.nsIn K mainGlobals cn = some (some (.ref Cl)) ∧ ob.cls = .ref Cl ∧ H a = some (.frz ob u)
def O.wr : O → Prop
  | .fdic _ => False
  | .exc _ => False
  | _ => True
structure Rl (K : PySem.W.Frag) (F H : Hp) (C : Hw) : Prop where
  obj : ∀ a o, C a = some o → ORel K H a o
  frm : ∀ a o, F a = some o → H a = some o ∧ C a = none
theorem pr_tx {K : PySem.W.Frag} {H H' : Hp} (t : Tx H H') {κ : Type} {ks : List (κ × V)} {kvs : List (κ × T)} (h : PR K H ks kvs) : PR K H' ks kvs := L2.Paired.mapP h fun _ _ z => ⟨z.1, z.2.tx t⟩
theorem ORel.stay {K : PySem.W.Frag} {H H' : Hp} {a : Addr} {o : O} (h : ORel K H a o) (t : Tx H H') (e : H' a = H a) : ORel K H' a o := by
  cases o with
  | lst xs => obtain ⟨ys, q, r⟩ := h; exact ⟨ys, e.trans q, r.tx t⟩
  | dic kvs => obtain ⟨ys, q, r⟩ := h; exact ⟨ys, e.trans q, pr_tx t r⟩
  | ins C fs => obtain ⟨Cl, dx, ys, n, q, r⟩ := h; exact ⟨Cl, dx, ys, n, e.trans q, pr_tx t r⟩
  | fdic kvs =>
    obtain ⟨ys, q, r⟩ := h
    refine ⟨ys, ?_, pr_tx t r⟩
    rcases q with q | ⟨o, q⟩
    · exact .inl (e.trans q)
    · exact .inr ⟨o, e.trans q⟩
  | exc cn => obtain ⟨Cl, ob, u, n, c, q⟩ := h; exact ⟨Cl, ob, u, n, c, e.trans q⟩
theorem ORel.some {K : PySem.W.Frag} {H : Hp} {a : Addr} {o : O} (h : ORel K H a o) (wr : o.wr) : ∃ u, H a = some u ∧ ¬ Stb u := by
  cases o with
  | fdic kvs => exact wr.elim
  | exc cn => exact wr.elim
  | lst xs => obtain ⟨ys, q, r⟩ := h; exact ⟨_, q, fun z => z⟩
  | dic kvs => obtain ⟨ys, q, r⟩ := h; exact ⟨_, q, fun z => z⟩
  | ins C fs => obtain ⟨Cl, dx, ys, n, q, r⟩ := h; exact ⟨_, q, fun z => z⟩
theorem ORel.here {K : PySem.W.Frag} {H : Hp} {a : Addr} {o : O} (h : ORel K H a o) : ∃ u, H a = Option.some u := by
  cases o with
  | fdic kvs =>
    obtain ⟨ys, q, r⟩ := h
    rcases q with q | ⟨o, q⟩
    · exact ⟨_, q⟩
    · exact ⟨_, q⟩
  | exc cn => obtain ⟨Cl, ob, u, n, c, q⟩ := h; exact ⟨_, q⟩
  | lst xs => obtain ⟨ys, q, r⟩ := h; exact ⟨_, q⟩
  | dic kvs => obtain ⟨ys, q, r⟩ := h; exact ⟨_, q⟩
  | ins C fs => obtain ⟨Cl, dx, ys, n, q, r⟩ := h; exact ⟨_, q⟩
section
variable {K : PySem.W.Frag} {F H : Hp} {C : Hw}
theorem Rl.free (R : Rl K F H C) {p : Addr} (h : H p = none) : C p = none := by
  cases e : C p with
  | none => rfl
  | some o => obtain ⟨u, q⟩ := (R.obj p o e).here; rw [h] at q; cases q
theorem Rl.lst (R : Rl K F H C) {a : Addr} {xs : List T} (h : C a = some (.lst xs)) : ∃ ys, H a = some (.lst ys) ∧ Reps K H ys xs := R.obj a _ h
/-- a new object that is seen -/
theorem Rl.new (R : Rl K F H C) {p : Addr} {u : HO} {o : O} (h : H p = none) (r : ORel K (upd H p u) p o) : Rl K F (upd H p u) (up C p o) where
  obj := fun a v e => by
    by_cases q : a = p
    · subst q; rw [up_same] at e; cases e; exact r
    · rw [up_ne q] at e
      exact (R.obj a v e).stay (Tx.new h) (upd_ne q)
  frm := fun a v e => by
    have z := R.frm a v e
    have q : a ≠ p := ne_of_none z.1 h
    rw [upd_ne q, up_ne q]; exact z
/-- a new object that is not seen -/
theorem Rl.hid (R : Rl K F H C) {p : Addr} {u : HO} (h : H p = none) : Rl K F (upd H p u) C where
  obj := fun a v e => by
    obtain ⟨w, q⟩ := (R.obj a v e).here
    exact (R.obj a v e).stay (Tx.new h) (upd_ne (ne_of_none q h))
  frm := fun a v e => by
    have z := R.frm a v e
    rw [upd_ne (ne_of_none z.1 h)]; exact z
/-- an object written over -/
theorem Rl.put (R : Rl K F H C) {p : Addr} {u : HO} {o o' : O} (h : C p = some o) (r : ORel K (upd H p u) p o') (wr : o.wr := by trivial) : Rl K F (upd H p u) (up C p o') ∧ Tx H (upd H p u) := by
  obtain ⟨w, hw, ns⟩ := (R.obj p o h).some wr
  have t : Tx H (upd H p u) := Tx.put hw ns
  refine ⟨⟨fun a v e => ?_, fun a v e => ?_⟩, t⟩
  · by_cases q : a = p
    · subst q; rw [up_same] at e; cases e; exact r
    · rw [up_ne q] at e
      exact (R.obj a v e).stay t (upd_ne q)
  · have z := R.frm a v e
    have q : a ≠ p := fun y => by subst y; rw [h] at z; cases z.2
    rw [upd_ne q, up_ne q]; exact z
theorem Rl.putL (R : Rl K F H C) {p : Addr} {xs xs' : List T} {ys' : List V} (h : C p = some (.lst xs)) (r : Reps K H ys' xs') : Rl K F (upd H p (.lst ys')) (up C p (.lst xs')) ∧ Tx H (upd H p (.lst ys')) := by
  obtain ⟨w, hw, ns⟩ := (R.obj p _ h).some trivial
  exact R.put h ⟨ys', upd_same, r.tx (Tx.put hw ns)⟩
theorem Rl.newL (R : Rl K F H C) {p : Addr} {xs : List T} {ys : List V} (h : H p = none) (r : Reps K H ys xs) : Rl K F (upd H p (.lst ys)) (up C p (.lst xs)) := R.new h ⟨ys, upd_same, r.tx (Tx.new h)⟩
end
/-! ### wishes -/
abbrev Sw := List (Option T)
abbrev WK := T → Hw → Prop
/-- an exception: its class's name, its attributes -/
structure Xn where
  cls : Str
  fs : List (Str × T)
abbrev WX := Xn → Hw → Prop
abbrev WE := Sw → Hw → WK → WX → Prop
abbrev WT := Sw → Hw → (Bool → Hw → Prop) → WX → Prop
abbrev WA := Sw → Hw → (List T → Hw → Prop) → WX → Prop
structure We where
  nx : Sw → Hw → Prop
  rt : WK
  bk : Sw → Hw → Prop := fun _ _ => False
  ct : Sw → Hw → Prop := fun _ _ => False
  xc : WX := fun _ _ => False
abbrev WS := We → Sw → Hw → Prop
abbrev WG := T → Sw → Hw → (Sw → Hw → Prop) → WX → Prop
abbrev WGs := List T → Sw → Hw → (Sw → Hw → Prop) → WX → Prop
/-- what is walked: its items, and what must hold of the heap at each turn -/
abbrev WI := Sw → Hw → (List T → (Hw → Prop) → Hw → Prop) → WX → Prop
abbrev W2 := T → T → Hw → WK → Prop
abbrev Calls := Nat → List T → Hw → WK → WX → Prop
/-! ### what the operations are -/
def eVar (i : Nat) : WE := fun τ C Q _ => ∃ v, τ[i]? = some (some v) ∧ Q v C
def eC (v : T) : WE := fun _ C Q _ => Q v C
def eBin (r : W2) (a b : WE) : WE := fun τ C Q χ => a τ C (fun x C1 => b τ C1 (fun y C2 => r x y C2 Q) χ) χ
def eUn (r : T → Hw → WK → Prop) (a : WE) : WE := fun τ C Q χ => a τ C (fun x C1 => r x C1 Q) χ
def aNil : WA := fun _ C Q _ => Q [] C
def aCons (a : WE) (r : WA) : WA := fun τ C Q χ => a τ C (fun x C1 => r τ C1 (fun xs C2 => Q (x :: xs) C2) χ) χ
def eTup (a : WA) : WE := fun τ C Q χ => a τ C (fun xs C1 => xs.length ≤ sizeLine ∧ Q (.tup xs) C1) χ
def eLst (a : WA) : WE := fun τ C Q χ => a τ C (fun xs C1 => xs.length ≤ sizeLine ∧ ∀ p, C1 p = none → Q (.ref p) (up C1 p (.lst xs))) χ
def eCall (P : Calls) (i : Nat) (a : WA) : WE := fun τ C Q χ => a τ C (fun xs C1 => P i xs C1 Q χ) χ
def eBi (r : List T → Hw → WK → Prop) (a : WA) : WE := fun τ C Q χ => a τ C (fun xs C1 => r xs C1 Q) χ
def eMt (ty : T → Hw → Prop) (r : T → List T → Hw → WK → Prop) (o : WE) (a : WA) : WE := fun τ C Q χ => o τ C (fun x C1 => ty x C1 ∧ a τ C1 (fun xs C2 => r x xs C2 Q) χ) χ
def eIf (c : WT) (a b : WE) : WE := fun τ C Q χ => c τ C (fun k C1 => if k = true then a τ C1 Q χ else b τ C1 Q χ) χ
def eAnd (a b : WE) : WE := fun τ C Q χ => a τ C (fun x C1 => ∃ k, x = .bl k ∧ if k = true then b τ C1 Q χ else Q (.bl false) C1) χ
def eOr (a b : WE) : WE := fun τ C Q χ => a τ C (fun x C1 => ∃ k, x = .bl k ∧ if k = true then Q (.bl true) C1 else b τ C1 Q χ) χ
def eNot (a : WE) : WE := fun τ C Q χ => a τ C (fun x C1 => ∃ k, x = .bl k ∧ Q (.bl (!k)) C1) χ
/-- a value's truth -/
def tru : T → Hw → Bool → Prop
  | .non, _, k => k = false
  | .bl b, _, k => k = b
  | .int i, _, k => k = (i != 0)
  | .str y, _, k => y.length ≤ sizeLine ∧ k = ((y.length : Int) != 0)
  | .tup xs, _, k => k = !xs.isEmpty
  | .cl xs, _, k => k = !xs.isEmpty
  | .ref a, C, k => (∃ xs, C a = some (.lst xs) ∧ k = !xs.isEmpty) ∨ ∃ kvs, C a = some (.dic kvs) ∧ k = !kvs.isEmpty
def tTru (a : WE) : WT := fun τ C Q χ => a τ C (fun x C1 => ∃ k, tru x C1 k ∧ Q k C1) χ
/-- the value is a truth -/
def tBl (a : WE) : WT := fun τ C Q χ => a τ C (fun x C1 => ∃ k, x = .bl k ∧ Q k C1) χ
def tAn (a b : WT) : WT := fun τ C Q χ => a τ C (fun k C1 => if k = true then b τ C1 Q χ else Q false C1) χ
def tOr' (a b : WT) : WT := fun τ C Q χ => a τ C (fun k C1 => if k = true then Q true C1 else b τ C1 Q χ) χ
def tNo (a : WT) : WT := fun τ C Q χ => a τ C (fun k C1 => Q (!k) C1) χ
/-- a op1 b op2 c -/
def eChain (r r' : W2) (a b c : WE) : WE := fun τ C Q χ => a τ C (fun x C1 => b τ C1 (fun y C2 => r x y C2 fun z C3 => ∃ k, z = .bl k ∧ (if k = true then c τ C3 (fun w C4 => r' y w C4 Q) χ else Q (.bl false) C3)) χ) χ
def wAdd : W2
  | .int i, .int j, C, Q => Q (.int (i + j)) C
  | .str i, .str j, C, Q => i.length + j.length ≤ sizeLine ∧ Q (.str (i ++ j)) C
  | .tup xs, .tup ys, C, Q => xs.length + ys.length ≤ sizeLine ∧ Q (.tup (xs ++ ys)) C
  | .ref a, .ref b, C, Q => ∃ xs ys, C a = some (.lst xs) ∧ C b = some (.lst ys) ∧ xs.length + ys.length ≤ sizeLine ∧ ∀ p, C p = none → Q (.ref p) (up C p (.lst (xs ++ ys)))
  | _, _, _, _ => False
def wSub : W2
  | .int i, .int j, C, Q => Q (.int (i - j)) C
  | _, _, _, _ => False
def wMul : W2
  | .int i, .int j, C, Q => CMul i j ∧ Q (.int (i * j)) C
  | _, _, _, _ => False
def wDiv : W2
  | .int i, .int j, C, Q => CDiv i j ∧ Q (.int (i / j)) C
  | _, _, _, _ => False
def wMod : W2
  | .int i, .int j, C, Q => 0 < j ∧ Q (.int (i % j)) C
  | _, _, _, _ => False
def wPow : W2
  | .int i, .int j, C, Q => CPow i j ∧ Q (.int (i ^ j.toNat)) C
  | _, _, _, _ => False
def wNeg : T → Hw → WK → Prop
  | .int i, C, Q => Q (.int (-i)) C
  | _, _, _ => False
def wLt : W2
  | .int i, .int j, C, Q => Q (.bl (decide (i < j))) C
  | .str i, .str j, C, Q => Q (.bl (decide (i.cps.toList < j.cps.toList))) C
  | _, _, _, _ => False
def wLe : W2
  | .int i, .int j, C, Q => Q (.bl (decide (i ≤ j))) C
  | _, _, _, _ => False
def wGt : W2
  | .int i, .int j, C, Q => Q (.bl (decide (j < i))) C
  | _, _, _, _ => False
def wGe : W2
  | .int i, .int j, C, Q => Q (.bl (decide (j ≤ i))) C
  | _, _, _, _ => False
/-! equality, as == tells it -/
mutual
def eqT : T → T → Bool
  | .non, .non => true
  | .bl a, .bl b => a == b
  | .bl a, .int b => (if a then 1 else 0) == b
  | .int a, .bl b => a == (if b then 1 else 0)
  | .int a, .int b => a == b
  | .str a, .str b => a == b
  | .tup xs, .tup ys => eqTs xs ys
  | _, _ => false
def eqTs : List T → List T → Bool
  | [], [] => true
  | x :: xs, y :: ys => eqT x y && eqTs xs ys
  | _, _ => false
end
/-! nothing of the heap in it; how deep it is -/
mutual
def flat : T → Nat → Bool
  | .tup xs, n + 1 => flats xs n
  | .tup _, 0 => false
  | .ref _, _ => false
  | .cl _, _ => false
  | _, _ => true
def flats : List T → Nat → Bool
  | [], _ => true
  | x :: xs, n => flat x n && flats xs n
end
/-- how deep tuples that are compared may be -/
def eqDeep : Nat := 100
def isFlat (x : T) : Prop := flat x eqDeep = true
def wEqG (neg : Bool) : W2
  | .ref a, .ref b, C, Q => ∃ xs ys, C a = some (.lst xs) ∧ C b = some (.lst ys) ∧ (xs.length = ys.length → flats xs eqDeep = true ∧ flats ys eqDeep = true) ∧ Q (.bl (if neg then !eqTs xs ys else eqTs xs ys)) C
  | .ref a, y, C, Q => (∃ xs, C a = some (.lst xs)) ∧ isFlat y ∧ Q (.bl neg) C
  | x, .ref b, C, Q => (∃ ys, C b = some (.lst ys)) ∧ isFlat x ∧ Q (.bl neg) C
  | x, y, C, Q => isFlat x ∧ isFlat y ∧ Q (.bl (if neg then !eqT x y else eqT x y)) C
abbrev wEq : W2 := wEqG false
abbrev wNe : W2 := wEqG true
def wIsN : W2 := fun x y C Q => y = .non ∧ Q (.bl (match x with | .non => true | _ => false)) C
def wNotN : W2 := fun x y C Q => y = .non ∧ Q (.bl (match x with | .non => false | _ => true)) C
def inL (x : T) (xs : List T) : Bool := xs.any fun y => eqT y x
def wInG (neg : Bool) : W2
  | .str i, .str j, C, Q => Q (.bl (if neg then (!(!(Builtin.Str.occurrences j i 0 j.length 1).isEmpty)) else (!(Builtin.Str.occurrences j i 0 j.length 1).isEmpty))) C
  | x, .tup ys, C, Q => isFlat x ∧ flats ys eqDeep = true ∧ Q (.bl (if neg then !inL x ys else inL x ys)) C
  | x, .cl ys, C, Q => isFlat x ∧ flats ys eqDeep = true ∧ Q (.bl (if neg then !inL x ys else inL x ys)) C
  | x, .ref a, C, Q => ∃ ys, C a = some (.lst ys) ∧ isFlat x ∧ flats ys eqDeep = true ∧ Q (.bl (if neg then !inL x ys else inL x ys)) C
  | _, _, _, _ => False
abbrev wIn : W2 := wInG false
abbrev wNotIn : W2 := wInG true
def cut {α : Type} (xs : List α) (lo hi : Option Int) : List α := (xs.drop (HT.sIx xs.length 0 lo)).take (HT.sIx xs.length xs.length hi - HT.sIx xs.length 0 lo)
def wIdx : W2
  | .tup xs, .int i, C, Q => ∃ v, atI xs i = some v ∧ Q v C
  | .cl xs, .int i, C, Q => ∃ v, atI xs i = some v ∧ Q v C
  | .str z, .int i, C, Q => z.length ≤ sizeLine ∧ ∃ c, atI z.cps.toList i = some c ∧ Q (.str ⟨#[c]⟩) C
  | .ref a, .int i, C, Q => ∃ xs v, C a = some (.lst xs) ∧ atI xs i = some v ∧ Q v C
  | _, _, _, _ => False
def oNo : Sw → Hw → (Option Int → Hw → Prop) → WX → Prop := fun _ C Q _ => Q none C
def oSome (a : WE) : Sw → Hw → (Option Int → Hw → Prop) → WX → Prop := fun τ C Q χ => a τ C (fun x C1 => ∃ i, x = .int i ∧ Q (some i) C1) χ
def wSl : T → Option Int → Option Int → Hw → WK → Prop
  | .tup xs, lo, hi, C, Q => ¬ (HT.sIx xs.length 0 lo = 0 ∧ HT.sIx xs.length xs.length hi = xs.length) ∧ Q (.tup (cut xs lo hi)) C
  | .cl xs, lo, hi, C, Q => ∀ p, C p = none → Q (.ref p) (up C p (.lst (cut xs lo hi)))
  | .str z, lo, hi, C, Q => z.length ≤ sizeLine ∧ Q (.str (Txt.slice z lo hi)) C
  | .ref a, lo, hi, C, Q => ∃ xs, C a = some (.lst xs) ∧ ∀ p, C p = none → Q (.ref p) (up C p (.lst (cut xs lo hi)))
  | _, _, _, _, _ => False
def eSl (a : WE) (lo hi : Sw → Hw → (Option Int → Hw → Prop) → WX → Prop) : WE := fun τ C Q χ => a τ C (fun x C1 => lo τ C1 (fun l C2 => hi τ C2 (fun h C3 => wSl x l h C3 Q) χ) χ) χ
def bLen : List T → Hw → WK → Prop := fun vs C Q => ∃ x, vs = [x] ∧ match x with
  | .str z => z.length ≤ sizeLine ∧ Q (.int z.length) C
  | .tup xs => Q (.int xs.length) C
  | .cl xs => Q (.int xs.length) C
  | .ref a => ∃ xs, C a = some (.lst xs) ∧ Q (.int xs.length) C
  | _ => False
def bMax : List T → Hw → WK → Prop := fun vs C Q => ∃ i j, vs = [.int i, .int j] ∧ Q (.int (if j > i then j else i)) C
def bMin : List T → Hw → WK → Prop := fun vs C Q => ∃ i j, vs = [.int i, .int j] ∧ Q (.int (if j < i then j else i)) C
def bAll : List T → Hw → WK → Prop := fun vs C Q => ∃ (a : Addr) (bs : List Bool), vs = [.ref a] ∧ C a = some (.lst (bs.map T.bl)) ∧ Q (.bl (bs.all id)) C
def bTuple : List T → Hw → WK → Prop := fun vs C Q => ∃ x, vs = [x] ∧ match x with
  | .tup xs => Q (.tup xs) C
  | .cl xs => Q (.tup xs) C
  | .ref a => ∃ xs, C a = some (.lst xs) ∧ Q (.tup xs) C
  | _ => False
def bList : List T → Hw → WK → Prop := fun vs C Q => ∃ x, vs = [x] ∧ match x with
  | .tup xs => ∀ p, C p = none → Q (.ref p) (up C p (.lst xs))
  | .cl xs => ∀ p, C p = none → Q (.ref p) (up C p (.lst xs))
  | .ref a => ∃ xs, C a = some (.lst xs) ∧ ∀ p, C p = none → Q (.ref p) (up C p (.lst xs))
  | _ => False
/-- the name of a value's class -/
def tyN : T → Hw → String → Prop
  | .non, _, n => n = "NoneType"
  | .bl _, _, n => n = "bool"
  | .int _, _, n => n = "int"
  | .str _, _, n => n = "str"
  | .tup _, _, n => n = "tuple"
  | .cl _, _, n => n = "list"
  | .ref a, C, n => (n = "list" ∧ ∃ xs, C a = some (.lst xs)) ∨ (n = "dict" ∧ ∃ kvs, C a = some (.dic kvs))
def isCls (n c : String) : Bool := n == c || (n == "bool" && c == "int")
/-- isinstance(a, c), c a class of Python's own -/
def eIsi (a : WE) (c : String) : WE := fun τ C Q χ => a τ C (fun x C1 => ∃ n, tyN x C1 n ∧ Q (.bl (isCls n c)) C1) χ
def tyL' : T → Hw → Prop := fun x C => ∃ a xs, x = .ref a ∧ C a = some (.lst xs)
def tyS : T → Hw → Prop := fun x _ => ∃ z, x = .str z
def mAppend : T → List T → Hw → WK → Prop := fun x vs C Q => ∃ a xs y, x = .ref a ∧ vs = [y] ∧ C a = some (.lst xs) ∧ xs.length < sizeLine ∧ Q .non (up C a (.lst (xs ++ [y])))
def mPop : T → List T → Hw → WK → Prop := fun x vs C Q => ∃ a xs y, x = .ref a ∧ vs = [] ∧ C a = some (.lst xs) ∧ xs[xs.length - 1]? = some y ∧ Q y (up C a (.lst xs.dropLast))
def mPopAt : T → List T → Hw → WK → Prop := fun x vs C Q => ∃ a xs i k y, x = .ref a ∧ vs = [.int i] ∧ C a = some (.lst xs) ∧ -(2 ^ 63) ≤ i ∧ i < 2 ^ 63 ∧ seqIndex? i xs.length = some k ∧ xs[k]? = some y ∧ Q y (up C a (.lst (xs.eraseIdx k)))
/-! ### targets, statements -/
def gNm (i : Nat) : WG := fun v τ C Q _ => Q (τ.set i (some v)) C
def gsNil : WGs := fun vs τ C Q _ => vs = [] ∧ Q τ C
def gsCons (g : WG) (gs : WGs) : WGs := fun vs τ C Q χ => ∃ v r, vs = v :: r ∧ g v τ C (fun τ' C' => gs r τ' C' Q χ) χ
def gTp (gs : WGs) : WG := fun v τ C Q χ => ∃ xs, v = .tup xs ∧ gs xs τ C Q χ
/-- o[i] = .. -/
def gSb (o i : WE) : WG := fun v τ C Q χ => o τ C (fun x C1 => i τ C1 (fun y C2 => ∃ a xs k j, x = .ref a ∧ y = .int k ∧ C2 a = some (.lst xs) ∧ ixN xs.length k = some j ∧ Q τ (up C2 a (.lst (xs.set j v)))) χ) χ
def sPass : WS := fun D τ C => D.nx τ C
def sSeq (a b : WS) : WS := fun D τ C => a { D with nx := b D } τ C
def sExpr (e : WE) : WS := fun D τ C => e τ C (fun _ C1 => D.nx τ C1) D.xc
def sRet (e : WE) : WS := fun D τ C => e τ C D.rt D.xc
def sRetN : WS := fun D _ C => D.rt .non C
def sIf (c : WT) (a b : WS) : WS := fun D τ C => c τ C (fun k C1 => if k = true then a D τ C1 else b D τ C1) D.xc
def sAsg (e : WE) (g : WG) : WS := fun D τ C => e τ C (fun x C1 => g x τ C1 D.nx D.xc) D.xc
def sBrk : WS := fun D τ C => D.bk τ C
def sCont : WS := fun D τ C => D.ct τ C
def sNever : WS := fun _ _ _ => False
def forW (g : WG) (b : WS) (ok : Hw → Prop) (D : We) : List T → Sw → Hw → Prop
  | [], τ, C => ok C ∧ D.nx τ C
  | x :: xs, τ, C => ok C ∧ g x τ C (fun τ2 C2 => b { D with nx := forW g b ok D xs, ct := forW g b ok D xs, bk := D.nx } τ2 C2) D.xc
def sFor (i : WI) (g : WG) (b : WS) : WS := fun D τ C => i τ C (fun xs ok C1 => forW g b ok D xs τ C1) D.xc
def iSeq (e : WE) : WI := fun τ C R χ => e τ C (fun v C1 => match v with
  | .tup xs => R xs (fun _ => True) C1
  | .cl xs => R xs (fun _ => True) C1
  | .str z => R (z.cps.toList.map fun c => T.str ⟨#[c]⟩) (fun _ => True) C1
  | .ref a => ∃ xs, C1 a = some (.lst xs) ∧ R xs (fun C2 => C2 a = some (.lst xs)) C1
  | _ => False) χ
def rng (lo : Int) (n : Nat) : List T := (List.range n).map fun k : Nat => T.int (lo + k)
def iR1 (a : WA) : WI := fun τ C R χ => a τ C (fun vs C1 => ∃ j : Int, vs = [.int j] ∧ -(2 ^ 62) ≤ j ∧ j < 2 ^ 62 ∧ R (rng 0 j.toNat) (fun _ => True) C1) χ
def iR2 (a : WA) : WI := fun τ C R χ => a τ C (fun vs C1 => ∃ i j : Int, vs = [.int i, .int j] ∧ (-(2 ^ 62) ≤ i ∧ i < 2 ^ 62 ∧ -(2 ^ 62) ≤ j ∧ j < 2 ^ 62) ∧ R (rng i (j - i).toNat) (fun _ => True) C1) χ
def iEn (a : WA) : WI := fun τ C R χ => a τ C (fun vs C1 => ∃ z, vs = [.str z] ∧ R (z.cps.toList.zipIdx.map fun c => T.tup [.int c.2, .str ⟨#[c.1]⟩]) (fun _ => True) C1) χ
def capW (cap : List (Option Nat)) (τ : Sw) : Sw := cap.map fun o => o.bind fun i => (τ[i]?).join
def tYes : WT := fun _ C Q _ => Q true C
def compW (g : WG) (c : WT) (e : WE) (ok : Hw → Prop) (τ : Sw) (Q : List T → Hw → Prop) (χ : WX) : List T → List T → Hw → Prop
  | [], acc, C => ok C ∧ Q acc C
  | x :: xs, acc, C => ok C ∧ g x τ C (fun τ2 C2 => c τ2 C2 (fun b C3 => if b = true then e τ2 C3 (fun v C4 => acc.length < sizeLine ∧ compW g c e ok τ Q χ xs (acc ++ [v]) C4) χ else compW g c e ok τ Q χ xs acc C3) χ) χ
def eComp (cap : List (Option Nat)) (i : WI) (g : WG) (c : WT) (e : WE) : WE := fun τ C Q χ => i τ C (fun xs ok C1 => compW g c e ok (capW cap τ) (fun vs C2 => ∀ p, C2 p = none → Q (.ref p) (up C2 p (.lst vs))) χ xs [] C1) χ
/-! ### defs -/
structure Df where
  n : Nat
  ar : Nat
  body : Calls → WS
def wpc (pr : List Df) : Nat → Calls
  | 0 => fun _ _ _ _ _ => False
  | n + 1 => fun i vs C Q χ => ∃ d, pr[i]? = some d ∧ vs.length = d.ar ∧ d.body (wpc pr n) { nx := fun _ C' => Q .non C', rt := Q, xc := χ } (vs.map some ++ List.replicate (d.n - d.ar) none) C
end WL
set_option Elab.async false
set_option linter.all false
set_option maxRecDepth 100000
set_option maxHeartbeats 4000000
namespace WL
open PySem PySem.Spec PyProof.Rows L2
/-! ### equality of values over the heap -/
section
variable {X : Cx} {pins : List (Addr × Obj)} {σ : L2.St} {H : Hp} {s : Shared}
def sc : T → Option V
  | .non => some .non
  | .bl b => some (.bl b)
  | .int i => some (.int i)
  | .str z => some (.str z)
  | _ => none
theorem rep_sc {K : PySem.W.Frag} {H : Hp} {x z : V} {v : T} (h : sc v = some z) (r : Rep K H x v) : x = z ∧ flatV z = true := by
  cases v with
  | non => cases h; exact ⟨of_non r, rfl⟩
  | bl b => cases h; exact ⟨of_bl r, rfl⟩
  | int i => cases h; exact ⟨of_int r, rfl⟩
  | str z => cases h; exact ⟨of_str r, rfl⟩
  | _ => cases h
theorem eqT_sc {v w : T} {a b : V} (h : sc v = some a) (h' : sc w = some b) : eqT v w = eqV a b := by
  cases v <;> cases w <;> cases h <;> cases h' <;> unfold eqT <;> rfl
mutual
theorem eqT_refl : ∀ (v : T) {n : Nat}, flat v n = true → eqT v v = true
  | .non, _, _ => by unfold eqT; rfl
  | .bl b, _, _ => by unfold eqT; simp
  | .int b, _, _ => by unfold eqT; simp
  | .str b, _, _ => by unfold eqT; simp
  | .tup xs, 0, h => by unfold flat at h; cases h
  | .tup xs, n + 1, h => by unfold flat at h; unfold eqT; exact eqTs_refl xs h
  | .ref a, _, h => by unfold flat at h; cases h
  | .cl a, _, h => by unfold flat at h; cases h
theorem eqTs_refl : ∀ (v : List T) {n : Nat}, flats v n = true → eqTs v v = true
  | [], _, _ => by unfold eqTs; rfl
  | x :: xs, n, h => by
    unfold flats at h
    rw [Bool.and_eq_true] at h
    unfold eqTs
    rw [eqT_refl x h.1, eqTs_refl xs h.2]; rfl
end
theorem sc_none {v : T} {n : Nat} (h : flat v n = true) (e : sc v = none) : ∃ ts m, v = .tup ts ∧ n = m + 1 ∧ flats ts m = true := by
  cases v with
  | tup ts =>
    cases n with
    | zero => unfold flat at h; cases h
    | succ m => unfold flat at h; exact ⟨ts, m, rfl, rfl, h⟩
  | ref a => unfold flat at h; cases h
  | cl a => unfold flat at h; cases h
  | non => cases e
  | bl b => cases e
  | int b => cases e
  | str b => cases e
theorem flats_get : ∀ {vs : List T} {n i : Nat} {v : T}, flats vs n = true → vs[i]? = some v → flat v n = true
  | [], _, _, _, _, e => by simp at e
  | x :: xs, n, 0, v, h, e => by
    unfold flats at h
    rw [Bool.and_eq_true] at h
    simp at e; subst e; exact h.1
  | x :: xs, n, i + 1, v, h, e => by
    unfold flats at h
    rw [Bool.and_eq_true] at h
    exact flats_get h.2 (by simpa using e)
/-- the same thing stands for one flat value alone -/
theorem rep_inj (I : Inv X pins σ H s) : ∀ (n : Nat) {v w : T} {x : V}, flat v n = true → flat w n = true → Rep X.K H x v → Rep X.K H x w → v = w := by
  intro n
  induction n with
  | zero =>
    intro v w x fv fw rv rw'
    cases ev : sc v with
    | none => obtain ⟨_, _, _, h, _⟩ := sc_none fv ev; cases h
    | some a =>
      cases ew : sc w with
      | none => obtain ⟨_, _, _, h, _⟩ := sc_none fw ew; cases h
      | some b =>
        obtain ⟨e1, _⟩ := rep_sc ev rv
        obtain ⟨e2, _⟩ := rep_sc ew rw'
        have e : a = b := e1.symm.trans e2
        subst e
        cases v <;> cases ev <;> cases w <;> cases ew <;> rfl
  | succ n ih =>
    intro v w x fv fw rv rw'
    have lists : ∀ {ys : List V} {vs ws : List T}, flats vs n = true → flats ws n = true → Reps X.K H ys vs → Reps X.K H ys ws → vs = ws := by
      intro ys vs
      induction vs generalizing ys with
      | nil =>
        intro ws _ _ a b
        have := of_nil a
        subst this
        cases ws with
        | nil => rfl
        | cons w ws => obtain ⟨_, _, e, _⟩ := of_cons b; cases e
      | cons v vs ihv =>
        intro ws fa fb a b
        obtain ⟨y, r, rfl, a1, a2⟩ := of_cons a
        cases ws with
        | nil => have := of_nil b; cases this
        | cons w ws =>
          obtain ⟨y', r', e, b1, b2⟩ := of_cons b
          cases e
          unfold flats at fa fb
          rw [Bool.and_eq_true] at fa fb
          rw [ih fa.1 fb.1 a1 b1, ihv fa.2 fb.2 a2 b2]
    cases ev : sc v with
    | none =>
      obtain ⟨ts, m, rfl, em, ft⟩ := sc_none fv ev
      cases em
      obtain ⟨a, ys, rfl, hq, r⟩ := of_tup rv
      cases ew : sc w with
      | none =>
        obtain ⟨us, m', rfl, em, fu⟩ := sc_none fw ew
        cases em
        obtain ⟨b, zs, e, hq', r'⟩ := of_tup rw'
        cases e
        have e := I.tuple_inj hq hq'
        subst e
        rw [lists ft fu r r']
      | some b =>
        obtain ⟨e2, f⟩ := rep_sc ew rw'
        subst e2
        cases f
    | some a =>
      obtain ⟨e1, f⟩ := rep_sc ev rv
      cases ew : sc w with
      | none =>
        obtain ⟨us, m', rfl, em, fu⟩ := sc_none fw ew
        obtain ⟨b, zs, e, hq', r'⟩ := of_tup rw'
        subst e1
        subst e
        cases f
      | some b =>
        obtain ⟨e2, _⟩ := rep_sc ew rw'
        have e : a = b := e1.symm.trans e2
        subst e
        cases v <;> cases ev <;> cases w <;> cases ew <;> rfl
def eqJ (ts us : List T) (j : Nat) : Bool := match ts[j]?, us[j]? with
  | some a, some b => eqT a b
  | _, _ => true
theorem eqTs_range : ∀ (vs ws : List T), ((List.range (min vs.length ws.length)).all (eqJ vs ws) && vs.length == ws.length) = eqTs vs ws
  | [], [] => by unfold eqTs; rfl
  | [], _ :: _ => by unfold eqTs; simp
  | _ :: _, [] => by unfold eqTs; simp
  | v :: vs, w :: ws => by
    unfold eqTs
    rw [← eqTs_range vs ws]
    rw [List.length_cons, List.length_cons, show min (vs.length + 1) (ws.length + 1) = min vs.length ws.length + 1 by omega, List.range_succ_eq_map, List.all_cons, List.all_map]
    have e1 : eqJ (v :: vs) (w :: ws) 0 = eqT v w := rfl
    have e2 : (eqJ (v :: vs) (w :: ws) ∘ Nat.succ) = eqJ vs ws := by funext j; simp [Function.comp_def, eqJ]
    rw [e1, e2]
    simp [Bool.and_assoc]
/-- == within another comparison -/
theorem eqAtT (I : Inv X pins σ H s) : ∀ (n : Nat) {v w : T} {x y : V} {u u' : Value} {A : Around}, flat v n = true → flat w n = true → Rep X.K H x v → Rep X.K H y w → RelV x u → RelV y u' → A.units + n < cLine →
    SeqAt.EqAt A s u u' (eqT v w) := by
  intro n
  induction n with
  | zero =>
    intro v w x y u u' A fv fw rv rw' ru ru' hu
    cases ev : sc v with
    | none => obtain ⟨_, _, _, h, _⟩ := sc_none fv ev; cases h
    | some a =>
      cases ew : sc w with
      | none => obtain ⟨_, _, _, h, _⟩ := sc_none fw ew; cases h
      | some b =>
        obtain ⟨rfl, f1⟩ := rep_sc ev rv
        obtain ⟨rfl, f2⟩ := rep_sc ew rw'
        rw [eqT_sc ev ew]
        exact eqAt_V ru ru' f1 f2
  | succ n ih =>
    intro v w x y u u' A fv fw rv rw' ru ru' hu
    have hu0 : A.units < cLine := by omega
    cases ev : sc v with
    | some a =>
      obtain ⟨rfl, f1⟩ := rep_sc ev rv
      cases ew : sc w with
      | some b =>
        obtain ⟨rfl, f2⟩ := rep_sc ew rw'
        rw [eqT_sc ev ew]
        exact eqAt_V ru ru' f1 f2
      | none =>
        obtain ⟨ts, m, rfl, em, ft⟩ := sc_none fw ew
        obtain ⟨b, zs, rfl, hq, r⟩ := of_tup rw'
        cases ru'
        obtain ⟨its, _, p, _⟩ := I.tuple hq
        cases v with
        | non => cases ev; cases ru; unfold eqT; exact SeqAt.EqAt.none_tuple p hu0
        | bl c => cases ev; cases ru; unfold eqT; exact SeqAt.EqAt.bool_tuple c p hu0
        | int i => cases ev; obtain ⟨t, rfl⟩ := ru; unfold eqT; exact SeqAt.EqAt.int_tuple i t p hu0
        | str i => cases ev; obtain ⟨t, rfl⟩ := ru; unfold eqT; exact SeqAt.EqAt.str_tuple i t p hu0
        | _ => cases ev
    | none =>
      obtain ⟨ts, m, rfl, em, ft⟩ := sc_none fv ev
      cases em
      obtain ⟨a, ys, rfl, hq, r⟩ := of_tup rv
      cases ru
      obtain ⟨its, rI, p, _⟩ := I.tuple hq
      cases ew : sc w with
      | some b =>
        obtain ⟨rfl, f2⟩ := rep_sc ew rw'
        cases w with
        | non => cases ew; cases ru'; unfold eqT; exact SeqAt.EqAt.tuple_none p hu0
        | bl c => cases ew; cases ru'; unfold eqT; exact SeqAt.EqAt.tuple_bool c p hu0
        | int i => cases ew; obtain ⟨t, rfl⟩ := ru'; unfold eqT; exact SeqAt.EqAt.tuple_int i t p hu0
        | str i => cases ew; obtain ⟨t, rfl⟩ := ru'; unfold eqT; exact SeqAt.EqAt.tuple_str i t p hu0
        | _ => cases ew
      | none =>
        obtain ⟨us, m', rfl, em, fu⟩ := sc_none fw ew
        cases em
        obtain ⟨b, zs, rfl, hq', r'⟩ := of_tup rw'
        cases ru'
        obtain ⟨its', rI', p', _⟩ := I.tuple hq'
        by_cases hne : a = b
        · subst hne
          have e := rep_inj I (n + 1) fv fw (rep_tup hq r) (rep_tup hq' r')
          rw [e, eqT_refl _ fw]
          exact SeqAt.EqAt.same _
        · have l1 : its.toArray.size = ts.length := by rw [List.size_toArray, ← rI.length, r.length]
          have l2 : its'.toArray.size = us.length := by rw [List.size_toArray, ← rI'.length, r'.length]
          have key := SeqAt.EqAt.of_refs hne (SeqAt.RcAt.tuples (A := A) (e := eqJ ts us) p p' hu0 (fun j h1 h2 => by
            have i1 : ts[j]? = some (ts[j]'(by omega)) := by simp [l1 ▸ h1]
            have i2 : us[j]? = some (us[j]'(by omega)) := by simp [l2 ▸ h2]
            obtain ⟨x1, g1, q1⟩ := r.get i1
            obtain ⟨x2, g2, q2⟩ := r'.get i2
            obtain ⟨u1, k1, z1⟩ := rI.get g1
            obtain ⟨u2, k2, z2⟩ := rI'.get g2
            have e1 : its.toArray[j] = u1 := by
              have : its[j]? = some its.toArray[j] := by simp
              rw [k1] at this; exact (Option.some.inj this).symm
            have e2 : its'.toArray[j] = u2 := by
              have : its'[j]? = some its'.toArray[j] := by simp
              rw [k2] at this; exact (Option.some.inj this).symm
            rw [e1, e2]
            unfold eqJ
            simp only [i1, i2]
            exact ih (flats_get ft i1) (flats_get fu i2) q1 q2 z1 z2 (by show A.units + 1 + n < cLine; omega)))
          rw [l1, l2, eqTs_range] at key
          unfold eqT
          exact key
end
end WL
set_option Elab.async false
set_option linter.all false
set_option maxRecDepth 100000
set_option maxHeartbeats 4000000
namespace WL
open PySem PySem.Spec PyProof.Rows L2
def RepS (K : PySem.W.Frag) (H : Hp) (σ : L2.St) (τ : Sw) : Prop := σ.length = τ.length ∧ ∀ (i : Nat) (v : T), τ[i]? = some (some v) → ∃ x, σ[i]? = some (some x) ∧ Rep K H x v
theorem RepS.tx {K : PySem.W.Frag} {H H' : Hp} {σ : L2.St} {τ : Sw} (h : RepS K H σ τ) (t : Tx H H') : RepS K H' σ τ := ⟨h.1, fun i v e => let ⟨x, a, b⟩ := h.2 i v e; ⟨x, a, b.tx t⟩⟩
theorem RepS.set {K : PySem.W.Frag} {H : Hp} {σ : L2.St} {τ : Sw} (h : RepS K H σ τ) {i : Nat} {x : V} {v : T} (r : Rep K H x v) : RepS K H (σ.set i (some x)) (τ.set i (some v)) := by
  refine ⟨by rw [List.length_set, List.length_set]; exact h.1, fun j w e => ?_⟩
  by_cases hj : i = j
  · subst hj
    by_cases hi : i < τ.length
    · rw [List.getElem?_set_self hi] at e
      cases e
      exact ⟨x, List.getElem?_set_self (by rw [h.1]; exact hi), r⟩
    · rw [List.getElem?_eq_none (by rw [List.length_set]; omega)] at e
      cases e
  · rw [List.getElem?_set_ne hj] at e ⊢
    exact h.2 j w e
abbrev QE (K : PySem.W.Frag) (F H : Hp) (Q : VK) (Q' : WK) : Prop := ∀ x v H' C', Rl K F H' C' → Tx H H' → Rep K H' x v → Q' v C' → Q x H'
abbrev QT (K : PySem.W.Frag) (F H : Hp) (Q : Bool → Hp → Prop) (Q' : Bool → Hw → Prop) : Prop := ∀ b H' C', Rl K F H' C' → Tx H H' → Q' b C' → Q b H'
abbrev QA (K : PySem.W.Frag) (F H : Hp) (Q : List V → Hp → Prop) (Q' : List T → Hw → Prop) : Prop := ∀ xs vs H' C', Rl K F H' C' → Tx H H' → Reps K H' xs vs → Q' vs C' → Q xs H'
theorem QE.at {K : PySem.W.Frag} {F H H1 : Hp} {Q : VK} {Q' : WK} (q : QE K F H Q Q') (t : Tx H H1) : QE K F H1 Q Q' := fun x v H' C' R t' => q x v H' C' R (t.trans t')
def SimE (K : PySem.W.Frag) (te : TE) (we : WE) : Prop := ∀ (F H : Hp) (C : Hw) (σ : L2.St) (τ : Sw) (Q : VK) (Q' : WK) (χ : WX), Rl K F H C → RepS K H σ τ → we τ C Q' χ → QE K F H Q Q' → te σ H Q
def SimT (K : PySem.W.Frag) (te : TT) (we : WT) : Prop := ∀ (F H : Hp) (C : Hw) (σ : L2.St) (τ : Sw) (Q : Bool → Hp → Prop) (Q' : Bool → Hw → Prop) (χ : WX), Rl K F H C → RepS K H σ τ → we τ C Q' χ → QT K F H Q Q' → te σ H Q
def SimA (K : PySem.W.Frag) (te : TA) (we : WA) : Prop := ∀ (F H : Hp) (C : Hw) (σ : L2.St) (τ : Sw) (Q : List V → Hp → Prop) (Q' : List T → Hw → Prop) (χ : WX), Rl K F H C → RepS K H σ τ → we τ C Q' χ → QA K F H Q Q' → te σ H Q
def SimR (K : PySem.W.Frag) (r : R2) (w : W2) : Prop := ∀ (F H : Hp) (C : Hw) (x y : V) (v u : T) (Q : VK) (Q' : WK), Rl K F H C → Rep K H x v → Rep K H y u → w v u C Q' → QE K F H Q Q' → r x y H Q
def SimB (K : PySem.W.Frag) (r : List V → Hp → VK → Prop) (w : List T → Hw → WK → Prop) : Prop := ∀ (F H : Hp) (C : Hw) (xs : List V) (vs : List T) (Q : VK) (Q' : WK), Rl K F H C → Reps K H xs vs → w vs C Q' → QE K F H Q Q' → r xs H Q
def SimM (K : PySem.W.Frag) (r : V → List V → Hp → VK → Prop) (w : T → List T → Hw → WK → Prop) : Prop := ∀ (F H : Hp) (C : Hw) (x : V) (v : T) (xs : List V) (vs : List T) (Q : VK) (Q' : WK), Rl K F H C → Rep K H x v → Reps K H xs vs → w v vs C Q' → QE K F H Q Q' → r x xs H Q
def SimU (K : PySem.W.Frag) (r : V → Hp → VK → Prop) (w : T → Hw → WK → Prop) : Prop := ∀ (F H : Hp) (C : Hw) (x : V) (v : T) (Q : VK) (Q' : WK), Rl K F H C → Rep K H x v → w v C Q' → QE K F H Q Q' → r x H Q
def SdE (X : Cx) (e : Expr) (w : WE) : Prop := ∃ t, PE X e t ∧ SimE X.K t w
def SdT (X : Cx) (e : Expr) (w : WT) : Prop := ∃ t, PT X e t ∧ SimT X.K t w
def SdW (X : Cx) (e : Expr) (w : WT) : Prop := ∃ t, PW X e t ∧ SimT X.K t w
def SdA (X : Cx) (es : List Expr) (w : WA) : Prop := ∃ t, PA X es t ∧ SimA X.K t w
def OpS (X : Cx) (f : Value → Value → Sem Value) (w : W2) : Prop := ∃ r, OpR X f r ∧ SimR X.K r w
def IxS (X : Cx) (w : W2) : Prop := ∃ r, IxR X r ∧ SimR X.K r w
def CallS (X : Cx) (f : Value) (w : List T → Hw → WK → Prop) : Prop := ∃ r, CallR X f r ∧ SimB X.K r w
def MtS (X : Cx) (id : String) (w : T → List T → Hw → WK → Prop) : Prop := ∃ r, MtR X id r ∧ SimM X.K r w
section
variable {K : PySem.W.Frag} {ta tb tc : TE} {wa wb wc : WE} {r r' : R2} {w w' : W2}
theorem s_var {i : Nat} : SimE K (tVar i) (eVar i) := fun F H C σ τ Q Q' χ R S h q => by
  obtain ⟨v, e, h⟩ := h
  obtain ⟨x, ex, rx⟩ := S.2 i v e
  exact ⟨x, ex, q x v H C R (Tx.refl H) rx h⟩
theorem s_c {x : V} {v : T} (h : ∀ H, Rep K H x v) : SimE K (tC x) (eC v) := fun F H C σ τ Q Q' χ R S w q => q x v H C R (Tx.refl H) (h H) w
theorem s_op (ha : SimE K ta wa) (hb : SimE K tb wb) (hr : SimR K r w) : SimE K (tOp r ta tb) (eBin w wa wb) := fun F H C σ τ Q Q' χ R S h q => by
  refine ha F H C σ τ _ _ χ R S h fun x v H1 C1 R1 t1 rx h1 => ?_
  refine hb F H1 C1 σ τ _ _ χ R1 (S.tx t1) h1 fun y u H2 C2 R2 t2 ry h2 => ?_
  exact hr F H2 C2 x y v u Q Q' R2 (rx.tx t2) ry h2 (QE.at q (t1.trans t2))
theorem s_un {r : V → Hp → VK → Prop} {w : T → Hw → WK → Prop} (ha : SimE K ta wa) (hr : SimU K r w) : SimE K (tUn r ta) (eUn w wa) := fun F H C σ τ Q Q' χ R S h q => by
  refine ha F H C σ τ _ _ χ R S h fun x v H1 C1 R1 t1 rx h1 => ?_
  exact hr F H1 C1 x v Q Q' R1 rx h1 (QE.at q t1)
theorem s_nil : SimA K tNil aNil := fun F H C σ τ Q Q' χ R S h q => q [] [] H C R (Tx.refl H) reps_nil h
theorem s_cons {t : TA} {wt : WA} (ha : SimE K ta wa) (hb : SimA K t wt) : SimA K (tCons ta t) (aCons wa wt) := fun F H C σ τ Q Q' χ R S h q => by
  refine ha F H C σ τ _ _ χ R S h fun x v H1 C1 R1 t1 rx h1 => ?_
  exact hb F H1 C1 σ τ _ _ χ R1 (S.tx t1) h1 fun xs vs H2 C2 R2 t2 rs h2 => q (x :: xs) (v :: vs) H2 C2 R2 (t1.trans t2) (reps_cons (rx.tx t2) rs) h2
theorem s_tup {t : TA} {wt : WA} (ha : SimA K t wt) : SimE K (tTup t) (eTup wt) := fun F H C σ τ Q Q' χ R S h q => by
  refine ha F H C σ τ _ _ χ R S h fun xs vs H1 C1 R1 t1 rs h1 => ⟨by rw [rs.length]; exact h1.1, fun p hp => ?_⟩
  exact q _ _ _ C1 (R1.hid hp) (t1.trans (Tx.new hp)) (rep_tup (SqT.of upd_same) (rs.tx (Tx.new hp))) h1.2
theorem s_lst {t : TA} {wt : WA} (ha : SimA K t wt) : SimE K (tLst t) (eLst wt) := fun F H C σ τ Q Q' χ R S h q => by
  refine ha F H C σ τ _ _ χ R S h fun xs vs H1 C1 R1 t1 rs h1 => ⟨by rw [rs.length]; exact h1.1, fun p hp => ?_⟩
  exact q _ _ _ _ (R1.newL hp rs) (t1.trans (Tx.new hp)) rep_ref (h1.2 p (R1.free hp))
theorem s_bi {r : List V → Hp → VK → Prop} {w : List T → Hw → WK → Prop} {t : TA} {wt : WA} (hr : SimB K r w) (ha : SimA K t wt) : SimE K (tCB r t) (eBi w wt) := fun F H C σ τ Q Q' χ R S h q => by
  refine ha F H C σ τ _ _ χ R S h fun xs vs H1 C1 R1 t1 rs h1 => ?_
  exact hr F H1 C1 xs vs Q Q' R1 rs h1 (QE.at q t1)
theorem s_or (ha : SimE K ta wa) (hb : SimE K tb wb) : SimE K (tOrV ta tb) (eOr wa wb) := fun F H C σ τ Q Q' χ R S h q => by
  refine ha F H C σ τ _ _ χ R S h fun x v H1 C1 R1 t1 rx h1 => ?_
  obtain ⟨k, rfl, h1⟩ := h1
  refine ⟨k, of_bl rx, ?_⟩
  cases k with
  | true => exact q _ _ H1 C1 R1 t1 rep_bl h1
  | false => exact hb F H1 C1 σ τ Q Q' χ R1 (S.tx t1) h1 (QE.at q t1)
theorem s_not (ha : SimE K ta wa) : SimE K (tNotV ta) (eNot wa) := fun F H C σ τ Q Q' χ R S h q => by
  refine ha F H C σ τ _ _ χ R S h fun x v H1 C1 R1 t1 rx h1 => ?_
  obtain ⟨k, rfl, h1⟩ := h1
  exact ⟨k, of_bl rx, q _ _ H1 C1 R1 t1 rep_bl h1⟩
/-! tests -/
theorem s_bl (ha : SimE K ta wa) : SimT K (tTest ta) (tBl wa) := fun F H C σ τ Q Q' χ R S h q => by
  refine ha F H C σ τ _ _ χ R S h fun x v H1 C1 R1 t1 rx h1 => ?_
  obtain ⟨k, rfl, h1⟩ := h1
  exact ⟨k, of_bl rx, q k H1 C1 R1 t1 h1⟩
theorem s_tru (ha : SimE K ta wa) : SimT K (fun σ H Q => ta σ H fun x H' => ∃ k, TruV K x H' k ∧ Q k H') (tTru wa) := fun F H C σ τ Q Q' χ R S h q => by
  refine ha F H C σ τ _ _ χ R S h fun x v H1 C1 R1 t1 rx h1 => ?_
  obtain ⟨k, hk, h1⟩ := h1
  refine ⟨k, ?_, q k H1 C1 R1 t1 h1⟩
  have emp : ∀ {ys : List V} {xs : List T}, Reps K H1 ys xs → ys.isEmpty = xs.isEmpty := fun {ys xs} r => by
    have := r.length
    cases ys <;> cases xs <;> simp_all
  cases v with
  | non => cases of_non rx; exact hk
  | bl b => cases of_bl rx; exact hk
  | int i => cases of_int rx; exact hk
  | str z => cases of_str rx; exact hk
  | tup xs =>
    obtain ⟨a, ys, rfl, hq, r⟩ := of_tup rx
    refine .inr (.inl ⟨ys, hq, ?_⟩)
    rw [emp r]; exact hk
  | cl xs =>
    obtain ⟨a, ys, rfl, hq, r⟩ := of_cl rx
    refine .inl ⟨ys, hq.sq, ?_⟩
    rw [emp r]; exact hk
  | ref a =>
    cases of_ref rx
    rcases hk with ⟨xs, hx, e⟩ | ⟨kvs, hx, e⟩
    · obtain ⟨ys, hy, r⟩ := R1.lst hx
      refine .inl ⟨ys, SqL.of hy, ?_⟩
      rw [emp r]; exact e
    · obtain ⟨ks, hy, r⟩ := R1.obj a _ hx
      refine .inr (.inr ⟨ks, hy, ?_⟩)
      have := Paired.length r
      rw [e]
      cases ks <;> cases kvs <;> simp_all
theorem s_an {t u : TT} {w w' : WT} (ha : SimT K t w) (hb : SimT K u w') : SimT K (tAnd t u) (tAn w w') := fun F H C σ τ Q Q' χ R S h q => by
  refine ha F H C σ τ _ _ χ R S h fun k H1 C1 R1 t1 h1 => ?_
  cases k with
  | true => exact hb F H1 C1 σ τ Q Q' χ R1 (S.tx t1) h1 fun b H' C' R' t' => q b H' C' R' (t1.trans t')
  | false => exact q _ H1 C1 R1 t1 h1
theorem s_or' {t u : TT} {w w' : WT} (ha : SimT K t w) (hb : SimT K u w') : SimT K (tOr t u) (tOr' w w') := fun F H C σ τ Q Q' χ R S h q => by
  refine ha F H C σ τ _ _ χ R S h fun k H1 C1 R1 t1 h1 => ?_
  cases k with
  | true => exact q _ H1 C1 R1 t1 h1
  | false => exact hb F H1 C1 σ τ Q Q' χ R1 (S.tx t1) h1 fun b H' C' R' t' => q b H' C' R' (t1.trans t')
theorem s_no {t : TT} {w : WT} (ha : SimT K t w) : SimT K (tNot t) (tNo w) := fun F H C σ τ Q Q' χ R S h q => by
  refine ha F H C σ τ _ _ χ R S h fun k H1 C1 R1 t1 h1 => ?_
  exact q _ H1 C1 R1 t1 h1
end
/-! ### the operations -/
section
variable {X : Cx}
theorem o_add : OpS X (binaryOp .Add) wAdd := ⟨_, op_add.or (op_add_str.or (op_cat.or (op_catT0.or op_catT))), fun F H C x y v u Q Q' R rx ry h q => by
  cases v <;> cases u <;> first | exact False.elim h | skip
  case int.int i j => cases of_int rx; cases of_int ry; exact .inl ⟨i, j, rfl, rfl, q _ _ H C R (Tx.refl H) rep_int h⟩
  case str.str i j => cases of_str rx; cases of_str ry; exact .inr (.inl ⟨i, j, rfl, rfl, h.1, q _ _ H C R (Tx.refl H) rep_str h.2⟩)
  case ref.ref a b =>
    cases of_ref rx; cases of_ref ry
    obtain ⟨xs, ys, ha, hb, hl, h⟩ := h
    obtain ⟨zs, hz, rz⟩ := R.lst ha
    obtain ⟨ws, hw, rw'⟩ := R.lst hb
    exact .inr (.inr (.inl ⟨a, b, zs, ws, rfl, rfl, hz, hw, by rw [rz.length, rw'.length]; exact hl, fun p hp => q _ _ _ _ (R.newL hp (rz.app rw')) (Tx.new hp) rep_ref (h p (R.free hp))⟩))
  case tup.tup xs ys =>
    obtain ⟨a, zs, rfl, hz, rz⟩ := of_tup rx
    obtain ⟨b, ws, rfl, hw, rw'⟩ := of_tup ry
    by_cases e : zs = []
    · subst e
      have e2 : xs = [] := by
        have := rz.length
        cases xs with
        | nil => rfl
        | cons _ _ => cases this
      subst e2
      exact .inr (.inr (.inr (.inl ⟨a, b, ws, rfl, rfl, hz, hw, q _ _ H C R (Tx.refl H) (rep_tup hw rw') h.2⟩)))
    · refine .inr (.inr (.inr (.inr ⟨a, b, zs, ws, rfl, rfl, hz, hw, e, by rw [rz.length, rw'.length]; exact h.1, fun e2 => ?_, fun e2 p hp => ?_⟩)))
      · subst e2
        have e3 : ys = [] := by
          have := rw'.length
          cases ys with
          | nil => rfl
          | cons _ _ => cases this
        subst e3
        refine q _ _ H C R (Tx.refl H) (rep_tup hz rz) ?_
        have := h.2
        rw [List.append_nil] at this
        exact this
      · exact q _ _ _ C (R.hid hp) (Tx.new hp) (rep_tup (SqT.of upd_same) ((rz.app rw').tx (Tx.new hp))) h.2⟩
theorem o_sub : OpS X (binaryOp .Sub) wSub := ⟨_, op_sub, fun F H C x y v u Q Q' R rx ry h q => by
  cases v <;> cases u <;> first | exact False.elim h | skip
  case int.int i j => cases of_int rx; cases of_int ry; exact ⟨i, j, rfl, rfl, q _ _ H C R (Tx.refl H) rep_int h⟩⟩
theorem o_mul : OpS X (binaryOp .Mult) wMul := ⟨_, op_mul, fun F H C x y v u Q Q' R rx ry h q => by
  cases v <;> cases u <;> first | exact False.elim h | skip
  case int.int i j => cases of_int rx; cases of_int ry; exact ⟨i, j, rfl, rfl, h.1, q _ _ H C R (Tx.refl H) rep_int h.2⟩⟩
theorem o_div : OpS X (binaryOp .FloorDiv) wDiv := ⟨_, op_fdiv, fun F H C x y v u Q Q' R rx ry h q => by
  cases v <;> cases u <;> first | exact False.elim h | skip
  case int.int i j => cases of_int rx; cases of_int ry; exact ⟨i, j, rfl, rfl, h.1, q _ _ H C R (Tx.refl H) rep_int h.2⟩⟩
theorem o_mod : OpS X (binaryOp .Mod) wMod := ⟨_, op_mod, fun F H C x y v u Q Q' R rx ry h q => by
  cases v <;> cases u <;> first | exact False.elim h | skip
  case int.int i j => cases of_int rx; cases of_int ry; exact ⟨i, j, rfl, rfl, h.1, q _ _ H C R (Tx.refl H) rep_int h.2⟩⟩
theorem o_pow : OpS X (binaryOp .Pow) wPow := ⟨_, op_pow, fun F H C x y v u Q Q' R rx ry h q => by
  cases v <;> cases u <;> first | exact False.elim h | skip
  case int.int i j => cases of_int rx; cases of_int ry; exact ⟨i, j, rfl, rfl, h.1, q _ _ H C R (Tx.refl H) rep_int h.2⟩⟩
theorem o_lt : OpS X (compareOp .Lt) wLt := ⟨_, op_lt.or op_lt_str, fun F H C x y v u Q Q' R rx ry h q => by
  cases v <;> cases u <;> first | exact False.elim h | skip
  case int.int i j => cases of_int rx; cases of_int ry; exact .inl ⟨i, j, rfl, rfl, q _ _ H C R (Tx.refl H) rep_bl h⟩
  case str.str i j => cases of_str rx; cases of_str ry; exact .inr ⟨i, j, rfl, rfl, q _ _ H C R (Tx.refl H) rep_bl h⟩⟩
theorem o_gt : OpS X (compareOp .Gt) wGt := ⟨_, op_gt, fun F H C x y v u Q Q' R rx ry h q => by
  cases v <;> cases u <;> first | exact False.elim h | skip
  case int.int i j => cases of_int rx; cases of_int ry; exact ⟨i, j, rfl, rfl, q _ _ H C R (Tx.refl H) rep_bl h⟩⟩
/-- a rule that stands over the state itself, by values -/
def rDir (X : Cx) (f : Value → Value → Sem Value) : R2 := fun x y H Q => ∀ (pins : List (Addr × Obj)) (s : Shared) (σ : L2.St) (v u : Value), Inv X pins σ H s → RelV x v → RelV y u → wpAny (model X.prog X.w) X.A (f v u) (EP X pins σ Q) X.xe s
theorem op_dir {f : Value → Value → Sem Value} : OpR X f (rDir X f) := fun pins s σ H x y v u Q I rx ry h => h pins s σ v u I rx ry
/-- the items of two lists, one by one -/
theorem items_at {pins : List (Addr × Obj)} {σ : L2.St} {H : Hp} {s : Shared} {A : Around} {n : Nat} {ts us : List T} {ys zs : List V} {its its' : List Value} (I : Inv X pins σ H s) (r : Reps X.K H ys ts) (r' : Reps X.K H zs us) (rI : Vals ys its) (rI' : Vals zs its')
    (f : flats ts n = true) (f' : flats us n = true) (hu : A.units + n < cLine) :
    ∀ j (h1 : j < its.toArray.size) (h2 : j < its'.toArray.size), SeqAt.EqAt A s its.toArray[j] its'.toArray[j] (eqJ ts us j) := fun j h1 h2 => by
  have l1 : its.toArray.size = ts.length := by rw [List.size_toArray, ← rI.length, r.length]
  have l2 : its'.toArray.size = us.length := by rw [List.size_toArray, ← rI'.length, r'.length]
  have i1 : ts[j]? = some (ts[j]'(by omega)) := by simp [l1 ▸ h1]
  have i2 : us[j]? = some (us[j]'(by omega)) := by simp [l2 ▸ h2]
  obtain ⟨x1, g1, q1⟩ := r.get i1
  obtain ⟨x2, g2, q2⟩ := r'.get i2
  obtain ⟨u1, k1, z1⟩ := rI.get g1
  obtain ⟨u2, k2, z2⟩ := rI'.get g2
  have e1 : its.toArray[j] = u1 := by
    have : its[j]? = some its.toArray[j] := by simp
    rw [k1] at this; exact (Option.some.inj this).symm
  have e2 : its'.toArray[j] = u2 := by
    have : its'[j]? = some its'.toArray[j] := by simp
    rw [k2] at this; exact (Option.some.inj this).symm
  rw [e1, e2]
  unfold eqJ
  simp only [i1, i2]
  exact eqAtT I n (flats_get f i1) (flats_get f' i2) q1 q2 z1 z2 hu
theorem eqTs_len {vs ws : List T} (h : vs.length ≠ ws.length) : eqTs vs ws = false := by
  rw [← eqTs_range, show (vs.length == ws.length) = false from beq_eq_false_iff_ne.mpr h, Bool.and_false]
theorem eqTs_same {vs ws : List T} (h : vs.length = ws.length) : (List.range vs.length).all (eqJ vs ws) = eqTs vs ws := by
  rw [← eqTs_range, h, Nat.min_self, beq_self_eq_true, Bool.and_true]
/-- == of two values at the top, nothing of the heap in them -/
theorem rcT {pins : List (Addr × Obj)} {σ : L2.St} {H : Hp} {s : Shared} {v w : T} {x y : V} {u u' : Value} {A : Around} {n : Nat} (I : Inv X pins σ H s) (fv : flat v n = true) (fw : flat w n = true) (rv : Rep X.K H x v) (rw' : Rep X.K H y w)
    (ru : RelV x u) (ru' : RelV y u') (hu : A.units + n + 1 < cLine) : SeqAt.RcAt A s u u' (eqT v w) ∧ SeqAt.RcNeAt A s u u' (!eqT v w) := by
  have hu0 : A.units < cLine := by omega
  cases ev : sc v with
  | some a =>
    obtain ⟨rfl, f1⟩ := rep_sc ev rv
    cases ew : sc w with
    | some b =>
      obtain ⟨rfl, f2⟩ := rep_sc ew rw'
      cases v with
      | non =>
        cases ev; cases ru
        cases w with
        | non => cases ew; cases ru'; unfold eqT; exact ⟨.none_none, .none_none⟩
        | bl c => cases ew; cases ru'; unfold eqT; exact ⟨.none_bool c, .none_bool c⟩
        | int c => cases ew; obtain ⟨t, rfl⟩ := ru'; unfold eqT; exact ⟨.none_int c t, .none_int c t⟩
        | str c => cases ew; obtain ⟨t, rfl⟩ := ru'; unfold eqT; exact ⟨.none_str c t, .none_str c t⟩
        | _ => cases ew
      | bl d =>
        cases ev; cases ru
        cases w with
        | non => cases ew; cases ru'; unfold eqT; exact ⟨.bool_none d, .bool_none d⟩
        | bl c => cases ew; cases ru'; unfold eqT; exact ⟨.bool_bool d c, .bool_bool d c⟩
        | int c => cases ew; obtain ⟨t, rfl⟩ := ru'; unfold eqT; exact ⟨.bool_int d c t, .bool_int d c t⟩
        | str c => cases ew; obtain ⟨t, rfl⟩ := ru'; unfold eqT; exact ⟨.bool_str d c t, .bool_str d c t⟩
        | _ => cases ew
      | int d =>
        cases ev; obtain ⟨t', rfl⟩ := ru
        cases w with
        | non => cases ew; cases ru'; unfold eqT; exact ⟨.int_none d t', .int_none d t'⟩
        | bl c => cases ew; cases ru'; unfold eqT; exact ⟨.int_bool d t' c, .int_bool d t' c⟩
        | int c => cases ew; obtain ⟨t, rfl⟩ := ru'; unfold eqT; exact ⟨.int_int d t' c t, .int_int d t' c t⟩
        | str c => cases ew; obtain ⟨t, rfl⟩ := ru'; unfold eqT; exact ⟨.int_str d t' c t, .int_str d t' c t⟩
        | _ => cases ew
      | str d =>
        cases ev; obtain ⟨t', rfl⟩ := ru
        cases w with
        | non => cases ew; cases ru'; unfold eqT; exact ⟨.str_none d t', .str_none d t'⟩
        | bl c => cases ew; cases ru'; unfold eqT; exact ⟨.str_bool d t' c, .str_bool d t' c⟩
        | int c => cases ew; obtain ⟨t, rfl⟩ := ru'; unfold eqT; exact ⟨.str_int d t' c t, .str_int d t' c t⟩
        | str c => cases ew; obtain ⟨t, rfl⟩ := ru'; unfold eqT; exact ⟨.str_str d t' c t, .str_str d t' c t⟩
        | _ => cases ew
      | _ => cases ev
    | none =>
      obtain ⟨ts, m, rfl, em, ft⟩ := sc_none fw ew
      obtain ⟨b, zs, rfl, hq, r⟩ := of_tup rw'
      cases ru'
      obtain ⟨its, _, p, _⟩ := I.tuple hq
      cases v with
      | non => cases ev; cases ru; unfold eqT; exact ⟨.none_tuple p hu0, .none_tuple p hu0⟩
      | bl c => cases ev; cases ru; unfold eqT; exact ⟨.bool_tuple c p hu0, .bool_tuple c p hu0⟩
      | int i => cases ev; obtain ⟨t, rfl⟩ := ru; unfold eqT; exact ⟨.int_tuple i t p hu0, .int_tuple i t p hu0⟩
      | str i => cases ev; obtain ⟨t, rfl⟩ := ru; unfold eqT; exact ⟨.str_tuple i t p hu0, .str_tuple i t p hu0⟩
      | _ => cases ev
  | none =>
    obtain ⟨ts, m, rfl, em, ft⟩ := sc_none fv ev
    subst em
    obtain ⟨a, ys, rfl, hq, r⟩ := of_tup rv
    cases ru
    obtain ⟨its, rI, p, _⟩ := I.tuple hq
    cases ew : sc w with
    | some b =>
      obtain ⟨rfl, f2⟩ := rep_sc ew rw'
      cases w with
      | non => cases ew; cases ru'; unfold eqT; exact ⟨.tuple_none p hu0, .tuple_none p hu0⟩
      | bl c => cases ew; cases ru'; unfold eqT; exact ⟨.tuple_bool c p hu0, .tuple_bool c p hu0⟩
      | int i => cases ew; obtain ⟨t, rfl⟩ := ru'; unfold eqT; exact ⟨.tuple_int i t p hu0, .tuple_int i t p hu0⟩
      | str i => cases ew; obtain ⟨t, rfl⟩ := ru'; unfold eqT; exact ⟨.tuple_str i t p hu0, .tuple_str i t p hu0⟩
      | _ => cases ew
    | none =>
      obtain ⟨us, m', rfl, em, fu⟩ := sc_none fw ew
      cases em
      obtain ⟨b, zs, rfl, hq', r'⟩ := of_tup rw'
      cases ru'
      obtain ⟨its', rI', p', _⟩ := I.tuple hq'
      have l1 : its.toArray.size = ts.length := by rw [List.size_toArray, ← rI.length, r.length]
      have l2 : its'.toArray.size = us.length := by rw [List.size_toArray, ← rI'.length, r'.length]
      have hi := items_at (A := A.in1) I r r' rI rI' ft fu (by show A.units + 1 + m < cLine; omega)
      have k1 := SeqAt.RcAt.tuples (A := A) p p' hu0 hi
      have k2 := SeqAt.RcNeAt.tuples (A := A) p p' hu0 hi
      rw [l1, l2, eqTs_range] at k1 k2
      unfold eqT
      exact ⟨k1, k2⟩
theorem list_vs {pins : List (Addr × Obj)} {σ : L2.St} {H : Hp} {s : Shared} {w : T} {y : V} {u' : Value} {A : Around} {n : Nat} {a : Addr} {its : List Value} (I : Inv X pins σ H s) (fw : flat w n = true) (rw' : Rep X.K H y w) (ru' : RelV y u') (hu0 : A.units < cLine)
    (p : s.heap.IsList a its.toArray) : (SeqAt.RcAt A s (.ref a) u' false ∧ SeqAt.RcNeAt A s (.ref a) u' true) ∧ (SeqAt.RcAt A s u' (.ref a) false ∧ SeqAt.RcNeAt A s u' (.ref a) true) := by
  cases w with
  | non => cases of_non rw'; cases ru'; exact ⟨⟨.list_none p hu0, .list_none p hu0⟩, .none_list p hu0, .none_list p hu0⟩
  | bl c => cases of_bl rw'; cases ru'; exact ⟨⟨.list_bool c p hu0, .list_bool c p hu0⟩, .bool_list c p hu0, .bool_list c p hu0⟩
  | int c => cases of_int rw'; obtain ⟨t, rfl⟩ := ru'; exact ⟨⟨.list_int c t p hu0, .list_int c t p hu0⟩, .int_list c t p hu0, .int_list c t p hu0⟩
  | str c => cases of_str rw'; obtain ⟨t, rfl⟩ := ru'; exact ⟨⟨.list_str c t p hu0, .list_str c t p hu0⟩, .str_list c t p hu0, .str_list c t p hu0⟩
  | tup ts =>
    obtain ⟨b, zs, rfl, hq, r⟩ := of_tup rw'
    cases ru'
    obtain ⟨its', _, p', _⟩ := I.tuple hq
    exact ⟨⟨.list_tuple p p' hu0, .list_tuple p p' hu0⟩, .tuple_list p' p hu0, .tuple_list p' p hu0⟩
  | ref b => unfold flat at fw; cases fw
  | cl b => unfold flat at fw; cases fw
theorem o_eqG (neg : Bool) (hu : X.A.units + 150 < cLine) : OpS X (compareOp (if neg then .NotEq else .Eq)) (wEqG neg) := ⟨_, op_dir, fun F H C x y v u Q Q' R rx ry h q pins s σ v' u' I r1 r2 => by
  have fin : ∀ {k : Bool}, SeqAt.RcAt X.A s v' u' k ∧ SeqAt.RcNeAt X.A s v' u' (!k) → Q (.bl (if neg then !k else k)) H → wpAny (model X.prog X.w) X.A (compareOp (if neg then .NotEq else .Eq) v' u') (EP X pins σ Q) X.xe s := fun {k} e hq => by
    cases neg with
    | true => exact EqBoolInt.of_rcne e.2 ⟨.bl (!k), H, I, rfl, hq⟩
    | false => exact EqBoolInt.of_rc e.1 ⟨.bl k, H, I, rfl, hq⟩
  have two : ∀ {v u : T}, Rep X.K H x v → Rep X.K H y u → isFlat v ∧ isFlat u ∧ Q' (.bl (if neg then !eqT v u else eqT v u)) C → wpAny (model X.prog X.w) X.A (compareOp (if neg then .NotEq else .Eq) v' u') (EP X pins σ Q) X.xe s := fun {v u} rx ry h =>
    fin (rcT I h.1 h.2.1 rx ry r1 r2 (show X.A.units + 100 + 1 < cLine by omega)) (q _ _ H C R (Tx.refl H) rep_bl h.2.2)
  have hn : (if neg then !false else false) = neg := by cases neg <;> rfl
  have lft : ∀ {a : Addr} {u : T}, v' = .ref a → Rep X.K H y u → (∃ xs, C a = some (.lst xs)) ∧ isFlat u ∧ Q' (.bl neg) C → wpAny (model X.prog X.w) X.A (compareOp (if neg then .NotEq else .Eq) v' u') (EP X pins σ Q) X.xe s := fun {a u} ev ry h => by
    obtain ⟨⟨xs, hx⟩, f, hq⟩ := h
    obtain ⟨ys, hy, r⟩ := R.lst hx
    obtain ⟨its, _, p, _⟩ := I.list (SqL.of hy)
    have z := (list_vs (A := X.A) I f ry r2 (by omega) p.isList).1
    subst ev
    refine fin (k := false) z ?_
    rw [hn]
    exact q _ _ H C R (Tx.refl H) rep_bl hq
  have rgt : ∀ {b : Addr} {v : T}, u' = .ref b → Rep X.K H x v → (∃ xs, C b = some (.lst xs)) ∧ isFlat v ∧ Q' (.bl neg) C → wpAny (model X.prog X.w) X.A (compareOp (if neg then .NotEq else .Eq) v' u') (EP X pins σ Q) X.xe s := fun {b v} eu rx h => by
    obtain ⟨⟨xs, hx⟩, f, hq⟩ := h
    obtain ⟨ys, hy, r⟩ := R.lst hx
    obtain ⟨its, _, p, _⟩ := I.list (SqL.of hy)
    have z := (list_vs (A := X.A) I f rx r1 (by omega) p.isList).2
    subst eu
    refine fin (k := false) z ?_
    rw [hn]
    exact q _ _ H C R (Tx.refl H) rep_bl hq
  cases v with
  | ref a =>
    have ev : v' = .ref a := by cases of_ref rx; exact r1
    cases u with
    | ref b =>
      have eu : u' = .ref b := by cases of_ref ry; exact r2
      obtain ⟨xs, ys, ha, hb, hf, hq⟩ := h
      obtain ⟨zs, hz, rz⟩ := R.lst ha
      obtain ⟨ws, hw, rw'⟩ := R.lst hb
      obtain ⟨its, rI, p, _⟩ := I.list (SqL.of hz)
      obtain ⟨its', rI', p', _⟩ := I.list (SqL.of hw)
      have l1 : its.toArray.size = xs.length := by rw [List.size_toArray, ← rI.length, rz.length]
      have l2 : its'.toArray.size = ys.length := by rw [List.size_toArray, ← rI'.length, rw'.length]
      subst ev
      subst eu
      refine fin ?_ (q _ _ H C R (Tx.refl H) rep_bl hq)
      by_cases hl : xs.length = ys.length
      · obtain ⟨f1, f2⟩ := hf hl
        have hi := items_at (A := X.A.in1) I rz rw' rI rI' f1 f2 (by show X.A.units + 1 + 100 < cLine; omega)
        have k1 := SeqAt.RcAt.lists (A := X.A) p.isList p'.isList (by rw [l1, l2, hl]) (by omega) hi
        have k2 := SeqAt.RcNeAt.lists (A := X.A) p.isList p'.isList (by rw [l1, l2, hl]) (by omega) hi
        rw [l1, eqTs_same hl] at k1 k2
        exact ⟨k1, k2⟩
      · rw [eqTs_len hl]
        have hne : (its.toArray.size != its'.toArray.size) = true := by rw [l1, l2]; exact bne_iff_ne.mpr hl
        exact ⟨SeqAt.RcAt.lists_lengths p.isList p'.isList hne (by omega), SeqAt.RcNeAt.lists_lengths p.isList p'.isList hne (by omega)⟩
    | non => exact lft ev ry h
    | bl b => exact lft ev ry h
    | int b => exact lft ev ry h
    | str b => exact lft ev ry h
    | tup b => exact lft ev ry h
    | cl b => exact lft ev ry h
  | non =>
    cases u with
    | ref b => exact rgt (by cases of_ref ry; exact r2) rx h
    | _ => exact two rx ry h
  | bl _ =>
    cases u with
    | ref b => exact rgt (by cases of_ref ry; exact r2) rx h
    | _ => exact two rx ry h
  | int _ =>
    cases u with
    | ref b => exact rgt (by cases of_ref ry; exact r2) rx h
    | _ => exact two rx ry h
  | str _ =>
    cases u with
    | ref b => exact rgt (by cases of_ref ry; exact r2) rx h
    | _ => exact two rx ry h
  | tup _ =>
    cases u with
    | ref b => exact rgt (by cases of_ref ry; exact r2) rx h
    | _ => exact two rx ry h
  | cl _ =>
    cases u with
    | ref b => exact rgt (by cases of_ref ry; exact r2) rx h
    | _ => exact two rx ry h⟩
theorem o_eq (hu : X.A.units + 150 < cLine) : OpS X (compareOp .Eq) wEq := o_eqG false hu
theorem o_ne (hu : X.A.units + 150 < cLine) : OpS X (compareOp .NotEq) wNe := o_eqG true hu
open Classical in
/-- the items' answers, by the values -/
noncomputable def eqAns (v : T) (us : List Value) (ts : List T) (u : Value) : Bool := match (us.zip ts).find? fun p => decide (p.1 = u) with
  | some p => eqT p.2 v
  | none => false
open Classical in
theorem eqAns_at {pins : List (Addr × Obj)} {σ : L2.St} {H : Hp} {s : Shared} {n : Nat} {v : T} {ts : List T} {ys : List V} {us : List Value} (I : Inv X pins σ H s) (r : Reps X.K H ys ts) (rI : Vals ys us) (f : flats ts n = true) {j : Nat} {u : Value} {t : T} (hu : us[j]? = some u) (ht : ts[j]? = some t) :
    eqAns v us ts u = eqT t v := by
  unfold eqAns
  have hm : (u, t) ∈ us.zip ts := by
    refine List.mem_iff_getElem?.mpr ⟨j, ?_⟩
    rw [List.getElem?_zip_eq_some]
    exact ⟨hu, ht⟩
  cases e : (us.zip ts).find? fun p => decide (p.1 = u) with
  | none =>
    have := List.find?_eq_none.mp e (u, t) hm
    simp at this
  | some p =>
    have h1 := List.find?_some e
    have h2 := List.mem_of_find?_eq_some e
    simp only [decide_eq_true_eq] at h1
    obtain ⟨i, hi⟩ := List.mem_iff_getElem?.mp h2
    obtain ⟨g1, g2⟩ := List.getElem?_zip_eq_some.mp hi
    obtain ⟨x1, k1, q1⟩ := r.get g2
    obtain ⟨x2, k2, q2⟩ := r.get ht
    obtain ⟨u1, m1, z1⟩ := rI.get k1
    obtain ⟨u2, m2, z2⟩ := rI.get k2
    rw [g1] at m1; cases m1
    rw [hu] at m2; cases m2
    rw [h1] at z1
    have e2 := z1.inj z2
    subst e2
    show eqT p.2 v = eqT t v
    rw [rep_inj I n (flats_get f g2) (flats_get f ht) q1 q2]
theorem any_ans {pins : List (Addr × Obj)} {σ : L2.St} {H : Hp} {s : Shared} {n : Nat} {v : T} {ts : List T} {ys : List V} {us : List Value} (I : Inv X pins σ H s) (r : Reps X.K H ys ts) (rI : Vals ys us) (f : flats ts n = true) : us.any (eqAns v us ts) = inL v ts := by
  have hl : us.length = ts.length := by rw [← rI.length, r.length]
  have hat : ∀ j, us[j]?.map (eqAns v us ts) = ts[j]?.map fun t => eqT t v := fun j => by
    by_cases hj : j < us.length
    · have e1 : us[j]? = some us[j] := by simp [hj]
      have e2 : ts[j]? = some (ts[j]'(by omega)) := by simp [hl ▸ hj]
      rw [e1, e2, Option.map_some, Option.map_some, eqAns_at I r rI f e1 e2]
    · rw [List.getElem?_eq_none (by omega), List.getElem?_eq_none (by omega)]; rfl
  have hm : us.map (eqAns v us ts) = ts.map fun t => eqT t v := by
    refine List.ext_getElem? fun j => ?_
    rw [List.getElem?_map, List.getElem?_map]
    exact hat j
  unfold inL
  have a1 : us.any (eqAns v us ts) = (us.map (eqAns v us ts)).any id := by rw [List.any_map]; rfl
  have a2 : (ts.any fun y => eqT y v) = (ts.map fun t => eqT t v).any id := by rw [List.any_map]; rfl
  rw [a1, a2, hm]
theorem o_inG (neg : Bool) (hu : X.A.units + 150 < cLine) : OpS X (compareOp (if neg then .NotIn else .In)) (wInG neg) := ⟨_, op_dir, fun F H C x y v u Q Q' R rx ry h q pins s σ v' u' I r1 r2 => by
  have sq : ∀ {p : Addr} {ys : List V} {ts : List T}, u' = .ref p → (SqL X.K H p ys ∨ SqT X.K H p ys) → Reps X.K H ys ts → isFlat v → flats ts eqDeep = true → Q' (.bl (if neg then !inL v ts else inL v ts)) C →
      wpAny (model X.prog X.w) X.A (compareOp (if neg then .NotIn else .In) v' u') (EP X pins σ Q) X.xe s := fun {p ys ts} eu hq r fv ft hq' => by
    subst eu
    have at1 : ∀ {its : List Value}, Vals ys its → ∀ w, w ∈ its.toArray → SeqAt.EqAt X.A.in1 s w v' (eqAns v its ts w) := fun {its} rI w hw => by
      have hw' : w ∈ its := by simpa using hw
      obtain ⟨j, hj⟩ := List.mem_iff_getElem?.mp hw'
      have hlt : j < its.length := (List.getElem?_eq_some_iff.mp hj).1
      have hl : its.length = ts.length := by rw [← rI.length, r.length]
      have e2 : ts[j]? = some (ts[j]'(by omega)) := by simp [hl ▸ hlt]
      rw [eqAns_at I r rI ft hj e2]
      obtain ⟨x2, k2, q2⟩ := r.get e2
      obtain ⟨u2, m2, z2⟩ := rI.get k2
      rw [hj] at m2; cases m2
      exact eqAtT I 100 (flats_get ft e2) fv q2 rx z2 r1 (by show X.A.units + 1 + 100 < cLine; omega)
    rcases hq with hq | hq
    · obtain ⟨its, rI, p, _⟩ := I.list hq
      have e : its.toArray.any (eqAns v its ts) = inL v ts := by rw [← any_ans I r rI ft]; simp
      cases neg with
      | true => refine SeqAt.notIn_listAt (eqAns v its ts) p.isList (at1 rI) ⟨.bl _, H, I, rfl, ?_⟩; rw [e]; exact q _ _ H C R (Tx.refl H) rep_bl hq'
      | false => refine SeqAt.in_listAt (eqAns v its ts) p.isList (at1 rI) ⟨.bl _, H, I, rfl, ?_⟩; rw [e]; exact q _ _ H C R (Tx.refl H) rep_bl hq'
    · obtain ⟨its, rI, p, _⟩ := I.tuple hq
      have e : its.toArray.any (eqAns v its ts) = inL v ts := by rw [← any_ans I r rI ft]; simp
      cases neg with
      | true => refine SeqAt.notIn_tupleAt (eqAns v its ts) p (at1 rI) ⟨.bl _, H, I, rfl, ?_⟩; rw [e]; exact q _ _ H C R (Tx.refl H) rep_bl hq'
      | false => refine SeqAt.in_tupleAt (eqAns v its ts) p (at1 rI) ⟨.bl _, H, I, rfl, ?_⟩; rw [e]; exact q _ _ H C R (Tx.refl H) rep_bl hq'
  have tpl : ∀ {ts : List T}, Rep X.K H y (.tup ts) → isFlat v ∧ flats ts eqDeep = true ∧ Q' (.bl (if neg then !inL v ts else inL v ts)) C → wpAny (model X.prog X.w) X.A (compareOp (if neg then .NotIn else .In) v' u') (EP X pins σ Q) X.xe s := fun {ts} ry h => by
    obtain ⟨a, ys, rfl, hq, r⟩ := of_tup ry
    exact sq r2 (.inr hq) r h.1 h.2.1 h.2.2
  have cls : ∀ {ts : List T}, Rep X.K H y (.cl ts) → isFlat v ∧ flats ts eqDeep = true ∧ Q' (.bl (if neg then !inL v ts else inL v ts)) C → wpAny (model X.prog X.w) X.A (compareOp (if neg then .NotIn else .In) v' u') (EP X pins σ Q) X.xe s := fun {ts} ry h => by
    obtain ⟨a, ys, rfl, hq, r⟩ := of_cl ry
    exact sq r2 (.inl hq.sq) r h.1 h.2.1 h.2.2
  have rf : ∀ {a : Addr}, Rep X.K H y (.ref a) → (∃ ys, C a = some (.lst ys) ∧ isFlat v ∧ flats ys eqDeep = true ∧ Q' (.bl (if neg then !inL v ys else inL v ys)) C) → wpAny (model X.prog X.w) X.A (compareOp (if neg then .NotIn else .In) v' u') (EP X pins σ Q) X.xe s := fun {a} ry h => by
    obtain ⟨ts, ht, h1, h2, h3⟩ := h
    obtain ⟨zs, hz, rz⟩ := R.lst ht
    cases of_ref ry
    exact sq r2 (.inl (SqL.of hz)) rz h1 h2 h3
  cases u with
  | tup ts => cases v <;> exact tpl ry h
  | cl ts => cases v <;> exact cls ry h
  | ref a => cases v <;> exact rf ry h
  | str j =>
    cases v with
    | str i =>
      cases of_str rx; cases of_str ry
      obtain ⟨t, rfl⟩ := r1
      obtain ⟨t', rfl⟩ := r2
      cases neg with
      | true => exact notIn_str ⟨.bl _, H, I, rfl, q _ _ H C R (Tx.refl H) rep_bl h⟩
      | false => exact in_str ⟨.bl _, H, I, rfl, q _ _ H C R (Tx.refl H) rep_bl h⟩
    | _ => exact False.elim h
  | non => cases v <;> exact False.elim h
  | bl _ => cases v <;> exact False.elim h
  | int _ => cases v <;> exact False.elim h⟩
theorem o_in (hu : X.A.units + 150 < cLine) : OpS X (compareOp .In) wIn := o_inG false hu
theorem o_notIn (hu : X.A.units + 150 < cLine) : OpS X (compareOp .NotIn) wNotIn := o_inG true hu
theorem o_ix : IxS X wIdx := ⟨_, ix_seq, fun F H C x y v u Q Q' R rx ry h q => by
  cases v <;> cases u <;> first | exact False.elim h | skip
  case tup.int xs i =>
    obtain ⟨a, ys, rfl, hq, r⟩ := of_tup rx
    cases of_int ry
    obtain ⟨v, hv, h⟩ := h
    obtain ⟨z, hz, rz⟩ := r.at hv
    exact .inr (.inl ⟨a, ys, i, z, rfl, rfl, hq, hz, q _ _ H C R (Tx.refl H) rz h⟩)
  case cl.int xs i =>
    obtain ⟨a, ys, rfl, hq, r⟩ := of_cl rx
    cases of_int ry
    obtain ⟨v, hv, h⟩ := h
    obtain ⟨z, hz, rz⟩ := r.at hv
    exact .inl ⟨a, ys, i, z, rfl, rfl, hq.sq, hz, q _ _ H C R (Tx.refl H) rz h⟩
  case ref.int a i =>
    cases of_ref rx
    cases of_int ry
    obtain ⟨xs, v, hx, hv, h⟩ := h
    obtain ⟨ys, hy, r⟩ := R.lst hx
    obtain ⟨z, hz, rz⟩ := r.at hv
    exact .inl ⟨a, ys, i, z, rfl, rfl, SqL.of hy, hz, q _ _ H C R (Tx.refl H) rz h⟩
  case str.int z i =>
    cases of_str rx
    cases of_int ry
    obtain ⟨hl, c, hc, h⟩ := h
    exact .inr (.inr ⟨z, i, c, rfl, rfl, hl, hc, q _ _ H C R (Tx.refl H) rep_str h⟩)⟩
/-! slices -/
def SlS (X : Cx) (w : T → Option Int → Option Int → Hw → WK → Prop) : Prop := ∃ r, SlR X r ∧ ∀ (F H : Hp) (C : Hw) (x : V) (v : T) (lo hi : Option Int) (Q : VK) (Q' : WK), Rl X.K F H C → Rep X.K H x v → w v lo hi C Q' → QE X.K F H Q Q' → r x lo hi H Q
theorem cut_reps {K : PySem.W.Frag} {H : Hp} {ys : List V} {xs : List T} (r : Reps K H ys xs) (lo hi : Option Int) : Reps K H (cutV ys lo hi) (cut xs lo hi) := by
  unfold cutV cut
  rw [r.length]
  exact (r.drop _).take _
theorem o_sl : SlS X wSl := ⟨_, sl_tup.or (sl_list.or sl_str), fun F H C x v lo hi Q Q' R rx h q => by
  cases v with
  | tup xs =>
    obtain ⟨a, ys, rfl, hq, r⟩ := of_tup rx
    exact .inl ⟨a, ys, rfl, hq, by rw [r.length]; exact h.1, fun p hp => q _ _ _ C (R.hid hp) (Tx.new hp) (rep_tup (SqT.of upd_same) ((cut_reps r lo hi).tx (Tx.new hp))) h.2⟩
  | cl xs =>
    obtain ⟨a, ys, rfl, hq, r⟩ := of_cl rx
    exact .inr (.inl ⟨a, ys, rfl, hq.sq, fun p hp => q _ _ _ _ (R.newL hp (cut_reps r lo hi)) (Tx.new hp) rep_ref (h p (R.free hp))⟩)
  | ref a =>
    cases of_ref rx
    obtain ⟨xs, hx, h⟩ := h
    obtain ⟨ys, hy, r⟩ := R.lst hx
    exact .inr (.inl ⟨a, ys, rfl, SqL.of hy, fun p hp => q _ _ _ _ (R.newL hp (cut_reps r lo hi)) (Tx.new hp) rep_ref (h p (R.free hp))⟩)
  | str z => cases of_str rx; exact .inr (.inr ⟨z, rfl, h.1, q _ _ H C R (Tx.refl H) rep_str h.2⟩)
  | _ => exact False.elim h⟩
/-! calls of builtins -/
theorem of_one {K : PySem.W.Frag} {H : Hp} {xs : List V} {v : T} (h : Reps K H xs [v]) : ∃ x, xs = [x] ∧ Rep K H x v := by
  obtain ⟨y, r, rfl, a, b⟩ := of_cons h
  cases of_nil b
  exact ⟨y, rfl, a⟩
theorem of_two {K : PySem.W.Frag} {H : Hp} {xs : List V} {v w : T} (h : Reps K H xs [v, w]) : ∃ x y, xs = [x, y] ∧ Rep K H x v ∧ Rep K H y w := by
  obtain ⟨y, r, rfl, a, b⟩ := of_cons h
  obtain ⟨z, rfl, c⟩ := of_one b
  exact ⟨y, z, rfl, a, c⟩
theorem b_len : CallS X (.builtin "len") bLen := ⟨_, call_len_seq.or call_len_str, fun F H C xs vs Q Q' R rs h q => by
  obtain ⟨v, rfl, h⟩ := h
  obtain ⟨x, rfl, rx⟩ := of_one rs
  cases v with
  | str z => cases of_str rx; exact .inr ⟨z, rfl, h.1, q _ _ H C R (Tx.refl H) rep_int h.2⟩
  | tup xs =>
    obtain ⟨a, ys, rfl, hq, r⟩ := of_tup rx
    exact .inl ⟨a, ys, rfl, .inr hq, by rw [r.length]; exact q _ _ H C R (Tx.refl H) rep_int h⟩
  | cl xs =>
    obtain ⟨a, ys, rfl, hq, r⟩ := of_cl rx
    exact .inl ⟨a, ys, rfl, .inl hq.sq, by rw [r.length]; exact q _ _ H C R (Tx.refl H) rep_int h⟩
  | ref a =>
    cases of_ref rx
    obtain ⟨xs, hx, h⟩ := h
    obtain ⟨ys, hy, r⟩ := R.lst hx
    exact .inl ⟨a, ys, rfl, .inl (SqL.of hy), by rw [r.length]; exact q _ _ H C R (Tx.refl H) rep_int h⟩
  | _ => exact False.elim h⟩
theorem b_max (hc : X.calm = true) : CallS X (.builtin "max") bMax := ⟨_, call_max2 hc, fun F H C xs vs Q Q' R rs h q => by
  obtain ⟨i, j, rfl, h⟩ := h
  obtain ⟨x, y, rfl, rx, ry⟩ := of_two rs
  cases of_int rx; cases of_int ry
  exact ⟨i, j, rfl, q _ _ H C R (Tx.refl H) rep_int h⟩⟩
theorem reps_bls {K : PySem.W.Frag} {H : Hp} : ∀ {bs : List Bool} {ys : List V}, Reps K H ys (bs.map T.bl) → ys = bs.map V.bl
  | [], _, h => of_nil h
  | b :: bs, _, h => by obtain ⟨y, r, rfl, a, c⟩ := of_cons h; cases of_bl a; rw [reps_bls c]; rfl
theorem b_all (hc : X.calm = true) : CallS X (.builtin "all") bAll := ⟨_, call_allB hc, fun F H C xs vs Q Q' R rs h q => by
  obtain ⟨a, bs, rfl, hx, h⟩ := h
  obtain ⟨x, rfl, rx⟩ := of_one rs
  cases of_ref rx
  obtain ⟨ys, hy, r⟩ := R.lst hx
  cases reps_bls r
  exact ⟨a, bs, rfl, SqL.of hy, q _ _ H C R (Tx.refl H) rep_bl h⟩⟩
theorem b_tuple : CallS X (.type "tuple") bTuple := ⟨_, call_tuple_of, fun F H C xs vs Q Q' R rs h q => by
  obtain ⟨v, rfl, h⟩ := h
  obtain ⟨x, rfl, rx⟩ := of_one rs
  cases v with
  | tup xs =>
    obtain ⟨a, ys, rfl, hq, r⟩ := of_tup rx
    exact ⟨a, ys, rfl, .inr ⟨hq, q _ _ H C R (Tx.refl H) (rep_tup hq r) h⟩⟩
  | cl xs =>
    obtain ⟨a, ys, rfl, hq, r⟩ := of_cl rx
    exact ⟨a, ys, rfl, .inl ⟨hq.sq, fun p hp => q _ _ _ C (R.hid hp) (Tx.new hp) (rep_tup (SqT.of upd_same) (r.tx (Tx.new hp))) h⟩⟩
  | ref a =>
    cases of_ref rx
    obtain ⟨xs, hx, h⟩ := h
    obtain ⟨ys, hy, r⟩ := R.lst hx
    exact ⟨a, ys, rfl, .inl ⟨SqL.of hy, fun p hp => q _ _ _ C (R.hid hp) (Tx.new hp) (rep_tup (SqT.of upd_same) (r.tx (Tx.new hp))) h⟩⟩
  | _ => exact False.elim h⟩
/-! methods of lists -/
theorem m_append : MtS X "list.append" mAppend := ⟨_, mt_append, fun F H C x v xs vs Q Q' R rx rs h q => by
  obtain ⟨a, ts, y, rfl, rfl, hx, hl, h⟩ := h
  cases of_ref rx
  obtain ⟨z, rfl, rz⟩ := of_one rs
  obtain ⟨ys, hy, r⟩ := R.lst hx
  obtain ⟨R', t⟩ := R.putL hx (r.snoc rz)
  exact ⟨a, ys, z, rfl, rfl, hy, by rw [r.length]; exact hl, q _ _ _ _ R' t rep_non h⟩⟩
theorem m_pop : MtS X "list.pop" mPop := ⟨_, mt_pop, fun F H C x v xs vs Q Q' R rx rs h q => by
  obtain ⟨a, ts, y, rfl, rfl, hx, hy, h⟩ := h
  cases of_ref rx
  cases of_nil rs
  obtain ⟨ys, hys, r⟩ := R.lst hx
  obtain ⟨z, hz, rz⟩ := r.get hy
  obtain ⟨R', t⟩ := R.putL hx r.dropLast
  exact ⟨a, ys, z, rfl, rfl, hys, by rw [r.length]; exact hz, q _ _ _ _ R' t (rz.tx t) h⟩⟩
end
end WL
set_option Elab.async false
set_option linter.all false
set_option maxRecDepth 100000
set_option maxHeartbeats 4000000
namespace WL
open PySem PySem.Spec PyProof.Rows L2
/-! ### expressions -/
section
variable {X : Cx} {a b c e : Expr} {es : List Expr} {wa wb wc : WE} {wt wt' : WT} {wA : WA} {w w' : W2} {pos p apos cpos : Pos} {rest : List Expr}
theorem d_var (i : Nat) {x : Str} (hN : X.N[i]? = some x := by rfl) (hv : Vis X.env.scope x := by first | exact Or.inl rfl | exact Or.inr (Or.inl rfl) | exact Or.inr (Or.inr rfl)) (hd : (x == ("__debug__" : Str)) = false := by decide)
    (hcd : (x == ("__classdict__" : Str)) = false := by decide) : SdE X (.Name x pos) (eVar i) := ⟨_, pe_var hN hv hd hcd, s_var⟩
theorem d_int {i j} : SdE X (.Constant (.int i) j pos) (eC (.int i)) := ⟨_, pe_int, s_c fun _ => rep_int⟩
theorem d_str {i j} : SdE X (.Constant (.str i) j pos) (eC (.str i)) := ⟨_, pe_str, s_c fun _ => rep_str⟩
theorem d_bl {i j} : SdE X (.Constant (.bool i) j pos) (eC (.bl i)) := ⟨_, pe_bl, s_c fun _ => rep_bl⟩
/-- a name of the module's top that stands for a value -/
def Glb (K : PySem.W.Frag) (mg : Str → Option Value) (x : Str) (v : T) : Prop := ∃ z u, mg x = some u ∧ RelV z u ∧ ∀ H, Rep K H z v
theorem d_gl {x : Str} {v : T} (hg : Gl X x) (h : Glb X.K X.mg x v) (hd : (x == ("__debug__" : Str)) = false := by decide) : SdE X (.Name x pos) (eC v) := by
  obtain ⟨z, u, h1, h2, h3⟩ := h
  exact ⟨_, pe_glob hg h1 h2 hd, s_c h3⟩
theorem d_op {op : Operator} (ho : OpS X (binaryOp op) w) (ha : SdE X a wa) (hb : SdE X b wb) : SdE X (.BinOp a op b pos) (eBin w wa wb) := by
  obtain ⟨r, h1, h2⟩ := ho
  obtain ⟨ta, p1, s1⟩ := ha
  obtain ⟨tb, p2, s2⟩ := hb
  exact ⟨_, pe_op h1 p1 p2, s_op s1 s2 h2⟩
theorem d_neg (ha : SdE X a wa) : SdE X (.UnaryOp .USub a pos) (eUn wNeg wa) := by
  obtain ⟨ta, p1, s1⟩ := ha
  exact ⟨_, pe_un un_neg p1, s_un s1 fun F H C x v Q Q' R rx h q => by
    cases v with
    | int i => cases of_int rx; exact ⟨i, rfl, q _ _ H C R (Tx.refl H) rep_int h⟩
    | _ => exact False.elim h⟩
theorem d_cmp {op : CmpOp} (ho : OpS X (compareOp op) w) (ha : SdE X a wa) (hb : SdE X b wb) (hm : behindInMarks op b = false) : SdE X (.Compare a [op] [b] pos) (eBin w wa wb) := by
  obtain ⟨r, h1, h2⟩ := ho
  obtain ⟨ta, p1, s1⟩ := ha
  obtain ⟨tb, p2, s2⟩ := hb
  exact ⟨_, pe_cmpR h1 p1 p2 hm, s_op s1 s2 h2⟩
theorem d_or (ha : SdE X a wa) (hb : SdE X (.BoolOp .Or (b :: rest) pos) wb) : SdE X (.BoolOp .Or (a :: b :: rest) pos) (eOr wa wb) := by
  obtain ⟨ta, p1, s1⟩ := ha
  obtain ⟨tb, p2, s2⟩ := hb
  exact ⟨_, pe_or p1 p2, s_or s1 s2⟩
theorem d_one {op} (ha : SdE X a wa) : SdE X (.BoolOp op [a] pos) wa := by
  obtain ⟨ta, p1, s1⟩ := ha
  exact ⟨_, pe_one p1, s1⟩
theorem d_not (ha : SdE X a wa) : SdE X (.UnaryOp .Not a pos) (eNot wa) := by
  obtain ⟨ta, p1, s1⟩ := ha
  exact ⟨_, pe_not p1, s_not s1⟩
theorem da_nil : SdA X [] aNil := ⟨_, pa_nil, s_nil⟩
theorem da_cons (ha : SdE X a wa) (hb : SdA X es wA) (hs : starEach (a :: es) X.env = (false, eval a X.env) :: starEach es X.env := by rfl) : SdA X (a :: es) (aCons wa wA) := by
  obtain ⟨ta, p1, s1⟩ := ha
  obtain ⟨tb, p2, s2⟩ := hb
  exact ⟨_, pa_cons p1 p2 hs, s_cons s1 s2⟩
theorem d_tup {x1} (h : SdA X es wA) : SdE X (.Tuple es x1 pos) (eTup wA) := by
  obtain ⟨t, p, s⟩ := h
  exact ⟨_, pe_tup p, s_tup s⟩
theorem d_lst (h : SdA X es wA) : SdE X (.List es pos) (eLst wA) := by
  obtain ⟨t, p, s⟩ := h
  exact ⟨_, pe_lst p, s_lst s⟩
theorem d_ix (ha : SdE X a wa) (hb : SdE X b wb) (hs : PlainIx b) : SdE X (.Subscript a b pos) (eBin wIdx wa wb) := by
  obtain ⟨r, h1, h2⟩ := o_ix (X := X)
  obtain ⟨ta, p1, s1⟩ := ha
  obtain ⟨tb, p2, s2⟩ := hb
  exact ⟨_, pe_ix h1 p1 p2 hs, s_op s1 s2 h2⟩
def SdO (X : Cx) (e : Option Expr) (w : Sw → Hw → (Option Int → Hw → Prop) → WX → Prop) : Prop := ∃ t, PO X e t ∧ ∀ (F H : Hp) (C : Hw) (σ : L2.St) (τ : Sw) (Q : Option Int → Hp → Prop) (Q' : Option Int → Hw → Prop) (χ : WX), Rl X.K F H C → RepS X.K H σ τ → w τ C Q' χ →
  (∀ o H' C', Rl X.K F H' C' → Tx H H' → Q' o C' → Q o H') → t σ H Q
theorem do_none : SdO X none oNo := ⟨_, po_none, fun F H C σ τ Q Q' χ R S h q => q none H C R (Tx.refl H) h⟩
theorem do_some (ha : SdE X a wa) : SdO X (some a) (oSome wa) := by
  obtain ⟨ta, p1, s1⟩ := ha
  refine ⟨_, po_some p1, fun F H C σ τ Q Q' χ R S h q => ?_⟩
  refine s1 F H C σ τ _ _ χ R S h fun x v H1 C1 R1 t1 rx h1 => ?_
  obtain ⟨i, rfl, h1⟩ := h1
  exact ⟨i, of_int rx, q (some i) H1 C1 R1 t1 h1⟩
theorem d_sl {lo hi : Option Expr} {wl wh : Sw → Hw → (Option Int → Hw → Prop) → WX → Prop} {p2 : Pos} (ha : SdE X a wa) (hl : SdO X lo wl) (hh : SdO X hi wh) : SdE X (.Subscript a (.Slice lo hi none p2) pos) (eSl wa wl wh) := by
  obtain ⟨r, h1, h2⟩ := o_sl (X := X)
  obtain ⟨ta, p1, s1⟩ := ha
  obtain ⟨tl, p3, s3⟩ := hl
  obtain ⟨th, p4, s4⟩ := hh
  refine ⟨_, pe_slice h1 p1 p3 p4, fun F H C σ τ Q Q' χ R S h q => ?_⟩
  refine s1 F H C σ τ _ _ χ R S h fun x v H1 C1 R1 t1 rx h1 => ?_
  refine s3 F H1 C1 σ τ _ _ χ R1 (S.tx t1) h1 fun l H2 C2 R2 t2 h2' => ?_
  refine s4 F H2 C2 σ τ _ _ χ R2 (S.tx (t1.trans t2)) h2' fun u H3 C3 R3 t3 h3 => ?_
  exact h2 F H3 C3 x v l u Q Q' R3 ((rx.tx t2).tx t3) h3 (QE.at q ((t1.trans t2).trans t3))
/-- f(e, ..), f a function of Python's own -/
theorem d_bi {x : Str} {id : String} {r : List T → Hw → WK → Prop} (hc : CallS X (.builtin id) r) (hg : Gl X x) (hm : X.mg x = none) (hv : bootBuiltins x = some (.builtin id)) (ha : SdA X (e :: es) wA) (hn : x ≠ "__name__" := by decide) (hdb : (x == ("__debug__" : Str)) = false := by decide)
    (he : starEach (e :: es) X.env = (false, eval e X.env) :: starEach es X.env := by rfl) (hpl : (backTo pos (starEach es X.env)).any (·.1) = false := by rfl) : SdE X (.Call (.Name x p) (e :: es) [] pos) (eBi r wA) := by
  obtain ⟨r, h1, h2⟩ := hc
  obtain ⟨t, p1, s1⟩ := ha
  exact ⟨_, pe_callB h1 hg hm hv p1 hn hdb he hpl, s_bi h2 s1⟩
theorem d_ty {x : Str} {id : String} {r : List T → Hw → WK → Prop} (hc : CallS X (.type id) r) (hg : Gl X x) (hm : X.mg x = none) (hv : bootBuiltins x = some (.type id)) (ha : SdA X (e :: es) wA) (hn : x ≠ "__name__" := by decide) (hdb : (x == ("__debug__" : Str)) = false := by decide)
    (he : starEach (e :: es) X.env = (false, eval e X.env) :: starEach es X.env := by rfl) (hpl : (backTo pos (starEach es X.env)).any (·.1) = false := by rfl) : SdE X (.Call (.Name x p) (e :: es) [] pos) (eBi r wA) := by
  obtain ⟨r, h1, h2⟩ := hc
  obtain ⟨t, p1, s1⟩ := ha
  exact ⟨_, pe_callTy h1 hg hm hv p1 hn hdb he hpl, s_bi h2 s1⟩
/-- the receiver's class -/
def TyS (X : Cx) (Tn : String) (ty : T → Hw → Prop) : Prop := ∀ (F H : Hp) (C : Hw) (x : V) (v : T), Rl X.K F H C → Rep X.K H x v → ty v C → tyV X.K Tn x H
theorem ty_list : TyS X "list" tyL' := fun F H C x v R rx h => by
  obtain ⟨a, xs, rfl, hx⟩ := h
  cases of_ref rx
  obtain ⟨ys, hy, r⟩ := R.lst hx
  exact L2.tyL hy
theorem ty_str : TyS X "str" tyS := fun F H C x v R rx h => by
  obtain ⟨z, rfl⟩ := h
  cases of_str rx
  unfold tyV
  rfl
theorem d_mt {o : Expr} {wo : WE} {name : Str} {Tn id : String} {ty : T → Hw → Prop} {r : T → List T → Hw → WK → Prop} (pa : PlainAttrs Tn) (slot : Slot Tn name id) (hty : typeOf (.builtin id) = pure (.type "method_descriptor")) (hT : TyS X Tn ty) (hm : MtS X id r) (ho : SdE X o wo) (ha : SdA X (e :: es) wA)
    (hbase : attributeBase o name X.env (eval o X.env) = eval o X.env := by rfl)
    (hfew : ((backTo cpos (starEach (e :: es) X.env)).all (fun x => !x.1) && (backToKw cpos (keywordEach [] X.env)).all (fun x => x.1.isSome)
      && decide ((e :: es).length + ([] : List Keyword).length + (if ([] : List Keyword).isEmpty then 0 else 1) < 30)) = true := by rfl)
    (hline : (apos.endLine == cpos.line) = true := by rfl) (hs : starEach (e :: es) X.env = (false, eval e X.env) :: starEach es X.env := by rfl) (hplain : (backTo cpos (starEach es X.env)).any (·.1) = false := by rfl) :
    SdE X (.Call (.Attribute o name apos) (e :: es) [] cpos) (eMt ty r wo wA) := by
  obtain ⟨rr, h1, h2⟩ := hm
  obtain ⟨to, p1, s1⟩ := ho
  obtain ⟨ta, p2, s2⟩ := ha
  refine ⟨_, pe_bm pa slot hty h1 p1 p2 hbase hfew hline hs hplain, fun F H C σ τ Q Q' χ R S h q => ?_⟩
  refine s1 F H C σ τ _ _ χ R S h fun x v H1 C1 R1 t1 rx h1' => ⟨hT F H1 C1 x v R1 rx h1'.1, ?_⟩
  refine s2 F H1 C1 σ τ _ _ χ R1 (S.tx t1) h1'.2 fun xs vs H2 C2 R2 t2 rs h2' => ?_
  exact h2 F H2 C2 x v xs vs Q Q' R2 (rx.tx t2) rs h2' (QE.at q (t1.trans t2))
theorem d_mt0 {o : Expr} {wo : WE} {name : Str} {Tn id : String} {ty : T → Hw → Prop} {r : T → List T → Hw → WK → Prop} (pa : PlainAttrs Tn) (slot : Slot Tn name id) (hty : typeOf (.builtin id) = pure (.type "method_descriptor")) (hT : TyS X Tn ty) (hm : MtS X id r) (ho : SdE X o wo)
    (hbase : attributeBase o name X.env (eval o X.env) = eval o X.env := by rfl) (hline : (apos.endLine == cpos.line) = true := by rfl) :
    SdE X (.Call (.Attribute o name apos) [] [] cpos) (eMt ty r wo aNil) := by
  obtain ⟨rr, h1, h2⟩ := hm
  obtain ⟨to, p1, s1⟩ := ho
  refine ⟨_, pe_bm0 pa slot hty h1 p1 hbase hline, fun F H C σ τ Q Q' χ R S h q => ?_⟩
  refine s1 F H C σ τ _ _ χ R S h fun x v H1 C1 R1 t1 rx h1' => ⟨hT F H1 C1 x v R1 rx h1'.1, ?_⟩
  exact h2 F H1 C1 x v [] [] Q Q' R1 rx reps_nil h1'.2 (QE.at q t1)
/-! isinstance -/
theorem kit_cls {K : PySem.W.Frag} {n c : String} (hn : n ∈ ["NoneType", "bool", "int", "str", "tuple", "list", "dict"]) (hc : c ∈ ["bool", "int", "str", "tuple", "list", "dict"]) : PySem.W.kitOne K (.type n) (.type c) = some (isCls n c) := by
  simp only [List.mem_cons, List.not_mem_nil, or_false] at hn hc
  rcases hn with rfl | rfl | rfl | rfl | rfl | rfl | rfl <;> rcases hc with rfl | rfl | rfl | rfl | rfl | rfl <;> rfl
theorem tyN_mem {v : T} {C : Hw} {n : String} (h : tyN v C n) : n ∈ ["NoneType", "bool", "int", "str", "tuple", "list", "dict"] := by
  cases v with
  | non => cases h; decide
  | bl _ => cases h; decide
  | int _ => cases h; decide
  | str _ => cases h; decide
  | tup _ => cases h; decide
  | cl _ => cases h; decide
  | ref _ => rcases h with ⟨rfl, _⟩ | ⟨rfl, _⟩ <;> decide
theorem isi_of {pins : List (Addr × Obj)} {σ : L2.St} {F H : Hp} {C : Hw} {s : Shared} {x : V} {v : T} {u : Value} {n c : String} {Q : Value → Shared → Prop} (I : Inv X pins σ H s) (R : Rl X.K F H C) (rx : Rep X.K H x v) (ru : RelV x u) (hn : tyN v C n) (hc : c ∈ ["bool", "int", "str", "tuple", "list", "dict"])
    (h : ∀ tk, Q (.bool (isCls n c)) { s with toks := tk }) : wpAny (model X.prog X.w) X.A (call (.builtin "isinstance") [u, .type c]) Q X.xe s := by
  have e := kit_cls (K := X.K) (tyN_mem hn) hc
  cases v with
  | non => cases hn; cases of_non rx; exact isinst_ok I ru .non e h
  | bl b => cases hn; cases of_bl rx; exact isinst_ok I ru (.bl b) e h
  | int b => cases hn; cases of_int rx; exact isinst_ok I ru (.int b) e h
  | str b => cases hn; cases of_str rx; exact isinst_ok I ru (.str b) e h
  | tup xs =>
    cases hn
    obtain ⟨a, ys, rfl, hq, r⟩ := of_tup rx
    cases ru
    obtain ⟨its, _, ⟨o, h1, h2, _⟩, _⟩ := I.tuple hq
    exact PySem.W.kia_one PySem.W.kitx_tuple I.kIn ⟨o, h1, h2⟩ e (fun z => nomatch z) h
  | cl xs =>
    cases hn
    obtain ⟨a, ys, rfl, hq, r⟩ := of_cl rx
    cases ru
    obtain ⟨its, _, p, _⟩ := I.list hq.sq
    obtain ⟨o, h1, h2, _⟩ := p.isList
    exact PySem.W.kia_one PySem.W.kitx_list I.kIn ⟨o, h1, h2⟩ e (fun z => nomatch z) h
  | ref a =>
    cases of_ref rx
    rcases hn with ⟨rfl, xs, hx⟩ | ⟨rfl, kvs, hx⟩
    · obtain ⟨ys, hy, r⟩ := R.lst hx
      exact isinst_ok I ru (.lst hy) e h
    · obtain ⟨ks, hy, r⟩ := R.obj a _ hx
      exact isinst_ok I ru (.dK hy) e h
theorem d_isi {x : Str} {q2 : Pos} {c : String} (hg : Gl X "isinstance") (hm : X.mg "isinstance" = none) (hgx : Gl X x) (hmx : X.mg x = none) (hvx : bootBuiltins x = some (.type c)) (hc : c ∈ ["bool", "int", "str", "tuple", "list", "dict"]) (ha : SdE X a wa)
    (hnx : x ≠ "__name__" := by decide) (hdx : (x == ("__debug__" : Str)) = false := by decide) (he : starEach [a, .Name x q2] X.env = [(false, eval a X.env), (false, eval (.Name x q2) X.env)] := by rfl) : SdE X (.Call (.Name "isinstance" p) [a, .Name x q2] [] pos) (eIsi wa c) := by
  obtain ⟨ta, p1, s1⟩ := ha
  let r : List V → Hp → VK → Prop := fun xs H Q => ∃ y F C v n, xs = [y, .ty c] ∧ Rl X.K F H C ∧ Rep X.K H y v ∧ tyN v C n ∧ Q (.bl (isCls n c)) H
  have hr : CallR X (.builtin "isinstance") r := by
    intro pins s σ H xs us Q I rs h
    obtain ⟨y, F, C, v, n, rfl, R, ry, hn, q⟩ := h
    obtain ⟨u, u2, rfl, ru, ru2⟩ := rs.two
    cases ru2
    exact isi_of I R ry ru hn hc fun tk => ⟨.bl _, H, I.tok tk, rfl, q⟩
  refine ⟨_, pe_callB hr hg hm bt_isinstance (pa_cons p1 (pa_cons (pe_bltn (v := .ty c) hgx hmx hvx rfl hnx hdx) pa_nil (by rw [show starEach [Expr.Name x q2] X.env = [(false, eval (.Name x q2) X.env)] from rfl]; rfl)) ?_) (by decide) (by decide) ?_ ?_, ?_⟩
  · rw [he]; rfl
  · rw [he]; rfl
  · rfl
  · intro F H C σ τ Q Q' χ R S h q
    refine s1 F H C σ τ _ _ χ R S h fun y v H1 C1 R1 t1 ry h1 => ?_
    obtain ⟨n, hn, h1⟩ := h1
    exact ⟨y, F, C1, v, n, rfl, R1, ry, hn, q _ _ H1 C1 R1 t1 rep_bl h1⟩
/-! tests -/
theorem dt_cmp {op : CmpOp} (ho : OpS X (compareOp op) w) (ha : SdE X a wa) (hb : SdE X b wb) (hm : behindInMarks op b = false) : SdT X (.Compare a [op] [b] pos) (tBl (eBin w wa wb)) := by
  obtain ⟨r, h1, h2⟩ := ho
  obtain ⟨ta, p1, s1⟩ := ha
  obtain ⟨tb, p2, s2⟩ := hb
  exact ⟨_, pt_cmpR h1 p1 p2 hm, s_bl (s_op s1 s2 h2)⟩
theorem dt_tru (ha : SdE X a wa) (he : ∀ whole, isTrue a X.env whole = (do let v ← whole; standAt a.pos; holding [v] (truthy v)) := by intro _; rfl) : SdT X a (tTru wa) := by
  obtain ⟨ta, p1, s1⟩ := ha
  exact ⟨_, pt_truth p1 he, s_tru s1⟩
theorem dw_and1 (ha : SdT X a wt) : SdW X (.BoolOp .And [a] pos) wt := by
  obtain ⟨t, p, s⟩ := ha
  exact ⟨_, pw_and1 p, s⟩
theorem dw_or1 (ha : SdT X a wt) : SdW X (.BoolOp .Or [a] pos) wt := by
  obtain ⟨t, p, s⟩ := ha
  exact ⟨_, pw_or1 p, s⟩
theorem dw_and (ha : SdT X a wt) (hb : SdW X (.BoolOp .And (b :: rest) pos) wt') : SdW X (.BoolOp .And (a :: b :: rest) pos) (tAn wt wt') := by
  obtain ⟨t, p, s⟩ := ha
  obtain ⟨t', p', s'⟩ := hb
  exact ⟨_, pw_and p p', s_an s s'⟩
theorem dw_or (ha : SdT X a wt) (hb : SdW X (.BoolOp .Or (b :: rest) pos) wt') : SdW X (.BoolOp .Or (a :: b :: rest) pos) (tOr' wt wt') := by
  obtain ⟨t, p, s⟩ := ha
  obtain ⟨t', p', s'⟩ := hb
  exact ⟨_, pw_or p p', s_or' s s'⟩
theorem dt_w (h : SdW X a wt) : SdT X a wt := by
  obtain ⟨t, p, s⟩ := h
  exact ⟨_, p.pt, s⟩
theorem dt_not (ha : SdT X a wt) : SdT X (.UnaryOp .Not a pos) (tNo wt) := by
  obtain ⟨t, p, s⟩ := ha
  exact ⟨_, pt_not p, s_no s⟩
end
/-! ### statements -/
structure DRel (K : PySem.W.Frag) (F H : Hp) (D : Ends) (D' : We) : Prop where
  nx : ∀ σ τ H' C', Rl K F H' C' → Tx H H' → RepS K H' σ τ → D'.nx τ C' → D.nx σ H'
  rt : ∀ x v H' C', Rl K F H' C' → Tx H H' → Rep K H' x v → D'.rt v C' → D.rt x H'
  bk : ∀ σ τ H' C', Rl K F H' C' → Tx H H' → RepS K H' σ τ → D'.bk τ C' → D.bk σ H'
  ct : ∀ σ τ H' C', Rl K F H' C' → Tx H H' → RepS K H' σ τ → D'.ct τ C' → D.ct σ H'
theorem DRel.at {K : PySem.W.Frag} {F H H1 : Hp} {D : Ends} {D' : We} (h : DRel K F H D D') (t : Tx H H1) : DRel K F H1 D D' :=
  ⟨fun σ τ H' C' R t' => h.nx σ τ H' C' R (t.trans t'), fun x v H' C' R t' => h.rt x v H' C' R (t.trans t'), fun σ τ H' C' R t' => h.bk σ τ H' C' R (t.trans t'), fun σ τ H' C' R t' => h.ct σ τ H' C' R (t.trans t')⟩
def SimS (K : PySem.W.Frag) (t : TS) (w : WS) : Prop := ∀ (F H : Hp) (C : Hw) (σ : L2.St) (τ : Sw) (D : Ends) (D' : We), Rl K F H C → RepS K H σ τ → w D' τ C → DRel K F H D D' → t D σ H
def SimG (K : PySem.W.Frag) (t : TG) (w : WG) : Prop := ∀ (F H : Hp) (C : Hw) (σ : L2.St) (τ : Sw) (x : V) (v : T) (Q : L2.St → Hp → Prop) (Q' : Sw → Hw → Prop) (χ : WX), Rl K F H C → RepS K H σ τ → Rep K H x v → w v τ C Q' χ →
  (∀ σ' τ' H' C', Rl K F H' C' → Tx H H' → RepS K H' σ' τ' → Q' τ' C' → Q σ' H') → t x σ H Q
def SimGs (K : PySem.W.Frag) (t : TGs) (w : WGs) : Prop := ∀ (F H : Hp) (C : Hw) (σ : L2.St) (τ : Sw) (x : List V) (v : List T) (Q : L2.St → Hp → Prop) (Q' : Sw → Hw → Prop) (χ : WX), Rl K F H C → RepS K H σ τ → Reps K H x v → w v τ C Q' χ →
  (∀ σ' τ' H' C', Rl K F H' C' → Tx H H' → RepS K H' σ' τ' → Q' τ' C' → Q σ' H') → t x σ H Q
def SdS (X : Cx) (st : Stmt) (w : WS) : Prop := ∃ t, PS X st t ∧ SimS X.K t w
def SdB (X : Cx) (st : List Stmt) (w : WS) : Prop := ∃ t, PSs X st t ∧ SimS X.K t w
/-- a target: also what a comprehension asks of it -/
def SdG (X : Cx) (e : Expr) (w : WG) : Prop := ∃ t, PG X e t ∧ SimG X.K t w
section
variable {X : Cx} {st : Stmt} {rest : List Stmt} {w u : WS} {e tg : Expr} {we : WE} {wt : WT} {g : WG} {gs : WGs} {pos : Pos}
theorem sg_name {K : PySem.W.Frag} {i : Nat} : SimG K (gName i) (gNm i) := fun F H C σ τ x v Q Q' χ R S r h q => q _ _ H C R (Tx.refl H) (S.set r) h
theorem sg_nil {K : PySem.W.Frag} : SimGs K gNil gsNil := fun F H C σ τ x v Q Q' χ R S r h q => by
  obtain ⟨rfl, h⟩ := h
  exact ⟨of_nil r, q _ _ H C R (Tx.refl H) S h⟩
theorem sg_cons {K : PySem.W.Frag} {t : TG} {u : TGs} {g : WG} {gs : WGs} (a : SimG K t g) (b : SimGs K u gs) : SimGs K (gCons t u) (gsCons g gs) := fun F H C σ τ x v Q Q' χ R S r h q => by
  obtain ⟨v1, vs, rfl, h⟩ := h
  obtain ⟨y, ys, rfl, r1, r2⟩ := of_cons r
  refine ⟨y, ys, rfl, a F H C σ τ y v1 _ _ χ R S r1 h fun σ' τ' H' C' R' t' S' h' => ?_⟩
  exact b F H' C' σ' τ' ys vs Q Q' χ R' S' (r2.tx t') h' fun σ2 τ2 H2 C2 R2 t2 => q σ2 τ2 H2 C2 R2 (t'.trans t2)
theorem sg_tup {K : PySem.W.Frag} {u : TGs} {gs : WGs} {n : Nat} (b : SimGs K u gs) (hn : ∀ vs τ C Q χ, gs vs τ C Q χ → vs.length = n) : SimG K (gTup K n u) (gTp gs) := fun F H C σ τ x v Q Q' χ R S r h q => by
  obtain ⟨vs, rfl, h⟩ := h
  obtain ⟨a, ys, rfl, hq, rs⟩ := of_tup r
  exact ⟨a, ys, rfl, hq, by rw [rs.length]; exact hn _ _ _ _ _ h, b F H C σ τ ys vs Q Q' χ R S rs h q⟩
/-- how many a row of targets takes -/
def GsLen (n : Nat) (gs : WGs) : Prop := ∀ vs τ C Q χ, gs vs τ C Q χ → vs.length = n
theorem gl_nil : GsLen 0 gsNil := fun vs τ C Q χ h => by rw [h.1]; rfl
theorem gl_cons1 {n i : Nat} {gs : WGs} (b : GsLen n gs) : GsLen (n + 1) (gsCons (gNm i) gs) := fun vs τ C Q χ h => by
  obtain ⟨v, r, rfl, h⟩ := h
  rw [List.length_cons, b r _ _ _ _ h]
theorem dg_name {i : Nat} {x : Str} (hN : X.N.Nodup) (hi : X.N[i]? = some x := by rfl) (hx : Loc X.env.scope x := by first | exact Or.inl rfl | exact Or.inr rfl) (hf : X.fn x = true ∨ X.env.scope.names.lookup x = some .local := by first | exact .inl rfl | exact .inr rfl | assumption) : SdG X (.Name x pos) (gNm i) := ⟨_, pg_name hN hi hx hf, sg_name⟩
theorem db_nil : SdB X [] sPass := ⟨_, pss_nil, fun F H C σ τ D D' R S h d => d.nx σ τ H C R (Tx.refl H) S h⟩
theorem db_one (a : SdS X st w) : SdB X [st] w := by
  obtain ⟨t, p, s⟩ := a
  exact ⟨_, pss_one p, s⟩
theorem db_cons (a : SdS X st w) (b : SdB X rest u) : SdB X (st :: rest) (sSeq w u) := by
  obtain ⟨t, p, s⟩ := a
  obtain ⟨t', p', s'⟩ := b
  refine ⟨_, pss_cons p p', fun F H C σ τ D D' R S h d => ?_⟩
  exact s F H C σ τ _ _ R S h ⟨fun σ' τ' H' C' R' t' S' h' => s' F H' C' σ' τ' D D' R' S' h' (d.at t'), d.rt, d.bk, d.ct⟩
theorem ds_expr (a : SdE X e we) (hs : swapsWith e none pos.line X.env = pure false := by rfl) : SdS X (.Expr e pos) (sExpr we) := by
  obtain ⟨t, p, s⟩ := a
  refine ⟨_, ps_expr p hs, fun F H C σ τ D D' R S h d => ?_⟩
  exact s F H C σ τ _ _ D'.xc R S h fun x v H1 C1 R1 t1 rx h1 => d.nx σ τ H1 C1 R1 t1 (S.tx t1) h1
theorem ds_ret (a : SdE X e we) : SdS X (.Return (some e) pos) (sRet we) := by
  obtain ⟨t, p, s⟩ := a
  refine ⟨_, ps_ret p, fun F H C σ τ D D' R S h d => ?_⟩
  exact s F H C σ τ _ _ D'.xc R S h d.rt
theorem ds_if {c : Expr} {a b : List Stmt} {wa wb : WS} (hc : SdT X c wt) (ha : SdB X a wa) (hb : SdB X b wb) : SdS X (.If c a b pos) (sIf wt wa wb) := by
  obtain ⟨t, p, s⟩ := hc
  obtain ⟨t1, p1, s1⟩ := ha
  obtain ⟨t2, p2, s2⟩ := hb
  refine ⟨_, ps_if p p1 p2, fun F H C σ τ D D' R S h d => ?_⟩
  refine s F H C σ τ _ _ D'.xc R S h fun k H1 C1 R1 t1 h1 => ?_
  cases k with
  | true => exact s1 F H1 C1 σ τ D D' R1 (S.tx t1) h1 (d.at t1)
  | false => exact s2 F H1 C1 σ τ D D' R1 (S.tx t1) h1 (d.at t1)
theorem ds_set {i : Nat} {x : Str} {pos' : Pos} (hN : X.N.Nodup) (he : SdE X e we) (hi : X.N[i]? = some x := by rfl) (hx : Loc X.env.scope x := by first | exact Or.inl rfl | exact Or.inr rfl) (hs : swapsWith e (some (.Name x pos')) pos.line X.env = pure false := by rfl)
    (hf : X.fn x = true ∨ X.env.scope.names.lookup x = some .local := by first | exact .inl rfl | exact .inr rfl | assumption) : SdS X (.Assign [.Name x pos'] e pos) (sAsg we (gNm i)) := by
  obtain ⟨t, p, s⟩ := he
  refine ⟨_, ps_set hN hi hx p hs hf, fun F H C σ τ D D' R S h d => ?_⟩
  refine s F H C σ τ _ _ D'.xc R S h fun x v H1 C1 R1 t1 rx h1 => ?_
  exact sg_name F H1 C1 σ τ x v _ _ D'.xc R1 (S.tx t1) rx h1 fun σ' τ' H' C' R' t' => d.nx σ' τ' H' C' R' (t1.trans t')
end
/-! ### what is walked -/
/-- the iterator gives these items, as long as ok holds -/
def ItRel (K : PySem.W.Frag) (F H0 : Hp) (J : It) (xs : List T) (ok : Hw → Prop) : Prop := ∀ (i : Nat) (H : Hp) (C : Hw), Rl K F H C → Tx H0 H → ok C →
  (i < xs.length → J.go i H ∧ ∀ x H', J.yld i H x H' → ∃ v, xs[i]? = some v ∧ Rl K F H' C ∧ Tx H H' ∧ Rep K H' x v) ∧ (i = xs.length → J.stop i H)
def SimI (K : PySem.W.Frag) (wi : TI) (w : WI) : Prop := ∀ (F H : Hp) (C : Hw) (σ : L2.St) (τ : Sw) (R : It → Hp → Prop) (R' : List T → (Hw → Prop) → Hw → Prop) (χ : WX), Rl K F H C → RepS K H σ τ → w τ C R' χ →
  (∀ J H' xs ok C', Rl K F H' C' → Tx H H' → (∀ F', ItRel K F' H' J xs ok) → R' xs ok C' → R J H') → wi σ H R
def SdI (X : Cx) (tg e : Expr) (w : WI) : Prop := ∃ t, PI X tg e t ∧ SimI X.K t w
section
variable {X : Cx} {tg e a b : Expr} {we : WE} {wA : WA} {pos p : Pos}
theorem it_list {K : PySem.W.Frag} {F H0 : Hp} {l : Addr} {xs : List T} : ItRel K F H0 (Itl K l) xs (fun C => C l = some (.lst xs)) := fun i H C R t ok => by
  obtain ⟨ys, hy, r⟩ := R.lst ok
  refine ⟨fun hi => ?_, fun hi => ⟨ys, SqL.of hy, by rw [r.length]; omega⟩⟩
  have ev : xs[i]? = some xs[i] := by simp [hi]
  obtain ⟨y, ey, ry⟩ := r.get ev
  refine ⟨⟨ys, y, SqL.of hy, ey⟩, fun x H' h => ?_⟩
  obtain ⟨rfl, h⟩ := h
  have e2 := h ys (SqL.of hy)
  rw [ey] at e2; cases e2
  exact ⟨_, ev, R, Tx.refl _, ry⟩
theorem it_cl {K : PySem.W.Frag} {F H0 : Hp} {l : Addr} {ys : List V} {xs : List T} (h0 : SqC K H0 l ys) (r0 : Reps K H0 ys xs) : ItRel K F H0 (Itl K l) xs (fun _ => True) := fun i H C R t ok => by
  have hy := (t.sqc h0).sq
  have r := r0.tx t
  refine ⟨fun hi => ?_, fun hi => ⟨ys, hy, by rw [r.length]; omega⟩⟩
  have ev : xs[i]? = some xs[i] := by simp [hi]
  obtain ⟨y, ey, ry⟩ := r.get ev
  refine ⟨⟨ys, y, hy, ey⟩, fun x H' h => ?_⟩
  obtain ⟨rfl, h⟩ := h
  have e2 := h ys hy
  rw [ey] at e2; cases e2
  exact ⟨_, ev, R, Tx.refl _, ry⟩
theorem it_tup {K : PySem.W.Frag} {F H0 : Hp} {l : Addr} {ys : List V} {xs : List T} (h0 : SqT K H0 l ys) (r0 : Reps K H0 ys xs) : ItRel K F H0 (Itt K l) xs (fun _ => True) := fun i H C R t ok => by
  have hy := t.sqt h0
  have r := r0.tx t
  refine ⟨fun hi => ?_, fun hi => ⟨ys, hy, by rw [r.length]; omega⟩⟩
  have ev : xs[i]? = some xs[i] := by simp [hi]
  obtain ⟨y, ey, ry⟩ := r.get ev
  refine ⟨⟨ys, y, hy, ey⟩, fun x H' h => ?_⟩
  obtain ⟨rfl, h⟩ := h
  have e2 := h ys hy
  rw [ey] at e2; cases e2
  exact ⟨_, ev, R, Tx.refl _, ry⟩
theorem it_str {K : PySem.W.Frag} {F H0 : Hp} {z : Str} : ItRel K F H0 (Its z) (z.cps.toList.map fun c => T.str ⟨#[c]⟩) (fun _ => True) := fun i H C R t ok => by
  refine ⟨fun hi => ⟨by show i < z.cps.size; simpa using hi, fun x H' h => ?_⟩, fun hi => by show i = z.cps.size; simpa using hi⟩
  obtain ⟨rfl, c, hc, rfl⟩ := h
  refine ⟨.str ⟨#[c]⟩, ?_, R, Tx.refl _, rep_str⟩
  rw [List.getElem?_map, Array.getElem?_toList, hc]; rfl
theorem it_rng {K : PySem.W.Frag} {F H0 : Hp} {lo : Int} {n : Nat} : ItRel K F H0 (Itr lo n) (rng lo n) (fun _ => True) := fun i H C R t ok => by
  have hl : (rng lo n).length = n := by unfold rng; simp
  refine ⟨fun hi => ⟨by rw [hl] at hi; exact hi, fun x H' h => ?_⟩, fun hi => by show n ≤ i; omega⟩
  obtain ⟨rfl, rfl⟩ := h
  refine ⟨.int (lo + i), ?_, R, Tx.refl _, rep_int⟩
  unfold rng
  rw [hl] at hi
  rw [List.getElem?_map, List.getElem?_range hi]; rfl
theorem str_iter {pins : List (Addr × Obj)} {σ : L2.St} {H1 : Hp} {s1 : Shared} {R : It → Hp → Prop} {z : Str} {v : Value} (I1 : Inv X pins σ H1 s1) (r1 : RelV (.str z) v) (q : R (Its z) H1) : wpAny (model X.prog X.w) X.A (pyIter v) (PIE X pins σ tg R) X.xe s1 := by
  obtain ⟨t, rfl⟩ := r1
  have fin : ∀ b ∈ [s1.heap.objs.size], FpOk X pins H1 b := fun b hb => by
    have e : b = s1.heap.objs.size := by simpa using hb
    subst e
    exact I1.fpOk (Nat.le_refl _) I1.fresh
  cases ha : z.cps.all (· < 128)
  · refine wpAny_pyIter_wide ha ⟨s1.heap.objs.size, [s1.heap.objs.size], _, _, H1, rfl, I1.kept (t' := s1.toks) fun b o e => Heap.get?_push_of_some _ e, turn_walks (ty := "str_iterator") (by decide) (fun A hA => Walks.strWide hA _ z t) fun _ _ _ _ _ st h => wpAny_pyIter_striter_wide st h, ⟨_, Heap.get?_push_size _ rfl, rfl, rfl⟩, fin, q⟩
  · refine wpAny_pyIter_ascii ha ⟨s1.heap.objs.size, [s1.heap.objs.size], _, _, H1, rfl, I1.kept (t' := s1.toks) fun b o e => Heap.get?_push_of_some _ e, turn_walks (ty := "str_ascii_iterator") (by decide) (fun A hA => Walks.strAscii hA _ z t) fun _ _ _ _ _ st h => wpAny_pyIter_striter_ascii st h, ⟨_, Heap.get?_push_size _ rfl, rfl, rfl⟩, fin, q⟩
/-- a list, a tuple or a text, whichever it is -/
def iDyn (K : PySem.W.Frag) (tl : TE) : TI := fun σ H R => tl σ H fun x H1 => (∃ a, x = .ref a ∧ (∃ xs, SqL K H1 a xs) ∧ R (Itl K a) H1) ∨ (∃ a, x = .ref a ∧ (∃ xs, SqT K H1 a xs) ∧ R (Itt K a) H1) ∨ ∃ z, x = .str z ∧ R (Its z) H1
theorem pi_dyn {tl : TE} (hl : PE X e tl) : PI X tg e (iDyn X.K tl) := by
  intro pins s σ H R I h
  refine thn (hl pins s σ H _ I h) fun v s1 ⟨x, H1, I1, r1, q1⟩ => ?_
  rcases q1 with ⟨a, rfl, ⟨xs, hq⟩, q⟩ | ⟨a, rfl, ⟨xs, hq⟩, q⟩ | ⟨z, rfl, q⟩
  · cases r1
    obtain ⟨its, rv, p, hz⟩ := I1.list hq
    refine wpAny_pyIter_list p.isList ?_
    refine ⟨s1.heap.objs.size, [s1.heap.objs.size], _, _, H1, rfl, I1.kept (t' := s1.toks) fun b o e => Heap.get?_push_of_some _ e, turn_list a _, ⟨_, Heap.get?_push_size _ rfl, rfl, rfl⟩, fun b hb => ?_, q⟩
    have e : b = s1.heap.objs.size := by simpa using hb
    subst e
    exact I1.fpOk (Nat.le_refl _) (I1.hok.fresh (Nat.le_refl _))
  · cases r1
    obtain ⟨its, rv, p, hz⟩ := I1.tuple hq
    refine wpAny_pyIter_tuple (show s1.heap.IsTuple a its.toArray from p) ?_
    refine ⟨s1.heap.objs.size, [s1.heap.objs.size], _, _, H1, rfl, I1.kept (t' := s1.toks) fun b o e => Heap.get?_push_of_some _ e, turn_tuple a _, ⟨_, Heap.get?_push_size _ rfl, rfl, rfl⟩, fun b hb => ?_, q⟩
    have e : b = s1.heap.objs.size := by simpa using hb
    subst e
    exact I1.fpOk (Nat.le_refl _) (I1.hok.fresh (Nat.le_refl _))
  · exact str_iter I1 r1 q
theorem di_seq (h : SdE X e we) : SdI X tg e (iSeq we) := by
  obtain ⟨t, p, s⟩ := h
  refine ⟨_, pi_dyn p, fun F H C σ τ R R' χ Rr S h q => ?_⟩
  refine s F H C σ τ _ _ χ Rr S h fun x v H1 C1 R1 t1 rx h1 => ?_
  cases v with
  | tup xs =>
    obtain ⟨a, ys, rfl, hq, r⟩ := of_tup rx
    exact .inr (.inl ⟨a, rfl, ⟨ys, hq⟩, q _ H1 xs _ C1 R1 t1 (fun _ => it_tup hq r) h1⟩)
  | cl xs =>
    obtain ⟨a, ys, rfl, hq, r⟩ := of_cl rx
    exact .inl ⟨a, rfl, ⟨ys, hq.sq⟩, q _ H1 xs _ C1 R1 t1 (fun _ => it_cl hq r) h1⟩
  | str z => cases of_str rx; exact .inr (.inr ⟨z, rfl, q _ H1 _ _ C1 R1 t1 (fun _ => it_str) h1⟩)
  | ref a =>
    cases of_ref rx
    obtain ⟨xs, hx, h1⟩ := h1
    obtain ⟨ys, hy, r⟩ := R1.lst hx
    exact .inl ⟨a, rfl, ⟨ys, SqL.of hy⟩, q _ H1 xs _ C1 R1 t1 (fun _ => it_list) h1⟩
  | _ => exact False.elim h1
theorem di_r1 (hg : Gl X "range") (hm : X.mg "range" = none) (ha : SdA X [a] wA) (hs : starEach [a] X.env = [(false, eval a X.env)] := by rfl) : SdI X tg (.Call (.Name "range" p) [a] [] pos) (iR1 wA) := by
  obtain ⟨t, p1, s⟩ := ha
  refine ⟨_, pi_range1 hg hm p1 hs, fun F H C σ τ R R' χ Rr S h q => ?_⟩
  refine s F H C σ τ _ _ χ Rr S h fun xs vs H1 C1 R1 t1 rs h1 => ?_
  obtain ⟨j, rfl, h2, h3, h1⟩ := h1
  obtain ⟨x, rfl, rx⟩ := of_one rs
  cases of_int rx
  exact ⟨j, rfl, h2, h3, q _ H1 _ _ C1 R1 t1 (fun _ => it_rng) h1⟩
end
/-! ### for -/
theorem sim_for {K : PySem.W.Frag} {wi : TI} {g : TG} {tb : TS} {i : WI} {g' : WG} {b : WS} (hi : SimI K wi i) (hg : SimG K g g') (hb : SimS K tb b) : SimS K (tFor wi g tb) (sFor i g' b) := fun F H C σ τ D D' R S h d => by
  refine hi F H C σ τ _ _ D'.xc R S h fun J H1 xs ok C1 R1 t1 it h1 => ?_
  have it1 := it F
  refine ⟨fun i m σ H => m = xs.length - i ∧ i ≤ xs.length ∧ ∃ τ C, Rl K F H C ∧ Tx H1 H ∧ RepS K H σ τ ∧ forW g' b ok D' (xs.drop i) τ C, ⟨xs.length, by simp, Nat.zero_le _, τ, C1, R1, Tx.refl _, S.tx t1, h1⟩, ?_⟩
  rintro i m σ2 H2 ⟨rfl, hle, τ2, C2, R2, t2, S2, h2⟩
  by_cases hlt : i < xs.length
  · right
    have ed : xs.drop i = xs[i] :: xs.drop (i + 1) := List.drop_eq_getElem_cons hlt
    rw [ed] at h2
    obtain ⟨hok, h2⟩ := h2
    obtain ⟨hgo, hy⟩ := (it1 i H2 C2 R2 t2 hok).1 hlt
    refine ⟨hgo, fun σ' H' => ∃ τ' C', Rl K F H' C' ∧ Tx H1 H' ∧ RepS K H' σ' τ' ∧ forW g' b ok D' (xs.drop (i + 1)) τ' C', fun σ' H' q => ⟨xs.length - (i + 1), by omega, rfl, hlt, q⟩, fun x H' hx => ?_⟩
    obtain ⟨v, ev, R3, t3, rv⟩ := hy x H' hx
    have : v = xs[i] := by
      have e : xs[i]? = some xs[i] := by simp [hlt]
      rw [e] at ev; exact (Option.some.inj ev).symm
    subst this
    refine hg F H' C2 σ2 τ2 x _ _ _ D'.xc R3 (S2.tx t3) rv h2 fun σ4 τ4 H4 C4 R4 t4 S4 h4 => ?_
    have tt : Tx H1 H4 := (t2.trans t3).trans t4
    exact hb F H4 C4 σ4 τ4 _ _ R4 S4 h4 ⟨fun σ5 τ5 H5 C5 R5 t5 S5 h5 => ⟨τ5, C5, R5, tt.trans t5, S5, h5⟩, fun x v H5 C5 R5 t5 => d.rt x v H5 C5 R5 ((t1.trans tt).trans t5), fun σ5 τ5 H5 C5 R5 t5 S5 h5 => d.nx σ5 τ5 H5 C5 R5 ((t1.trans tt).trans t5) S5 h5,
      fun σ5 τ5 H5 C5 R5 t5 S5 h5 => ⟨τ5, C5, R5, tt.trans t5, S5, h5⟩⟩
  · left
    have e : i = xs.length := by omega
    subst e
    rw [List.drop_length] at h2
    obtain ⟨hok, h2⟩ := h2
    exact ⟨(it1 _ H2 C2 R2 t2 hok).2 rfl, d.nx σ2 τ2 H2 C2 R2 (t1.trans t2) S2 h2⟩
theorem ds_for {X : Cx} {tg iter : Expr} {body : List Stmt} {i : WI} {g : WG} {b : WS} {pos : Pos} (hp : PassesOwn (model X.prog X.w) X.A X.env X.xe) (hc : X.calm = true) (hi : SdI X tg iter i) (hg : SdG X tg g) (hb : SdB X body b)
    (hs : ∀ x, foldedSetIterable iter X.env x = pure x := by intro _; rfl) : SdS X (.For tg iter body [] pos) (sFor i g b) := by
  obtain ⟨t, p, s⟩ := hi
  obtain ⟨t', p', s'⟩ := hg
  obtain ⟨t2, p2, s2⟩ := hb
  exact ⟨_, ps_for hp hc p p' p2 hs, sim_for s s' s2⟩
end WL
set_option Elab.async false
set_option linter.all false
set_option maxRecDepth 100000
set_option maxHeartbeats 4000000
namespace WL
open PySem PySem.Spec PyProof.Rows L2
/-! ### comprehensions -/
def tOf (K : PySem.W.Frag) (we : WE) : TE := fun σ H Q => ∃ (F : Hp) (C : Hw) (τ : Sw) (Q' : WK) (χ : WX), Rl K F H C ∧ RepS K H σ τ ∧ we τ C Q' χ ∧ QE K F H Q Q'
def ttOf (K : PySem.W.Frag) (wt : WT) : TT := fun σ H Q => ∃ (F : Hp) (C : Hw) (τ : Sw) (Q' : Bool → Hw → Prop) (χ : WX), Rl K F H C ∧ RepS K H σ τ ∧ wt τ C Q' χ ∧ QT K F H Q Q'
theorem SdE.pe {X : Cx} {e : Expr} {we : WE} (h : SdE X e we) : PE X e (tOf X.K we) := by
  obtain ⟨t, p, s⟩ := h
  intro pins st σ H Q I hq
  obtain ⟨F, C, τ, Q', χ, R, S, hw, q⟩ := hq
  exact p pins st σ H Q I (s F H C σ τ Q Q' χ R S hw q)
def SdIf (X : Cx) (ifs : List Expr) (w : WT) : Prop := ∃ t, PIfs X ifs t ∧ SimT X.K t w
theorem dif_nil {X : Cx} : SdIf X [] tYes := ⟨_, pif_nil, fun F H C σ τ Q Q' χ R S h q => q true H C R (Tx.refl H) h⟩
theorem dif_one {X : Cx} {e : Expr} {wt : WT} (h : SdT X e wt) : SdIf X [e] wt := by
  obtain ⟨t, p, s⟩ := h
  exact ⟨t, pif_one p, s⟩
theorem SdIf.pif {X : Cx} {ifs : List Expr} {w : WT} (h : SdIf X ifs w) : PIfs X ifs (ttOf X.K w) := by
  obtain ⟨t, p, s⟩ := h
  intro pins st σ H Q I hq
  obtain ⟨F, C, τ, Q', χ, R, S, hw, q⟩ := hq
  exact p pins st σ H Q I (s F H C σ τ Q Q' χ R S hw q)
theorem RepS.cap {K : PySem.W.Frag} {H : Hp} {σ : L2.St} {τ : Sw} (h : RepS K H σ τ) (cap : List (Option Nat)) : RepS K H (capS cap σ) (capW cap τ) := by
  refine ⟨by unfold capS capW; rw [List.length_map, List.length_map], fun i v e => ?_⟩
  unfold capW at e
  unfold capS
  rw [List.getElem?_map] at e ⊢
  cases ho : cap[i]? with
  | none => rw [ho] at e; cases e
  | some o =>
    rw [ho] at e
    cases o with
    | none => simp at e
    | some j =>
      have e' : (τ[j]?).join = some v := by simpa using e
      have e2 : τ[j]? = some (some v) := by
        cases hj : τ[j]? with
        | none => rw [hj] at e'; cases e'
        | some z => rw [hj] at e'; rw [show z = some v from e']
      obtain ⟨x, hx, r⟩ := h.2 j v e2
      exact ⟨x, by simp [hx], r⟩
/-- the frame with the list that grows -/
def frP (F : Hp) (p : Addr) (ys : List V) : Hp := fun b => if b = p then some (.lst ys) else F b
theorem frP_same {F : Hp} {p : Addr} {ys : List V} : frP F p ys p = some (.lst ys) := by unfold frP; rw [if_pos rfl]
theorem frP_ne {F : Hp} {p b : Addr} {ys : List V} (h : b ≠ p) : frP F p ys b = F b := by unfold frP; rw [if_neg h]
theorem sim_comp {K : PySem.W.Frag} {cap : List (Option Nat)} {wi : TI} {g : TG} {i : WI} {wg : WG} {wc : WT} {we : WE} (hi : SimI K wi i) (hg : SimG K g wg) {F H : Hp} {C : Hw} {σ : L2.St} {τ : Sw} {Q : Addr → Hp → Prop} {Q' : WK} {χ : WX}
    (R : Rl K F H C) (S : RepS K H σ τ) (h : eComp cap i wg wc we τ C Q' χ) (q : ∀ p H' C', Rl K F H' C' → Tx H H' → Q' (.ref p) C' → Q p H') : tCompL cap wi g (ttOf K wc) (tOf K we) σ H Q := by
  refine hi F H C σ τ _ _ χ R S h fun J H1 xs ok C1 R1 t1 it h1 => ?_
  intro p hp
  have hn : ∀ a o, F a = some o → a ≠ p := fun a o e => ne_of_none (R1.frm a o e).1 hp
  refine ⟨fun i m H2 => m = xs.length - i ∧ i ≤ xs.length ∧ ∃ C2 ys acc, Rl K (frP F p ys) H2 C2 ∧ Tx H1 H2 ∧ Reps K H2 ys acc ∧ compW wg wc we ok (capW cap τ) (fun vs C2 => ∀ p, C2 p = none → Q' (.ref p) (up C2 p (.lst vs))) χ (xs.drop i) acc C2,
    ⟨xs.length, by simp, Nat.zero_le _, C1, [], [], ?_, Tx.new hp, reps_nil, h1⟩, ?_⟩
  · refine ⟨(R1.hid hp).obj, fun a o e => ?_⟩
    by_cases ea : a = p
    · subst ea
      rw [frP_same] at e; cases e
      exact ⟨upd_same, R1.free hp⟩
    · rw [frP_ne ea] at e
      exact (R1.hid hp).frm a o e
  rintro i m H2 ⟨rfl, hle, C2, ys, acc, R2, t2, ra, h2⟩
  by_cases hlt : i < xs.length
  · right
    have ed : xs.drop i = xs[i] :: xs.drop (i + 1) := List.drop_eq_getElem_cons hlt
    rw [ed] at h2
    obtain ⟨hok, h2⟩ := h2
    obtain ⟨hgo, hy⟩ := (it (frP F p ys) i H2 C2 R2 t2 hok).1 hlt
    refine ⟨hgo, fun H' => ∃ C2 ys acc, Rl K (frP F p ys) H' C2 ∧ Tx H1 H' ∧ Reps K H' ys acc ∧ compW wg wc we ok (capW cap τ) (fun vs C2 => ∀ p, C2 p = none → Q' (.ref p) (up C2 p (.lst vs))) χ (xs.drop (i + 1)) acc C2,
      fun H' z => ⟨xs.length - (i + 1), by omega, rfl, hlt, z⟩, fun x H' hx => ?_⟩
    obtain ⟨v, ev, R3, t3, rv⟩ := hy x H' hx
    have : v = xs[i] := by
      have e : xs[i]? = some xs[i] := by simp [hlt]
      rw [e] at ev; exact (Option.some.inj ev).symm
    subst this
    have S3 : RepS K H' (capS cap σ) (capW cap τ) := (S.tx ((t1.trans t2).trans t3)).cap cap
    refine hg (frP F p ys) H' C2 (capS cap σ) (capW cap τ) x _ _ _ χ R3 S3 rv h2 fun σ4 τ4 H4 C4 R4 t4 S4 h4 => ?_
    refine ⟨frP F p ys, C4, τ4, _, χ, R4, S4, h4, fun b H5 C5 R5 t5 h5 => ?_⟩
    have t15 : Tx H2 H5 := (t3.trans t4).trans t5
    cases b with
    | true =>
      refine ⟨frP F p ys, C5, τ4, _, χ, R5, S4.tx t5, h5, fun y vy H6 C6 R6 t6 ry h6 => ?_⟩
      obtain ⟨e6, n6⟩ := R6.frm p _ frP_same
      have tp : Tx H6 (upd H6 p (.lst (ys ++ [y]))) := Tx.put e6 (fun z => z)
      refine ⟨ys, e6, by rw [ra.length]; exact h6.1, C6, ys ++ [y], acc ++ [vy], ⟨fun a o e => ?_, fun a o e => ?_⟩, (t2.trans (t15.trans t6)).trans tp, ((ra.tx (t15.trans t6)).snoc ry).tx tp, h6.2⟩
      · have ea : a ≠ p := fun z => by subst z; rw [n6] at e; cases e
        exact (R6.obj a o e).stay tp (upd_ne ea)
      · by_cases ea : a = p
        · subst ea
          rw [frP_same] at e; cases e
          exact ⟨upd_same, n6⟩
        · rw [frP_ne ea] at e
          rw [upd_ne ea]
          exact R6.frm a o (by rw [frP_ne ea]; exact e)
    | false => exact ⟨C5, ys, acc, R5, t2.trans t15, ra.tx t15, h5⟩
  · left
    have e : i = xs.length := by omega
    subst e
    rw [List.drop_length] at h2
    obtain ⟨hok, h2⟩ := h2
    refine ⟨(it (frP F p ys) _ H2 C2 R2 t2 hok).2 rfl, ?_⟩
    obtain ⟨e6, n6⟩ := R2.frm p _ frP_same
    refine q p H2 (up C2 p (.lst acc)) ⟨fun a o e => ?_, fun a o e => ?_⟩ (t1.trans t2) (h2 p n6)
    · by_cases ea : a = p
      · subst ea
        rw [up_same] at e; cases e
        exact ⟨ys, e6, ra⟩
      · rw [up_ne ea] at e
        exact R2.obj a o e
    · have ea := hn a o e
      rw [up_ne ea]
      exact R2.frm a o (by rw [frP_ne ea]; exact e)
section
variable {X : Cx} {tg iter elt : Expr} {ifs : List Expr} {scope : Scope} {pos : Pos} {cN : List Str} {cap : List (Option Nat)} {cl : List (Str × Addr)} {js : List Nat} {i : WI} {g : TG} {wg : WG} {wc : WT} {we : WE}
theorem ttOf_mono {K : PySem.W.Frag} {w : WT} : ∀ (σ : L2.St) (H : Hp) (Q Q' : Bool → Hp → Prop), (∀ b H', Q b H' → Q' b H') → ttOf K w σ H Q → ttOf K w σ H Q' := fun σ H Q Q' m h => by
  obtain ⟨F, C, τ, R', χ, R, S, hw, q⟩ := h
  exact ⟨F, C, τ, R', χ, R, S, hw, fun b H' C' r t h => m _ _ (q b H' C' r t h)⟩
/-- what is asked of a comprehension -/
structure CompD (X : Cx) (tg iter elt : Expr) (ifs : List Expr) (scope : Scope) (cN : List Str) (cap : List (Option Nat)) (cl : List (Str × Addr)) (js : List Nat) (i : WI) (g : TG) (wg : WG) (wc : WT) (we : WE) : Prop where
  calm : X.calm = true
  ok : X.Ok → CompOk X cN cap scope cl
  it : SdI X tg iter i
  tgt : ∀ fp s H, PG (cxComp X cN scope cl fp s H) tg g
  gm : TGmono g
  gk : GKeep js g
  sg : SimG X.K g wg
  js0 : ∀ j ∈ js, (cap[j]?).join = none
  ts : ∀ fp s H, SdIf (cxComp X cN scope cl fp s H) ifs wc
  el : ∀ fp s H, SdE (cxComp X cN scope cl fp s H) elt we
  fold : ∀ x, foldedSetIterable iter X.env x = pure x
theorem d_comp (D : CompD X tg iter elt ifs scope cN cap cl js i g wg wc we) : SdE X (.ListComp elt [⟨tg, iter, ifs, 0⟩] scope pos) (eComp cap i wg wc we) := by
  obtain ⟨wi, p, s⟩ := D.it
  have P : CompP X tg iter elt ifs scope cN cap cl js wi g (ttOf X.K wc) (tOf X.K we) := ⟨D.calm, D.ok, p, D.tgt, D.gm, D.gk, D.js0, fun fp s H => (D.ts fp s H).pif, ttOf_mono, fun fp s H => (D.el fp s H).pe, D.fold⟩
  exact ⟨_, pe_comp P, fun F H C σ τ Q Q' χ R S h q => sim_comp s D.sg R S h fun p H' C' R' t' h' => q _ _ H' C' R' t' rep_ref h'⟩
end
theorem hu150 {A : Around} {k : Nat} (hr : Room k A) : A.units + 150 < cLine := by have := hr.un; omega
/-! ### calls of own defs -/
def spW (K : PySem.W.Frag) (pr : List Df) (n i : Nat) : Sp := fun vs H Q _ => ∃ (F : Hp) (C : Hw) (vs' : List T) (Q' : WK) (χ : WX), Rl K F H C ∧ Reps K H vs vs' ∧ wpc pr n i vs' C Q' χ ∧ QE K F H Q Q'
theorem d_call {X : Cx} {k i : Nat} {x : Str} {ps : List Str} {pr : List Df} {p pos : Pos} {e : Expr} {es : List Expr} {wA : WA} (Cc : Ca X.prog X.w X.K X.mg X.base k x ps (spW X.K pr k i)) (hr : Room k X.A) (hg : Gl X x) (ha : SdA X (e :: es) wA)
    (hdb : (x == ("__debug__" : Str)) = false := by decide) (he : starEach (e :: es) X.env = (false, eval e X.env) :: starEach es X.env := by rfl) (hpl : (backTo pos (starEach es X.env)).any (·.1) = false := by rfl) :
    SdE X (.Call (.Name x p) (e :: es) [] pos) (eCall (wpc pr k) i wA) := by
  obtain ⟨t, p1, s⟩ := ha
  refine ⟨_, pe_ca Cc hr hg p1 hdb he hpl, fun F H C σ τ Q Q' χ R S h q => ?_⟩
  refine s F H C σ τ _ _ χ R S h fun xs vs H1 C1 R1 t1 rs h1 => ?_
  refine ⟨F, C1, vs, Q', χ, R1, ?_, h1, QE.at q t1⟩
  rw [List.append_nil]; exact rs
theorem RepS.start {K : PySem.W.Frag} {H : Hp} {vs : List V} {vs' : List T} (h : Reps K H vs vs') (N : List Str) (m : Nat) (e : m = N.length - vs.length) : RepS K H (start N vs) (vs'.map some ++ List.replicate m none) := by
  refine ⟨?_, fun i v hv => ?_⟩
  · unfold L2.start
    rw [List.length_append, List.length_append, List.length_map, List.length_map, List.length_replicate, List.length_replicate, h.length, e, h.length]
  · unfold L2.start
    by_cases hi : i < vs'.length
    · rw [List.getElem?_append_left (by rw [List.length_map]; exact hi), List.getElem?_map] at hv
      cases hg : vs'[i]? with
      | none => rw [hg] at hv; cases hv
      | some z =>
        rw [hg] at hv
        cases hv
        obtain ⟨x, hx, r⟩ := h.get hg
        refine ⟨x, ?_, r⟩
        rw [List.getElem?_append_left (by rw [List.length_map, h.length]; exact hi), List.getElem?_map, hx]
        rfl
    · rw [List.getElem?_append_right (by rw [List.length_map]; omega), List.getElem?_replicate] at hv
      split at hv
      · cases hv
      · cases hv
theorem ca_zero {P : Program} {w : World} {K : PySem.W.Frag} {mg : Str → Option Value} {base : Heap} {x : Str} {st : Stmt} {f : Addr} {fd : FuncData} {ps : List Str} {pr : List Df} {i : Nat} (F : Fun K x x st f fd) (hb : Binds K fd ps []) (hm : mg x = some (.ref f)) : Ca P w K mg base 0 x ps (spW K pr 0 i) :=
  ⟨f, fd, ⟨fun vs H Q E h => by obtain ⟨_, _, _, _, _, _, _, z, _⟩ := h; exact z.elim, fun A outer s H args us vs Q E _ _ _ _ h => by obtain ⟨_, _, _, _, _, _, _, z, _⟩ := h; exact z.elim⟩, hb, F.kp, hm⟩
theorem ca_succ {P : Program} {w : World} {K : PySem.W.Frag} {mg : Str → Option Value} {base : Heap} {x : Str} {st : Stmt} {f : Addr} {fd : FuncData} {ps : List Str} {sp : Sp} {n : Nat} (F : Fun K x x st f fd) (hb : Binds K fd ps []) (hm : mg x = some (.ref f)) (G : FnOk P w K mg base CX0 n f fd ps sp) : Ca P w K mg base n x ps sp :=
  ⟨f, fd, G, hb, F.kp, hm⟩
/-- the law's own promise, from what it does at the script -/
theorem law_sp {K : PySem.W.Frag} {pr : List Df} {n i : Nat} {H : Hp} {a : Addr} {ns : List Int} (hO : Only H) (hS : SqL K H a (ns.map V.int)) (h : wpc pr n i [.cl (ns.map T.int)] (fun _ => none) (fun v _ => v = .bl true) (fun _ _ => False)) :
    spW K pr n i [.ref a] H (fun v _ => v = .bl true) (fun _ _ _ => False) := by
  have hq : SqC K H a (ns.map V.int) := by
    rcases hS with (h | ⟨o, h⟩) | h
    · rcases hO a with e | ⟨o, xs, e⟩
      · rw [e] at h; cases h
      · rw [e] at h; cases h
    · exact .inl ⟨o, h⟩
    · exact .inr h
  refine ⟨fun _ => none, fun _ => none, [.cl (ns.map T.int)], _, _, ⟨(fun _ _ e => by cases e), (fun _ _ e => by cases e)⟩, reps_cons ?_ reps_nil, h, fun x v H' C' R t r e => ?_⟩
  · unfold Rep
    exact ⟨a, _, rfl, hq, reps_ints ns⟩
  · subst e; exact of_bl r
end WL
set_option Elab.async false
set_option linter.all false
set_option maxRecDepth 100000
set_option maxHeartbeats 4000000
namespace L2
open PySem PySem.Spec PyProof.Rows
/-! ### lists of pairs as tables -/
section
variable {κ : Type} [DecidableEq κ]
def valV (kvs : List (κ × V)) (k : κ) : Option V := (kvs.find? fun kv => decide (kv.1 = k)).map (·.2)
/-- in its place, or at the end -/
def putK (kvs : List (κ × V)) (k : κ) (v : V) : List (κ × V) :=
  if (kvs.any fun kv => decide (kv.1 = k)) = true then kvs.map (fun kv => if kv.1 = k then (kv.1, v) else kv) else kvs ++ [(k, v)]
def dropK (kvs : List (κ × V)) (k : κ) : List (κ × V) := kvs.filter fun kv => decide (kv.1 ≠ k)
end
/-! ### a tracked dict, its keys ints and texts or tuples of these -/
/-- raw entries of a dict with tuple keys -/
abbrev KT (H : Hp) : List (List Key × V) → List (List Key × Addr × Value) → Prop := Paired fun p q => p.1 = q.1 ∧ H q.2.1 = some (.tup (p.1.map kV)) ∧ RelV p.2 q.2.2
section
variable {P : Program} {w : World} {H : Hp} {h : Heap} {a : Addr}
end
/-- what the dict at a holds at the key y -/
def DGet (H : Hp) (a : Addr) (y : V) (r : Option V) : Prop :=
  (∃ kvs k, Rd H a (.dK kvs) ∧ y = kV k ∧ r = valV kvs k) ∨ ∃ kvs k b, Rd H a (.dT kvs) ∧ y = .ref b ∧ H b = some (.tup (k.map kV)) ∧ r = valV kvs k
/-- the heap behind a[y] = v -/
def DPut (H : Hp) (a : Addr) (y v : V) (H' : Hp) : Prop :=
  (∃ kvs k, H a = some (.dK kvs) ∧ y = kV k ∧ kvs.length < sizeLine ∧ H' = upd H a (.dK (putK kvs k v))) ∨
  ∃ kvs k b, H a = some (.dT kvs) ∧ y = .ref b ∧ H b = some (.tup (k.map kV)) ∧ kvs.length < sizeLine ∧ H' = upd H a (.dT (putK kvs k v))
section
variable {X : Cx} {pins : List (Addr × Obj)} {σ : St} {H : Hp} {s : Shared} {a : Addr} {y v : V} {u r : Value} {o : Option V} {A : Around} {E : Value → Shared → Prop}
end
section
variable {X : Cx} {pins : List (Addr × Obj)} {σ : St} {H : Hp} {s : Shared} {a : Addr} {kvs : List (Key × V)} {k : Key} {u : Value} {A : Around} {E : Value → Shared → Prop}
end
/-! ### readings and rules -/
/-- the element of a subscription, not a slice -/
def NoSl (i : Expr) : Prop := ∀ ov iv, subscripted i false ov iv = operate [ov, iv] (getItem ov iv)
/-- d[y] -/
def tDGet (td ty : TE) : TE := fun σ H Q => td σ H fun x H1 => ty σ H1 fun y H2 => ∃ a v, x = .ref a ∧ DGet H2 a y (some v) ∧ Q v H2
/-- y in d, y not in d -/
def tDIn (ty td : TE) : TE := fun σ H Q => ty σ H fun y H1 => td σ H1 fun x H2 => ∃ a o, x = .ref a ∧ DGet H2 a y o ∧ Q (.bl o.isSome) H2
/-- d[y] = v -/
def sDPut (td ty tv : TE) : TS := fun D σ H => tv σ H fun v H1 => td σ H1 fun x H2 => ty σ H2 fun y H3 => ∃ a H4, x = .ref a ∧ DPut H3 a y v H4 ∧ D.nx σ H4
/-- d[y] op= v -/
def sDAug (td ty tv : TE) (rd : V → V → Hp → VK → Prop) : TS := fun D σ H => td σ H fun x H1 => ty σ H1 fun y H2 => ∃ a v, x = .ref a ∧ DGet H2 a y (some v) ∧
  tv σ H2 fun y2 H3 => rd v y2 H3 fun z H4 => ∃ H5, DPut H4 a y z H5 ∧ D.nx σ H5
/-- del d[y] -/
def sDDel (td ty : TE) : TS := fun D σ H => td σ H fun x H1 => ty σ H1 fun y H2 => ∃ a kvs k, x = .ref a ∧ H2 a = some (.dK kvs) ∧ y = kV k ∧ (valV kvs k).isSome = true ∧ D.nx σ (upd H2 a (.dK (dropK kvs k)))
section
variable {X : Cx} {o i e value : Expr} {pos pos' tpos : Pos} {td ty tv : TE}
end
/-! ### displays -/
/-- {}, to be a dict of the kind that is wanted -/
def tDNewK : TE := fun _ H Q => ∀ p, H p = none → Q (.ref p) (upd H p (.dK []))
section
variable {X : Cx} {pos : Pos}
end
/-- the pairs of a display, from the left -/
def tPairs : List (TE × TE) → St → Hp → (List (V × V) → Hp → Prop) → Prop
  | [], _, H, Q => Q [] H
  | (tk, tv) :: r, σ, H, Q => tk σ H fun x H1 => tv σ H1 fun y H2 => tPairs r σ H2 fun ps H3 => Q ((x, y) :: ps) H3
def mergeK (kvs more : List (Key × V)) : List (Key × V) := more.foldl (fun acc kv => putK acc kv.1 kv.2) kvs
/-- {k: v, ..} with keys ints and texts; the new dict stands empty while the pairs are made -/
def tDisp (trs : List (TE × TE)) : TE := fun σ H Q => ∀ p, H p = none → tPairs trs σ (upd H p (.dK [])) fun ps H2 => H2 p = some (.dK []) ∧ ∃ kvs : List (Key × V), ps = kvs.map (fun kv => (kV kv.1, kv.2)) ∧ kvs.length ≤ 15 ∧ Q (.ref p) (upd H2 p (.dK (mergeK [] kvs)))
/-! ### methods -/
/-- a method call o.m(e) of a built-in, with one argument: what must be seen of the text -/
structure M1 (X : Cx) (o : Expr) (m : Str) (apos : Pos) (e : Expr) (cpos : Pos) : Prop where
  base : attributeBase o m X.env (eval o X.env) = eval o X.env
  few : ((backTo cpos (starEach [e] X.env)).all (fun x => !x.1) && (backToKw cpos (keywordEach [] X.env)).all (fun x => x.1.isSome)
    && decide (([e] : List Expr).length + ([] : List Keyword).length + (if ([] : List Keyword).isEmpty then 0 else 1) < 30)) = true
  line : (apos.endLine == cpos.line) = true
  trees : backTo cpos (starEach [e] X.env) = [(false, eval e X.env)]
structure M2 (X : Cx) (o : Expr) (m : Str) (apos : Pos) (e f : Expr) (cpos : Pos) : Prop where
  base : attributeBase o m X.env (eval o X.env) = eval o X.env
  few : ((backTo cpos (starEach [e, f] X.env)).all (fun x => !x.1) && (backToKw cpos (keywordEach [] X.env)).all (fun x => x.1.isSome)
    && decide (([e, f] : List Expr).length + ([] : List Keyword).length + (if ([] : List Keyword).isEmpty then 0 else 1) < 30)) = true
  line : (apos.endLine == cpos.line) = true
  trees : backTo cpos (starEach [e, f] X.env) = [(false, eval e X.env), (false, eval f X.env)]
/-- a is a dict, whatever its keys -/
def IsD (H : Hp) (a : Addr) : Prop := (∃ kvs, Rd H a (.dK kvs)) ∨ ∃ kvs, Rd H a (.dT kvs)
section
variable {X : Cx} {pins : List (Addr × Obj)} {σ : St} {H : Hp} {s : Shared} {a : Addr} {y d : V} {u r : Value} {o : Option V} {A : Around} {E : Value → Shared → Prop}
end
/-- d.pop(k): there; d.pop(k, x): there or not -/
def tDPop1 (td ty : TE) : TE := fun σ H Q => td σ H fun x H1 => ∃ a, x = .ref a ∧ IsD H1 a ∧ ty σ H1 fun y H2 => ∃ kvs k v, H2 a = some (.dK kvs) ∧ y = kV k ∧ valV kvs k = some v ∧ Q v (upd H2 a (.dK (dropK kvs k)))
section
variable {X : Cx} {o e f : Expr} {apos cpos : Pos} {td ty tx : TE}
end
/-! ### dict(d): a copy -/
section
variable {X : Cx} {pins : List (Addr × Obj)} {σ : St} {H : Hp} {s : Shared} {a : Addr} {kvs : List (Key × V)} {A : Around} {E : Value → Shared → Prop}
end
section
variable {X : Cx} {pins : List (Addr × Obj)} {σ : St} {H : Hp} {s : Shared} {a : Addr} {y : V} {u : Value} {A : Around} {E : Value → Shared → Prop}
end
end L2
set_option Elab.async false
set_option linter.all false
set_option maxRecDepth 100000
set_option maxHeartbeats 4000000
/-! the second level: while, numbers as texts, dicts whose keys are ints or texts -/
namespace WL
open PySem PySem.Spec PyProof.Rows L2
/-! ### while -/
section
variable {X : Cx} {a b c e o i : Expr} {es : List Expr} {wa wb wc wo wi : WE} {wA : WA} {pos p p2 apos cpos : Pos}
/-! ### str(n), int(n) -/
end
/-! ### dicts: tables of values -/
def kT : T → Option Key
  | .int i => some (.inl i)
  | .str x => some (.inr x)
  | _ => none
def tK : Key → T
  | .inl i => .int i
  | .inr x => .str x
def getT (kvs : List (Key × T)) (k : Key) : Option T := (kvs.find? fun kv => decide (kv.1 = k)).map (·.2)
def putT (kvs : List (Key × T)) (k : Key) (v : T) : List (Key × T) :=
  if (kvs.any fun kv => decide (kv.1 = k)) = true then kvs.map (fun kv => if kv.1 = k then (kv.1, v) else kv) else kvs ++ [(k, v)]
section
variable {K : PySem.W.Frag} {F H : Hp} {C : Hw}
end
/-! ### dicts: readings and rules -/
section
variable {X : Cx} {a b c e o i f : Expr} {es : List Expr} {wa wb wc wo wi wd : WE} {wA : WA} {pos p p2 apos cpos : Pos}
end
end WL
set_option Elab.async false
set_option linter.all false
set_option maxRecDepth 100000
set_option maxHeartbeats 4000000
namespace L2
open PySem PySem.Spec PyProof.Rows
/-! ### sets of texts: what a set's table keeps of led and plain -/
def byTx (w : World) : Bool := w.params.followText "set-order"
theorem osi_led (t : SetTable) (n : Nat) : (t.orStandIn n).led = t.led := by
  unfold SetTable.orStandIn
  split <;> rfl
theorem osi_plain (t : SetTable) (n : Nat) (p : t.plain = false) : (t.orStandIn n).plain = false := by
  unfold SetTable.orStandIn
  split
  · exact p
  · rfl
theorem lay_led (t : SetTable) (es : Array (Int × Value)) (h : Int) (x : Value) : (layNew t es h x).2.1.led = t.led := by
  unfold layNew
  split
  · exact osi_led _ _
  · rfl
theorem lay_plain (t : SetTable) (es : Array (Int × Value)) (h : Int) (x : Value) (p : t.plain = false) : (layNew t es h x).2.1.plain = false := by
  unfold layNew
  split
  · exact osi_plain _ _ p
  · rfl
theorem relay_led (t : SetTable) (es : Array (Int × Value)) (n : Nat) : (relayAll t es n).2.1.led = t.led := by
  unfold relayAll
  split
  · rename_i t' order e
    unfold SetTable.relaid SetTable.laid at e
    cases hq : SetTable.layClean (SetTable.sizeAbove n - 1) (es.map (·.1)) with
    | none => rw [hq] at e; cases e
    | some ow =>
      rw [hq] at e
      simp only [Option.bind_eq_bind, Option.bind_some, Option.pure_def, Option.some.injEq, Prod.mk.injEq] at e
      obtain ⟨rfl, rfl⟩ := e
      dsimp only
      split <;> rfl
  · rfl
theorem relay_plain (t : SetTable) (es : Array (Int × Value)) (n : Nat) (p : t.plain = false) : (relayAll t es n).2.1.plain = false := by
  unfold relayAll
  split
  · rename_i t' order e
    unfold SetTable.relaid SetTable.laid at e
    cases hq : SetTable.layClean (SetTable.sizeAbove n - 1) (es.map (·.1)) with
    | none => rw [hq] at e; cases e
    | some ow =>
      rw [hq] at e
      simp only [Option.bind_eq_bind, Option.bind_some, Option.pure_def, Option.some.injEq, Prod.mk.injEq] at e
      obtain ⟨rfl, rfl⟩ := e
      dsimp only
      split
      · exact p
      · rfl
  · rfl
def txOf (e : Int × Value) : Str := strOf e.2
/-- the set at a: its texts in the order of its table -/
structure TxSet (P : Program) (w : World) (h : Heap) (a : Addr) (es : Array (Int × Value)) (ep : Nat) (t : SetTable) : Prop where
  get : h.get? a = some { cls := .type "set", dict := none, data := .set es ep t, slots := #[] }
  els : ElemsOf (PySem.strKind P w) es.toList
  fit : t.fits es.size = true
  bnd : es.size < scanBound
  pln : es.size ≠ 0 → t.plain = false
  led : t.led = !byTx w
  nod : (es.toList.map txOf).Nodup
theorem els_str {P : Program} {w : World} {l : List (Int × Value)} (h : ElemsOf (PySem.strKind P w) l) {e : Int × Value} (m : e ∈ l) : ∃ tk, e = (hashStr w (txOf e), Value.str (txOf e) tk) := by
  obtain ⟨⟨k, hk, hh⟩, _⟩ := h e m
  obtain ⟨tk, hv⟩ := Value.isStrOf_shape hk
  obtain ⟨i, v⟩ := e
  simp only at hv hh
  subst hv
  exact ⟨tk, by rw [hh]; rfl⟩
theorem is_tx {P : Program} {w : World} {l : List (Int × Value)} (h : ElemsOf (PySem.strKind P w) l) {e : Int × Value} (m : e ∈ l) (k : Str) : (PySem.strKind P w).is k e.2 = true ↔ txOf e = k := by
  obtain ⟨tk, he⟩ := els_str h m
  constructor
  · intro hk
    obtain ⟨t', hv⟩ := Value.isStrOf_shape hk
    unfold txOf; rw [hv]; rfl
  · intro hk
    rw [he, hk]
    show Value.isStrOf k (Value.str k tk) = true
    simp [Value.isStrOf]
section
variable {prog : Program} {w : World} {A : Around} {E : Value → Shared → Prop} {s : Shared}
theorem put_get {h : Heap} {a : Addr} {es : Array (Int × Value)} {ep : Nat} {t : SetTable} (g : h.get? a = some { cls := .type "set", dict := none, data := .set es ep t, slots := #[] }) (es' : Array (Int × Value)) (t' : SetTable) :
    (h.update a (Obj.putSet es' t')).get? a = some { cls := .type "set", dict := none, data := .set es' (ep + 1) t', slots := #[] } := by
  have q := Heap.get?_update_self (Obj.putSet es' t') g (by rw [putSet_of es' t' rfl]; rfl)
  rw [putSet_of es' t' rfl] at q
  exact q
theorem add_tail {g : Bool → Sem Unit} (hg : ∀ (b : Bool) (s₁ : Shared) (Q' : Unit → Shared → Prop), Q' () s₁ → wpAny (model prog w) A (g b) Q' E s₁)
    {a : Addr} {es : Array (Int × Value)} {ep : Nat} {t : SetTable} (ho : s.heap.get? a = some { cls := .type "set", dict := none, data := .set es ep t, slots := #[] })
    {e1 : Array (Int × Value)} {t2 : SetTable} (h1 : ElemsOf (PySem.strKind prog w) e1.toList) (h2 : t2.fits e1.size = true) (h3 : e1.size < scanBound) (h4 : t2.plain = false) (h5 : t2.led = !byTx w) (h6 : (e1.toList.map txOf).Nodup)
    {wd : Bool} {R : Option Bool → Shared → Prop}
    (h : ∀ h' e2 ep' t', Heap.SameBut a s.heap h' → TxSet prog w h' a e2 ep' t' → List.Perm e2.toList e1.toList → R (some true) { s with heap := h' }) :
    wpAny (model prog w) A (do
        storeSet a e1 t2
        if (!wd && t2.tooFull) = true then do
            g (relayAll t2 e1 (SetTable.grown e1.size)).2.2
            storeSet a (relayAll t2 e1 (SetTable.grown e1.size)).1 (relayAll t2 e1 (SetTable.grown e1.size)).2.1
            pure (some true)
          else pure (some true)) R E s := by
  refine wpAny_bind (wpAny_storeSet_of ho rfl ?_ (fits_of_scanBound h3))
  have g1 := put_get ho e1 t2
  have b1 := Heap.SameBut.update s.heap a (Obj.putSet e1 t2)
  split
  · have hp := relayAll_perm t2 e1 (SetTable.grown e1.size)
    have hf := relayAll_fits t2 e1 (SetTable.grown e1.size)
    have hl := relay_led t2 e1 (SetTable.grown e1.size)
    have hq := relay_plain t2 e1 (SetTable.grown e1.size) h4
    generalize relayAll t2 e1 (SetTable.grown e1.size) = Z at hp hf hl hq ⊢
    obtain ⟨e2, t3, gv⟩ := Z
    dsimp only at hp hf hl hq ⊢
    have hz : e2.size = e1.size := by rw [← Array.length_toList, hp.length_eq, Array.length_toList]
    have hb : e2.size < scanBound := by rw [hz]; exact h3
    refine wpAny_bind (hg _ _ _ ?_)
    refine wpAny_bind (wpAny_storeSet_of g1 rfl ?_ (fits_of_scanBound hb))
    exact wpAny_pure (h _ e2 _ t3 (b1.trans (Heap.SameBut.update _ a _)) ⟨put_get g1 e2 t3, h1.perm hp, hf, hb, fun _ => hq, hl.trans h5, (hp.map txOf).nodup_iff.mpr h6⟩ hp)
  · exact wpAny_pure (h _ e1 _ t2 b1 ⟨g1, h1, h2, h3, fun _ => h4, h5, h6⟩ (List.Perm.refl _))
theorem add_text {a : Addr} {es : Array (Int × Value)} {ep : Nat} {t : SetTable} {x : Str} {tk : Tok} {Q : Bool → Shared → Prop} (S : TxSet prog w s.heap a es ep t) (hr : es.size + 1 < scanBound)
    (h : ∀ (b : Bool) h' es' ep' t', Heap.SameBut a s.heap h' → TxSet prog w h' a es' ep' t' → (∀ y, y ∈ es'.toList.map txOf ↔ y ∈ es.toList.map txOf ∨ y = x) → es'.size ≤ es.size + 1 → Q b { s with heap := h' }) :
    wpAny (model prog w) A (setAddHashed a (.str x tk) (hashStr w x)) Q E s := by
  have hk : (PySem.strKind prog w).is x (Value.str x tk) = true := by show Value.isStrOf x (Value.str x tk) = true; simp [Value.isStrOf]
  have hsc : (Value.str x tk).scannable = true := rfl
  have e0 : hashStr w x = (PySem.strKind prog w).hash x := rfl
  rw [e0]
  unfold setAddHashed setAddHashedIn
  refine wpAny_holding (wpAny_bind (wpAny_setState_of S.get rfl S.fit ?_))
  dsimp only
  rw [byScan_of hsc S.bnd S.els]
  simp only [↓reduceIte]
  unfold setAddByScan
  refine wpAny_bind ?_
  refine wpAny_bind (wpAny_rule ?_)
  refine wpAny_bind (wpAny_setScan_of hk S.get rfl S.fit S.els ?_)
  cases hf : List.findIdx? (fun e => (PySem.strKind prog w).is x e.2) es.toList with
  | some j =>
    dsimp only
    obtain ⟨hj, hp, _⟩ := List.findIdx?_eq_some_iff_getElem.mp hf
    have hm : x ∈ es.toList.map txOf := List.mem_map.mpr ⟨_, List.getElem_mem hj, (is_tx S.els (List.getElem_mem hj) x).mp hp⟩
    refine wpAny_pure (wpAny_pure ?_)
    have q := h false s.heap es ep t (Heap.SameBut.refl a s.heap) S (fun y => ⟨.inl, fun z => z.elim id fun z => z ▸ hm⟩) (Nat.le_succ _)
    exact q
  | none =>
    dsimp only
    have hn : x ∉ es.toList.map txOf := fun hm => by
      obtain ⟨e, he, hx⟩ := List.mem_map.mp hm
      have z := List.findIdx?_eq_none_iff.mp hf e he
      rw [(is_tx S.els he x).mpr hx] at z
      cases z
    have hp := layNew_perm t es ((PySem.strKind prog w).hash x) (Value.str x tk)
    have hfi := layNew_fits t es ((PySem.strKind prog w).hash x) (Value.str x tk)
    have hl := lay_led t es ((PySem.strKind prog w).hash x) (Value.str x tk)
    have hpl := lay_plain t es ((PySem.strKind prog w).hash x) (Value.str x tk)
    generalize layNew t es ((PySem.strKind prog w).hash x) (Value.str x tk) = L at hp hfi hl hpl ⊢
    obtain ⟨e1, t1, wd, gv⟩ := L
    dsimp only at hp hfi hl hpl ⊢
    rw [Array.toList_push] at hp
    have h1 : ElemsOf (PySem.strKind prog w) e1.toList := (S.els.push hk hsc).perm hp
    have hz : e1.size = es.size + 1 := by rw [← Array.length_toList, hp.length_eq, List.length_append, Array.length_toList]; rfl
    have hm : List.Perm (e1.toList.map txOf) (es.toList.map txOf ++ [x]) := by
      have q := hp.map txOf
      rw [List.map_append] at q
      exact q
    have h6 : (e1.toList.map txOf).Nodup := hm.nodup_iff.mpr (by
      rw [List.nodup_append]
      refine ⟨S.nod, by simp, fun y hy z hz => ?_⟩
      rw [List.mem_singleton] at hz
      subst hz
      exact fun e => hn (e ▸ hy))
    have hg : ∀ (b : Bool) (s₁ : Shared) (Q' : Unit → Shared → Prop), Q' () s₁ → wpAny (model prog w) A (match b with | true => rule "set.scan.the-table-gave-way" | false => pure ()) Q' E s₁ :=
      fun b s₁ Q' hq => by cases b <;> first | exact wpAny_pure hq | exact wpAny_rule hq
    have hend : ∀ h' e2 ep' t', Heap.SameBut a s.heap h' → TxSet prog w h' a e2 ep' t' → List.Perm e2.toList e1.toList → Q true { s with heap := h' } := fun h' e2 ep' t' b S' p =>
      h true h' e2 ep' t' b S' (fun y => by rw [((p.map txOf).trans hm).mem_iff, List.mem_append, List.mem_singleton]) (by rw [← Array.length_toList, p.length_eq, Array.length_toList, hz]; exact Nat.le_refl _)
    refine wpAny_bind (hg gv _ _ ?_)
    split
    · refine wpAny_bind ?_
      rw [hashByValue_scannable 8 hsc]
      refine wpAny_pure ?_
      simp only [plainKind, Bool.false_eq_true, ↓reduceIte]
      refine add_tail ?_ S.get h1 (SetTable.fits_plain_off hfi) (by rw [hz]; exact hr) rfl (hl.trans S.led) h6 ?_
      · intro b s₁ Q' hq; cases b <;> first | exact wpAny_pure hq | exact wpAny_rule hq
      · intro h' e2 ep' t' b S' p; exact wpAny_pure (hend h' e2 ep' t' b S' p)
    · rename_i hpn
      refine wpAny_bind (wpAny_pure ?_)
      simp only [↓reduceIte]
      refine add_tail ?_ S.get h1 hfi (by rw [hz]; exact hr) (by simpa using hpn) (hl.trans S.led) h6 ?_
      · intro b s₁ Q' hq; cases b <;> first | exact wpAny_pure hq | exact wpAny_rule hq
      · intro h' e2 ep' t' b S' p; exact wpAny_pure (hend h' e2 ep' t' b S' p)
end
section
variable {prog : Program} {w : World} {A : Around} {R : Result → Shared → Prop} {I : Addr} {fp wr : List Addr} {G : Array GenState → Array GenState → Prop} {n : Nat} {P : Nat → Value → Prop} {St : Nat → Shared → Prop}
theorem upd_loop (W : WalksS prog w A.in1 I fp wr G n P St) (a : Addr) (haf : a ∉ fp) (xs : List Str) (hxs : xs.length = n) (hv : ∀ i v, P i v → ∃ x t, xs[i]? = some x ∧ v = .str x t) (hb : n + 1 < scanBound) :
    ∀ (k i : Nat) (s : Shared) (es : Array (Int × Value)) (ep : Nat) (t : SetTable), n - i = k → i ≤ n → St i s → TxSet prog w s.heap a es ep t → (∀ y, y ∈ es.toList.map txOf ↔ y ∈ xs.take i) → es.size ≤ i →
      (∀ s' es' ep' t', Moved (a :: wr) G s s' → TxSet prog w s'.heap a es' ep' t' → (∀ y, y ∈ es'.toList.map txOf ↔ y ∈ xs) → R (.ok (.ret .none)) s') →
      codeAny (model prog w) A (.builtin "set.update.loop" ⟨[.ref a, .ref I], []⟩) R s := by
  have haw : a ∉ wr := fun h => haf (W.sub _ h)
  have sub1 : ∀ b ∈ wr, b ∈ a :: wr := fun b hb => List.mem_cons_of_mem _ hb
  intro k
  induction k with
  | zero =>
    intro i s es ep t hk hi hst S hm hz hR
    have e : i = n := by omega
    subst e
    refine codeAny_builtin PyProof.Rows.F.entry_set_update_loop ?_
    rw [Around.under_plainId PyProof.Rows.F.plain_set_update_loop _]
    show wpAny _ A.in1 (pyNext (.ref I) >>= _) _ _ s
    refine wpAny_bind (W.done s _ _ hst fun s' mv => ?_)
    refine wpAny_pure (hR s' es ep t (mv.mono sub1) { S with get := mv.heap a _ haw S.get } fun y => ?_)
    rw [hm y, List.take_of_length_le (by rw [hxs]; exact Nat.le_refl _)]
  | succ k ih =>
    intro i s es ep t hk hi hst S hm hz hR
    have hlt : i < n := by omega
    refine codeAny_builtin PyProof.Rows.F.entry_set_update_loop ?_
    rw [Around.under_plainId PyProof.Rows.F.plain_set_update_loop _]
    show wpAny _ A.in1 (pyNext (.ref I) >>= _) _ _ s
    refine wpAny_bind (W.item i s _ _ hlt hst fun v s' hP hst' mv => ?_)
    obtain ⟨x, tk, hx, rfl⟩ := hv i v hP
    have S' : TxSet prog w s'.heap a es ep t := { S with get := mv.heap a _ haw S.get }
    show wpAny _ A.in1 (holding [Value.str x tk] (setAdd a (.str x tk)) >>= _) _ _ s'
    refine wpAny_bind (wpAny_holding ?_)
    unfold setAdd
    refine wpAny_holding ?_
    refine wpAny_bind ((PySem.strKind prog w).pyHash (k := x) (by show Value.isStrOf x (Value.str x tk) = true; simp [Value.isStrOf]) ?_)
    refine add_text (s := { s' with toks := s'.toks + 1 }) S' (by omega) fun b h' es' ep' t' sb S2 hm2 hz2 => ?_
    refine wpAny_pure ⟨plainId_quiet PyProof.Rows.F.plain_set_update_loop _, ih (i + 1) _ es' ep' t' (by omega) hlt (W.frame _ s' _ _ hst' (Nat.le_succ _) fun b hb o e => ?_) S2 (fun y => ?_) (by omega) fun s'' e3 ep3 t3 mv3 S3 hm3 => ?_⟩
    · rw [sb.2 b (fun h : b = a => haf (by rw [← h]; exact hb))]; exact e
    · rw [hm2 y, hm y, List.take_add_one, hx, List.mem_append]
      simp
    · refine hR s'' e3 ep3 t3 (Moved.trans W.gtrans ((mv.mono sub1).then_heap (Nat.le_succ _) fun b o hb e => ?_) mv3) S3 hm3
      rw [sb.2 b (fun h : b = a => hb (by rw [h]; exact List.mem_cons_self))]; exact e
end
section
variable {prog : Program} {w : World} {A : Around} {E : Value → Shared → Prop} {s : Shared}
abbrev freshSet (w : World) : Obj := { cls := .type "set", dict := none, data := .set #[] 0 (.fresh 0 0 (!byTx w)) }
theorem new_set (a : Value) {Q₁ : Value → Shared → Prop} (h : Q₁ (.ref s.heap.objs.size) { s with heap := s.heap.push (freshSet w) }) :
    codeAny (model prog w) A (.call (.builtin "set.__new__") ⟨[.type "set", a], []⟩) (wants Q₁ E) s := by
  refine codeAny_of_tree ?_
  show wpAny _ A.in1 (do checkBuiltinCall "set.__new__" ⟨[.type "set", a], []⟩; again (.builtin "set.__new__" ⟨[.type "set", a], []⟩)) _ _ s
  refine wpAny_bind (wpAny_of_eq (F.newCall_set_1 a) (wpAny_pure ⟨plainId_quiet F.plain_set_new _, codeAny_builtin F.entry_set_new ?_⟩))
  rw [Around.under_plainId F.plain_set_new _]
  unfold Builtin.«set.__new__» Builtin.Frozenset.newClass
  have hsub := sub_set_self
  obtain ⟨hp, g, d, tk, os⟩ := s
  dsimp only
  wp_walk
  refine wpAny_askSetting (wpAny_pure ?_)
  dsimp only
  simp only [newObj]
  refine wpAny_bind (wpAny_alloc (wpAny_pure ?_))
  exact wpAny_pure h
end
section
variable {prog : Program} {w : World} {A : Around} {E : Value → Shared → Prop} {s : Shared}
theorem txs_at {vs : List Value} {xs : List Str} (h : StrsAre vs xs) : ∀ (i : Nat) (v : Value), vs[i]? = some v → ∃ x t, xs[i]? = some x ∧ v = .str x t := by
  induction h with
  | nil => intro i v e; simp at e
  | cons x t h ih =>
    intro i v e
    cases i with
    | zero => simp at e; exact ⟨x, t, rfl, e.symm⟩
    | succ i => simp only [List.getElem?_cons_succ] at e ⊢; exact ih i v e
theorem txs_len {vs : List Value} {xs : List Str} (h : StrsAre vs xs) : xs.length = vs.length := by
  induction h with
  | nil => rfl
  | cons x t h ih => simp [ih]
theorem call_set_texts {l : Addr} {items : Array Value} {xs : List Str} {Q : Value → Shared → Prop} (hh : A.handled = none) (hl : s.heap.IsList l items) (hi : StrsAre items.toList xs) (hb : items.size + 1 < scanBound)
    (h : ∀ (h' : Heap) (tk : Nat) es ep t, TxSet prog w h' s.heap.objs.size es ep t → (∀ y, y ∈ es.toList.map txOf ↔ y ∈ xs) →
      (∀ b o, s.heap.get? b = some o → h'.get? b = some o) → Q (.ref s.heap.objs.size) { s with heap := h', toks := tk }) :
    wpAny (model prog w) A (call (.type "set") [.ref l]) Q E s := by
  obtain ⟨c, tl, hmro⟩ := F.called_set.mro
  have hmade := F.called_set.made
  have hsub := F.called_set.sub
  refine wpAny_call (codeAny_of_tree ?_)
  show wpAny _ _ (callAny (.type "set") _) _ _ _
  refine wpAny_pure ⟨Code.quiet_builtin _ (by decide +kernel), codeAny_builtin F.entry_type_call ?_⟩
  rw [Around.under_plain (weight_type_call_type "set" [.ref l] []) rfl]
  have h1 := F.called_set.notType
  have h2 := F.called_set.canCreate
  have hct := F.typeCall_set_1 (.ref l)
  repeat (any_goals (first | assumption | wp_step))
  refine codeAny_mono (new_set (.ref l) (E := E) (Q₁ := fun obj s₁ => obj = .ref s.heap.objs.size ∧ s₁ = { s with heap := s.heap.push (freshSet w) }) ⟨rfl, rfl⟩) fun r s₁ hr => ?_
  cases r with
  | error e => exact hr
  | ok fl =>
    cases fl with
    | ret obj =>
      obtain ⟨rfl, rfl⟩ := hr
      have hS : (s.heap.push (freshSet w)).get? s.heap.objs.size = some (freshSet w) := Heap.get?_push_size _ rfl
      have hT : Shared.TypeIs { s with heap := s.heap.push (freshSet w) } (.ref s.heap.objs.size) "set" := ⟨_, hS, rfl⟩
      have hli := F.called_set.init.lookup
      have hbi := F.called_set.init.bind (.ref s.heap.objs.size)
      repeat (any_goals (first | assumption | wp_step))
      refine codeAny_mono (codeAny_call_builtin (R := wants (fun r s₂ => r = .none ∧ ∃ h' tk, s₂ = { s with heap := h', toks := tk } ∧ ∃ es ep t, TxSet prog w h' s.heap.objs.size es ep t ∧ (∀ y, y ∈ es.toList.map txOf ↔ y ∈ xs) ∧
          (∀ b o, s.heap.get? b = some o → h'.get? b = some o)) E) F.called_set.init.plain F.entry_set_init (check_set_init_1 hT ?_)) fun r₂ s₂ hr₂ => ?_
      · obtain ⟨ol, hol, hcl, nl, hdl⟩ := hl
        obtain ⟨ocls, odict, odata, oslots⟩ := ol
        simp only at hcl hdl
        subst hcl; subst hdl
        have hol' : (s.heap.push (freshSet w)).get? l = some { cls := .type "list", dict := odict, data := .seq items nl, slots := oslots } := Heap.get?_push_of_some _ hol
        have hsls := F.sub_list_set
        have hslf := F.sub_list_frozenset
        have hne : (Value.type "list" == Value.type "dict") = false := by decide
        have hl1 : (s.heap.push (freshSet w)).IsList l items := ⟨_, hol', rfl, nl, rfl⟩
        unfold Builtin.«set.__init__» noKeywords Builtin.Frozenset.updateFrom
        generalize hPI : pyIter = PI
        wp_walk
        subst hPI
        refine wpAny_pyIter_list hl1 ?_
        refine wpAny_bind (wpAny_runValue ?_)
        have hlS : l < s.heap.objs.size := Heap.lt_size hol
        have hh3 : A.in1.in1.in1.handled = none := by simp [hh]
        have hz : (s.heap.push (freshSet w)).objs.size = s.heap.objs.size + 1 := size_push' _ _
        have hneI : l ≠ (s.heap.push (freshSet w)).objs.size := by rw [hz]; exact Nat.ne_of_lt (Nat.lt_succ_of_lt hlS)
        have hSf : s.heap.objs.size ∉ [(s.heap.push (freshSet w)).objs.size, l] := by
          rw [hz]; simp only [List.mem_cons, List.mem_singleton, List.not_mem_nil, or_false, not_or]
          exact ⟨Nat.ne_of_lt (Nat.lt_succ_self _), Nat.ne_of_gt hlS⟩
        have hget : ((s.heap.push (freshSet w)).push { cls := .type "list_iterator", data := .fields #[.ref l, .int 0 0] }).get? s.heap.objs.size = some (freshSet w) := Heap.get?_push_of_some _ hS
        refine upd_loop ((Walks.list hh3 _ l hneI items).toS) s.heap.objs.size hSf xs (by rw [txs_len hi]; simp) (fun i v hv => txs_at hi i v (by rw [Array.getElem?_toList]; exact hv)) hb (items.size - 0) 0 _ #[] 0 (.fresh 0 0 (!byTx w)) (by omega) (Nat.zero_le _)
          ⟨⟨_, Heap.get?_push_size _ rfl, rfl, rfl⟩, (hl1.push _)⟩ ⟨hget, fun e he => by simp at he, by rfl, by decide, fun z => absurd rfl z, rfl, by simp⟩ (fun y => by simp) (by simp) ?hR
        intro s' es' ep' t' hm S' hm'
        obtain ⟨h', g', d', tk', os'⟩ := s'
        have eg : g' = s.gens := hm.gens
        have ed : d' = s.drawn := hm.drawn
        have eo : os' = s.os := hm.os
        subst eg; subst ed; subst eo
        show wpAny _ _ _ _ _ _
        refine wpAny_pure ?_
        show wpAny _ _ (ret Value.none) _ _ _
        refine wpAny_pure ⟨rfl, h', tk', rfl, es', ep', t', S', hm', fun b o e => ?_⟩
        have hb0 := Heap.lt_size e
        exact hm.heap b o (by simp only [List.mem_cons, List.mem_singleton, List.not_mem_nil, or_false, not_or]; exact ⟨Nat.ne_of_lt hb0, by rw [hz]; exact Nat.ne_of_lt (Nat.lt_succ_of_lt hb0)⟩) (Heap.get?_push_of_some _ (Heap.get?_push_of_some _ e))
      · cases r₂ with
        | error e => exact hr₂
        | ok fl₂ =>
          cases fl₂ with
          | ret r =>
            obtain ⟨rfl, h', tk, rfl, es', ep', t', S', hm', hk'⟩ := hr₂
            repeat (any_goals (first | assumption | wp_step))
            exact h _ _ _ _ _ S' hm' hk'
          | _ => exact hr₂.elim
    | _ => exact hr.elim
end
end L2
set_option Elab.async false
set_option linter.all false
set_option maxRecDepth 100000
set_option maxHeartbeats 4000000
namespace L2
open PySem PySem.Spec PyProof.Rows
/-! ### sets of texts, walked -/
section
variable {prog : Program} {w : World} {A : Around} {E : Value → Shared → Prop} {s : Shared}
end
section
variable {prog : Program} {w : World} {A : Around} {E : Value → Shared → Prop} {s : Shared}
end
end L2
set_option Elab.async false
set_option linter.all false
set_option maxRecDepth 100000
set_option maxHeartbeats 4000000
namespace L2
open PySem PySem.Spec PyProof.Rows
section
variable {prog : Program} {w : World} {A : Around} {E : Value → Shared → Prop} {s : Shared}
end
end L2
set_option Elab.async false
set_option linter.all false
set_option maxRecDepth 100000
set_option maxHeartbeats 4000000
namespace L2
open PySem PySem.Spec PyProof.Rows
section
variable {prog : Program} {w : World} {A : Around} {E : Value → Shared → Prop} {s : Shared}
end
end L2
set_option Elab.async false
set_option linter.all false
set_option maxRecDepth 100000
set_option maxHeartbeats 4000000
namespace L2
open PySem PySem.Spec PyProof.Rows
section
variable {prog : Program} {w : World} {A : Around} {E : Value → Shared → Prop} {s : Shared}
end
section
variable {X : Cx} {pins : List (Addr × Obj)} {s : Shared} {σ : St} {H : Hp}
theorem strs_vals {vs : List Value} : ∀ {xs : List Str}, Vals (xs.map V.str) vs → StrsAre vs xs := by
  intro xs h
  induction xs generalizing vs with
  | nil => cases h; exact .nil
  | cons x r ih =>
    cases h with
    | cons a b =>
      obtain ⟨t, rfl⟩ := a
      exact .cons x t (ih b)
/-- a set of texts -/
def setO (P : Program) (w : World) (a : Addr) (xs : List Str) : HO := .ext fun h => ∃ es ep t, TxSet P w h a es ep t ∧ ∀ y, y ∈ es.toList.map txOf ↔ y ∈ xs
theorem setO_ok {P : Program} {w : World} {H : Hp} {h : Heap} {a : Addr} {xs : List Str} {es : Array (Int × Value)} {ep : Nat} {t : SetTable} (S : TxSet P w h a es ep t) (m : ∀ y, y ∈ es.toList.map txOf ↔ y ∈ xs) : ObjOk P w H h a (setO P w a xs) :=
  ⟨⟨es, ep, t, S, m⟩, ⟨_, S.get⟩, fun h1 h2 ⟨es, ep, t, S, m⟩ k => ⟨es, ep, t, { S with get := k _ S.get }, m⟩⟩
theorem call_setT (hc : X.calm = true) : CallR X (.type "set") (fun xs H Q => ∃ (p : Addr) (ts : List Str), xs = [.ref p] ∧ SqL X.K H p (ts.map V.str) ∧ ts.length + 1 < scanBound ∧ ∀ q, H q = none → Q (.ref q) (upd H q (setO X.prog X.w q ts))) := by
  intro pins s σ H xs us Q I r h
  obtain ⟨p, ts, rfl, hq, hb, q⟩ := h
  obtain ⟨u, rfl, ru⟩ := vals1 r
  cases ru
  obtain ⟨its, rv, pl, hz⟩ := I.list hq
  have hS := strs_vals rv
  have hl := txs_len hS
  refine call_set_texts (I.ok.hd hc) pl.isList (xs := ts) (by simpa using hS) (by rw [List.size_toArray, ← hl]; exact hb) fun h' tk es ep t S m k => ?_
  have hf := I.hok.fresh (Nat.le_refl s.heap.objs.size)
  exact ⟨.ref s.heap.objs.size, _, I.laid k (Nat.le_refl _) (setO_ok S m), rfl, q _ hf⟩
end
end L2
set_option Elab.async false
set_option linter.all false
set_option maxRecDepth 100000
set_option maxHeartbeats 4000000
namespace WL
open PySem PySem.Spec PyProof.Rows L2
/-! ### sorted of a dict of texts, sorted of the set of a list of texts -/
theorem bt_set : bootBuiltins "set" = some (.type "set") := by decide +kernel
theorem of_strs {K : PySem.W.Frag} {H : Hp} : ∀ {ts : List Str} {ys : List V}, Reps K H ys (ts.map T.str) → ys = ts.map V.str
  | [], _, h => of_nil h
  | t :: ts, _, h => by
    obtain ⟨y, r, rfl, a, b⟩ := of_cons h
    rw [of_str a, of_strs b]; rfl
section
variable {X : Cx} {e : Expr} {we : WE} {pos p p2 pos2 : Pos}
end
end WL
set_option Elab.async false
set_option linter.all false
set_option maxRecDepth 100000
set_option maxHeartbeats 4000000
namespace L2
open PySem PySem.Spec PyProof.Rows
/-! ### for x in reversed(a list), the list as long as it was -/
def Itv (K : PySem.W.Frag) (a : Addr) (n : Nat) : It :=
  ⟨fun i H => i < n ∧ ∃ xs x, SqL K H a xs ∧ xs[n - 1 - i]? = some x, fun i H x H' => H' = H ∧ ∀ xs, SqL K H a xs → xs[n - 1 - i]? = some x, fun i H => i = n⟩
theorem turn_rev {P : Program} {w : World} {K : PySem.W.Frag} {tg : Expr} (a it : Addr) (n : Nat) : Turn P w K tg (Itv K a n) [it] it (fun i h => i ≤ n ∧ h.IsRevIter it a ((n : Int) - 1 - (i : Int))) where
  mem := by simp
  obj := fun i h st b hb => by
    have e : b = it := by simpa using hb
    subst e
    obtain ⟨_, o, e, c, d⟩ := st
    exact ⟨o, e, fun v z => by rw [d] at z; cases z⟩
  keep := fun i h h' st k => ⟨st.1, st.2.at fun o e => k it (by simp) o e⟩
  item := by
    intro X hP hw hK hc i pins s σ H E I hf st hg
    subst hP hw hK
    obtain ⟨hi, xs, x, hq, hx⟩ := hg
    obtain ⟨its, rv, p, hz⟩ := I.list hq
    obtain ⟨u, hu, ru⟩ := rv.get hx
    obtain ⟨f0, f1, f2, f3, f4, f5⟩ := hf it (by simp)
    have e1 : (n : Int) - 1 - (i : Int) = ((n - 1 - i : Nat) : Int) := by omega
    have hit := st.2
    rw [e1] at hit
    refine wpAny_pyNext_rev_item hit p.isList (x := u) (by simpa using hu) fun h' st' sb => ?_
    have I1 : Inv X pins σ H { s with heap := h' } := I.turned (t' := s.toks) (fun b o hb e => (sb.2 b hb).trans e) f0 f1 f3 f4 f5
    have e2 : ((n - 1 - i : Nat) : Int) - 1 = (n : Int) - 1 - ((i + 1 : Nat) : Int) := by omega
    rw [e2] at st'
    obtain ⟨o, e, c, d⟩ := id st'
    exact ⟨u, rfl, go_of (s := { s with heap := h' }) e c d (by decide) ⟨x, H, I1, ru, ⟨rfl, fun ys hy => by rw [I.list_inj hy hq]; exact hx⟩, ⟨hi, st'⟩, fun b hb => (hf b hb).1⟩⟩
  done := by
    intro X hP hw hK hc i pins s σ H E I hf st hg
    subst hP hw hK
    have e : i = n := hg
    subst e
    obtain ⟨f0, f1, f2, f3, f4, f5⟩ := hf it (by simp)
    have hit := st.2
    rw [show (i : Int) - 1 - (i : Int) = -1 by omega] at hit
    exact wpAny_pyNext_rev_end (I.ok.hd hc) hit fun h' eb => ⟨rfl, I.turned (t' := s.toks) (fun b o hb e => eb b o hb e) f0 f1 f3 f4 f5⟩
  self := fun _ _ _ _ _ st h => wpAny_pyIter_revIter st.2 h
section
variable {X : Cx} {tg : Expr}
def iRev (K : PySem.W.Frag) (ta : TA) : TI := fun σ H R => ta σ H fun vs H1 => ∃ a xs, vs = [.ref a] ∧ SqL K H1 a xs ∧ R (Itv K a xs.length) H1
theorem pi_rev {a : Expr} {ta : TA} {p pos : Pos} (hg : Gl X "reversed") (hm : X.mg "reversed" = none) (ha : PA X [a] ta) (hs : starEach [a] X.env = [(false, eval a X.env)] := by rfl) (hb : bootBuiltins "reversed" = some (.type "reversed") := by decide +kernel) :
    PI X tg (.Call (.Name "reversed" p) [a] [] pos) (iRev X.K ta) := by
  intro pins s σ H R I h
  refine Call_ (ld_blt I hg hm hb (PyProof.Rows.callWith_type1 (thn (ha pos pins s σ H _ I h) fun us s1 ⟨vs, H1, I1, r1, q1⟩ => ?_) hs rfl))
  obtain ⟨l, xs, e, hq, q⟩ := q1
  subst e
  obtain ⟨u, rfl, ru⟩ := vals1 r1
  cases ru
  obtain ⟨its, rv, pl, hz⟩ := I1.list hq
  have hl : its.length = xs.length := by have := rv.length; omega
  refine call_reversed_list pl.isList ?_
  have hit : (s1.heap.push (revObj l ((its.toArray.size : Int) - 1))).IsRevIter s1.heap.objs.size l ((xs.length : Int) - 1 - ((0 : Nat) : Int)) := by
    refine ⟨_, Heap.get?_push_size _ rfl, rfl, ?_⟩
    rw [List.size_toArray, hl]; simp [revObj]
  refine wpAny_pyIter_revIter (s := { s1 with heap := s1.heap.push (revObj l ((its.toArray.size : Int) - 1)) }) hit ?_
  refine ⟨s1.heap.objs.size, [s1.heap.objs.size], _, _, H1, rfl, I1.kept (t' := s1.toks) fun b o e => Heap.get?_push_of_some _ e, turn_rev l _ xs.length, ⟨Nat.zero_le _, hit⟩, fun b hb => ?_, q⟩
  have e : b = s1.heap.objs.size := by simpa using hb
  subst e
  exact I1.fpOk (Nat.le_refl _) (I1.hok.fresh (Nat.le_refl _))
end
end L2
set_option Elab.async false
set_option linter.all false
set_option maxRecDepth 100000
set_option maxHeartbeats 4000000
namespace WL
open PySem PySem.Spec PyProof.Rows L2
/-! ### for x in reversed(a list) -/
def iRv (a : WA) : WI := fun τ C R χ => a τ C (fun vs C1 => ∃ l xs, vs = [.ref l] ∧ C1 l = some (.lst xs) ∧ R xs.reverse (fun C2 => C2 l = some (.lst xs)) C1) χ
theorem it_rev {K : PySem.W.Frag} {F H0 : Hp} {l : Addr} {xs : List T} : ItRel K F H0 (Itv K l xs.length) xs.reverse (fun C => C l = some (.lst xs)) := fun i H C R t ok => by
  obtain ⟨ys, hy, r⟩ := R.lst ok
  refine ⟨fun hi => ?_, fun hi => by show i = xs.length; rw [hi, List.length_reverse]⟩
  rw [List.length_reverse] at hi
  have ev : xs[xs.length - 1 - i]? = some (xs[xs.length - 1 - i]'(by omega)) := List.getElem?_eq_getElem (by omega)
  obtain ⟨y, ey, ry⟩ := r.get ev
  refine ⟨⟨hi, ys, y, SqL.of hy, ey⟩, fun x H' h => ?_⟩
  obtain ⟨rfl, h⟩ := h
  have e2 := h ys (SqL.of hy)
  rw [ey] at e2; cases e2
  exact ⟨_, by rw [List.getElem?_reverse hi]; exact ev, R, Tx.refl _, ry⟩
section
variable {X : Cx} {tg a : Expr} {wA : WA} {pos p : Pos}
theorem di_rev (hg : Gl X "reversed") (hm : X.mg "reversed" = none) (ha : SdA X [a] wA) (hs : starEach [a] X.env = [(false, eval a X.env)] := by rfl) : SdI X tg (.Call (.Name "reversed" p) [a] [] pos) (iRv wA) := by
  obtain ⟨t, p1, s1⟩ := ha
  refine ⟨_, pi_rev hg hm p1 hs, fun F H C σ τ R R' χ Rr S h q => ?_⟩
  refine s1 F H C σ τ _ _ χ Rr S h fun xs vs H1 C1 R1 t1 rs h1 => ?_
  obtain ⟨l, us, rfl, hC, h1⟩ := h1
  obtain ⟨x, rfl, rx⟩ := of_one rs
  cases of_ref rx
  obtain ⟨ys, hy, r⟩ := R1.lst hC
  refine ⟨l, ys, rfl, SqL.of hy, ?_⟩
  rw [r.length]
  exact q _ H1 us.reverse _ C1 R1 t1 (fun _ => it_rev) h1
end
end WL
set_option Elab.async false
set_option linter.all false
set_option maxRecDepth 100000
set_option maxHeartbeats 4000000
/-! texts joined -/
namespace L2
open PySem PySem.Spec PyProof.Rows
section
variable {X : Cx}
theorem strs_of : ∀ {zs : List Str} {us : List Value}, Vals (zs.map V.str) us → StrsAre us zs
  | [], us, h => by rw [h.zero]; exact .nil
  | z :: zs, us, h => by
    cases h with
    | cons a b => obtain ⟨t, rfl⟩ := a; exact .cons z t (strs_of b)
def rJoin (K : PySem.W.Frag) : V → List V → Hp → VK → Prop := fun x vs H Q => ∃ z p zs, x = .str z ∧ vs = [.ref p] ∧ SqL K H p (zs.map V.str) ∧ z.length ≤ 16 ∧ (zs.map (·.length)).sum + zs.length ≤ 1048576 ∧ Q (.str (Txt.join z zs)) H
theorem mt_join : MtR X "str.join" (rJoin X.K) := by
  intro pins s σ H x vs v us Q I rx rv h
  obtain ⟨z, p, zs, rfl, rfl, hq, h1, h2, q⟩ := h
  obtain ⟨t, rfl⟩ := rx
  obtain ⟨u, rfl, ru⟩ := vals1 rv
  cases ru
  obtain ⟨its, rI, pl, hz⟩ := I.list hq
  exact join_listW pl.isList (strs_of rI) h1 h2 fun t' k => ⟨.str _, H, I.tok _, ⟨_, rfl⟩, q⟩
end
end L2
set_option Elab.async false
set_option linter.all false
set_option maxRecDepth 100000
set_option maxHeartbeats 4000000
/-! the second level: join -/
namespace WL
open PySem PySem.Spec PyProof.Rows L2
section
variable {X : Cx}
theorem reps_strs' {K : PySem.W.Frag} {H : Hp} : ∀ {bs : List Str} {ys : List V}, Reps K H ys (bs.map T.str) → ys = bs.map V.str
  | [], _, h => of_nil h
  | b :: bs, _, h => by obtain ⟨y, r, rfl, a, c⟩ := of_cons h; cases of_str a; rw [reps_strs' c]; rfl
def mJoin : T → List T → Hw → WK → Prop := fun x vs C Q => ∃ z p zs, x = .str z ∧ vs = [.ref p] ∧ C p = some (.lst (zs.map T.str)) ∧ z.length ≤ 16 ∧ (zs.map (·.length)).sum + zs.length ≤ 1048576 ∧ Q (.str (Txt.join z zs)) C
theorem m_join : MtS X "str.join" mJoin := ⟨_, mt_join, fun F H C x v xs vs Q Q' R rx rs h q => by
  obtain ⟨z, p, zs, rfl, rfl, hx, h1, h2, h⟩ := h
  cases of_str rx
  obtain ⟨y, rfl, ry⟩ := of_one rs
  cases of_ref ry
  obtain ⟨ys, hy, r⟩ := R.lst hx
  cases reps_strs' r
  exact ⟨z, p, zs, rfl, rfl, SqL.of hy, h1, h2, q _ _ H C R (Tx.refl H) rep_str h⟩⟩
end
end WL
set_option Elab.async false
set_option linter.all false
set_option maxRecDepth 100000
set_option maxHeartbeats 4000000
/-! list(reversed(a list)) -/
namespace L2
open PySem PySem.Spec PyProof.Rows
section
variable {prog : Program} {w : World} {A : Around} {E : Value → Shared → Prop} {s : Shared} {it l : Addr} {i : Int}
end
section
variable {X : Cx}
end
end L2
set_option Elab.async false
set_option linter.all false
set_option maxRecDepth 100000
set_option maxHeartbeats 4000000
/-! texts: join of a written text, replace by written texts -/
namespace L2
open PySem PySem.Spec PyProof.Rows
section
variable {X : Cx}
/-- as PE, and some token was given by then -/
def PEp (X : Cx) (e : Expr) (t : TE) : Prop :=
  ∀ (pins : List (Addr × Obj)) (s : Shared) (σ : St) (H : Hp) (Q : VK), Inv X pins σ H s → t σ H Q → wpAny (model X.prog X.w) X.A (eval e X.env) (fun v s' => 1 ≤ s'.toks ∧ EP X pins σ Q v s') X.xe s
theorem tok1 {α : Type} {t : Sem α} {Q : α → Shared → Prop} {M : Model} {A : Around} {E : Value → Shared → Prop} {s : Shared} (h1 : 1 ≤ s.toks) (h : wpAny M A t Q E s) : wpAny M A t (fun a s' => 1 ≤ s'.toks ∧ Q a s') E s :=
  wpAny_mono (wpAny_toks_of h1 h) (fun _ _ z => z) fun _ _ z => z.2
variable {o e : Expr} {es : List Expr} {to : TE} {t : TA} {apos cpos : Pos} {z y : Str} {k k1 k2 : Nat} {lp lp1 lp2 : Pos}
end
end L2
set_option Elab.async false
set_option linter.all false
set_option maxRecDepth 100000
set_option maxHeartbeats 4000000
/-! the second level: extend, list(reversed(a list)), str(a text), replace -/
namespace WL
open PySem PySem.Spec PyProof.Rows L2
section
variable {X : Cx} {e o : Expr} {we wo : WE} {p p2 pos pos2 apos cpos : Pos}
/-- list(reversed(e)) -/
def eLRev (e : WE) : WE := fun τ C Q χ => e τ C (fun x C1 => ∃ a xs, x = .ref a ∧ C1 a = some (.lst xs) ∧ ∀ p, C1 p = none → Q (.ref p) (up C1 p (.lst xs.reverse))) χ
theorem call_str_str : CallR X (.type "str") (fun xs H Q => ∃ z, xs = [.str z] ∧ Q (.str z) H) := by
  intro pins s σ H xs us Q I r h
  obtain ⟨z, rfl, q⟩ := h
  obtain ⟨u, rfl, t, rfl⟩ := vals1 r
  exact PySem.P.str_of_str ⟨.str z, H, I, ⟨_, rfl⟩, q⟩
/-- str(a number or a text) -/
def bStr2 : List T → Hw → WK → Prop := fun vs C Q => (∃ i : Int, vs = [.int i] ∧ i.natAbs.log2 < 1920 ∧ Q (.str (toString i)) C) ∨ ∃ z, vs = [.str z] ∧ Q (.str z) C
theorem b_str2 : CallS X (.type "str") bStr2 := ⟨_, call_str_int.or call_str_str, fun F H C xs vs Q Q' R rs h q => by
  rcases h with ⟨j, rfl, hl, h⟩ | ⟨z, rfl, h⟩
  · obtain ⟨x, rfl, rx⟩ := of_one rs
    cases of_int rx
    exact .inl ⟨j, rfl, hl, q _ _ H C R (Tx.refl H) rep_str h⟩
  · obtain ⟨x, rfl, rx⟩ := of_one rs
    cases of_str rx
    exact .inr ⟨z, rfl, q _ _ H C R (Tx.refl H) rep_str h⟩⟩
/-- as SdE, some token given -/
def SdP (X : Cx) (e : Expr) (w : WE) : Prop := ∃ t, PEp X e t ∧ SimE X.K t w
/-- o.replace(y, z) -/
def eRepl (y z : Str) (o : WE) : WE := fun τ C Q χ => o τ C (fun x C1 => ∃ u, x = .str u ∧ u.length ≤ 1048576 ∧ Q (.str (Txt.replace u y z)) C1) χ
end
end WL
set_option Elab.async false
set_option linter.all false
set_option maxRecDepth 100000
set_option maxHeartbeats 4000000
/-! dicts compared: of unlike sizes, or the same keys in the same order and alike values -/
namespace L2
open PySem PySem.Spec PyProof.Rows
section
variable {prog : Program} {w : World} {A : Around} {E : Value → Shared → Prop} {s : Shared} {a b : Addr} {oa ob : Obj} {ea eb : Array DictEntry} {pa pb : Nat}
end
end L2
set_option Elab.async false
set_option linter.all false
set_option maxRecDepth 100000
set_option maxHeartbeats 4000000
/-! zip of a tuple and a list, of two tuples: both of one length -/
namespace L2
open PySem PySem.Spec PyProof.Rows
section
variable {prog : Program} {w : World} {A : Around} {E : Value → Shared → Prop} {s : Shared}
end
/-- what stands apart -/
structure ZAp (z TI TO i1 i2 : Addr) (f1 f2 : List Addr) : Prop where
  m1 : i1 ∈ f1
  m2 : i2 ∈ f2
  z1 : z ∉ f1
  z2 : z ∉ f2
  o1 : TO ∉ f1
  o2 : TO ∉ f2
  a12 : i1 ∉ f2
  a21 : i2 ∉ f1
  tz : TI ≠ z
  oz : TO ≠ z
  io : TI ≠ TO
  t1 : TI ≠ i1
  t2 : TI ≠ i2
section
variable {prog : Program} {w : World} {A : Around} {E : Value → Shared → Prop} {s : Shared} {z TI TO i1 i2 : Addr} {f1 f2 : List Addr} {n : Nat} {P1 P2 : Nat → Value → Prop} {S1 S2 : Nat → Heap → Prop}
end
end L2
set_option Elab.async false
set_option linter.all false
set_option maxRecDepth 100000
set_option maxHeartbeats 4000000
/-! for a, b in zip(..) -/
namespace L2
open PySem PySem.Spec PyProof.Rows Builtin
abbrev itOb (c : String) (l : Addr) : Obj := { cls := .type c, data := .fields #[.ref l, .int 0 0] }
/-- what stands behind a zip made new -/
structure ZNew (h h2 : Heap) (c1 : String) (l1 : Addr) (c2 : String) (l2 : Addr) : Prop where
  zip : IsZip h2 (h.objs.size + 4) (h.objs.size + 2) (h.objs.size + 3) .none
  its : IsPair h2 (h.objs.size + 2) (.ref h.objs.size) (.ref (h.objs.size + 1))
  own : IsPair h2 (h.objs.size + 3) .none .none
  i1 : h2.get? h.objs.size = some (itOb c1 l1)
  i2 : h2.get? (h.objs.size + 1) = some (itOb c2 l2)
  keep : ∀ c o, h.get? c = some o → h2.get? c = some o
section
variable {prog : Program} {w : World} {A : Around} {E : Value → Shared → Prop} {s : Shared}
end
/-! ### the walk, by values -/
/-- the second one is a list (true) or a tuple -/
def SqX (b : Bool) (K : PySem.W.Frag) (H : Hp) (a : Addr) (xs : List V) : Prop := if b then SqL K H a xs else SqT K H a xs
section
variable {X : Cx} {pins : List (Addr × Obj)} {σ : St} {H : Hp} {s : Shared}
end
section
variable {X : Cx} {elts : List Expr} {ek : Nat} {epos : Pos}
end
end L2
set_option Elab.async false
set_option linter.all false
set_option maxRecDepth 100000
set_option maxHeartbeats 4000000
/-! the second level: any, dict(d), d.pop(k, x), dicts compared, zip -/
namespace L2
open PySem PySem.Spec PyProof.Rows
section
variable {X : Cx}
end
/-! keys found -/
section
variable {prog : Program} {w : World} {K : Type} [DecidableEq K] {knd : KeyKind prog w K}
end
end L2
namespace WL
open PySem PySem.Spec PyProof.Rows L2
section
variable {X : Cx} {e o a b f : Expr} {we wo wa wb wi wd : WE} {wA : WA} {p p2 pos pos2 apos cpos : Pos}
def dropT (kvs : List (Key × T)) (k : Key) : List (Key × T) := kvs.filter fun kv => decide (kv.1 ≠ k)
/-- o.pop(i, d) -/
def eDpop2 (o i d : WE) : WE := fun τ C Q χ => o τ C (fun x C1 => (∃ a kvs, x = .ref a ∧ C1 a = some (.dic kvs)) ∧ i τ C1 (fun y C2 => d τ C2 (fun z C3 => ∃ a kvs k, x = .ref a ∧ kT y = some k ∧ C3 a = some (.dic kvs) ∧
  (∀ v, getT kvs k = some v → Q v (up C3 a (.dic (dropT kvs k)))) ∧ (getT kvs k = none → Q z C3)) χ) χ) χ
/-! dicts compared -/
/-! ### zip -/
end
end WL
set_option Elab.async false
set_option linter.all false
set_option maxRecDepth 100000
set_option maxHeartbeats 4000000
/-! for k in a dict: from then on the dict is read alone -/
namespace L2
open PySem PySem.Spec PyProof.Rows
section
variable {X : Cx} {pins : List (Addr × Obj)} {σ : St} {H : Hp} {s : Shared}
end
def Itd (o : Obj) (d : Addr) (ks : List (Key × V)) : It :=
  ⟨fun i H => H d = some (.frz o (.dK ks)) ∧ i < ks.length, fun i H x H' => H' = H ∧ ∃ kv, ks[i]? = some kv ∧ x = kV kv.1, fun i H => H d = some (.frz o (.dK ks)) ∧ i = ks.length⟩
section
variable {X : Cx} {tg e : Expr}
/-- for k in e, e a dict -/
def iDic (td : TE) : TI := fun σ H R => td σ H fun x H1 => ∃ d ks, x = .ref d ∧ Rd H1 d (.dK ks) ∧ ∀ o, (∀ o', H1 d = some (.frz o' (.dK ks)) → o' = o) → R (Itd o d ks) (upd H1 d (.frz o (.dK ks)))
end
end L2
set_option Elab.async false
set_option linter.all false
set_option maxRecDepth 100000
set_option maxHeartbeats 4000000
/-! the second level: dicts that are read, walked -/
namespace WL
open PySem PySem.Spec PyProof.Rows L2
/-- a dict that may be read -/
def RdC (C : Hw) (a : Addr) (kvs : List (Key × T)) : Prop := C a = some (.dic kvs) ∨ C a = some (.fdic kvs)
section
variable {X : Cx} {e o a b c f i : Expr} {we wo wa wb wi wd : WE} {wA : WA} {p p2 pos pos2 apos cpos : Pos} {tg : Expr}
/-! reading -/
/-! ### for k in a dict -/
end
end WL
set_option Elab.async false
set_option linter.all false
set_option maxRecDepth 100000
set_option maxHeartbeats 4000000
/-! the second level: get with one argument of a dict that is read -/
namespace WL
open PySem PySem.Spec PyProof.Rows L2
section
variable {X : Cx} {e o : Expr} {we wo wi : WE} {apos cpos : Pos}
end
end WL
set_option Elab.async false
set_option linter.all false
set_option maxRecDepth 100000
set_option maxHeartbeats 4000000
/-! the second level: objects of own classes -/
namespace WL
open PySem PySem.Spec PyProof.Rows L2
/-! ### attributes -/
def putFT (f : Str) (v : T) : List (Str × T) → List (Str × T)
  | [] => [(f, v)]
  | (g, x) :: r => if g = f then (g, v) :: r else (g, x) :: putFT f v r
section
variable {K : PySem.W.Frag} {H : Hp}
end
/-- the class of the name -/
abbrev ClsAt (K : PySem.W.Frag) (cn : Str) (Cl : Addr) : Prop := PySem.W.nsIn K mainGlobals cn = some (some (.ref Cl))
/-- what a class must have, and no class of it has the name f -/
structure KF (K : PySem.W.Frag) (f cn : Str) : Prop where
  ex : ∃ Cl, ClsAt K cn Cl ∧ Cls K Cl ∧ NoAttr K Cl f
def eFld (cs : List Str) (f : Str) (o : WE) : WE := fun τ C Q χ => o τ C (fun x C1 => ∃ a cn fs v, x = .ref a ∧ C1 a = some (.ins cn fs) ∧ cn ∈ cs ∧ fs.lookup f = some v ∧ Q v C1) χ
def gFd (cs : List Str) (f : Str) (o : WE) : WG := fun v τ C Q χ => o τ C (fun x C1 => ∃ a cn fs, x = .ref a ∧ C1 a = some (.ins cn fs) ∧ cn ∈ cs ∧ fs.length < 1000 ∧ Q τ (up C1 a (.ins cn (putFT f v fs)))) χ
theorem Rl.ins {K : PySem.W.Frag} {F H : Hp} {C : Hw} (R : Rl K F H C) {a : Addr} {cn : Str} {fs : List (Str × T)} (h : C a = some (.ins cn fs)) : ∃ Cl dx ks, ClsAt K cn Cl ∧ H a = some (.ins Cl dx ks) ∧ PR K H ks fs := R.obj a _ h
section
variable {X : Cx} {e o value : Expr} {we wo wv : WE} {f : Str} {cs : List Str} {pos pos' apos cpos : Pos}
end
/-! ### methods -/
/-- o.m(..), by the class of o -/
def tMethD (MT : Addr → L2.Sp → Prop) (m : Str) (E : XK) (ta : TE) (t : TA) : TE := fun σ H Q => ta σ H fun x H1 => ∃ a C dx fs sp, x = .ref a ∧ H1 a = some (.ins C dx fs) ∧ MT C sp ∧ fs.lookup m = none ∧ t σ H1 fun vs H2 => sp (x :: vs) H2 Q E
section
variable {X : Cx} {k : Nat} {E : XK} {m : Str} {p pos apos : Pos} {e o : Expr} {es : List Expr} {ta : TE} {t : TA} {MT : Addr → L2.Sp → Prop}
end
/-- a method's promise -/
def Cm (P : Program) (w : World) (K : PySem.W.Frag) (mg : Str → Option Value) (base : Heap) (n : Nat) (cn m : Str) (ps : List Str) (sp : L2.Sp) : Prop :=
  ∃ Cl f fd, ClsAt K cn Cl ∧ Cls K Cl ∧ Meth K Cl m f ∧ FnOk P w K mg base CX0 n f fd ps sp ∧ Binds K fd ps []
/-- the methods of the name m, by classes -/
def MTb (P : Program) (w : World) (K : PySem.W.Frag) (mg : Str → Option Value) (base : Heap) (n : Nat) (pr : List Df) (m : Str) (tb : List (Str × Nat)) : Prop := ∀ cn i, tb.lookup cn = some i → ∃ ps, Cm P w K mg base n cn m ps (spW K pr n i)
section
variable {P : Program} {w : World} {K : PySem.W.Frag} {mg : Str → Option Value} {base : Heap} {n : Nat} {pr : List Df} {m : Str} {tb : List (Str × Nat)}
end
def eMth (P : Calls) (tb : List (Str × Nat)) (m : Str) (o : WE) (a : WA) : WE := fun τ C Q χ => o τ C (fun x C1 => ∃ ad cn fs i, x = .ref ad ∧ C1 ad = some (.ins cn fs) ∧ tb.lookup cn = some i ∧ fs.lookup m = none ∧ a τ C1 (fun vs C2 => P i (x :: vs) C2 Q χ) χ) χ
section
variable {X : Cx} {k : Nat} {m : Str} {p pos apos : Pos} {e o : Expr} {es : List Expr} {wo : WE} {wA : WA} {tb : List (Str × Nat)} {pr : List Df}
end
/-! ### a class called -/
/-- the def that makes an object: it is no def of the text -/
def wNew (cn : Str) (i : Nat) (P : Calls) : WS := fun D τ C => ∃ vs, τ = vs.map some ∧ ∀ p, C p = none → P i (.ref p :: vs) (up C p (.ins cn [])) (fun v C2 => v = .non ∧ D.rt (.ref p) C2) D.xc
/-- a class's promise: the j-th def makes its objects, the i-th is __init__ -/
def Cn (P : Program) (w : World) (K : PySem.W.Frag) (mg : Str → Option Value) (base : Heap) (n : Nat) (pr : List Df) (cn : Str) (i j : Nat) : Prop :=
  (∃ ar, pr[j]? = some ⟨ar, ar, wNew cn i⟩) ∧ ∃ Cl f, ClsAt K cn Cl ∧ mg cn = some (.ref Cl) ∧ L2.Mk K Cl f ∧ (n = 0 ∨ ∃ k fd ps, n = k + 1 ∧ FnOk P w K mg base CX0 k f fd ps (spW K pr k i) ∧ Binds K fd ps [])
section
variable {X : Cx} {k i j : Nat} {cn : Str} {p pos : Pos} {e : Expr} {es : List Expr} {wA : WA} {pr : List Df}
end
/-! ### the promises -/
theorem fn_okQ {P : Program} {w : World} {K : PySem.W.Frag} {mg : Str → Option Value} {base : Heap} {x qual : Str} {st : Stmt} {f : Addr} {fd : FuncData} {N ps : List Str} {pr : List Df} {n i : Nat} {d : Df} (F : Fun K x qual st f fd) (S : FnScope N ps (defScope st)) (hd : pr[i]? = some d) (hn : d.n = N.length) (har : d.ar = ps.length)
    (hb : ∀ (cdv : Value) (A : Around) (outer : List Env) (s : Shared) (H : Hp) (E : XK), Room n (A.deeper (envOfC qual (defScope st) s.heap.objs.size f cdv)) → SdB (cxOf CX0 P w K mg base N qual (defScope st) f cdv A outer s H E).nox (defBody st) (d.body (wpc pr n))) :
    FnOk P w K mg base CX0 (n + 1) f fd ps (spW K pr (n + 1) i) := by
  refine F.ok S (fun vs H Q E h => ?_) (fun cdv A outer s H vs Q E hr h => ?_)
  · obtain ⟨F', C, vs', Q', χ, R, rs, ⟨d', e1, e2, _⟩, _⟩ := h
    rw [hd] at e1; cases e1
    rw [rs.length, e2, har]
  · obtain ⟨F', C, vs', Q', χ, R, rs, ⟨d', e1, e2, h⟩, q⟩ := h
    rw [hd] at e1; cases e1
    obtain ⟨t, p, sm⟩ := hb cdv A outer s H E hr
    refine ⟨t, p, sm F' H C _ _ _ _ R (RepS.start rs N _ (by rw [rs.length, e2, hn])) h ⟨fun σ τ H' C' R' t' _ h' => q .non .non H' C' R' t' rep_non h', q, fun _ _ _ _ _ _ _ z => z.elim, fun _ _ _ _ _ _ _ z => z.elim⟩⟩
/-- what of the text a class must have -/
structure Kl (K : PySem.W.Frag) (mg : Str → Option Value) (cn : Str) (Cl : Addr) : Prop where
  at_ : ClsAt K cn Cl
  mg : mg cn = some (.ref Cl)
  cls : Cls K Cl
/-- a tuple of the module -/
theorem rep_ktup {K : PySem.W.Frag} {H : Hp} {a : Addr} {its : Array Value} {n : Nat} {sl : Array (Option Value)} {od : Option Addr} {xs : List V} {ts : List T} (l : K.lookup a = some ⟨.type "tuple", od, .seq its n, sl⟩) (hz : its.size ≤ sizeLine) (v : Vals xs its.toList) (r : Reps K H xs ts) : Rep K H (.ref a) (.tup ts) :=
  rep_tup (.inr ⟨_, its, n, l, rfl, rfl, hz, v⟩) r
end WL
set_option Elab.async false
set_option linter.all false
set_option maxRecDepth 100000
set_option maxHeartbeats 4000000
/-! the second level: == of tuples and lists with lists in them; calls with defaults -/
namespace WL
open PySem PySem.Spec PyProof.Rows L2
/-- v == w is b, nested at most n deep -/
def EqH (C : Hw) : Nat → T → T → Bool → Prop
  | 0, v, w, b => flat v 0 = true ∧ flat w 0 = true ∧ b = eqT v w
  | n + 1, v, w, b => (flat v n = true ∧ flat w n = true ∧ b = eqT v w) ∨
      (∃ (xs ys : List T) (e : Nat → Bool), v = .tup xs ∧ w = .tup ys ∧ (∀ j x y, xs[j]? = some x → ys[j]? = some y → EqH C n x y (e j)) ∧ b = ((List.range (min xs.length ys.length)).all e && xs.length == ys.length)) ∨
      (∃ (a a' : Addr) (xs ys : List T) (e : Nat → Bool), v = .ref a ∧ w = .ref a' ∧ C a = some (.lst xs) ∧ C a' = some (.lst ys) ∧ (xs.length = ys.length → ∀ j x y, xs[j]? = some x → ys[j]? = some y → EqH C n x y (e j)) ∧
        b = (if xs.length = ys.length then (List.range xs.length).all e else false))
section
variable {X : Cx} {pins : List (Addr × Obj)} {σ : L2.St} {F H : Hp} {s : Shared} {C : Hw}
end
section
variable {X : Cx}
end
/-! ### defaults -/
structure FunD (K : PySem.W.Frag) (x qual : Str) (st : Stmt) (f : Addr) (fd : FuncData) : Prop where
  ex : ∃ (oc : Value) (od : Option Addr) (dV kV doc pm : Value) (an : Option Addr) (cdv ct : Value) (osl : Array (Option Value)),
    fd = PySem.W.fnOf x qual (defArgs st) (defBody st) (defScope st) dV kV doc pm an cdv ct ∧ K.lookup f = some ⟨oc, od, .func fd, osl⟩ ∧ PySem.W.codeIn K cdv qual = true
  kp : PySem.W.keepIn K (.ref f) = true
/-- a def's promise; ds: the defaults of the last parameters, whole numbers -/
def CaD (P : Program) (w : World) (K : PySem.W.Frag) (mg : Str → Option Value) (base : Heap) (n : Nat) (x : Str) (ps : List Str) (ds : List Int) (sp : L2.Sp) : Prop :=
  ∃ f fd, FnOk P w K mg base CX0 n f fd ps sp ∧ (∃ us : List Value, Vals (ds.map V.int) us ∧ ∀ j, j ≤ ds.length → Binds K fd ps (us.drop j)) ∧ PySem.W.keepIn K (.ref f) = true ∧ mg x = some (.ref f)
def aApp (ws : List T) (a : WA) : WA := fun τ C Q χ => a τ C (fun vs C1 => Q (vs ++ ws) C1) χ
end WL
set_option Elab.async false
set_option linter.all false
set_option maxRecDepth 100000
set_option maxHeartbeats 4000000
/-! dict(zip(a, b)) -/
namespace PySem
open Sem (wp)
namespace F
end F
section
variable {z : Addr}
end
end PySem
set_option Elab.async false
set_option linter.all false
set_option maxRecDepth 100000
set_option maxHeartbeats 4000000
/-! a zip walked, its tuples kept -/
namespace L2
open PySem PySem.Spec PyProof.Rows
/-- a zip whose owned tuple was handed out -/
abbrev IsZipB (h : Heap) (z TI TO T : Addr) (b : Bool) : Prop :=
  h.get? z = some { cls := .type "zip", dict := none, data := .fields #[rawInt T, .bool b, .bool false, .ref TI, .ref TO], slots := #[] }
section
variable {prog : Program} {w : World} {A : Around} {E : Value → Shared → Prop} {s : Shared} {z TI TO i1 i2 : Addr} {f1 f2 : List Addr} {n : Nat} {P1 P2 : Nat → Value → Prop} {S1 S2 : Nat → Heap → Prop}
end
end L2
set_option Elab.async false
set_option linter.all false
set_option maxRecDepth 100000
set_option maxHeartbeats 4000000
namespace PySem.F
end PySem.F
namespace L2
open PySem PySem.Spec PyProof.Rows
/-- a zip of two tuples, i items drawn -/
structure ZS (z TI TO i1 i2 l1 l2 : Addr) (xs ys : Array Value) (i : Nat) (h : Heap) : Prop where
  zip : IsZip h z TI TO .none ∨ ∃ T b, IsZipB h z TI TO T b ∧ (∃ o, h.get? T = some o) ∧ T ≠ z ∧ T ≠ TO ∧ T ≠ i1 ∧ T ≠ i2
  its : IsPair h TI (.ref i1) (.ref i2)
  own : ∃ a b, IsPair h TO a b
  s1 : h.IsTupleIter i1 l1 i ∧ h.IsTuple l1 xs
  s2 : h.IsTupleIter i2 l2 i ∧ h.IsTuple l2 ys
section
variable {prog : Program} {w : World} {A : Around} {E : Value → Shared → Prop} {s : Shared} {z TI TO i1 i2 l1 l2 : Addr} {xs ys : Array Value}
end
end L2
set_option Elab.async false
set_option linter.all false
set_option maxRecDepth 100000
set_option maxHeartbeats 4000000
namespace L2
open PySem PySem.Spec PyProof.Rows
/-- the table of keys and values, one after another -/
def dzK {α : Type} (put : List (Key × α) → Key → α → List (Key × α)) (ks : List Key) (ys : List α) : List (Key × α) := (ks.zip ys).foldl (fun a kv => put a kv.1 kv.2) []
section
variable {X : Cx}
end
end L2
set_option Elab.async false
set_option linter.all false
set_option maxRecDepth 100000
set_option maxHeartbeats 4000000
/-! the second level: dict(zip(a, b)) of two tuples -/
namespace WL
open PySem PySem.Spec PyProof.Rows L2
section
variable {X : Cx} {a c : Expr} {wA : WA} {p pos p2 pos2 : Pos}
end
end WL
set_option Elab.async false
set_option linter.all false
set_option maxRecDepth 100000
set_option maxHeartbeats 4000000
/-! texts laid together in place: f"{a}.{b}" -/
namespace L2
open PySem PySem.Spec PyProof.Rows
section
variable {X : Cx}
/-- {e} of a text or a whole number -/
def tFv (te : TE) : TE := fun σ H Q => te σ H fun x H1 => (∃ z : Str, x = .str z ∧ z.length ≤ sizeLine ∧ Q (.str z) H1) ∨ ∃ i : Int, x = .int i ∧ i.natAbs.log2 < 1920 ∧ Q (.str (toString i)) H1
def tJ : List TE → Str → TE
  | [], out => fun _ H Q => Q (.str out) H
  | t :: ts, out => fun σ H Q => t σ H fun x H1 => ∃ z : Str, x = .str z ∧ (out ++ z).length ≤ sizeLine ∧ tJ ts (out ++ z) σ H1 Q
inductive PEs (X : Cx) : List Expr → List TE → Prop
  | nil : PEs X [] []
  | cons {e : Expr} {es : List Expr} {t : TE} {ts : List TE} (h : PE X e t) (r : PEs X es ts) : PEs X (e :: es) (t :: ts)
theorem pj {es : List Expr} {ts : List TE} (h : PEs X es ts) : ∀ {pins : List (Addr × Obj)} {s : Shared} {σ : St} {H : Hp} {Q : VK} {out : Str}, out.length ≤ sizeLine → Inv X pins σ H s → tJ ts out σ H Q → wpAny (model X.prog X.w) X.A (joinParts out (evalEach es X.env)) (EP X pins σ Q) X.xe s := by
  induction h with
  | nil =>
    intro pins s σ H Q out ho I q
    exact joinParts_nil ⟨.str out, H, I.tok _, ⟨_, rfl⟩, q⟩ ho
  | @cons e es t ts h r ih =>
    intro pins s σ H Q out ho I q
    show wpAny _ _ (joinParts out (eval e X.env :: evalEach es X.env)) _ _ s
    refine joinParts_cons (thn (h pins s σ H _ I q) fun u s1 ⟨x, H1, I1, rx, z, ex, hz, q1⟩ => ?_)
    subst ex
    obtain ⟨t', rfl⟩ := rx
    exact ⟨hz, ih hz I1 q1⟩
theorem pe_joined {v1 v2 : Expr} {rest : List Expr} {ts : List TE} {pos : Pos} (h : PEs X (v1 :: v2 :: rest) ts) : PE X (.JoinedStr (v1 :: v2 :: rest) pos) (tJ ts Str.empty) := by
  intro pins s σ H Q I q
  exact JoinedStr_many (pj h (Nat.zero_le _) I q)
end
end L2
set_option Elab.async false
set_option linter.all false
set_option maxRecDepth 100000
set_option maxHeartbeats 4000000
/-! the second level: f"{a}.{b}", {k: v} -/
namespace WL
open PySem PySem.Spec PyProof.Rows L2
def eJ : List WE → Str → WE
  | [], out => fun _ C Q _ => Q (.str out) C
  | w :: ws, out => fun τ C Q χ => w τ C (fun v C1 => ∃ z : Str, v = .str z ∧ (out ++ z).length ≤ sizeLine ∧ eJ ws (out ++ z) τ C1 Q χ) χ
section
variable {X : Cx} {e k v : Expr} {we wk wv : WE} {pos : Pos}
/-- the parts of a text -/
def SdJ (X : Cx) (es : List Expr) (ws : List WE) : Prop := ∃ ts, PEs X es ts ∧ ∀ (out : Str), SimE X.K (tJ ts out) (eJ ws out)
theorem dj_nil : SdJ X [] [] := ⟨[], .nil, fun out F H C σ τ Q Q' χ R S h q => q _ _ H C R (Tx.refl H) rep_str h⟩
theorem dj_cons {es : List Expr} {ws : List WE} (he : SdE X e we) (hr : SdJ X es ws) : SdJ X (e :: es) (we :: ws) := by
  obtain ⟨t, p, s⟩ := he
  obtain ⟨ts, ps, ss⟩ := hr
  refine ⟨t :: ts, .cons p ps, fun out F H C σ τ Q Q' χ R S h q => ?_⟩
  refine s F H C σ τ _ _ χ R S h fun x u H1 C1 R1 t1 rx h1 => ?_
  obtain ⟨z, rfl, hz, h1⟩ := h1
  cases of_str rx
  exact ⟨z, rfl, hz, ss (out ++ z) F H1 C1 σ τ _ _ χ R1 (S.tx t1) h1 (QE.at q t1)⟩
theorem d_joined {v1 v2 : Expr} {rest : List Expr} {ws : List WE} (h : SdJ X (v1 :: v2 :: rest) ws) : SdE X (.JoinedStr (v1 :: v2 :: rest) pos) (eJ ws Str.empty) := by
  obtain ⟨ts, ps, ss⟩ := h
  exact ⟨_, pe_joined ps, ss _⟩
/-- {k: v} -/
def eDisp1 (k v : WE) : WE := fun τ C Q χ => ∀ p, C p = none → k τ (up C p (.dic [])) (fun x C1 => v τ C1 (fun y C2 => ∃ kk, kT x = some kk ∧ C2 p = some (.dic []) ∧ Q (.ref p) (up C2 p (.dic [(kk, y)]))) χ) χ
end
end WL
set_option Elab.async false
set_option linter.all false
set_option maxRecDepth 100000
set_option maxHeartbeats 4000000
/-! list.insert at a place within the list or at its end -/
namespace L2
open PySem PySem.Spec PyProof.Rows
section
variable {X : Cx}
end
end L2
set_option Elab.async false
set_option linter.all false
set_option maxRecDepth 100000
set_option maxHeartbeats 4000000
/-! the second level: list.insert -/
namespace WL
open PySem PySem.Spec PyProof.Rows L2
section
variable {X : Cx}
end
end WL
set_option Elab.async false
set_option linter.all false
set_option maxRecDepth 100000
set_option maxHeartbeats 4000000
/-! enumerate(a tuple, start=1) -/
namespace L2
open PySem PySem.Spec PyProof.Rows
open AutoSeq1 (wpAny_loadPart')
end L2
set_option Elab.async false
set_option linter.all false
set_option maxRecDepth 100000
set_option maxHeartbeats 4000000
/-! the call enumerate(a tuple, start=1) -/
namespace L2
open PySem PySem.Spec PyProof.Rows
section
variable {prog : Program} {w : World} {A : Around} {E : Value → Shared → Prop} {s : Shared}
end
end L2
set_option Elab.async false
set_option linter.all false
set_option maxRecDepth 100000
set_option maxHeartbeats 4000000
/-! for k, x in enumerate(a tuple, start=1) -/
namespace L2
open PySem PySem.Spec PyProof.Rows
section
variable {prog : Program} {w : World} {A : Around} {E : Value → Shared → Prop} {s : Shared}
end
end L2
set_option Elab.async false
set_option linter.all false
set_option maxRecDepth 100000
set_option maxHeartbeats 4000000
/-! enumerate(a, start=1) as what a for walks -/
namespace L2
open PySem PySem.Spec PyProof.Rows
section
variable {X : Cx} {elts : List Expr} {ek : Nat} {epos : Pos}
end
end L2
set_option Elab.async false
set_option linter.all false
set_option maxRecDepth 100000
set_option maxHeartbeats 4000000
/-! the second level: for k, x in enumerate(a tuple, start=1) -/
namespace WL
open PySem PySem.Spec PyProof.Rows L2
/-- a row's things with their places, from 1 on -/
def numz (z : Nat) (xs : List T) : List T := xs.zipIdx.map fun c => T.tup [.int ((c.2 + z : Nat) : Int), c.1]
section
variable {X : Cx} {a : Expr} {wA : WA} {p pos kp kc : Pos} {j : Nat}
end
end WL
set_option Elab.async false
set_option linter.all false
set_option maxRecDepth 100000
set_option maxHeartbeats 4000000
/-! the second level: a call with nothing given -/
namespace WL
open PySem PySem.Spec PyProof.Rows L2
end WL
set_option Elab.async false
set_option linter.all false
set_option maxRecDepth 100000
set_option maxHeartbeats 4000000
/-! the second level: a list times a number -/
namespace WL
open PySem PySem.Spec PyProof.Rows L2
section
variable {X : Cx}
end
end WL
set_option Elab.async false
set_option linter.all false
set_option maxRecDepth 100000
set_option maxHeartbeats 4000000
/-! d.update(d') -/
namespace L2
open PySem PySem.Spec PyProof.Rows
section
variable {X : Cx} {pins : List (Addr × Obj)} {σ : St} {H : Hp} {s : Shared} {a b : Addr} {kvs more : List (Key × V)} {A : Around} {E : Value → Shared → Prop}
end
section
variable {X : Cx} {o e : Expr} {apos cpos : Pos} {td ty : TE}
end
end L2
set_option Elab.async false
set_option linter.all false
set_option maxRecDepth 100000
set_option maxHeartbeats 4000000
/-! the second level: a dict of many pairs, d.update(d') -/
namespace WL
open PySem PySem.Spec PyProof.Rows L2
abbrev WPs := Sw → Hw → (List (Key × T) → Hw → Prop) → WX → Prop
section
variable {X : Cx} {pos apos cpos : Pos} {k v o e : Expr} {ks : List (Option Expr)} {vs : List Expr} {wk wv wo we : WE} {w : WPs}
end
end WL
set_option Elab.async false
set_option linter.all false
set_option maxRecDepth 100000
set_option maxHeartbeats 4000000
/-! // by a great divisor, ** of a great number -/
namespace L2
open PySem PySem.Spec PyProof.Rows
section
variable {X : Cx}
end
end L2
namespace WL
open PySem PySem.Spec PyProof.Rows L2
section
variable {X : Cx}
end
end WL
set_option Elab.async false
set_option linter.all false
set_option maxRecDepth 100000
set_option maxHeartbeats 4000000
/-! the second level: what is known of a def at its place, in one -/
namespace WL
open PySem PySem.Spec PyProof.Rows L2
section
variable {P : Program} {w : World} {K : PySem.W.Frag} {mg : Str → Option Value} {base h : Heap} {x q cn : Str} {st : Stmt} {ps : List Str} {pr : List Df} {n i j ar : Nat} {sp : Sp} {Cl : Addr}
def Fg (K : PySem.W.Frag) (x : Str) (st : Stmt) : Prop := ∃ f fd, PySem.W.nsIn K mainGlobals x = some (some (.ref f)) ∧ Fun K x x st f fd
def Ld (K : PySem.W.Frag) (mg : Str → Option Value) (x : Str) (st : Stmt) (ps : List Str) : Prop := ∃ f fd, Fun K x x st f fd ∧ Binds K fd ps [] ∧ mg x = some (.ref f)
/-- how a call binds -/
def Bq (x q : Str) (st : Stmt) (ps : List Str) : Prop := ∀ (kV doc pm : Value) (an : Option Addr) (cdv ct : Value) (us : List Value), us.length = ps.length → bindArgs (PySem.W.fnOf x q (defArgs st) (defBody st) (defScope st) .none kV doc pm an cdv ct) ⟨us, []⟩ = pure (ps.zip us)
theorem ld_mk (X : K.In h) (G : h.Ns mainGlobals mg) (l : Fg K x st) (hb : Bq x x st ps) : Ld K mg x st ps := by
  obtain ⟨f, fd, a, F⟩ := l
  exact ⟨f, fd, F, F.binds hb, PySem.W.mg_of X G a⟩
theorem ld0 (L : Ld K mg x st ps) : Ca P w K mg base 0 x ps (spW K pr 0 i) := by
  obtain ⟨f, fd, F, B, M⟩ := L
  exact ca_zero F B M
theorem ld1 (L : Ld K mg x st ps) (G : ∀ {f fd}, Fun K x x st f fd → FnOk P w K mg base CX0 n f fd ps sp) : Ca P w K mg base n x ps sp := by
  obtain ⟨f, fd, F, B, M⟩ := L
  exact ca_succ F B M (G F)
theorem cP {X : Cx} {e : Expr} {wA : WA} {k : Nat} {Q : Calls} (hP : wpc pr k = Q) (h : SdE X e (eCall (wpc pr k) i wA)) : SdE X e (eCall Q i wA) := hP ▸ h
end
end WL
set_option Elab.async false
set_option linter.all false
set_option maxRecDepth 100000
set_option maxHeartbeats 4000000
/-! list(zip(a, b)): a new list of new tuples -/
namespace L2
open PySem PySem.Spec PyProof.Rows
section
variable {prog : Program} {w : World} {A : Around} {E : Value → Shared → Prop} {s : Shared} {z TI TO i1 i2 l1 l2 : Addr} {xs ys : Array Value}
/-- tuples that were made -/
abbrev Prs (h : Heap) (as : List Addr) (ps : List (Value × Value)) : Prop := Paired (fun a p => IsPair h a p.1 p.2) as ps
end
section
variable {X : Cx} {pins : List (Addr × Obj)} {σ : St} {H : Hp} {s : Shared}
/-- the new tuples -/
def updP (H : Hp) : List Addr → List (V × V) → Hp
  | a :: as, p :: ps => updP (upd H a (.tup [p.1, p.2])) as ps
  | _, _ => H
end
end L2
set_option Elab.async false
set_option linter.all false
set_option maxRecDepth 100000
set_option maxHeartbeats 4000000
/-! the second level: list(zip(a, b)) of two tuples -/
namespace WL
open PySem PySem.Spec PyProof.Rows L2
section
variable {X : Cx} {a c : Expr} {wA : WA} {p pos p2 pos2 : Pos}
end
end WL
set_option Elab.async false
set_option linter.all false
set_option maxRecDepth 100000
set_option maxHeartbeats 4000000
/-! d.setdefault(k, x) -/
namespace L2
open PySem PySem.Spec PyProof.Rows
section
variable {X : Cx} {pins : List (Addr × Obj)} {σ : St} {H : Hp} {s : Shared} {a : Addr} {kvs : List (Key × V)} {A : Around} {E : Value → Shared → Prop} {k : Key} {u r : Value} {y : V}
end
section
variable {X : Cx} {o e f : Expr} {apos cpos : Pos} {td ty tx : TE}
end
end L2
set_option Elab.async false
set_option linter.all false
set_option maxRecDepth 100000
set_option maxHeartbeats 4000000
/-! the second level: d.setdefault(k, x) -/
namespace WL
open PySem PySem.Spec PyProof.Rows L2
section
variable {X : Cx} {o e f : Expr} {wo wi wd : WE} {apos cpos : Pos}
/-- o.setdefault(i, d) -/
def eDsd (o i d : WE) : WE := fun τ C Q χ => o τ C (fun x C1 => (∃ a kvs, x = .ref a ∧ C1 a = some (.dic kvs)) ∧ i τ C1 (fun y C2 => d τ C2 (fun z C3 => ∃ a kvs k, x = .ref a ∧ kT y = some k ∧ C3 a = some (.dic kvs) ∧ kvs.length < sizeLine ∧
  (∀ v, getT kvs k = some v → Q v C3) ∧ (getT kvs k = none → Q z (up C3 a (.dic (putT kvs k z))))) χ) χ) χ
end
end WL
set_option Elab.async false
set_option linter.all false
set_option maxRecDepth 100000
set_option maxHeartbeats 4000000
/-! the second level: C() without arguments -/
namespace WL
open PySem PySem.Spec PyProof.Rows L2
section
variable {X : Cx} {k i j : Nat} {pr : List Df} {cn : Str} {p pos : Pos}
end
end WL
set_option Elab.async false
set_option linter.all false
set_option maxRecDepth 100000
set_option maxHeartbeats 4000000
/-! t[lo:hi] that is the whole of a tuple: the tuple itself -/
namespace HT
open PySem PySem.Spec PyProof.Rows
section
variable {prog : Program} {w : World} {A : Around} {E : Value → Shared → Prop} {s : Shared}
end
end HT
namespace L2
open PySem PySem.Spec PyProof.Rows
section
variable {X : Cx}
end
end L2
set_option Elab.async false
set_option linter.all false
set_option maxRecDepth 100000
set_option maxHeartbeats 4000000
/-! the second level: t[lo:hi] of a tuple, the whole of it too -/
namespace WL
open PySem PySem.Spec PyProof.Rows L2
section
variable {X : Cx} {a : Expr} {wa : WE} {pos : Pos}
end
end WL
set_option Elab.async false
set_option linter.all false
set_option maxRecDepth 100000
set_option maxHeartbeats 4000000
/-! for a, b in d.items(): from then on the dict is read alone -/
namespace L2
open PySem PySem.Spec PyProof.Rows
def Iti (o : Obj) (d : Addr) (ks : List (Key × V)) : It :=
  ⟨fun i H => H d = some (.frz o (.dK ks)) ∧ i < ks.length, fun i H x H' => ∃ kv T, ks[i]? = some kv ∧ x = .ref T ∧ H T = none ∧ H' = upd H T (.tup [kV kv.1, kv.2]), fun i H => H d = some (.frz o (.dK ks)) ∧ i = ks.length⟩
section
variable {X : Cx} {e : Expr} {elts : List Expr} {ek : Nat} {epos apos cpos : Pos}
/-- for a, b in e.items(), e a dict -/
def iDit (td : TE) : TI := fun σ H R => td σ H fun x H1 => ∃ d ks, x = .ref d ∧ Rd H1 d (.dK ks) ∧ ∀ o, (∀ o', H1 d = some (.frz o' (.dK ks)) → o' = o) → R (Iti o d ks) (upd H1 d (.frz o (.dK ks)))
end
end L2
set_option Elab.async false
set_option linter.all false
set_option maxRecDepth 100000
set_option maxHeartbeats 4000000
/-! for a, b in d.items() -/
namespace WL
open PySem PySem.Spec PyProof.Rows L2
section
variable {X : Cx} {e : Expr} {we : WE}
def rI (kvs : List (Key × T)) : List T := kvs.map fun kv => .tup [tK kv.1, kv.2]
end
end WL
set_option Elab.async false
set_option linter.all false
set_option maxRecDepth 100000
set_option maxHeartbeats 4000000
/-! sum of a list of whole numbers, of any size -/
namespace L2
open PySem PySem.Spec PyProof.Rows
end L2
set_option Elab.async false
set_option linter.all false
set_option maxRecDepth 100000
set_option maxHeartbeats 4000000
/-! the second level: sum of a list of whole numbers, of any size -/
namespace WL
open PySem PySem.Spec PyProof.Rows L2
section
variable {X : Cx}
end
end WL
set_option Elab.async false
set_option linter.all false
set_option maxRecDepth 100000
set_option maxHeartbeats 4000000
/-! the second level: list.clear -/
namespace WL
open PySem PySem.Spec PyProof.Rows L2
section
variable {X : Cx}
end
end WL
set_option Elab.async false
set_option linter.all false
set_option maxRecDepth 100000
set_option maxHeartbeats 4000000
/-! for k, x in enumerate(a list) -/
namespace L2
open PySem PySem.Spec PyProof.Rows
open AutoSeq1 (wpAny_loadPart')
section
variable {prog : Program} {w : World} {A : Around} {E : Value → Shared → Prop} {s : Shared}
end
section
variable {X : Cx} {elts : List Expr} {ek : Nat} {epos : Pos}
end
end L2
set_option Elab.async false
set_option linter.all false
set_option maxRecDepth 100000
set_option maxHeartbeats 4000000
/-! the second level: for k, x in enumerate(a list) -/
namespace WL
open PySem PySem.Spec PyProof.Rows L2
section
variable {X : Cx} {a : Expr} {wA : WA} {p pos : Pos}
end
end WL
set_option Elab.async false
set_option linter.all false
set_option maxRecDepth 100000
set_option maxHeartbeats 4000000
/-! zip where the first one may be the shorter -/
namespace L2
open PySem PySem.Spec PyProof.Rows Builtin
section
variable {prog : Program} {w : World} {A : Around} {E : Value → Shared → Prop} {s : Shared} {z TI TO i1 i2 : Addr} {f1 f2 : List Addr} {n n2 : Nat} {P1 P2 : Nat → Value → Prop} {S1 S2 : Nat → Heap → Prop}
end
section
variable {X : Cx} {elts : List Expr} {ek : Nat} {epos : Pos}
end
end L2
set_option Elab.async false
set_option linter.all false
set_option maxRecDepth 100000
set_option maxHeartbeats 4000000
/-! the second level: zip where the first one may be the shorter -/
namespace WL
open PySem PySem.Spec PyProof.Rows L2
section
variable {X : Cx} {a b : Expr} {wA : WA} {p pos : Pos}
end
end WL
set_option Elab.async false
set_option linter.all false
set_option maxRecDepth 100000
set_option maxHeartbeats 4000000
/-! texts: split(sep) -/
namespace L2
open PySem PySem.Spec PyProof.Rows
section
variable {X : Cx}
theorem vals_from : ∀ (k : Nat) (zs : List Str), Vals (zs.map V.str) (strsFrom k zs)
  | _, [] => .nil
  | k, z :: zs => .cons ⟨_, rfl⟩ (vals_from (k + 1) zs)
/-- x.split(y): a new list of texts -/
def rSplit : V → List V → Hp → VK → Prop := fun x vs H Q => ∃ z y, x = .str z ∧ vs = [.str y] ∧ (y.length == 0) = false ∧ z.length ≤ sizeLine ∧ (Txt.split z y).length ≤ sizeLine ∧ ∀ p, H p = none → Q (.ref p) (upd H p (.lst ((Txt.split z y).map V.str)))
theorem lay_strs {pins : List (Addr × Obj)} {σ : St} {H : Hp} {s : Shared} {zs : List Str} {us : List Value} {k : Nat} {Q : VK} (I : Inv X pins σ H s) (hv : Vals (zs.map V.str) us) (hl : zs.length ≤ sizeLine) (q : ∀ p, H p = none → Q (.ref p) (upd H p (.lst (zs.map V.str)))) :
    EP X pins σ Q (.ref s.heap.objs.size) { s with heap := s.heap.push { cls := .type "list", data := .seq us.toArray }, toks := k } := by
  have hok : ObjOk X.prog X.w (upd H s.heap.objs.size (.lst (zs.map V.str))) (s.heap.push { cls := .type "list", data := .seq us.toArray }) s.heap.objs.size (.lst (zs.map V.str)) :=
    ⟨by rw [List.length_map]; exact hl, us, _, hv, Heap.get?_push_size _ rfl⟩
  exact ⟨.ref s.heap.objs.size, _, I.laid (t' := k) (fun b u q => Heap.get?_push_of_some _ q) (Nat.le_refl _) hok, rfl, q _ (I.hok.fresh (Nat.le_refl _))⟩
theorem mt_split : MtR X "str.split" rSplit := by
  intro pins s σ H x vs v us Q I rx rv h
  obtain ⟨z, y, rfl, rfl, hy, hz, hl, q⟩ := h
  obtain ⟨t, rfl⟩ := rx
  obtain ⟨u, rfl, ru⟩ := vals1 rv
  obtain ⟨t2, rfl⟩ := ru
  have slot := PySem.F.slot_str_split
  have go : ∀ {S : PySem.Spec}, Meets (Builtin.«str.split» { pos := [Value.str z t, Value.str y t2] }) S → S X.A (wants (EP X pins σ Q) X.xe) s → wpAny (model X.prog X.w) X.A (call (Value.builtin "str.split") [Value.str z t, Value.str y t2]) (EP X pins σ Q) X.xe s :=
    fun m hS => call_meets slot (typeIs_str _ _ _) PySem.F.entry_str_split (PySem.F.args_str_split_2 _ _) m hS
  have one : ∀ {us : List Value}, us = [Value.str z t] → Vals ([z].map V.str) us := fun e => by subst e; exact .cons ⟨_, rfl⟩ .nil
  by_cases c1 : (decide (z.length < y.length) || decide (Builtin.Str.strKind z < Builtin.Str.strKind y)) = true
  · have e : Txt.split z y = [z] := by unfold Txt.split; rw [if_pos c1]
    rw [e] at q
    exact go (meets_str_split_cannot_occur z y t t2 c1) (lay_strs (us := [Value.str z t]) I (one rfl) (show 1 ≤ sizeLine by decide) q)
  · by_cases c2 : (Builtin.Str.occurrences z y 0 z.length (z.length + 1)).isEmpty = true
    · have e : Txt.split z y = [z] := by unfold Txt.split; rw [if_neg c1, if_pos c2]
      rw [e] at q
      exact go (meets_str_split_not_found z y t t2 (Bool.eq_false_iff.mpr c1) hy c2) (lay_strs (us := [Value.str z t]) I (one rfl) (show 1 ≤ sizeLine by decide) q)
    · have e : Txt.split z y = Builtin.Str.partsBetween z (Builtin.Str.occurrences z y 0 z.length (z.length + 1)) y.length := by unfold Txt.split; rw [if_neg c1, if_neg c2]
      rw [e] at q hl
      exact go (meets_str_split_sep z y t t2 (Bool.eq_false_iff.mpr c1) hy (Bool.eq_false_iff.mpr c2) hz hl) (lay_strs I (vals_from _ _) hl q)
/-- int(x), x a text -/
theorem call_intT : CallR X (.type "int") (fun xs H Q => ∃ (x : Str) (n : Int), xs = [.str x] ∧ intText? x = some n ∧ x.length ≤ 640 ∧ Q (.int n) H) := by
  intro pins s σ H xs us Q I r h
  obtain ⟨x, n, rfl, hx, hl, q⟩ := h
  obtain ⟨u, rfl, ru⟩ := vals1 r
  obtain ⟨t, rfl⟩ := ru
  exact PySem.W.KIN.call_text hx hl ⟨.int n, H, I.tok _, ⟨_, rfl⟩, q⟩
end
end L2
set_option Elab.async false
set_option linter.all false
set_option maxRecDepth 100000
set_option maxHeartbeats 4000000
/-! the second level: split(sep) -/
namespace WL
open PySem PySem.Spec PyProof.Rows L2
section
variable {X : Cx}
def mSplit : T → List T → Hw → WK → Prop := fun x vs C Q => ∃ z y, x = .str z ∧ vs = [.str y] ∧ (y.length == 0) = false ∧ z.length ≤ sizeLine ∧ (Txt.split z y).length ≤ sizeLine ∧ ∀ p, C p = none → Q (.ref p) (up C p (.lst ((Txt.split z y).map T.str)))
theorem m_split : MtS X "str.split" mSplit := ⟨_, mt_split, fun F H C x v xs vs Q Q' R rx rs h q => by
  obtain ⟨z, y, rfl, rfl, h1, h2, h3, h⟩ := h
  cases of_str rx
  obtain ⟨u, rfl, ry⟩ := of_one rs
  cases of_str ry
  exact ⟨z, y, rfl, rfl, h1, h2, h3, fun p hp => q _ _ _ _ (R.newL hp (reps_strs _)) (Tx.new hp) rep_ref (h p (R.free hp))⟩⟩
def bIntT : List T → Hw → WK → Prop := fun vs C Q => ∃ (x : Str) (n : Int), vs = [.str x] ∧ intText? x = some n ∧ x.length ≤ 640 ∧ Q (.int n) C
theorem b_intT : CallS X (.type "int") bIntT := ⟨_, call_intT, fun F H C xs vs Q Q' R rs h q => by
  obtain ⟨x, n, rfl, h1, h2, h⟩ := h
  obtain ⟨u, rfl, ru⟩ := of_one rs
  cases of_str ru
  exact ⟨x, n, rfl, h1, h2, q _ _ H C R (Tx.refl H) rep_int h⟩⟩
end
end WL
set_option Elab.async false
set_option linter.all false
set_option maxRecDepth 100000
set_option maxHeartbeats 4000000
/-! len(set(texts)) -/
namespace L2
open PySem PySem.Spec PyProof.Rows
section
variable {prog : Program} {w : World} {A : Around} {E : Value → Shared → Prop} {s : Shared}
theorem call_set_textsT {l : Addr} {items : Array Value} {xs : List Str} {Q : Value → Shared → Prop} (hh : A.handled = none) (hl : s.heap.IsTuple l items) (hi : StrsAre items.toList xs) (hb : items.size + 1 < scanBound)
    (h : ∀ (h' : Heap) (tk : Nat) es ep t, TxSet prog w h' s.heap.objs.size es ep t → (∀ y, y ∈ es.toList.map txOf ↔ y ∈ xs) →
      (∀ b o, s.heap.get? b = some o → h'.get? b = some o) → Q (.ref s.heap.objs.size) { s with heap := h', toks := tk }) :
    wpAny (model prog w) A (call (.type "set") [.ref l]) Q E s := by
  obtain ⟨c, tl, hmro⟩ := F.called_set.mro
  have hmade := F.called_set.made
  have hsub := F.called_set.sub
  refine wpAny_call (codeAny_of_tree ?_)
  show wpAny _ _ (callAny (.type "set") _) _ _ _
  refine wpAny_pure ⟨Code.quiet_builtin _ (by decide +kernel), codeAny_builtin F.entry_type_call ?_⟩
  rw [Around.under_plain (weight_type_call_type "set" [.ref l] []) rfl]
  have h1 := F.called_set.notType
  have h2 := F.called_set.canCreate
  have hct := F.typeCall_set_1 (.ref l)
  repeat (any_goals (first | assumption | wp_step))
  refine codeAny_mono (new_set (.ref l) (E := E) (Q₁ := fun obj s₁ => obj = .ref s.heap.objs.size ∧ s₁ = { s with heap := s.heap.push (freshSet w) }) ⟨rfl, rfl⟩) fun r s₁ hr => ?_
  cases r with
  | error e => exact hr
  | ok fl =>
    cases fl with
    | ret obj =>
      obtain ⟨rfl, rfl⟩ := hr
      have hS : (s.heap.push (freshSet w)).get? s.heap.objs.size = some (freshSet w) := Heap.get?_push_size _ rfl
      have hT : Shared.TypeIs { s with heap := s.heap.push (freshSet w) } (.ref s.heap.objs.size) "set" := ⟨_, hS, rfl⟩
      have hli := F.called_set.init.lookup
      have hbi := F.called_set.init.bind (.ref s.heap.objs.size)
      repeat (any_goals (first | assumption | wp_step))
      refine codeAny_mono (codeAny_call_builtin (R := wants (fun r s₂ => r = .none ∧ ∃ h' tk, s₂ = { s with heap := h', toks := tk } ∧ ∃ es ep t, TxSet prog w h' s.heap.objs.size es ep t ∧ (∀ y, y ∈ es.toList.map txOf ↔ y ∈ xs) ∧
          (∀ b o, s.heap.get? b = some o → h'.get? b = some o)) E) F.called_set.init.plain F.entry_set_init (check_set_init_1 hT ?_)) fun r₂ s₂ hr₂ => ?_
      · obtain ⟨ol, hol, hcl, nl, hdl⟩ := hl
        obtain ⟨ocls, odict, odata, oslots⟩ := ol
        simp only at hcl hdl
        subst hcl; subst hdl
        have hol' : (s.heap.push (freshSet w)).get? l = some { cls := .type "tuple", dict := odict, data := .seq items nl, slots := oslots } := Heap.get?_push_of_some _ hol
        have hsls := F.sub_tuple_set
        have hslf := F.sub_tuple_frozenset
        have hne : (Value.type "tuple" == Value.type "dict") = false := by decide
        have hl1 : (s.heap.push (freshSet w)).IsTuple l items := ⟨_, hol', rfl, nl, rfl⟩
        unfold Builtin.«set.__init__» noKeywords Builtin.Frozenset.updateFrom
        generalize hPI : pyIter = PI
        wp_walk
        subst hPI
        refine wpAny_pyIter_tuple hl1 ?_
        refine wpAny_bind (wpAny_runValue ?_)
        have hlS : l < s.heap.objs.size := Heap.lt_size hol
        have hh3 : A.in1.in1.in1.handled = none := by simp [hh]
        have hz : (s.heap.push (freshSet w)).objs.size = s.heap.objs.size + 1 := size_push' _ _
        have hneI : l ≠ (s.heap.push (freshSet w)).objs.size := by rw [hz]; exact Nat.ne_of_lt (Nat.lt_succ_of_lt hlS)
        have hSf : s.heap.objs.size ∉ [(s.heap.push (freshSet w)).objs.size, l] := by
          rw [hz]; simp only [List.mem_cons, List.mem_singleton, List.not_mem_nil, or_false, not_or]
          exact ⟨Nat.ne_of_lt (Nat.lt_succ_self _), Nat.ne_of_gt hlS⟩
        have hget : ((s.heap.push (freshSet w)).push { cls := .type "tuple_iterator", data := .fields #[.ref l, .int 0 0] }).get? s.heap.objs.size = some (freshSet w) := Heap.get?_push_of_some _ hS
        refine upd_loop ((Walks.tuple hh3 _ l hneI items).toS) s.heap.objs.size hSf xs (by rw [txs_len hi]; simp) (fun i v hv => txs_at hi i v (by rw [Array.getElem?_toList]; exact hv)) hb (items.size - 0) 0 _ #[] 0 (.fresh 0 0 (!byTx w)) (by omega) (Nat.zero_le _)
          ⟨⟨_, Heap.get?_push_size _ rfl, rfl, rfl⟩, (hl1.push _)⟩ ⟨hget, fun e he => by simp at he, by rfl, by decide, fun z => absurd rfl z, rfl, by simp⟩ (fun y => by simp) (by simp) ?hR
        intro s' es' ep' t' hm S' hm'
        obtain ⟨h', g', d', tk', os'⟩ := s'
        have eg : g' = s.gens := hm.gens
        have ed : d' = s.drawn := hm.drawn
        have eo : os' = s.os := hm.os
        subst eg; subst ed; subst eo
        show wpAny _ _ _ _ _ _
        refine wpAny_pure ?_
        show wpAny _ _ (ret Value.none) _ _ _
        refine wpAny_pure ⟨rfl, h', tk', rfl, es', ep', t', S', hm', fun b o e => ?_⟩
        have hb0 := Heap.lt_size e
        exact hm.heap b o (by simp only [List.mem_cons, List.mem_singleton, List.not_mem_nil, or_false, not_or]; exact ⟨Nat.ne_of_lt hb0, by rw [hz]; exact Nat.ne_of_lt (Nat.lt_succ_of_lt hb0)⟩) (Heap.get?_push_of_some _ (Heap.get?_push_of_some _ e))
      · cases r₂ with
        | error e => exact hr₂
        | ok fl₂ =>
          cases fl₂ with
          | ret r =>
            obtain ⟨rfl, h', tk, rfl, es', ep', t', S', hm', hk'⟩ := hr₂
            repeat (any_goals (first | assumption | wp_step))
            exact h _ _ _ _ _ S' hm' hk'
          | _ => exact hr₂.elim
    | _ => exact hr.elim
end
section
variable {X : Cx}
theorem call_setTT (hc : X.calm = true) : CallR X (.type "set") (fun xs H Q => ∃ (p : Addr) (ts : List Str), xs = [.ref p] ∧ (SqL X.K H p (ts.map V.str) ∨ SqT X.K H p (ts.map V.str)) ∧ ts.length + 1 < scanBound ∧ ∀ q, H q = none → Q (.ref q) (upd H q (setO X.prog X.w q ts))) := by
  intro pins s σ H xs us Q I r h
  obtain ⟨p, ts, rfl, hq | hq, hb, q⟩ := h
  · exact call_setT hc pins s σ H _ us Q I r ⟨p, ts, rfl, hq, hb, q⟩
  · obtain ⟨u, rfl, ru⟩ := vals1 r
    cases ru
    obtain ⟨its, rv, pl, hz⟩ := I.tuple hq
    have hS := strs_vals rv
    have hl := txs_len hS
    refine call_set_textsT (I.ok.hd hc) (show s.heap.IsTuple p its.toArray from pl) (xs := ts) (by simpa using hS) (by rw [List.size_toArray, ← hl]; exact hb) fun h' tk es ep t S m k => ?_
    have hf := I.hok.fresh (Nat.le_refl s.heap.objs.size)
    exact ⟨.ref s.heap.objs.size, _, I.laid k (Nat.le_refl _) (setO_ok S m), rfl, q _ hf⟩
/-- len of a set of texts -/
theorem call_lenS : CallR X (.builtin "len") (fun xs H Q => ∃ (p : Addr) (ts : List Str), xs = [.ref p] ∧ H p = some (setO X.prog X.w p ts) ∧ ∀ ys : List Str, ys.Nodup → (∀ y, y ∈ ys ↔ y ∈ ts) → Q (.int (ys.length : Int)) H) := by
  intro pins s σ H xs us Q I r h
  obtain ⟨p, ts, rfl, hp, q⟩ := h
  obtain ⟨u, rfl, ru⟩ := vals1 r
  cases ru
  obtain ⟨⟨es, ep, t, S, m⟩, _, _⟩ := I.hok p _ hp
  have hb := S.bnd
  have hs : scanBound = 4096 := rfl
  refine call_len_set S.get ?_ rfl S.fit (by omega) ⟨.int (es.size : Int), H, I.tok _, ⟨_, rfl⟩, ?_⟩
  · exact ⟨rfl, rfl, rfl⟩
  · have := q (es.toList.map txOf) S.nod m
    rw [List.length_map, Array.length_toList] at this
    exact this
end
end L2
set_option Elab.async false
set_option linter.all false
set_option maxRecDepth 100000
set_option maxHeartbeats 4000000
/-! the second level: len(set(texts)) -/
namespace WL
open PySem PySem.Spec PyProof.Rows L2
section
variable {X : Cx} {e : Expr} {we : WE} {pos p p2 pos2 : Pos}
theorem bt_len' : bootBuiltins "len" = some (.builtin "len") := by decide +kernel
/-- how many unlike texts a list or tuple of texts has -/
def eLenSet (we : WE) : WE := fun τ C Q χ => we τ C (fun v C1 => ∃ ts : List Str, ((v = .tup (ts.map T.str)) ∨ ∃ a, v = .ref a ∧ C1 a = some (.lst (ts.map T.str))) ∧ ts.length + 1 < scanBound ∧ ∀ ys : List Str, ys.Nodup → (∀ y, y ∈ ys ↔ y ∈ ts) → Q (.int (ys.length : Int)) C1) χ
theorem d_lenset (hc : X.calm = true) (hg : Gl X "len") (hm : X.mg "len" = none) (hg2 : Gl X "set") (hm2 : X.mg "set" = none) (he : SdE X e we)
    (s1 : starEach [.Call (.Name "set" p2) [e] [] pos2] X.env = (false, eval (.Call (.Name "set" p2) [e] [] pos2) X.env) :: starEach [] X.env := by rfl) (s2 : (backTo pos (starEach [] X.env)).any (·.1) = false := by rfl)
    (s3 : starEach [e] X.env = (false, eval e X.env) :: starEach [] X.env := by rfl) (s4 : (backTo pos2 (starEach [] X.env)).any (·.1) = false := by rfl) :
    SdE X (.Call (.Name "len" p) [.Call (.Name "set" p2) [e] [] pos2] [] pos) (eLenSet we) := by
  obtain ⟨t, p1, sm⟩ := he
  have pa : PA X [e] (tCons t tNil) := pa_cons p1 pa_nil s3
  have pS := pe_callTy (pos := pos2) (p := p2) (call_setTT hc) hg2 hm2 bt_set pa (by decide) (by decide) s3 s4
  refine ⟨_, pe_callB call_lenS hg hm bt_len' (pa_cons pS pa_nil) (by decide) (by decide) s1 s2, fun F H C σ τ Q Q' χ R S h q => ?_⟩
  refine sm F H C σ τ _ _ χ R S h fun x v H1 C1 R1 t1 rx h1 => ?_
  obtain ⟨ts, hv, hl, h1⟩ := h1
  have key : ∃ l, x = .ref l ∧ (SqL X.K H1 l (ts.map V.str) ∨ SqT X.K H1 l (ts.map V.str)) := by
    rcases hv with rfl | ⟨a, rfl, hC⟩
    · obtain ⟨l, ys, rfl, q1, r1⟩ := of_tup rx
      cases of_strs r1
      exact ⟨l, rfl, .inr q1⟩
    · cases of_ref rx
      obtain ⟨ys, hH, rs⟩ := R1.lst hC
      cases of_strs rs
      exact ⟨a, rfl, .inl (SqL.of hH)⟩
  obtain ⟨l, rfl, hs⟩ := key
  refine ⟨l, ts, rfl, hs, hl, fun q1 hq1 => ?_⟩
  have R2 : Rl X.K F (upd H1 q1 (setO X.prog X.w q1 ts)) C1 := R1.hid hq1
  exact ⟨q1, ts, rfl, upd_same, fun ys hn hm => q _ _ _ _ R2 (t1.trans (Tx.new hq1)) rep_int (h1 ys hn hm)⟩
end
end WL
set_option Elab.async false
set_option linter.all false
set_option maxRecDepth 100000
set_option maxHeartbeats 4000000
/-! where some token was given before: replace of a variable, and the defs that lead there -/
namespace L2
open PySem PySem.Spec PyProof.Rows
section
variable {X : Cx} {st : Stmt} {rest : List Stmt} {t u : TS} {pos : Pos}
theorem tokm {α : Type} {t : Sem α} {Q : α → Shared → Prop} {M : Model} {A : Around} {E : Value → Shared → Prop} {s : Shared} (h1 : 1 ≤ s.toks) (h : wpAny M A t (fun a s' => 1 ≤ s'.toks → Q a s') E s) : wpAny M A t Q E s :=
  thn (tok1 h1 h) fun _ _ z => z.2 z.1
def PE1 (X : Cx) (e : Expr) (t : TE) : Prop :=
  ∀ (pins : List (Addr × Obj)) (s : Shared) (σ : St) (H : Hp) (Q : VK), 1 ≤ s.toks → Inv X pins σ H s → t σ H Q → wpAny (model X.prog X.w) X.A (eval e X.env) (EP X pins σ Q) X.xe s
def PA1 (X : Cx) (es : List Expr) (t : TA) : Prop :=
  ∀ (pos : Pos) (pins : List (Addr × Obj)) (s : Shared) (σ : St) (H : Hp) (Q : List V → Hp → Prop), 1 ≤ s.toks → Inv X pins σ H s → t σ H Q → wpAny (model X.prog X.w) X.A (spliced (backTo pos (starEach es X.env))) (AP X pins σ Q) X.xe s
def PS1 (X : Cx) (st : Stmt) (t : TS) : Prop :=
  ∀ (pins : List (Addr × Obj)) (s : Shared) (σ : St) (H : Hp) (D : Ends), 1 ≤ s.toks → Inv X pins σ H s → t D σ H → wpAny (model X.prog X.w) X.A (exec st X.env) (SP X pins D) X.xe s
def PSs1 (X : Cx) (st : List Stmt) (t : TS) : Prop :=
  ∀ (pins : List (Addr × Obj)) (s : Shared) (σ : St) (H : Hp) (D : Ends), 1 ≤ s.toks → Inv X pins σ H s → t D σ H → wpAny (model X.prog X.w) X.A (execs st X.env) (SP X pins D) X.xe s
/-- a statement behind which some token was given -/
def PSp (X : Cx) (st : Stmt) (t : TS) : Prop :=
  ∀ (pins : List (Addr × Obj)) (s : Shared) (σ : St) (H : Hp) (D : Ends), Inv X pins σ H s → t D σ H → wpAny (model X.prog X.w) X.A (exec st X.env) (fun f s' => 1 ≤ s'.toks ∧ SP X pins D f s') X.xe s
theorem PE.one {e : Expr} {t : TE} (h : PE X e t) : PE1 X e t := fun pins s σ H Q _ I q => h pins s σ H Q I q
theorem PA.one {es : List Expr} {t : TA} (h : PA X es t) : PA1 X es t := fun pos pins s σ H Q _ I q => h pos pins s σ H Q I q
theorem PS.one (h : PS X st t) : PS1 X st t := fun pins s σ H D _ I q => h pins s σ H D I q
theorem pss1_cons (h1 : PS1 X st t) (h2 : PSs1 X rest u) : PSs1 X (st :: rest) (tSeq t u) := by
  intro pins s σ H D k I h
  refine wpAny_execs_cons (thn (tok1 k (h1 pins s σ H { D with nx := u D } k I h)) fun f s1 q => ?_)
  obtain ⟨k1, q⟩ := q
  cases f with
  | next =>
    obtain ⟨σ', H', I', q⟩ := q
    exact h2 pins s1 σ' H' D k1 I' q
  | ret v => exact q
  | brk => exact q
  | cont => exact q
theorem pssp_cons (h1 : PSp X st t) (h2 : PSs1 X rest u) : PSs X (st :: rest) (tSeq t u) := by
  intro pins s σ H D I h
  refine wpAny_execs_cons (thn (h1 pins s σ H { D with nx := u D } I h) fun f s1 q => ?_)
  obtain ⟨k1, q⟩ := q
  cases f with
  | next =>
    obtain ⟨σ', H', I', q⟩ := q
    exact h2 pins s1 σ' H' D k1 I' q
  | ret v => exact q
  | brk => exact q
  | cont => exact q
theorem pss1_one (h1 : PS1 X st t) : PSs1 X [st] t := by
  intro pins s σ H D k I h
  refine wpAny_execs_cons (thn (h1 pins s σ H D k I h) fun f s1 q => ?_)
  cases f with
  | next => exact wpAny_execs_nil q
  | ret v => exact q
  | brk => exact q
  | cont => exact q
theorem ps1_ret {e : Expr} {te : TE} (he : PE1 X e te) : PS1 X (.Return (some e) pos) (tRet te) := by
  intro pins s σ H D k I h
  exact wpAny_Return_some (thn (he pins s σ H _ k I h) fun v s1 ⟨x, H1, I1, r1, q1⟩ => ⟨x, σ, H1, I1, r1, q1⟩)
theorem ps1_set {i : Nat} {x : Str} {e : Expr} {te : TE} {pos' : Pos} (hN : X.N.Nodup) (hi : X.N[i]? = some x) (hx : Loc X.env.scope x) (he : PE1 X e te) (hs : swapsWith e (some (.Name x pos')) pos.line X.env = pure false := by rfl) (hf : X.fn x = true ∨ X.env.scope.names.lookup x = some .local := by first | exact .inl rfl | exact .inr rfl | assumption) :
    PS1 X (.Assign [.Name x pos'] e pos) (tAsg te (gName i)) := by
  intro pins s σ H D k I h
  refine wpAny_Assign_Name (thn (he pins s σ H _ k I h) fun v s1 ⟨y, H1, I1, r1, q1⟩ => ?_) hs
  exact store_ok I1 hN hi hx r1 (fun s2 I2 => ⟨_, H1, I2, q1⟩) hf
/-- name = "z" -/
theorem psp_str {i : Nat} {x z : Str} {k : Nat} {lp pos' : Pos} (hN : X.N.Nodup) (hi : X.N[i]? = some x) (hx : Loc X.env.scope x) (hs : swapsWith (.Constant (.str z) k lp) (some (.Name x pos')) pos.line X.env = pure false := by rfl) (hf : X.fn x = true ∨ X.env.scope.names.lookup x = some .local := by first | exact .inl rfl | exact .inr rfl | assumption) :
    PSp X (.Assign [.Name x pos'] (.Constant (.str z) k lp) pos) (tAsg (tC (.str z)) (gName i)) := by
  intro pins s σ H D I h
  refine wpAny_Assign_Name (Calls.Constant_str ?_) hs
  refine tok1 (s := { s with toks := s.toks + 1 }) (Nat.le_add_left _ _) ?_
  exact store_ok (v := .str z) (I.tok _) hN hi hx ⟨_, rfl⟩ (fun s2 I2 => ⟨_, H, I2, h⟩) hf
theorem pa1_cons {e : Expr} {es : List Expr} {te : TE} {t : TA} (ha : PE1 X e te) (hr : PA X es t) (hs : starEach (e :: es) X.env = (false, eval e X.env) :: starEach es X.env := by rfl) : PA1 X (e :: es) (tCons te t) := by
  intro pos pins s σ H Q k I h
  rw [hs]
  show wpAny _ _ (spliced ((false, eval e X.env) :: backTo pos (starEach es X.env))) _ _ s
  refine Calls.spliced_cons (thn (ha pins s σ H _ k I h) fun u s1 ⟨x, H1, I1, r1, q1⟩ => ?_)
  exact thn (hr pos pins s1 σ H1 _ I1 q1) fun us s2 ⟨xs, H2, I2, r2, q2⟩ => ⟨x :: xs, H2, I2, .cons r1 r2, q2⟩
theorem pe1_replace {o : Expr} {to : TE} {apos cpos : Pos} {z y : Str} {k1 k2 : Nat} {lp1 lp2 : Pos} (ho : PE1 X o to) (hyz : (y == z) = false) (hz : z.length ≤ 14)
    (hbase : attributeBase o "replace" X.env (eval o X.env) = eval o X.env := by rfl)
    (hfew : ((backTo cpos (starEach [.Constant (.str y) k1 lp1, .Constant (.str z) k2 lp2] X.env)).all (fun x => !x.1) && (backToKw cpos (keywordEach [] X.env)).all (fun x => x.1.isSome)
      && decide ([Expr.Constant (.str y) k1 lp1, .Constant (.str z) k2 lp2].length + ([] : List Keyword).length + (if ([] : List Keyword).isEmpty then 0 else 1) < 30)) = true := by rfl)
    (hline : (apos.endLine == cpos.line) = true := by rfl)
    (hs : starEach [.Constant (.str y) k1 lp1, .Constant (.str z) k2 lp2] X.env = [(false, eval (.Constant (.str y) k1 lp1) X.env), (false, eval (.Constant (.str z) k2 lp2) X.env)] := by rfl) :
    PE1 X (.Call (.Attribute o "replace" apos) [.Constant (.str y) k1 lp1, .Constant (.str z) k2 lp2] [] cpos) (fun σ H Q => to σ H fun x H1 => ∃ u, x = .str u ∧ u.length ≤ 1048576 ∧ Q (.str (Txt.replace u y z)) H1) := by
  intro pins s σ H Q k I h
  refine wpAny_Call_method_late hbase hfew hline rfl (thn (tok1 k (ho pins s σ H _ k I h)) fun v s1 ⟨h1, x, H1, I1, r1, q1⟩ => ?_)
  obtain ⟨u, rfl, hu, q⟩ := q1
  obtain ⟨t0, rfl⟩ := r1
  refine ⟨"str", "str.replace", PySem.F.plainAttrs_str, PySem.F.slot_str_replace, PySem.F.type_str_replace, typeIs_str _ _ _, (fun _ q => nomatch q), ?_⟩
  rw [hs]
  refine Calls.callWith_builtin (by rfl) (Calls.evalArgs_plain ?_)
  show wpAny _ _ (spliced ((false, eval (.Constant (.str y) k1 lp1) X.env) :: [(false, _)])) _ _ s1
  refine Calls.spliced_cons (Calls.Constant_str ?_)
  refine Calls.spliced_cons (Calls.Constant_str (k := k2) (pos := lp2) ?_)
  refine Calls.spliced_nil ?_
  refine SC.replaceW (by show s1.toks ≠ 0; omega) (by show s1.toks + 1 ≠ 0; omega) (by show s1.toks ≠ s1.toks + 1; omega) hyz hu hz fun t' k' => ?_
  exact ⟨.str _, H1, I1.tok k', ⟨_, rfl⟩, q⟩
end
/-! ### defs that are called behind some token -/
structure FnOk1 (P : Program) (w : World) (K : PySem.W.Frag) (mg : Str → Option Value) (base : Heap) (k : Nat) (f : Addr) (fd : FuncData) (ps : List Str) (sp : Sp) : Prop where
  len : ∀ vs H Q E, sp vs H Q E → vs.length = ps.length
  run : ∀ (A : Around) (outer : List Env) (s : Shared) (H : Hp) (args : Args) (us : List Value) (vs : List V) (Q : VK) (E : XK), 1 ≤ s.toks → Room k A → Env0 P w K mg base A outer s H → BindsTo s fd args (ps.zip us) → Vals vs us → sp vs H Q E →
    codeAny (model P w) A (.call (.ref f) args) (CR CX0 outer P w H s Q E) s
theorem FnOk.one {P : Program} {w : World} {K : PySem.W.Frag} {mg : Str → Option Value} {base : Heap} {k : Nat} {f : Addr} {fd : FuncData} {ps : List Str} {sp : Sp} (F : FnOk P w K mg base CX0 k f fd ps sp) : FnOk1 P w K mg base k f fd ps sp :=
  ⟨F.len, fun A outer s H args us vs Q E _ => F.run A outer s H args us vs Q E⟩
section
variable {X : Cx} {k : Nat} {f : Addr} {fd : FuncData} {ps : List Str} {sp : Sp} {x : Str} {p pos : Pos} {e : Expr} {es : List Expr} {t : TA}
theorem run_fn1 {pins : List (Addr × Obj)} {σ : St} {H : Hp} {s : Shared} {Q : VK} {us : List Value} {vs : List V} (F : FnOk1 X.prog X.w X.K X.mg X.base k f fd ps sp) (hr : Room k X.A) (hb : Binds X.K fd ps []) (h1 : 1 ≤ s.toks)
    (I : Inv X pins σ H s) (r : Vals vs us) (h : sp (vs ++ []) H Q E0) : wpAny (model X.prog X.w) X.A (call (.ref f) us) (EP X pins σ Q) X.xe s := by
  have r2 : Vals (vs ++ []) (us ++ []) := r.append .nil
  have hl : (us ++ []).length = ps.length := by rw [← r2.length]; exact F.len _ _ _ _ h
  refine wpAny_call (codeAny_mono (F.run X.A X.stack s H ⟨us, []⟩ (us ++ []) (vs ++ []) Q E0 h1 hr I.env0 (hb s us I.kIn hl) r2 h) fun r s' hq => ?_)
  cases r with
  | error e => exact (pass0 : Passes CX0 X E0) pins σ H s e s' I hq
  | ok fl =>
    cases fl with
    | ret u => exact I.after hq
    | next => exact False.elim hq
    | brk => exact False.elim hq
    | cont => exact False.elim hq
/-- a def that keeps its promise behind some token -/
structure Ca1 (P : Program) (w : World) (K : PySem.W.Frag) (mg : Str → Option Value) (base : Heap) (k : Nat) (x : Str) (ps : List Str) (sp : Sp) : Prop where
  ex : ∃ (f : Addr) (fd : FuncData), FnOk1 P w K mg base k f fd ps sp ∧ Binds K fd ps [] ∧ PySem.W.keepIn K (.ref f) = true ∧ mg x = some (.ref f)
theorem Ca.one {P : Program} {w : World} {K : PySem.W.Frag} {mg : Str → Option Value} {base : Heap} (C : Ca P w K mg base k x ps sp) : Ca1 P w K mg base k x ps sp := by
  obtain ⟨f, fd, F, r⟩ := C.ex
  exact ⟨f, fd, F.one, r⟩
theorem pe1_ca (C : Ca1 X.prog X.w X.K X.mg X.base k x ps sp) (hr : Room k X.A) (hg : Gl X x) (ha : PA1 X (e :: es) t)
    (hdb : (x == ("__debug__" : Str)) = false := by decide) (he : starEach (e :: es) X.env = (false, eval e X.env) :: starEach es X.env := by rfl) (hpl : (backTo pos (starEach es X.env)).any (·.1) = false := by rfl) :
    PE1 X (.Call (.Name x p) (e :: es) [] pos) (tCall sp [] E0 t) := by
  obtain ⟨f, fd, F, B, kp, m⟩ := C.ex
  intro pins s σ H Q h1 I h
  refine wpAny_Call_Name_kw (ld_glob I hg m ?_ hdb)
  refine PySem.W.callWith_K (h₀ := X.base) I.ok.mod.kin kp (thn (tok1 h1 (ha pos pins s σ H _ h1 I h)) fun us s1 ⟨k1, vs, H1, I1, r, q⟩ => ⟨I1.kIn, ?_⟩) he hpl
  exact run_fn1 F hr B k1 I1 r q
end
theorem fn_of1 {P : Program} {w : World} {K : PySem.W.Frag} {mg : Str → Option Value} {base : Heap} {k : Nat} {f : Addr} {name qual : Str} {params : Arguments} {body : List Stmt} {scope : Scope} {dV kV doc pm cdv ct oc : Value} {an od : Option Addr}
    {osl : Array (Option Value)} {N ps : List Str} {sp : Sp} (lk : K.lookup f = some ⟨oc, od, .func (PySem.W.fnOf name qual params body scope dV kV doc pm an cdv ct), osl⟩) (hcd : PySem.W.codeIn K cdv qual = true) (S : FnScope N ps scope)
    (len : ∀ vs H Q E, sp vs H Q E → vs.length = ps.length)
    (hbody : ∀ (A : Around) (outer : List Env) (s : Shared) (H : Hp) (vs : List V) (Q : VK) (E : XK), Room k (A.deeper (envOfC qual scope s.heap.objs.size f cdv)) → sp vs H Q E →
      ∃ t, PSs1 (cxOf CX0 P w K mg base N qual scope f cdv A outer s H E) body t ∧ t { nx := fun _ H' => Q .non H', rt := Q } (start N vs) H) :
    FnOk1 P w K mg base (k + 1) f (PySem.W.fnOf name qual params body scope dV kV doc pm an cdv ct) ps sp := by
  refine ⟨len, fun A outer s H args us vs Q E h1 hr e0 hb r hsp => ?_⟩
  have hl := len _ _ _ _ hsp
  have KX : K.In s.heap := e0.mod.kin.keeps fun b o e => (e0.bs b o e).1
  have lim : s.heap.NoLimit := e0.mod.nolimit.keeps fun b o e => (e0.bs b o e).1
  have hkind : ∀ y ∈ ps.zip us, scope.names.lookup y.1 = some .local ∨ (scope.names.lookup y.1 = some .cell ∧ ((cellsFrom (s.heap.objs.size + 1) scope.names []).lookup y.1).isSome = true) := fun ⟨n, v⟩ hy => by
    rcases S.par n (List.of_mem_zip hy).1 with q | q
    · exact .inl q
    · exact .inr ⟨q, PySem.W.cellsFrom_some _ _ _ (.inl q)⟩
  refine codeAny_call_function hr.depth (KX _ _ lk) rfl S.co S.gen rfl (PySem.W.codeRec_of KX hcd) (hb _ _ _ _ ?_)
  refine tokm h1 (wpAny_newFunctionEnv_cells S.kind hkind fun env he s1 x k1 => ?_)
  subst he
  refine ⟨lim.keeps x.toInCall.keep, codeAny_func ?_⟩
  obtain ⟨t, ht, hq⟩ := hbody A outer s H vs Q E (hr.deeper _) hsp
  have I : Inv (cxOf CX0 P w K mg base N qual scope f cdv A outer s H E) [] (start N vs) H s1 := inv_start S hr.hd e0 hl r x
  refine wpAny_mono (ht [] s1 (start N vs) H _ k1 I hq) (fun fl s' hs => ?_) fun e s' hs => hs
  have fin : ∀ {σ' : St} {H' : Hp} {v : V} {u : Value}, Inv (cxOf CX0 P w K mg base N qual scope f cdv A outer s H E) [] σ' H' s' → RelV v u → Q v H' → CE outer P w H s Q u s' :=
    fun {σ' H' v u} J rv q => ⟨v, H', J.os, J.bare, J.base, J.hok, rv, q⟩
  cases fl with
  | ret u =>
    obtain ⟨v, σ', H', J, rv, q⟩ := hs
    exact fin J rv q
  | next =>
    obtain ⟨σ', H', J, q⟩ := hs
    exact fin (v := V.non) (u := Value.none) J rfl q
  | brk =>
    obtain ⟨_, _, _, q⟩ := hs
    exact False.elim q
  | cont =>
    obtain ⟨_, _, _, q⟩ := hs
    exact False.elim q
theorem PSs1.nox {X : Cx} {st : List Stmt} {t : TS} (h : PSs1 X.nox st t) : PSs1 X st t := fun pins s σ H D k I hw =>
  wpAny_mono (h pins s σ H D k (I.wish _) hw) (fun f s' q => q.unwish) fun _ _ z => z.elim
section
variable {P : Program} {w : World} {K : PySem.W.Frag} {mg : Str → Option Value} {base : Heap}
theorem Fun.ok1 {x qual : Str} {st : Stmt} {f : Addr} {fd : FuncData} {N ps : List Str} {k : Nat} {sp : Sp} (F : Fun K x qual st f fd) (S : FnScope N ps (defScope st)) (len : ∀ vs H Q E, sp vs H Q E → vs.length = ps.length)
    (hbody : ∀ (cdv : Value) (A : Around) (outer : List Env) (s : Shared) (H : Hp) (vs : List V) (Q : VK) (E : XK), Room k (A.deeper (envOfC qual (defScope st) s.heap.objs.size f cdv)) → sp vs H Q E →
      ∃ t, PSs1 (cxOf CX0 P w K mg base N qual (defScope st) f cdv A outer s H E).nox (defBody st) t ∧ t { nx := fun _ H' => Q .non H', rt := Q } (start N vs) H) : FnOk1 P w K mg base (k + 1) f fd ps sp := by
  obtain ⟨oc, od, kV, doc, pm, an, cdv, ct, osl, rfl, lk, hcd⟩ := F.ex
  refine fn_of1 lk hcd S len fun A outer s H vs Q E hr hsp => ?_
  obtain ⟨t, h, q⟩ := hbody cdv A outer s H vs Q E hr hsp
  exact ⟨t, h.nox, q⟩
end
end L2
set_option Elab.async false
set_option linter.all false
set_option maxRecDepth 100000
set_option maxHeartbeats 4000000
/-! the second level: behind some token -/
namespace WL
open PySem PySem.Spec PyProof.Rows L2
def SdE1 (X : Cx) (e : Expr) (w : WE) : Prop := ∃ t, PE1 X e t ∧ SimE X.K t w
def SdA1 (X : Cx) (es : List Expr) (w : WA) : Prop := ∃ t, PA1 X es t ∧ SimA X.K t w
def SdS1 (X : Cx) (st : Stmt) (w : WS) : Prop := ∃ t, PS1 X st t ∧ SimS X.K t w
def SdSp (X : Cx) (st : Stmt) (w : WS) : Prop := ∃ t, PSp X st t ∧ SimS X.K t w
def SdB1 (X : Cx) (st : List Stmt) (w : WS) : Prop := ∃ t, PSs1 X st t ∧ SimS X.K t w
section
variable {X : Cx} {e a b o : Expr} {es : List Expr} {st : Stmt} {rest : List Stmt} {we wa wb wo : WE} {wA : WA} {w u : WS} {pos p cpos apos : Pos}
theorem SdE.one (h : SdE X e we) : SdE1 X e we := by obtain ⟨t, p, s⟩ := h; exact ⟨t, p.one, s⟩
theorem SdA.one (h : SdA X es wA) : SdA1 X es wA := by obtain ⟨t, p, s⟩ := h; exact ⟨t, p.one, s⟩
theorem SdS.one (h : SdS X st w) : SdS1 X st w := by obtain ⟨t, p, s⟩ := h; exact ⟨t, p.one, s⟩
theorem da1_cons (ha : SdE1 X a wa) (hb : SdA X es wA) (hs : starEach (a :: es) X.env = (false, eval a X.env) :: starEach es X.env := by rfl) : SdA1 X (a :: es) (aCons wa wA) := by
  obtain ⟨ta, p1, s1⟩ := ha
  obtain ⟨tb, p2, s2⟩ := hb
  exact ⟨_, pa1_cons p1 p2 hs, s_cons s1 s2⟩
theorem d1_replace {y z : Str} {k1 k2 : Nat} {lp1 lp2 : Pos} (ho : SdE1 X o wo) (hyz : (y == z) = false) (hz : z.length ≤ 14)
    (hbase : attributeBase o "replace" X.env (eval o X.env) = eval o X.env := by rfl)
    (hfew : ((backTo cpos (starEach [.Constant (.str y) k1 lp1, .Constant (.str z) k2 lp2] X.env)).all (fun x => !x.1) && (backToKw cpos (keywordEach [] X.env)).all (fun x => x.1.isSome)
      && decide ([Expr.Constant (.str y) k1 lp1, .Constant (.str z) k2 lp2].length + ([] : List Keyword).length + (if ([] : List Keyword).isEmpty then 0 else 1) < 30)) = true := by rfl)
    (hline : (apos.endLine == cpos.line) = true := by rfl)
    (hs : starEach [.Constant (.str y) k1 lp1, .Constant (.str z) k2 lp2] X.env = [(false, eval (.Constant (.str y) k1 lp1) X.env), (false, eval (.Constant (.str z) k2 lp2) X.env)] := by rfl) :
    SdE1 X (.Call (.Attribute o "replace" apos) [.Constant (.str y) k1 lp1, .Constant (.str z) k2 lp2] [] cpos) (eRepl y z wo) := by
  obtain ⟨t, p1, sm⟩ := ho
  refine ⟨_, pe1_replace p1 hyz hz hbase hfew hline hs, fun F H C σ τ Q Q' χ R S h q => ?_⟩
  refine sm F H C σ τ _ _ χ R S h fun x v H1 C1 R1 t1 rx h1 => ?_
  obtain ⟨u, rfl, hu, h1⟩ := h1
  cases of_str rx
  exact ⟨u, rfl, hu, q _ _ H1 C1 R1 t1 rep_str h1⟩
theorem ds1_ret (a : SdE1 X e we) : SdS1 X (.Return (some e) pos) (sRet we) := by
  obtain ⟨t, p, s⟩ := a
  refine ⟨_, ps1_ret p, fun F H C σ τ D D' R S h d => ?_⟩
  exact s F H C σ τ _ _ D'.xc R S h d.rt
theorem ds1_set {i : Nat} {x : Str} {pos' : Pos} (hN : X.N.Nodup) (he : SdE1 X e we) (hi : X.N[i]? = some x := by rfl) (hx : Loc X.env.scope x := by first | exact Or.inl rfl | exact Or.inr rfl) (hs : swapsWith e (some (.Name x pos')) pos.line X.env = pure false := by rfl)
    (hf : X.fn x = true ∨ X.env.scope.names.lookup x = some .local := by first | exact .inl rfl | exact .inr rfl | assumption) : SdS1 X (.Assign [.Name x pos'] e pos) (sAsg we (gNm i)) := by
  obtain ⟨t, p, s⟩ := he
  refine ⟨_, ps1_set hN hi hx p hs hf, fun F H C σ τ D D' R S h d => ?_⟩
  refine s F H C σ τ _ _ D'.xc R S h fun x v H1 C1 R1 t1 rx h1 => ?_
  exact sg_name F H1 C1 σ τ x v _ _ D'.xc R1 (S.tx t1) rx h1 fun σ' τ' H' C' R' t' => d.nx σ' τ' H' C' R' (t1.trans t')
/-- name = "z" -/
theorem dsp_str {i : Nat} {x z : Str} {k : Nat} {lp pos' : Pos} (hN : X.N.Nodup) (hi : X.N[i]? = some x := by rfl) (hx : Loc X.env.scope x := by first | exact Or.inl rfl | exact Or.inr rfl) (hs : swapsWith (.Constant (.str z) k lp) (some (.Name x pos')) pos.line X.env = pure false := by rfl)
    (hf : X.fn x = true ∨ X.env.scope.names.lookup x = some .local := by first | exact .inl rfl | exact .inr rfl | assumption) : SdSp X (.Assign [.Name x pos'] (.Constant (.str z) k lp) pos) (sAsg (eC (.str z)) (gNm i)) := by
  refine ⟨_, psp_str hN hi hx hs hf, fun F H C σ τ D D' R S h d => ?_⟩
  exact sg_name F H C σ τ _ _ _ _ D'.xc R S rep_str h fun σ' τ' H' C' R' t' => d.nx σ' τ' H' C' R' t'
theorem db1_one (a : SdS1 X st w) : SdB1 X [st] w := by
  obtain ⟨t, p, s⟩ := a
  exact ⟨_, pss1_one p, s⟩
theorem db1_cons (a : SdS1 X st w) (b : SdB1 X rest u) : SdB1 X (st :: rest) (sSeq w u) := by
  obtain ⟨t, p, s⟩ := a
  obtain ⟨t', p', s'⟩ := b
  refine ⟨_, pss1_cons p p', fun F H C σ τ D D' R S h d => ?_⟩
  exact s F H C σ τ _ _ R S h ⟨fun σ' τ' H' C' R' t' S' h' => s' F H' C' σ' τ' D D' R' S' h' (d.at t'), d.rt, d.bk, d.ct⟩
theorem dbp_cons (a : SdSp X st w) (b : SdB1 X rest u) : SdB X (st :: rest) (sSeq w u) := by
  obtain ⟨t, p, s⟩ := a
  obtain ⟨t', p', s'⟩ := b
  refine ⟨_, pssp_cons p p', fun F H C σ τ D D' R S h d => ?_⟩
  exact s F H C σ τ _ _ R S h ⟨fun σ' τ' H' C' R' t' S' h' => s' F H' C' σ' τ' D D' R' S' h' (d.at t'), d.rt, d.bk, d.ct⟩
end
end WL
set_option Elab.async false
set_option linter.all false
set_option maxRecDepth 100000
set_option maxHeartbeats 4000000
/-! a dict of the module, from texts to ints: get -/
namespace L2
open PySem PySem.Spec PyProof.Rows
/-- the entries of a dict, in order -/
def Ents (P : Params) : List DictEntry → List (Str × Int) → Prop
  | [], [] => True
  | e :: l, (x, i) :: r => ((∃ t, e.key = .str x t) ∧ e.hash = PyData.keyHash P x ∧ ∃ t, e.val = .int i t) ∧ Ents P l r
  | _, _ => False
theorem Ents.lit {P : Params} : ∀ {l : List DictEntry} {r : List (Str × Int)}, Ents P l r → PySem.W.KeysLit P l
  | [], [], _ => trivial
  | e :: l, (x, i) :: r, h => ⟨let ⟨t, e1⟩ := h.1.1; ⟨x, t, e1, h.1.2.1⟩, Ents.lit h.2⟩
  | [], _ :: _, h => h.elim
  | _ :: _, [], h => h.elim
theorem Ents.look {P : Params} {z : Str} : ∀ {l : List DictEntry} {r : List (Str × Int)}, Ents P l r →
    (∀ i, r.lookup z = some i → ∃ t, (l.find? fun d => Value.isStrOf z d.key).map (·.val) = some (.int i t)) ∧ (r.lookup z = none → (l.find? fun d => Value.isStrOf z d.key).map (·.val) = none)
  | [], [], _ => ⟨fun i h => by simp at h, fun _ => rfl⟩
  | e :: l, (x, i) :: r, h => by
    obtain ⟨⟨⟨t, e1⟩, _, ⟨u, e2⟩⟩, h2⟩ := h
    by_cases c : z = x
    · subst c
      have hk : Value.isStrOf z e.key = true := by rw [e1]; simp [Value.isStrOf]
      rw [List.find?_cons_of_pos (p := fun d : DictEntry => Value.isStrOf z d.key) (a := e) hk]
      have hb : (z == z) = true := beq_self_eq_true z
      simp only [List.lookup, hb]
      refine ⟨fun j hj => ?_, fun hj => by cases hj⟩
      cases hj
      exact ⟨u, by rw [← e2]; rfl⟩
    · have hk : ¬ Value.isStrOf z e.key = true := by
        rw [e1]
        intro hh
        obtain ⟨t', hv⟩ := Value.isStrOf_shape hh
        cases hv
        exact c rfl
      rw [List.find?_cons_of_neg (p := fun d : DictEntry => Value.isStrOf z d.key) (a := e) hk]
      have hb : (z == x) = false := beq_eq_false_iff_ne.mpr c
      simp only [List.lookup, hb]
      exact Ents.look h2
  | [], _ :: _, h => h.elim
  | _ :: _, [], h => h.elim
/-- a dict of the module's top -/
structure GDk (w : World) (K : PySem.W.Frag) (mg : Str → Option Value) (x : Str) (kvs : List (Str × Int)) : Prop where
  ex : ∃ (a : Addr) (es : Array DictEntry) (n : Nat), mg x = some (.ref a) ∧ (a == sysModules) = false ∧ K.lookup a = some ⟨.type "dict", none, .dict es n, #[]⟩ ∧ Ents w.params es.toList kvs
def gcV (kvs : List (Str × Int)) (z : Str) : V := match kvs.lookup z with | some i => .int i | none => .non
theorem pe_gcget {X : Cx} {x : Str} {e : Expr} {ty : TE} {p apos cpos : Pos} {kvs : List (Str × Int)} (hg : Gl X x) (G : GDk X.w X.K X.mg x kvs) (he : PE X e ty) (m : M1 X (.Name x p) "get" apos e cpos) (hdb : (x == ("__debug__" : Str)) = false := by decide) :
    PE X (.Call (.Attribute (.Name x p) "get" apos) [e] [] cpos) (fun σ H Q => ty σ H fun y H1 => ∃ z, y = .str z ∧ Q (gcV kvs z) H1) := by
  obtain ⟨a, es, n, hm, lo, hl, hE⟩ := G.ex
  intro pins s σ H Q I h
  refine wpAny_Call_method m.base m.few m.line PySem.F.plainAttrs_dict PySem.F.slot_dict_get PySem.F.type_dict_get (ld_glob I hg hm ?_ hdb)
  have hmap : ∀ {s2 : Shared} {H2 : Hp}, Inv X pins σ H2 s2 → s2.heap.MapOf (PySem.strKind X.prog X.w) a (fun k => PySem.findBy Value.isStrOf es k) := fun {s2 H2} I2 => PySem.W.mapOf_K I2.kIn hl hE.lit
  refine ⟨(hmap I).typeIs, fun b q => ?_, ?_⟩
  · cases q
    exact ⟨_, I.kIn _ _ hl, rfl⟩
  rw [m.trees]
  refine Calls.callWith_builtin rfl (Calls.evalArgs_plain (Calls.spliced_cons (thn (he pins s σ H _ I h) fun iv s2 ⟨y, H2, I2, ry, z, ey, q2⟩ => Calls.spliced_nil ?_)))
  subst ey
  obtain ⟨tk, rfl⟩ := ry
  refine call_meetsIn PySem.F.slot_dict_get (hmap I2).typeIs PySem.F.entry_dict_get (PySem.F.args_dict_get_2 _ _) (meets_dict_get (PySem.strKind X.prog X.w) a (k := z) (by show Value.isStrOf z (Value.str z tk) = true; simp [Value.isStrOf]) lo) ⟨_, hmap I2, ?_⟩
  refine ⟨gcV kvs z, H2, I2.tok _, ?_, q2⟩
  have hf : PySem.findBy Value.isStrOf es z = (es.toList.find? fun d => Value.isStrOf z d.key).map (·.val) := by
    obtain ⟨l⟩ := es
    unfold PySem.findBy
    rw [List.find?_toArray]
  show RelV (gcV kvs z) ((PySem.findBy Value.isStrOf es z).getD .none)
  rw [hf]
  unfold gcV
  cases hk : kvs.lookup z with
  | some i =>
    obtain ⟨t, e1⟩ := hE.look.1 i hk
    rw [e1]
    exact ⟨t, rfl⟩
  | none =>
    rw [hE.look.2 hk]
    rfl
end L2
set_option Elab.async false
set_option linter.all false
set_option maxRecDepth 100000
set_option maxHeartbeats 4000000
/-! the second level: get of a dict of the module; a list looked for in a tuple -/
namespace WL
open PySem PySem.Spec PyProof.Rows L2
def gcT (kvs : List (Str × Int)) (z : Str) : T := match kvs.lookup z with | some i => .int i | none => .non
def eGc (kvs : List (Str × Int)) (we : WE) : WE := fun τ C Q χ => we τ C (fun v C1 => ∃ z, v = .str z ∧ Q (gcT kvs z) C1) χ
theorem d_gcget {X : Cx} {x : Str} {e : Expr} {we : WE} {p apos cpos : Pos} {kvs : List (Str × Int)} (hg : Gl X x) (G : GDk X.w X.K X.mg x kvs) (he : SdE X e we) (m : M1 X (.Name x p) "get" apos e cpos) (hdb : (x == ("__debug__" : Str)) = false := by decide) :
    SdE X (.Call (.Attribute (.Name x p) "get" apos) [e] [] cpos) (eGc kvs we) := by
  obtain ⟨t, p1, s1⟩ := he
  refine ⟨_, pe_gcget hg G p1 m hdb, fun F H C σ τ Q Q' χ R S h q => ?_⟩
  refine s1 F H C σ τ _ _ χ R S h fun y u H1 C1 R1 t1 ry h1 => ?_
  obtain ⟨z, rfl, h1⟩ := h1
  cases of_str ry
  refine ⟨z, rfl, q _ _ H1 C1 R1 t1 ?_ h1⟩
  unfold gcV gcT
  cases kvs.lookup z with
  | some i => exact rep_int
  | none => exact rep_non
/-- x in a tuple of plain values, x a text or a list -/
def wInR : W2 := fun v u C Q => match v, u with
  | .ref a, .tup ts => (∃ xs, C a = some (.lst xs)) ∧ (∃ zs : List Str, ts = zs.map T.str) ∧ Q (.bl false) C
  | v, u => wIn v u C Q
theorem o_inR {X : Cx} (hu : X.A.units + 150 < cLine) : OpS X (compareOp .In) wInR := ⟨_, op_dir, fun F H C x y v u Q Q' R rx ry h q pins s σ v' u' I r1 r2 => by
  have old : wIn v u C Q' → wpAny (model X.prog X.w) X.A (compareOp .In v' u') (EP X pins σ Q) X.xe s := fun h => by
    obtain ⟨r, ho, hs⟩ := o_in (X := X) hu
    exact ho pins s σ H x y v' u' Q I r1 r2 (hs F H C x y v u Q Q' R rx ry h q)
  cases v with
  | ref a =>
    cases u with
    | tup ts =>
      obtain ⟨⟨xs, hC⟩, ⟨ws, rfl⟩, hq⟩ := h
      cases of_ref rx
      cases (show v' = Value.ref a from r1)
      obtain ⟨ys, hy, _⟩ := R.lst hC
      obtain ⟨itsL, _, pL, _⟩ := I.list (SqL.of hy)
      obtain ⟨b, zs, rfl, hz, rz⟩ := of_tup ry
      cases (show u' = Value.ref b from r2)
      obtain ⟨its, rI, p, _⟩ := I.tuple hz
      cases of_strs rz
      have at1 : ∀ w, w ∈ its.toArray → SeqAt.EqAt X.A.in1 s w (.ref a) false := fun w hw => by
        have hw' : w ∈ its := by simpa using hw
        obtain ⟨j, hj⟩ := List.mem_iff_getElem?.mp hw'
        have hlt : j < its.length := (List.getElem?_eq_some_iff.mp hj).1
        have hl : its.length = ws.length := by rw [← rI.length, List.length_map]
        have e2 : (ws.map V.str)[j]? = some (.str (ws[j]'(by omega))) := by simp [hl ▸ hlt]
        obtain ⟨u2, m2, z2⟩ := rI.get e2
        rw [hj] at m2; cases m2
        obtain ⟨t, rfl⟩ := z2
        exact SeqAt.EqAt.str_list _ t pL.isList (by show X.A.units + 1 < cLine; omega)
      refine SeqAt.in_tupleAt (fun _ => false) p at1 ⟨.bl _, H, I, rfl, ?_⟩
      have e : its.toArray.any (fun _ => false) = false := by simp
      rw [e]
      exact q _ _ H C R (Tx.refl H) rep_bl hq
    | _ => exact old h
  | non => exact old h
  | bl _ => exact old h
  | int _ => exact old h
  | str _ => exact old h
  | tup _ => exact old h
  | cl _ => exact old h⟩
end WL
set_option Elab.async false
set_option linter.all false
set_option maxRecDepth 100000
set_option maxHeartbeats 4000000
/-! name = f(.., a written number, ..): some token was given behind it -/
namespace L2
open PySem PySem.Spec PyProof.Rows
section
variable {X : Cx} {pos p : Pos} {e : Expr} {es : List Expr} {te : TE} {t : TA}
end
end L2
set_option Elab.async false
set_option linter.all false
set_option maxRecDepth 100000
set_option maxHeartbeats 4000000
/-! the second level: a call with a written number gives a token; and, behind some token -/
namespace WL
open PySem PySem.Spec PyProof.Rows L2
section
variable {X : Cx} {pos p : Pos} {a b e : Expr} {es rest : List Expr} {wa wb : WE} {wA : WA}
end
end WL
set_option Elab.async false
set_option linter.all false
set_option maxRecDepth 100000
set_option maxHeartbeats 400000
/-! raise: an exception of an own class flies through the callers -/
namespace L2
open PySem PySem.Spec PyProof.Rows
/-- what stays behind an exception: B holds all that is no frame -/
structure UnB (fs ex : List Addr) (H H' : Hp) (h B : Heap) : Prop where
  keep : ∀ b o, h.get? b = some o → H b = none → b ∉ fs → b ∉ ex → B.get? b = some o
  free : ∀ b o, h.get? b = some o → H b = none → b ∉ ex → H' b = none
  there : ∀ b o, h.get? b = some o → b ∉ fs → b ∉ ex → ∃ o', B.get? b = some o'
  tups : ∀ b xs, H b = some (.tup xs) → H' b = some (.tup xs)
  frzs : ∀ b o u, H b = some (.frz o u) → H' b = some (.frz o u)
  tbls : ∀ b ps, H b = some (.tbl ps) → ∃ more, H' b = some (.tbl (ps ++ more))
/-- an exception behind a call: ex may have changed; Z: what else B keeps; Fl: how it lies -/
def CXz (P : Program) (w : World) (ex : List Addr) (Z : Hp → Heap → Prop) (Fl : Heap → List Env → Addr → Value → Value → Heap → Prop) : CXT := fun outer H s E e s' => ∃ ea cls a0 H' B, e = .ref ea ∧ E cls none H' ∧ s'.os = s.os ∧ AllBare s'.gens ∧ UnB (frs outer) ex H H' s.heap B ∧
  (∀ b ∈ frs outer, ∀ o, s.heap.get? b = some o → b ∉ ex → ∃ sl, s'.heap.get? b = some { o with slots := sl }) ∧ HOk P w H' B ∧ Z H' B ∧ Fl B outer ea cls a0 s'.heap
def CXr (P : Program) (w : World) : CXT := CXz P w [] (fun _ _ => True) Heap.FlyingW
theorem UnB.hide {fs ex as : List Addr} {H H' : Hp} {h h' : Heap} (u : Un fs ex H H' h h') (k : ∀ b o, h.get? b = some o → b ∉ fs → b ∉ as) : UnB fs ex H H' h (PySem.W.hideAll h' as) where
  keep := fun b o e n hb hx => PySem.W.hideAll_get _ (u.keep b o e n hb hx) (k b o e hb)
  free := fun b o e n hx => u.free b o e n hx
  there := fun b o e hb hx => let ⟨o', q⟩ := u.there b o e hx; ⟨o', PySem.W.hideAll_get _ q (k b o e hb)⟩
  tups := u.tups
  frzs := u.frzs
  tbls := u.tbls
theorem UnB.pre {fs fs' ex ex' : List Addr} {H H1 H2 : Hp} {h h1 B : Heap} (a : Un fs ex H H1 h h1) (b : UnB fs' ex' H1 H2 h1 B) (k : ∀ b o, h.get? b = some o → b ∉ fs → b ∉ fs') (kx : ∀ b o, h.get? b = some o → b ∉ ex → b ∉ ex') : UnB fs ex H H2 h B where
  keep := fun c o e n hc hx => b.keep c o (a.keep c o e n hc hx) (a.free c o e n hx) (k c o e hc) (kx c o e hx)
  free := fun c o e n hx => let ⟨o', q⟩ := a.there c o e hx; b.free c o' q (a.free c o e n hx) (kx c o e hx)
  there := fun c o e hc hx => let ⟨o', q⟩ := a.there c o e hx; b.there c o' q (k c o e hc) (kx c o e hx)
  tups := fun c xs q => b.tups c xs (a.tups c xs q)
  frzs := fun c o u q => b.frzs c o u (a.frzs c o u q)
  tbls := fun c ps q => by
    obtain ⟨m1, e1⟩ := a.tbls c ps q
    obtain ⟨m2, e2⟩ := b.tbls c _ e1
    exact ⟨m1 ++ m2, by rw [e2, Array.append_assoc]⟩
/-- one more is hidden that is new -/
theorem UnB.hid {fs ex : List Addr} {H H' : Hp} {h B : Heap} {C : Addr} (b : UnB fs ex H H' h B) (n : h.objs.size ≤ C) : UnB fs ex H H' h (PySem.W.hideAll B [C]) where
  keep := fun c o e q hc hx => PySem.W.hideAll_get _ (b.keep c o e q hc hx) fun m => by rw [List.mem_singleton.mp m] at e; exact absurd (Heap.lt_size e) (Nat.not_lt.mpr n)
  free := b.free
  there := fun c o e hc hx => let ⟨o', q⟩ := b.there c o e hc hx; ⟨o', PySem.W.hideAll_get _ q fun m => by rw [List.mem_singleton.mp m] at e; exact absurd (Heap.lt_size e) (Nat.not_lt.mpr n)⟩
  tups := b.tups
  frzs := b.frzs
  tbls := b.tbls
theorem HOk.hide {P : Program} {w : World} {H : Hp} {h : Heap} {as : List Addr} (x : HOk P w H h) (n : ∀ b ∈ as, H b = none) : HOk P w H (PySem.W.hideAll h as) := fun a o e =>
  (x a o e).stay (fun b u hb q => PySem.W.hideAll_get _ q fun m => by
    have := n b m
    rcases hb with rfl | hb
    · rw [e] at this; cases this
    · rw [hb] at this; cases this) (fun _ q => q) fun _ _ q => q
section
variable {P : Program} {w : World} {K : PySem.W.Frag} {mg : Str → Option Value} {base : Heap} {N : List Str} {qual : Str} {scope : Scope} {f : Addr} {cdv : Value} {A : Around} {outer : List Env} {s0 : Shared} {H0 : Hp} {E : XK}
theorem frs_in {l : List Env} {env : Env} {a : Addr} (h : env ∈ l) (e : env.frame = some a) : a ∈ frs l := List.mem_filterMap.mpr ⟨env, h, e⟩
theorem not_stack {pins : List (Addr × Obj)} {σ : St} {H : Hp} {s : Shared} (I : Inv (cxOf (CXr P w) P w K mg base N qual scope f cdv A outer s0 H0 E) pins σ H s) : ∀ b o, s0.heap.get? b = some o → b ∉ frs outer → b ∉ frs (cxOf (CXr P w) P w K mg base N qual scope f cdv A outer s0 H0 E).stack := fun b o e hb m => by
  rcases List.mem_cons.mp (I.stkSub b m) with z | z
  · exact absurd (Heap.lt_size e) (by rw [z]; exact Nat.not_lt.mpr I.ok.above)
  · exact hb z
/-- it flies on -/
theorem passR : Passes (CXr P w) (cxOf (CXr P w) P w K mg base N qual scope f cdv A outer s0 H0 E) E := by
  rintro pins σ H s e s' I ⟨ea, cls, a0, H', B, rfl, hE, hos, hb, u, hf, hok, -, fl⟩
  refine wpAny_leaves_onW (M := model P w) (e := ea) (cls := cls) (a0 := a0) (base := B) (L := s0.heap.objs.size) I.ok.frames rfl fl fun h' fl' up => ?_
  refine ⟨ea, cls, a0, H', B, rfl, hE, hos.trans I.os, hb, UnB.pre I.base u (not_stack I) (fun _ _ _ z => z), fun b hb' o e _ => ?_, hok, trivial, fl'⟩
  obtain ⟨sl, q⟩ := I.base.slot b o e (I.ok.frf b hb') hb' (by intro z; cases z)
  obtain ⟨sl', q'⟩ := hf b (by unfold frs; exact List.mem_filterMap.mpr (let ⟨x, hx, hy⟩ := List.mem_filterMap.mp hb'; ⟨x, List.mem_cons_of_mem _ hx, hy⟩)) _ q (by intro z; cases z)
  obtain ⟨_, o2, ho2, nf⟩ := I.ok.funs.mem hb'
  have : o2 = o := by
    have e2 : s0.heap.get? b = some o2 := ho2
    rw [e] at e2; exact (Option.some.inj e2).symm
  subst this
  obtain ⟨sl2, q2⟩ := up b _ q' nf
  exact ⟨sl2, q2⟩
/-- an exception of an own class is made and leaves -/
theorem leaveR {pins : List (Addr × Obj)} {σ : St} {H : Hp} {s : Shared} {h' : Heap} {e C : Addr} {vs : List Value} (I : Inv (cxOf (CXr P w) P w K mg base N qual scope f cdv A outer s0 H0 E) pins σ H s) (hx : Heap.MadeExcOf s.heap h' e (.ref C) vs) (hE : E (.ref C) none H) :
    (cxOf (CXr P w) P w K mg base N qual scope f cdv A outer s0 H0 E).xe (.ref e) { s with heap := h' } := by
  refine wpAny_leaves_madeW (M := model P w) (s := { s with heap := h' }) (base := PySem.W.hideAll s.heap (frs (envOfC qual scope s0.heap.objs.size f cdv :: outer))) (h := s.heap) (e := e) (cls := .ref C) (args := vs) (L := s0.heap.objs.size) I.ok.frames rfl
    (fun b o q => PySem.W.of_hideAll _ q) (PySem.W.funFrames_hide I.stack fun env he a ha => frs_in he ha) hx fun h2 t fl _ _ up => ?_
  refine ⟨e, .ref C, .ref t, H, _, rfl, hE, I.os, I.bare, UnB.hide I.base (not_stack I), fun b hb' o q0 _ => ?_, I.hok.hide I.stkFree, trivial, fl⟩
  obtain ⟨sl, q⟩ := I.base.slot b o q0 (I.ok.frf b hb') hb' (by intro z; cases z)
  obtain ⟨_, o2, ho2, nf⟩ := I.ok.funs.mem hb'
  have : o2 = o := by
    have e2 : s0.heap.get? b = some o2 := ho2
    rw [q0] at e2; exact (Option.some.inj e2).symm
  subst this
  obtain ⟨sl2, q2⟩ := up b _ (hx.keeps _ _ q) nf
  exact ⟨sl2, q2⟩
end
end L2
set_option Elab.async false
set_option linter.all false
set_option maxRecDepth 100000
set_option maxHeartbeats 400000
/-! raise C(e, ..) of an own class; an own class's facts -/
namespace L2
open PySem PySem.Spec PyProof.Rows
/-- an own class of exceptions below ValueError, made by no __init__ of ours -/
structure Xcl (K : PySem.W.Frag) (mg : Str → Option Value) (x : Str) (C : Addr) : Prop where
  at_ : mg x = some (.ref C)
  exc : ∃ Bn newId inN bmN, ExcBaseFacts Bn newId inN bmN ∧ [Value.type "ValueError", .type "Exception", .type "BaseException", .type "object"].contains (.type Bn) = true ∧ PySem.W.excIn K C [.type "ValueError", .type "Exception", .type "BaseException", .type "object"] newId = true
theorem own_in {K : PySem.W.Frag} {h : Heap} {mg : Str → Option Value} {x : Str} {C : Addr} {bmB : List Value} {newId : String} (X : K.In h) (e : mg x = some (.ref C)) (q : PySem.W.excIn K C bmB newId = true) : OwnCls x C bmB newId mg h := by
  refine ⟨e, ?_⟩
  unfold PySem.W.excIn at q
  split at q
  · rename_i dd cd sl ho
    split at q
    · rename_i C' bm k0 k1 k2 k3 n k5 hm hs
      simp only [Bool.and_eq_true, beq_iff_eq, Bool.not_eq_true'] at q
      obtain ⟨⟨⟨⟨⟨rfl, rfl⟩, hdel⟩, ht⟩, hok⟩, hni⟩ := q
      obtain ⟨nm, bs, mro, ns, qn, hd, sn, sub, ab, col, del⟩ := cd
      dsimp only at hm hdel hok hni
      subst hm hdel
      have hsl : sl = #[k0, k1, k2, k3, some (.builtin n), k5] := by
        obtain ⟨l⟩ := sl
        simp only at hs
        rw [hs]
      subst hsl
      exact ⟨bm, ns, nm, qn, bs, hd, sn, sub, ab, col, dd, k0, k1, k2, k3, k5, _, X _ _ ho, .of_isNs (PySem.W.isNs_of_in X hok), PySem.W.nsMap_none_of_in X hok hni, PySem.W.tail_of_in X ht⟩
    · cases q
  · cases q
def tRaise (C : Addr) (E : XK) (ta : TA) : TS := fun _ σ H => ta σ H fun vs H1 => vs.length ≤ sizeLine ∧ E (.ref C) none H1
/-- what an exception of ours does in this body -/
def Flies (X : Cx) (E : XK) : Prop := ∀ (pins : List (Addr × Obj)) (σ : St) (H : Hp) (s : Shared) (h' : Heap) (e C : Addr) (vs : List Value), Inv X pins σ H s → Heap.MadeExcOf s.heap h' e (.ref C) vs → E (.ref C) none H → X.xe (.ref e) { s with heap := h' }
theorem ps_raise {X : Cx} {E : XK} {x : Str} {C : Addr} {np cpos pos : Pos} {e : Expr} {es : List Expr} {ta : TA} (hf : Flies X E) (hc : X.calm = true) (O : Xcl X.K X.mg x C) (hg : Gl X x) (ha : PA X (e :: es) ta) (hdb : (x == ("__debug__" : Str)) = false := by decide)
    (he : starEach (e :: es) X.env = (false, eval e X.env) :: starEach es X.env := by rfl) (hpl : (backTo cpos (starEach es X.env)).any (·.1) = false := by rfl) : PS X (.Raise (some (.Call (.Name x np) (e :: es) [] cpos)) none pos) (tRaise C E ta) := by
  intro pins s σ H D I h
  obtain ⟨Bn, newId, inN, bmN, Fn, hBn, q⟩ := O.exc
  obtain ⟨tl, N, nm, qn, bs, hdct, sn, sub, ab, col, dd, k0, k1, k2, k3, k5, mN, hC, hN, hni, T⟩ := (own_in I.ok.mod.kin O.at_ q).obj
  refine wpAny_Raise_call_subU (C := C) (nm := nm) (q := qn) (N := N) (bs := bs) (bm := tl) (hdct := hdct) (sn := sn) (sub := sub) (ab := ab) (col := col) (dd := dd) (k0 := k0) (k1 := k1) (k2 := k2) (k3 := k3) (k5 := k5) (bmB := [Value.type "ValueError", .type "Exception", .type "BaseException", .type "object"])
    Fn hBn PySem.F.excBase_ValueError (mN := mN) (T.hasType PySem.F.excBase_ValueError.hasBase) (I.ok.hd hc) (by rw [he]; show (false || (backTo cpos (starEach es X.env)).any (·.1)) = false; rw [hpl]; rfl) hni (ld_glob I hg O.at_ ⟨rfl, ?_⟩ hdb)
  have h2 := ha cpos pins s σ H _ I h
  rw [he] at h2 ⊢
  refine Calls.evalArgs_plain (wpAny_mono h2 (fun us s2 z => ?_) fun _ _ y => y)
  obtain ⟨vs, H2, I2, r, hl, hE⟩ := z
  refine ⟨rfl, by rw [← r.length]; exact hl, I2.bk _ _ hC, hN.keeps I2.bk, T.keeps I2.bk, fun h' e hm => hf pins σ H2 s2 h' e C us I2 hm hE⟩
theorem fliesR {P : Program} {w : World} {K : PySem.W.Frag} {mg : Str → Option Value} {base : Heap} {N : List Str} {qual : Str} {scope : Scope} {f : Addr} {cdv : Value} {A : Around} {outer : List Env} {s0 : Shared} {H0 : Hp} {E : XK} : Flies (cxOf (CXr P w) P w K mg base N qual scope f cdv A outer s0 H0 E) E :=
  fun _ _ _ _ _ _ _ _ I hx hE => leaveR I hx hE
end L2
set_option Elab.async false
set_option linter.all false
set_option maxRecDepth 100000
set_option maxHeartbeats 400000
/-! an exception flies out of a list comprehension -/
namespace L2
open PySem PySem.Spec PyProof.Rows
section
variable {M : Model} {A : Around} {E : Value → Shared → Prop} {s : Shared}
theorem leaves_any {base : Heap} {env : Env} {outer : List Env} {L e : Addr} {cls a0 fl : Value} {Q : Unit → Shared → Prop} (hfr : A.frames = some (env :: outer)) (hf : env.frame = some L)
    (f1 : base.StaysIn s.heap) (f2 : base.get? e = none) (f3 : s.heap.FunFrames base (env :: outer)) (f4 : s.heap.TracedAtW base e cls a0 fl)
    (hQ : ∀ h', Heap.FlyingW base outer e cls a0 h' → s.heap.UpToSlots h' → Q () { s with heap := h' }) : wpAny M A (leaving env (.ref e)) Q E s := by
  by_cases hfl : fl = rawInt L
  · subst hfl
    unfold leaving
    refine wpAny_bind (wpAny_noteFrame_againW hf f4 ?_)
    refine wpAny_landsW ⟨f1, f2, f3, f4⟩ fun h' hfl up => ?_
    obtain ⟨k1, k2, ⟨_, _, k3⟩, k4⟩ := hfl
    exact hQ h' ⟨k1, k2, k3, k4⟩ up
  · obtain ⟨oe, vs, T, oT, ts, he, ⟨hcls, h0⟩, hd, h1, hnT, hTe, hT, hdT, h3⟩ := f4
    subst hcls
    unfold leaving noteFrame
    simp only [hf]
    refine wpAny_bind (wpAny_bind (wpAny_field he hd h1 ?_))
    rw [if_pos (show (Value.ref T != Value.none) = true from by simp)]
    refine wpAny_bind (wpAny_field hT hdT h3 ?_)
    rw [if_neg (show ¬ ((fl == rawInt L) = true) from fun z => hfl (by simpa using z))]
    refine wpAny_bind (wpAny_setField hT hdT (Array.getElem?_eq_some_iff.mp h3).1 ?_)
    have other : ∀ b, b ≠ T → (s.heap.update T (Obj.mapFields (·.setIfInBounds 3 Value.none))).get? b = s.heap.get? b := fun b hb => Heap.get?_update_other _ _ (Ne.symm hb)
    have noRecord : ∀ b o, s.heap.get? b = some o → (∀ vs, o.data ≠ .fields vs) → b ≠ T := fun b o hb hnf q => by
      rw [q, hT] at hb; injection hb with hb; subst hb; exact hnf ts hdT
    refine wpAny_newEntryW hfr (f3.of_keeps fun b o hb hnf => ⟨o, (other b (noRecord b o hb hnf)).trans hb, rfl⟩) hf ((other e (Ne.symm hTe)).trans he)
      (fun b o hbo => (other b fun q => by rw [q, hnT] at hbo; cases hbo).trans (f1 b o hbo)) f2 hd (Array.getElem?_eq_some_iff.mp h1).1 h0
      fun h' ⟨x1, ⟨_, _, x2⟩, x3, x4⟩ => hQ h' ⟨x1, f2, x2, x3⟩ fun b o hb hnf => x4 b o ((other b (noRecord b o hb hnf)).trans hb) hnf
/-- on from a block's end -/
theorem passOn_any {α : Type} {base : Heap} {l : List Env} {what : String} {env : Env} {e : Addr} {cls a0 fl : Value} {Q : α → Shared → Prop}
    (f1 : base.StaysIn s.heap) (f3 : s.heap.FunFrames base l) (f4 : s.heap.TracedAtW base e cls a0 fl)
    (h : ∀ h' fl', base.StaysIn h' → h'.FunFrames base l → h'.TracedAtW base e cls a0 fl' → s.heap.UpToSlots h' → E (.ref e) { s with heap := h' }) : wpAny M A (PySem.passOn what (.ref e) env : Sem α) Q E s := by
  obtain ⟨oe, vs, T, oT, ts, he, hcls, hd, h1, hnT, hTe, hT, hdT, h3⟩ := f4
  have hsz3 : 3 < ts.size := (Array.getElem?_eq_some_iff.mp h3).1
  unfold PySem.passOn
  refine wpAny_bind (wpAny_field he hd h1 ?_)
  rw [if_neg (show ¬ ((Value.ref T == Value.none) = true) from by simp)]
  have key : ∀ v : Value, wpAny M A (setField (.ref T) 3 v) (fun _ s'' => E (.ref e) s'') E s := fun v => by
    have other : ∀ b, b ≠ T → (s.heap.update T (Obj.mapFields (·.setIfInBounds 3 v))).get? b = s.heap.get? b := fun b hb => Heap.get?_update_other _ _ (Ne.symm hb)
    have noRecord : ∀ b o, s.heap.get? b = some o → (∀ vs, o.data ≠ .fields vs) → b ≠ T := fun b o hb hnf q => by
      rw [q, hT] at hb; injection hb with hb; subst hb; exact hnf ts hdT
    refine wpAny_setField hT hdT hsz3 (h _ v (fun b o hbo => (other b fun q => by rw [q, hnT] at hbo; cases hbo).trans (f1 b o hbo))
      (f3.of_keeps fun b o hb hnf => ⟨o, (other b (noRecord b o hb hnf)).trans hb, rfl⟩) ?_ fun b o hb hnf => ⟨o.slots, (other b (noRecord b o hb hnf)).trans hb⟩)
    exact ⟨oe, vs, T, _, _, (other e (Ne.symm hTe)).trans he, hcls, hd, h1, hnT, hTe, Heap.get?_update_self _ hT (Obj.isFreed_of_fields (Obj.data_mapFields hdT _)), Obj.data_mapFields hdT _, by simp [hsz3]⟩
  have st : wpAny M A (do setFlight (.ref e) env.frame; throw (.ref e) : Sem α) Q E s := by
    unfold setFlight
    refine wpAny_bind (wpAny_bind (wpAny_field he hd h1 ?_))
    rw [if_pos (show (Value.ref T != Value.none) = true from by simp)]
    refine wpAny_mono (key _) (fun _ s' z => ?_) fun _ _ z => z
    exact wpAny_throw z
  first
    | exact wpAny_bind (wpAny_pure st)
    | exact st
end
/-- the loop of the block -/
theorem comp_loopR {tg iter elt : Expr} {ifs : List Expr} {scope : Scope} {pos : Pos} {cN : List Str} {cap : List (Option Nat)} {cl : List (Str × Addr)} {js : List Nat} {g : TG} {c : TT} {te : TE} {fp : List Addr} {it D : Addr} {tn : Nat → Heap → Prop} {J : It}
    {σ : St} {H : Hp} {s s' : Shared} {Q : Addr → Hp → Prop} {R : Result → Shared → Prop} {H₀ : Hp} (X : Cx) (EE : Value → Shared → Prop)
    (hc : X.calm = true) (hg : PG ((cxComp X cN scope cl fp s H₀).wish EE) tg g) (gm : TGmono g) (gk : GKeep js g) (hjs : ∀ j ∈ js, (cap[j]?).join = none) (ht : PIfs ((cxComp X cN scope cl fp s H₀).wish EE) ifs c) (tm : ∀ σ H (Q Q' : Bool → Hp → Prop), (∀ b H', Q b H' → Q' b H') → c σ H Q → c σ H Q') (he : PE ((cxComp X cN scope cl fp s H₀).wish EE) elt te)
    (T : Turn X.prog X.w X.K tg J fp it tn) (W : Nat → Nat → Hp → Prop)
    (turn : ∀ i m H, W i m H → (J.stop i H ∧ Q D H) ∨ (J.go i H ∧ ∃ N : Hp → Prop, (∀ H', N H' → ∃ m', m' < m ∧ W (i + 1) m' H') ∧ ∀ x H', J.yld i H x H' → g x (capS cap σ) H' fun σ2 H2 => c σ2 H2 fun b H3 =>
      if b = true then te σ2 H3 fun v H4 => ∃ xs, H4 D = some (.lst xs) ∧ xs.length < sizeLine ∧ N (upd H4 D (.lst (xs ++ [v]))) else N H3))
    (m : Nat) (w0 : W 0 m H) (I : Inv ((cxComp X cN scope cl fp s H₀).wish EE) [] (capS cap σ) H s') (st : tn 0 s'.heap) (f : ∀ b ∈ fp, FpOk ((cxComp X cN scope cl fp s H₀).wish EE) [] H b)
    (hR : ∀ σ' H' s', Inv ((cxComp X cN scope cl fp s H₀).wish EE) [] σ' H' s' → Q D H' → R (.ok .next) s')
    (hRE : ∀ e s', EE e s' → notedBy (model X.prog X.w) X.A (cxComp X cN scope cl fp s H₀).env (fun x s'' => R (.error x) s'') e s') :
    codeAny (model X.prog X.w) X.A (.compLoop (.ListComp elt [⟨tg, iter, ifs, 0⟩] scope pos) 0 (.ref it) (.ref D) ((cxComp X cN scope cl fp s H₀).wish EE).env) R s' := by
  have stat : ∀ {H' : Hp}, (∀ b ∈ fp, H' b = none) → ∀ b ∈ fp, FpOk ((cxComp X cN scope cl fp s H₀).wish EE) [] H' b := fun hn b hb => ⟨hn b hb, (f b hb).2⟩
  refine codeAny_loop rfl (fun n s' => ∃ i H', Inv ((cxComp X cN scope cl fp s H₀).wish EE) [] (capS cap σ) H' s' ∧ tn i s'.heap ∧ (∀ b ∈ fp, H' b = none) ∧ W i n H') ?_ m ⟨0, H, I, st, fun b hb => (f b hb).1, w0⟩
  rintro n s3 ⟨i, H3, I3, st3, fr3, w3⟩
  show wpAny _ X.A ((compTurn (.ListComp elt [⟨tg, iter, ifs, 0⟩] scope pos) 0 (.ref it) (.ref D) ((cxComp X cN scope cl fp s H₀).wish EE).env).onRaise (fun x => do noteFrame x ((cxComp X cN scope cl fp s H₀).wish EE).env; theTreesLotGoes x)) _ _ s3
  refine wpAny_noted (wpAny_mono ?_ (fun _ _ q => q) hRE)
  rw [compTurn_list]
  refine wpAny_bind (wpAny_standAt (wpAny_bind ?_))
  rcases turn i n H3 w3 with ⟨stop, qn⟩ | ⟨go, N, hN, step⟩
  · refine thn (T.done ((cxComp X cN scope cl fp s H₀).wish EE) rfl rfl rfl hc i [] s3 _ H3 _ I3 (stat fr3) st3 stop) fun r s4 ⟨hr, I4⟩ => ?_
    subst hr
    exact wpAny_pure (hR _ _ _ I4 qn)
  · refine thn (T.item ((cxComp X cN scope cl fp s H₀).wish EE) rfl rfl rfl hc i [] s3 _ H3 _ I3 (stat fr3) st3 go) fun r s4 ⟨u, hr, h4⟩ => ?_
    subst hr
    refine wpAny_bind (thn h4 fun _ s5 ⟨x, H5, I5, r5, y5, st5, fr5⟩ => ?_)
    have I5' := I5.pinned (stat fr5) (T.obj _ _ st5)
    refine wpAny_bind (thn (hg _ s5 _ H5 x u _ I5' r5 (gk _ _ _ _ (step x H5 y5))) fun _ s6 ⟨σ6, H6, I6, q6, l6, k6⟩ => ?_)
    have back : ∀ {H7 : Hp} {s7 : Shared}, Inv ((cxComp X cN scope cl fp s H₀).wish EE) ([] ++ pinsAt fp s5.heap) σ6 H7 s7 → N H7 → ∃ m, m < n ∧ ∃ i H', Inv ((cxComp X cN scope cl fp s H₀).wish EE) [] (capS cap σ) H' s7 ∧ tn i s7.heap ∧ (∀ b ∈ fp, H' b = none) ∧ W i m H' := fun {H7 s7} I7 n7 => by
      obtain ⟨m', hm, w7⟩ := hN H7 n7
      refine ⟨m', hm, i + 1, H7, I7.unpinned.weak l6.symm fun j v hj => ?_, T.keep _ _ _ st5 fun b hb o e => (I7.pin (b, o) (List.mem_append_right _ (List.mem_append_right _ (mem_pinsAt hb e)))).1, fun b hb => ?_, w7⟩
      · by_cases hjj : j ∈ js
        · obtain ⟨z, hz, _⟩ := capS_get hj
          have := hjs j hjj
          rw [hz] at this; cases this
        · rw [k6 j hjj]; exact hj
      · obtain ⟨o, e, d⟩ := T.obj _ _ st5 b hb
        exact (I7.pin (b, o) (List.mem_append_right _ (List.mem_append_right _ (mem_pinsAt hb e)))).2.1
    refine wpAny_bind (thn (ht _ s6 σ6 H6 _ I6 q6) fun b s7 ⟨H7, I7, q7⟩ => ?_)
    cases b with
    | false =>
      rw [if_neg Bool.false_ne_true] at q7
      exact wpAny_pure ⟨rfl, back I7 q7⟩
    | true =>
      rw [if_pos rfl] at q7
      refine wpAny_bind (wpAny_bind (thn (he _ s7 σ6 H7 _ I7 q7) fun y s8 ⟨v, H8, I8, r8, xs, e8, z8, n8⟩ => ?_))
      refine wpAny_bind (thn (mt_append _ s8 σ6 H8 (.ref D) [v] (.ref D) [y] (fun _ H9 => N H9) I8 rfl (.cons r8 .nil) ⟨D, xs, v, rfl, rfl, e8, z8, n8⟩) fun _ s9 ⟨_, H9, I9, _, q9⟩ => ?_)
      exact wpAny_pure (wpAny_pure ⟨rfl, back I9 q9⟩)
section
variable {X : Cx} {EE : List Addr → Shared → Hp → Value → Shared → Prop} {tg iter elt : Expr} {ifs : List Expr} {scope : Scope} {pos : Pos} {cN : List Str} {cap : List (Option Nat)} {cl : List (Str × Addr)} {js : List Nat} {wi : TI} {g : TG} {c : TT} {te : TE}
/-- what a comprehension's parts must be -/
structure CompR (X : Cx) (EE : List Addr → Shared → Hp → Value → Shared → Prop) (tg iter elt : Expr) (ifs : List Expr) (scope : Scope) (cN : List Str) (cap : List (Option Nat)) (cl : List (Str × Addr)) (js : List Nat) (wi : TI) (g : TG) (c : TT) (te : TE) : Prop where
  calm : X.calm = true
  ok : X.Ok → CompOk X cN cap scope cl
  it : PI X tg iter wi
  tgt : ∀ fp s H, PG ((cxComp X cN scope cl fp s H).wish (EE fp s H)) tg g
  gm : TGmono g
  gk : GKeep js g
  js0 : ∀ j ∈ js, (cap[j]?).join = none
  ts : ∀ fp s H, PIfs ((cxComp X cN scope cl fp s H).wish (EE fp s H)) ifs c
  tm : ∀ σ H (Q Q' : Bool → Hp → Prop), (∀ b H', Q b H' → Q' b H') → c σ H Q → c σ H Q'
  el : ∀ fp s H, PE ((cxComp X cN scope cl fp s H).wish (EE fp s H)) elt te
  fold : ∀ x, foldedSetIterable iter X.env x = pure x
theorem comp_blockR {pins : List (Addr × Obj)} {σ : St} {H : Hp} {s : Shared} {Q : Addr → Hp → Prop} {RR : Value → Addr → Result → Shared → Prop} (C : CompR X EE tg iter elt ifs scope cN cap cl js wi g c te) (I : Inv X pins σ H s) (h : tCompL cap wi g c te σ H Q)
    (hRR : ∀ (D : Addr) (fp : List Addr) (s3 : Shared) (H3 : Hp) (σ' : St) (H' : Hp) (s' : Shared), Inv X pins σ H3 s3 → (∀ b ∈ fp, FpOk X pins H3 b) → Inv (cxComp X cN scope cl fp s3 H3) [] σ' H' s' → Q D H' → RR (.ref D) s3.heap.objs.size (.ok .next) s')
    (hRE : ∀ (D : Addr) (fp : List Addr) (s3 : Shared) (H3 : Hp) (e : Value) (s' : Shared), Inv X pins σ H3 s3 → (∀ b ∈ fp, FpOk X pins H3 b) → EE fp s3 H3 e s' → notedBy (model X.prog X.w) X.A (cxComp X cN scope cl fp s3 H3).env (fun x s'' => RR (.ref D) s3.heap.objs.size (.error x) s'') e s') :
    wpAny (model X.prog X.w) X.A (eval iter X.env) (fun x s₁ => wpAny (model X.prog X.w) X.A (pyIter x) (fun it s₂ => wpAny (model X.prog X.w) X.A (newList []) (fun acc s₃ =>
      wpAny (model X.prog X.w) X.A (newFunctionEnv scope X.env.globals cl [] X.env.qual none .none (some X.env)) (fun cenv s₄ =>
        codeAny (model X.prog X.w) X.A (.compStart (.ListComp elt [⟨tg, iter, ifs, 0⟩] scope pos) 0 it acc { cenv with scope := relabel scope X.env }) (RR acc cenv.locals) s₄) X.xe s₃) X.xe s₂) X.xe s₁) X.xe s := by
  refine thn (C.it pins s σ H _ I h) fun v s1 h1 => thn h1 fun itv s2 h2 => ?_
  obtain ⟨it, fp, tn, J, H2, e, I2, T, st2, f2, R2⟩ := h2
  subst e
  obtain ⟨W, ⟨m, w0⟩, turn⟩ := R2 s2.heap.objs.size I2.fresh
  have I3 : Inv X pins σ (upd H2 s2.heap.objs.size (.lst [])) { s2 with heap := s2.heap.push { cls := .type "list", data := .seq ([] : List Value).toArray }, toks := s2.toks } := I2.lnew (ys := []) (its := []) .nil (Nat.zero_le _)
  have fl : ∀ b ∈ fp, b < s2.heap.objs.size := fun b hb => by
    obtain ⟨o, e, _⟩ := T.obj _ _ st2 b hb
    exact Heap.lt_size e
  have f3 : ∀ b ∈ fp, FpOk X pins (upd H2 s2.heap.objs.size (.lst [])) b := fun b hb => ⟨by rw [upd_ne (Nat.ne_of_lt (fl b hb))]; exact (f2 b hb).1, (f2 b hb).2⟩
  refine wpAny_newObj_type (wpAny_newFunctionEnv (C.ok I.ok).cell (by intro y hy; simp at hy) (fun h₁ hns₁ hsb₁ => ?_) (C.ok I.ok).kind)
  dsimp only at hns₁ hsb₁ ⊢
  generalize hs3 : ({ s2 with heap := s2.heap.push { cls := .type "list", data := .seq ([] : List Value).toArray }, toks := s2.toks } : Shared) = s3 at I3
  have hh3 : s3.heap = s2.heap.push { cls := .type "list", data := .seq ([] : List Value).toArray } := by rw [← hs3]
  rw [← hh3] at hns₁ hsb₁ ⊢
  have fl3 : ∀ b ∈ fp, b < s3.heap.objs.size := fun b hb => by rw [hh3, Heap.size_push]; exact Nat.lt_succ_of_lt (fl b hb)
  have k1 : ∀ b o, s3.heap.get? b = some o → h₁.get? b = some o := fun b o e => (hsb₁.2 b (Nat.ne_of_lt (Heap.lt_size e))).trans (Heap.get?_push_of_some _ e)
  have I4' := comp_start (tk := s2.toks + ([] : List (Str × Value)).length) (C.ok I.ok) I3 f3 fl3 hns₁ k1
  have I4 := I4'.wish (EE fp s3 (upd H2 s2.heap.objs.size (.lst [])))
  have e4 : ({ s3 with heap := h₁, toks := s2.toks + ([] : List (Str × Value)).length } : Shared) = { s2 with heap := h₁, toks := s2.toks + ([] : List (Str × Value)).length } := by rw [← hs3]
  rw [e4] at I4
  have st4 : tn 0 h₁ := T.keep _ _ _ st2 fun b hb o e => k1 b o (by rw [hh3]; exact Heap.get?_push_of_some _ e)
  have f4 : ∀ b ∈ fp, FpOk ((cxComp X cN scope cl fp s3 (upd H2 s2.heap.objs.size (.lst []))).wish (EE fp s3 (upd H2 s2.heap.objs.size (.lst [])))) [] (upd H2 s2.heap.objs.size (.lst [])) b := fun b hb => by
    obtain ⟨g0, g1, g2, g3, g4, g5⟩ := f3 b hb
    refine ⟨g0, Nat.ne_of_lt (fl3 b hb), fun z => ?_, .inl hb, fun x c e => g4 x c ((C.ok I.ok).sub x c e), fun p hp => absurd hp (by simp [cxComp])⟩
    rcases List.mem_cons.mp (I3.stkSub b z) with e | z
    · exact g1 e
    · exact g2 z
  have loop : codeAny (model X.prog X.w) X.A (.compLoop (.ListComp elt [⟨tg, iter, ifs, 0⟩] scope pos) 0 (.ref it) (.ref s2.heap.objs.size) (cxComp X cN scope cl fp s3 (upd H2 s2.heap.objs.size (.lst []))).env) (RR (.ref s2.heap.objs.size) s3.heap.objs.size)
      { s2 with heap := h₁, toks := s2.toks + ([] : List (Str × Value)).length } :=
    comp_loopR X (EE fp s3 (upd H2 s2.heap.objs.size (.lst []))) (H₀ := upd H2 s2.heap.objs.size (.lst [])) C.calm (C.tgt _ _ _) C.gm C.gk C.js0 (C.ts _ _ _) C.tm (C.el _ _ _) T W turn m w0 I4 st4 f4 (fun σ' H' s' I' q => hRR _ fp s3 _ σ' H' s' I3 f3 I'.unwish q) fun e s' z => hRE _ fp s3 _ e s' I3 f3 z
  exact codeAny_compStart_list loop (T.self _ 0 _ _ _ st4 loop)
end
end L2
set_option Elab.async false
set_option linter.all false
set_option maxRecDepth 100000
set_option maxHeartbeats 400000
namespace L2
open PySem PySem.Spec PyProof.Rows
theorem funFrames_but {B h h' : Heap} {C : Addr} {oC : Obj} (hC : B.get? C = some oC) (sb : ∀ b, b ≠ C → h'.get? b = h.get? b) : ∀ {l : List Env}, h.FunFrames B l → h'.FunFrames (PySem.W.hideAll B [C]) l
  | [], _ => trivial
  | _ :: _, ⟨hk, ⟨L, o, hf, hn, ho, hd⟩, hr⟩ => by
    have ne : L ≠ C := fun z => by rw [z, hC] at hn; cases hn
    refine ⟨hk, ⟨L, o, hf, ?_, (sb L ne).trans ho, hd⟩, funFrames_but hC sb hr⟩
    cases q : (PySem.W.hideAll B [C]).get? L with
    | none => rfl
    | some o' => have := PySem.W.of_hideAll _ q; rw [hn] at this; cases this
theorem traced_but {B h h' : Heap} {C e : Addr} {oC : Obj} {cls a0 fl : Value} (hC : B.get? C = some oC) (hst : B.StaysIn h) (he : B.get? e = none) (sb : ∀ b, b ≠ C → h'.get? b = h.get? b) (t : h.TracedAtW B e cls a0 fl) : h'.TracedAtW (PySem.W.hideAll B [C]) e cls a0 fl := by
  obtain ⟨oe, vs, T, oT, ts, a1, a2, a3, a4, a5, a6, a7, a8, a9⟩ := t
  have n1 : e ≠ C := fun z => by rw [z, hC] at he; cases he
  have n2 : T ≠ C := fun z => by rw [z, hC] at a5; cases a5
  refine ⟨oe, vs, T, oT, ts, (sb e n1).trans a1, a2, a3, a4, ?_, a6, (sb T n2).trans a7, a8, a9⟩
  cases q : (PySem.W.hideAll B [C]).get? T with
  | none => rfl
  | some o' => have := PySem.W.of_hideAll _ q; rw [a5] at this; cases this
/-- an exception inside a block whose namespace lies at the end of s's heap -/
def eeR (P : Program) (w : World) (stack : List Env) (E : XK) (fp : List Addr) (s : Shared) (H : Hp) : Value → Shared → Prop :=
  CXz P w fp (fun H' B => (∃ m, B.Ns s.heap.objs.size m) ∧ H' s.heap.objs.size = none) Heap.FlyingW stack H s E
theorem mem_frs_cons {l : List Env} {env : Env} {b : Addr} (h : b ∈ frs l) : b ∈ frs (env :: l) := by
  obtain ⟨x, hx, hy⟩ := List.mem_filterMap.mp h
  exact List.mem_filterMap.mpr ⟨x, List.mem_cons_of_mem _ hx, hy⟩
section
variable {P : Program} {w : World} {K : PySem.W.Frag} {mg : Str → Option Value} {base : Heap} {N : List Str} {qual : Str} {scope : Scope} {f : Addr} {cdv : Value} {A : Around} {outer : List Env} {s0 : Shared} {H0 : Hp} {E : XK}
variable {X : Cx} {cN : List Str} {csc : Scope} {cl : List (Str × Addr)} {fp : List Addr} {s : Shared} {H : Hp}
theorem passC (hP : X.prog = P) (hw : X.w = w) : Passes (CXr P w) ((cxComp X cN csc cl fp s H).wish (eeR P w X.stack E fp s H)) E := by
  subst hP hw
  rintro pins σ H1 s1 e s' I ⟨ea, cls, a0, H', B, rfl, hE, hos, hb, u, hf, hok, -, fl⟩
  obtain ⟨m, hn, _⟩ := I.loc
  have hn1 : s1.heap.Ns s.heap.objs.size m := hn
  obtain ⟨oC, es, ep, hC, r⟩ := hn1
  have nC : s.heap.objs.size ∉ frs X.stack := fun z => by
    obtain ⟨_, o, ho, _⟩ := I.ok.funs.mem z
    exact absurd (Heap.lt_size ho) (Nat.lt_irrefl _)
  have hCB := u.keep _ _ hC I.free nC (by intro z; cases z)
  refine ⟨ea, cls, a0, H', B, rfl, hE, hos.trans I.os, hb, UnB.pre I.base u (fun _ _ _ z => z) (fun _ _ _ _ z => by cases z), fun b hb' o e hx => ?_, hok, ⟨⟨m, oC, es, ep, hCB, r⟩, u.free _ _ hC I.free (by intro z; cases z)⟩, fl⟩
  obtain ⟨sl, q⟩ := I.base.slot b o e (I.ok.frf b hb') hb' hx
  obtain ⟨sl', q'⟩ := hf b hb' _ q (by intro z; cases z)
  exact ⟨sl', q'⟩
variable {tg iter elt : Expr} {ifs : List Expr} {pos : Pos} {cap : List (Option Nat)} {js : List Nat} {wi : TI} {g : TG} {c : TT} {te : TE}
theorem compErr {pins : List (Addr × Obj)} {σ : St} {H3 : Hp} {s3 : Shared} {e : Value} {s' : Shared} {Q : Value → Shared → Prop} {D : Addr} {use : Option (Value → Sem Unit)} (I : Inv (cxOf (CXr P w) P w K mg base N qual scope f cdv A outer s0 H0 E) pins σ H3 s3)
    (hf : ∀ b ∈ fp, FpOk (cxOf (CXr P w) P w K mg base N qual scope f cdv A outer s0 H0 E) pins H3 b) (h : eeR P w (cxOf (CXr P w) P w K mg base N qual scope f cdv A outer s0 H0 E).stack E fp s3 H3 e s') :
    notedBy (model P w) (cxOf (CXr P w) P w K mg base N qual scope f cdv A outer s0 H0 E).A (cxComp (cxOf (CXr P w) P w K mg base N qual scope f cdv A outer s0 H0 E) cN csc cl fp s3 H3).env
      (fun x s'' => compPost (model P w) (cxOf (CXr P w) P w K mg base N qual scope f cdv A outer s0 H0 E).A (cxOf (CXr P w) P w K mg base N qual scope f cdv A outer s0 H0 E).xe use Q (.ref D) s3.heap.objs.size (.error x) s'') e s' := by
  obtain ⟨ea, cls, a0, H', B, rfl, hE, hos, hb, u, hfr, hok, ⟨⟨m, hns⟩, hfree⟩, fl⟩ := h
  obtain ⟨oC, es, ep, hC, rC⟩ := id hns
  show wpAny (model P w) _ (noteFrame (.ref ea) (envOfC qual scope s0.heap.objs.size f cdv)) _ _ s'
  refine wpAny_looks_onW (M := model P w) (base := B) (e := ea) (cls := cls) (a0 := a0) (L := s0.heap.objs.size) I.ok.frames rfl fl fun h4 held up4 => ?_
  obtain ⟨k1, k2, k3, k4⟩ := held
  refine ⟨m, ⟨oC, es, ep, k1 _ _ hC, rC⟩, fun h5 sb cenv _ => ?_⟩
  have sb2 : ∀ b, b ≠ s3.heap.objs.size → h5.get? b = h4.get? b := sb.2
  have st5 : (PySem.W.hideAll B [s3.heap.objs.size]).StaysIn h5 := fun b o q => by
    have q' := PySem.W.of_hideAll _ q
    have ne : b ≠ s3.heap.objs.size := fun z => by
      rw [z] at q
      rw [PySem.W.hideAll_none [s3.heap.objs.size] (List.mem_singleton.mpr rfl)] at q
      cases q
    exact (sb2 b ne).trans (k1 b o q')
  have en : (PySem.W.hideAll B [s3.heap.objs.size]).get? ea = none := by
    cases q : (PySem.W.hideAll B [s3.heap.objs.size]).get? ea with
    | none => rfl
    | some o' => have := PySem.W.of_hideAll _ q; rw [k2] at this; cases this
  refine passOn_any (s := { s' with heap := h5 }) (base := PySem.W.hideAll B [s3.heap.objs.size]) st5 (funFrames_but hC sb2 k3) (traced_but hC k1 k2 sb2 k4) fun h6 fl' st6 ff6 tr6 up6 => ?_
  refine leaves_any (M := model P w) (s := { s' with heap := h6 }) (L := s0.heap.objs.size) I.ok.frames rfl st6 en ff6 tr6 fun h7 fly7 up7 => ?_
  refine ⟨ea, cls, a0, H', _, rfl, hE, hos.trans I.os, hb, UnB.pre I.base (u.hid (Nat.le_refl _)) (not_stack I) (fun b o q _ z => ?_), fun b hb' o q0 _ => ?_, hok.hide fun b hb' => by rw [List.mem_singleton.mp hb']; exact hfree, trivial, fly7⟩
  · rcases (hf b z).2.2.2.1 with z' | z'
    · cases z'
    · exact absurd (Heap.lt_size q) (Nat.not_lt.mpr z')
  · obtain ⟨sl, q⟩ := I.base.slot b o q0 (I.ok.frf b hb') hb' (by intro z; cases z)
    obtain ⟨sl', q'⟩ := hfr b (mem_frs_cons hb') _ q fun z => by
      rcases (hf b z).2.2.2.1 with z' | z'
      · cases z'
      · exact absurd (Heap.lt_size q0) (Nat.not_lt.mpr z')
    obtain ⟨_, o2, ho2, nf⟩ := I.ok.funs.mem hb'
    have : o2 = o := by
      have e2 : s0.heap.get? b = some o2 := ho2
      rw [q0] at e2; exact (Option.some.inj e2).symm
    subst this
    obtain ⟨sl4, q4⟩ := up4 b _ q' nf
    have q5 : h5.get? b = _ := (sb2 b (Nat.ne_of_lt (Nat.lt_of_lt_of_le (Heap.lt_size q0) I.sz))).trans q4
    obtain ⟨sl6, q6⟩ := up6 b _ q5 nf
    obtain ⟨sl7, q7⟩ := up7 b _ q6 nf
    exact ⟨sl7, q7⟩
theorem pe_compR (C : CompR (cxOf (CXr P w) P w K mg base N qual scope f cdv A outer s0 H0 E) (eeR P w (cxOf (CXr P w) P w K mg base N qual scope f cdv A outer s0 H0 E).stack E) tg iter elt ifs csc cN cap cl js wi g c te) :
    PE (cxOf (CXr P w) P w K mg base N qual scope f cdv A outer s0 H0 E) (.ListComp elt [⟨tg, iter, ifs, 0⟩] csc pos) (tComp cap wi g c te) := by
  intro pins s σ H Q I h
  rw [eval_ListComp]
  refine wpAny_comprehension_free (use := none) rfl C.fold (C.ok I.ok).clos (C.ok I.ok).kind (C.ok I.ok).names (comp_blockR (RR := fun acc C' => compPost (model P w) (cxOf (CXr P w) P w K mg base N qual scope f cdv A outer s0 H0 E).A (cxOf (CXr P w) P w K mg base N qual scope f cdv A outer s0 H0 E).xe none (EP (cxOf (CXr P w) P w K mg base N qual scope f cdv A outer s0 H0 E) pins σ Q) acc C') C I h ?_ ?_)
  · intro D fp s3 H3 σ' H' s' I3 f3 J q
    obtain ⟨m, hn, _⟩ := J.loc
    exact ⟨m, hn, fun h' sb => ⟨.ref D, H', comp_end I3 f3 J sb, rfl, q⟩⟩
  · intro D fp s3 H3 e s' I3 f3 z
    exact compErr I3 f3 z
end
end L2
set_option Elab.async false
set_option linter.all false
set_option maxRecDepth 100000
set_option maxHeartbeats 400000
/-! behind a token, with exceptions -/
namespace L2
open PySem PySem.Spec PyProof.Rows
structure FnOkT (P : Program) (w : World) (K : PySem.W.Frag) (mg : Str → Option Value) (base : Heap) (CX : CXT) (k : Nat) (f : Addr) (fd : FuncData) (ps : List Str) (sp : Sp) : Prop where
  len : ∀ vs H Q E, sp vs H Q E → vs.length = ps.length
  run : ∀ (A : Around) (outer : List Env) (s : Shared) (H : Hp) (args : Args) (us : List Value) (vs : List V) (Q : VK) (E : XK), 1 ≤ s.toks → Room k A → Env0 P w K mg base A outer s H → BindsTo s fd args (ps.zip us) → Vals vs us → sp vs H Q E →
    codeAny (model P w) A (.call (.ref f) args) (CR CX outer P w H s Q E) s
section
variable {X : Cx} {CX : CXT} {E : XK} {k : Nat} {f : Addr} {fd : FuncData} {ps : List Str} {sp : Sp} {x : Str} {p pos : Pos} {e : Expr} {es : List Expr} {t : TA}
theorem run_fnT {pins : List (Addr × Obj)} {σ : St} {H : Hp} {s : Shared} {Q : VK} {us : List Value} {vs : List V} (F : FnOkT X.prog X.w X.K X.mg X.base CX k f fd ps sp) (hr : Room k X.A) (hb : Binds X.K fd ps []) (h1 : 1 ≤ s.toks) (hx : Passes CX X E)
    (I : Inv X pins σ H s) (r : Vals vs us) (h : sp (vs ++ []) H Q E) : wpAny (model X.prog X.w) X.A (call (.ref f) us) (EP X pins σ Q) X.xe s := by
  have r2 : Vals (vs ++ []) (us ++ []) := r.append .nil
  have hl : (us ++ []).length = ps.length := by rw [← r2.length]; exact F.len _ _ _ _ h
  refine wpAny_call (codeAny_mono (F.run X.A X.stack s H ⟨us, []⟩ (us ++ []) (vs ++ []) Q E h1 hr I.env0 (hb s us I.kIn hl) r2 h) fun r s' hq => ?_)
  cases r with
  | error e => exact hx pins σ H s e s' I hq
  | ok fl =>
    cases fl with
    | ret u => exact I.after hq
    | next => exact False.elim hq
    | brk => exact False.elim hq
    | cont => exact False.elim hq
/-- a def that keeps its promise behind some token -/
structure CaT (P : Program) (w : World) (K : PySem.W.Frag) (mg : Str → Option Value) (base : Heap) (CX : CXT) (k : Nat) (x : Str) (ps : List Str) (sp : Sp) : Prop where
  ex : ∃ (f : Addr) (fd : FuncData), FnOkT P w K mg base CX k f fd ps sp ∧ Binds K fd ps [] ∧ PySem.W.keepIn K (.ref f) = true ∧ mg x = some (.ref f)
theorem pe1_caT (C : CaT X.prog X.w X.K X.mg X.base CX k x ps sp) (hr : Room k X.A) (hx : Passes CX X E) (hg : Gl X x) (ha : PA1 X (e :: es) t)
    (hdb : (x == ("__debug__" : Str)) = false := by decide) (he : starEach (e :: es) X.env = (false, eval e X.env) :: starEach es X.env := by rfl) (hpl : (backTo pos (starEach es X.env)).any (·.1) = false := by rfl) :
    PE1 X (.Call (.Name x p) (e :: es) [] pos) (tCall sp [] E t) := by
  obtain ⟨f, fd, F, B, kp, m⟩ := C.ex
  intro pins s σ H Q h1 I h
  refine wpAny_Call_Name_kw (ld_glob I hg m ?_ hdb)
  refine PySem.W.callWith_K (h₀ := X.base) I.ok.mod.kin kp (thn (tok1 h1 (ha pos pins s σ H _ h1 I h)) fun us s1 ⟨k1, vs, H1, I1, r, q⟩ => ⟨I1.kIn, ?_⟩) he hpl
  exact run_fnT F hr B k1 hx I1 r q
end
theorem fn_ofT {P : Program} {w : World} {K : PySem.W.Frag} {mg : Str → Option Value} {base : Heap} {CX : CXT} {k : Nat} {f : Addr} {name qual : Str} {params : Arguments} {body : List Stmt} {scope : Scope} {dV kV doc pm cdv ct oc : Value} {an od : Option Addr}
    {osl : Array (Option Value)} {N ps : List Str} {sp : Sp} (lk : K.lookup f = some ⟨oc, od, .func (PySem.W.fnOf name qual params body scope dV kV doc pm an cdv ct), osl⟩) (hcd : PySem.W.codeIn K cdv qual = true) (S : FnScope N ps scope)
    (len : ∀ vs H Q E, sp vs H Q E → vs.length = ps.length)
    (hbody : ∀ (A : Around) (outer : List Env) (s : Shared) (H : Hp) (vs : List V) (Q : VK) (E : XK), Room k (A.deeper (envOfC qual scope s.heap.objs.size f cdv)) → sp vs H Q E →
      ∃ t, PSs1 (cxOf CX P w K mg base N qual scope f cdv A outer s H E) body t ∧ t { nx := fun _ H' => Q .non H', rt := Q } (start N vs) H) :
    FnOkT P w K mg base CX (k + 1) f (PySem.W.fnOf name qual params body scope dV kV doc pm an cdv ct) ps sp := by
  refine ⟨len, fun A outer s H args us vs Q E h1 hr e0 hb r hsp => ?_⟩
  have hl := len _ _ _ _ hsp
  have KX : K.In s.heap := e0.mod.kin.keeps fun b o e => (e0.bs b o e).1
  have lim : s.heap.NoLimit := e0.mod.nolimit.keeps fun b o e => (e0.bs b o e).1
  have hkind : ∀ y ∈ ps.zip us, scope.names.lookup y.1 = some .local ∨ (scope.names.lookup y.1 = some .cell ∧ ((cellsFrom (s.heap.objs.size + 1) scope.names []).lookup y.1).isSome = true) := fun ⟨n, v⟩ hy => by
    rcases S.par n (List.of_mem_zip hy).1 with q | q
    · exact .inl q
    · exact .inr ⟨q, PySem.W.cellsFrom_some _ _ _ (.inl q)⟩
  refine codeAny_call_function hr.depth (KX _ _ lk) rfl S.co S.gen rfl (PySem.W.codeRec_of KX hcd) (hb _ _ _ _ ?_)
  refine tokm h1 (wpAny_newFunctionEnv_cells S.kind hkind fun env he s1 x k1 => ?_)
  subst he
  refine ⟨lim.keeps x.toInCall.keep, codeAny_func ?_⟩
  obtain ⟨t, ht, hq⟩ := hbody A outer s H vs Q E (hr.deeper _) hsp
  have I : Inv (cxOf CX P w K mg base N qual scope f cdv A outer s H E) [] (start N vs) H s1 := inv_start S hr.hd e0 hl r x
  refine wpAny_mono (ht [] s1 (start N vs) H _ k1 I hq) (fun fl s' hs => ?_) fun e s' hs => hs
  have fin : ∀ {σ' : St} {H' : Hp} {v : V} {u : Value}, Inv (cxOf CX P w K mg base N qual scope f cdv A outer s H E) [] σ' H' s' → RelV v u → Q v H' → CE outer P w H s Q u s' :=
    fun {σ' H' v u} J rv q => ⟨v, H', J.os, J.bare, J.base, J.hok, rv, q⟩
  cases fl with
  | ret u =>
    obtain ⟨v, σ', H', J, rv, q⟩ := hs
    exact fin J rv q
  | next =>
    obtain ⟨σ', H', J, q⟩ := hs
    exact fin (v := V.non) (u := Value.none) J rfl q
  | brk =>
    obtain ⟨_, _, _, q⟩ := hs
    exact False.elim q
  | cont =>
    obtain ⟨_, _, _, q⟩ := hs
    exact False.elim q
end L2
set_option Elab.async false
set_option linter.all false
set_option maxRecDepth 100000
set_option maxHeartbeats 400000
/-! the second level: defs that may raise -/
namespace WL
open PySem PySem.Spec PyProof.Rows L2
/-- what may fly: an exception of one of these classes, if its wish holds -/
def Er (rs : List (Addr × Prop)) : XK := fun cls _ _ => ∃ p ∈ rs, cls = .ref p.1 ∧ p.2
def spR (K : PySem.W.Frag) (pr : List Df) (E1 : XK) (n i : Nat) : Sp := fun vs H Q E => E = E1 ∧ spW K pr n i vs H Q E
structure CaR (P : Program) (w : World) (K : PySem.W.Frag) (mg : Str → Option Value) (base : Heap) (k : Nat) (x : Str) (ps : List Str) (sp : Sp) : Prop where
  ex : ∃ (f : Addr) (fd : FuncData), FnOk P w K mg base (CXr P w) k f fd ps sp ∧ Binds K fd ps [] ∧ PySem.W.keepIn K (.ref f) = true ∧ mg x = some (.ref f)
section
variable {X : Cx} {k i : Nat} {x : Str} {ps : List Str} {pr : List Df} {p pos : Pos} {e : Expr} {es : List Expr} {wA : WA} {E1 : XK}
/-- raise C(..) : the iR-th def of the list says whether it may -/
def sRaise (P : Calls) (iR : Nat) (wa : WA) : WS := fun D τ C => wa τ C (fun vs C' => vs.length ≤ 1000 ∧ P iR [] C' D.rt D.xc) D.xc
theorem wish_r {r : Prop} {C : Hw} {Q : WK} {χ : WX} (hR : pr[i]? = some ⟨0, 0, fun _ _ _ _ => r⟩) : ∀ {k : Nat}, wpc pr k i [] C Q χ → r
  | 0, h => h.elim
  | k + 1, h => by
    obtain ⟨d, e, _, h⟩ := h
    rw [hR] at e; cases e
    exact h
end
section
variable {P : Program} {w : World} {K : PySem.W.Frag} {mg : Str → Option Value} {base : Heap} {x qual : Str} {st : Stmt} {f : Addr} {fd : FuncData} {N ps : List Str} {pr : List Df} {n i : Nat} {d : Df} {E1 : XK}
theorem ldR1 {sp : Sp} (L : Ld K mg x st ps) (G : ∀ {f fd}, Fun K x x st f fd → FnOk P w K mg base (CXr P w) n f fd ps sp) : CaR P w K mg base n x ps sp := by
  obtain ⟨f, fd, F, B, M⟩ := L
  exact ⟨f, fd, G F, B, F.kp, M⟩
theorem ldT1 {sp : Sp} (L : Ld K mg x st ps) (G : ∀ {f fd}, Fun K x x st f fd → FnOkT P w K mg base (CXr P w) n f fd ps sp) : CaT P w K mg base (CXr P w) n x ps sp := by
  obtain ⟨f, fd, F, B, M⟩ := L
  exact ⟨f, fd, G F, B, F.kp, M⟩
end
/-! ### comprehensions -/
structure CompDR (X : Cx) (E1 : XK) (tg iter elt : Expr) (ifs : List Expr) (scope : Scope) (cN : List Str) (cap : List (Option Nat)) (cl : List (Str × Addr)) (js : List Nat) (i : WI) (g : TG) (wg : WG) (wc : WT) (we : WE) : Prop where
  calm : X.calm = true
  ok : X.Ok → CompOk X cN cap scope cl
  it : SdI X tg iter i
  tgt : ∀ fp s H, PG ((cxComp X cN scope cl fp s H).wish (eeR X.prog X.w X.stack E1 fp s H)) tg g
  gm : TGmono g
  gk : GKeep js g
  sg : SimG X.K g wg
  js0 : ∀ j ∈ js, (cap[j]?).join = none
  ts : ∀ fp s H, SdIf ((cxComp X cN scope cl fp s H).wish (eeR X.prog X.w X.stack E1 fp s H)) ifs wc
  el : ∀ fp s H, SdE ((cxComp X cN scope cl fp s H).wish (eeR X.prog X.w X.stack E1 fp s H)) elt we
  fold : ∀ x, foldedSetIterable iter X.env x = pure x
section
variable {P : Program} {w : World} {K : PySem.W.Frag} {mg : Str → Option Value} {base : Heap} {N : List Str} {qual : Str} {scope : Scope} {f : Addr} {cdv : Value} {A : Around} {outer : List Env} {s0 : Shared} {H0 : Hp} {E1 : XK}
variable {tg iter elt : Expr} {ifs : List Expr} {csc : Scope} {pos : Pos} {cN : List Str} {cap : List (Option Nat)} {cl : List (Str × Addr)} {js : List Nat} {i : WI} {g : TG} {wg : WG} {wc : WT} {we : WE}
theorem d_compR (D : CompDR (cxOf (CXr P w) P w K mg base N qual scope f cdv A outer s0 H0 E1) E1 tg iter elt ifs csc cN cap cl js i g wg wc we) :
    SdE (cxOf (CXr P w) P w K mg base N qual scope f cdv A outer s0 H0 E1) (.ListComp elt [⟨tg, iter, ifs, 0⟩] csc pos) (eComp cap i wg wc we) := by
  obtain ⟨wi, p, s⟩ := D.it
  have P' : CompR (cxOf (CXr P w) P w K mg base N qual scope f cdv A outer s0 H0 E1) (eeR P w (cxOf (CXr P w) P w K mg base N qual scope f cdv A outer s0 H0 E1).stack E1) tg iter elt ifs csc cN cap cl js wi g (ttOf K wc) (tOf K we) :=
    ⟨D.calm, D.ok, p, D.tgt, D.gm, D.gk, D.js0, fun fp s H => (D.ts fp s H).pif, ttOf_mono, fun fp s H => (D.el fp s H).pe, D.fold⟩
  exact ⟨_, pe_compR P', fun F H C σ τ Q Q' χ R S h q => sim_comp s D.sg R S h fun p H' C' R' t' h' => q _ _ H' C' R' t' rep_ref h'⟩
end
end WL
set_option Elab.async false
set_option linter.all false
set_option maxRecDepth 100000
set_option maxHeartbeats 400000
/-! a callee that may change nothing: it sees what there is as frozen -/
namespace L2
open PySem PySem.Spec PyProof.Rows
/-- what may be frozen -/
def Fzb : HO → Prop
  | .lst _ => True
  | .tup _ => True
  | .dK _ => True
  | _ => False
open Classical in
noncomputable def frzO (h : Heap) (b : Addr) (u : HO) : Option HO :=
  match u with
  | .frz o v => if Fzb v then some (.frz o v) else none
  | u => if Fzb u then (h.get? b).map fun o => .frz o u else none
noncomputable def freeze (H : Hp) (h : Heap) : Hp := fun b => (H b).bind (frzO h b)
theorem freeze_is {H : Hp} {h : Heap} {b : Addr} {z : HO} (e : freeze H h b = some z) : ∃ o v, z = .frz o v ∧ Fzb v ∧ ((H b = some v ∧ h.get? b = some o) ∨ H b = some (.frz o v)) := by
  unfold freeze at e
  cases q : H b with
  | none => rw [q] at e; cases e
  | some u =>
    rw [q] at e
    simp only [Option.bind_some] at e
    unfold frzO at e
    split at e
    · rename_i o v
      split at e
      · rename_i hv
        cases e
        exact ⟨o, v, rfl, hv, .inr rfl⟩
      · cases e
    · rename_i hne
      split at e
      · rename_i hu
        cases ho : h.get? b with
        | none => rw [ho] at e; cases e
        | some o => rw [ho] at e; cases e; exact ⟨o, u, rfl, hu, .inl ⟨rfl, rfl⟩⟩
      · cases e
theorem freeze_of {H : Hp} {h : Heap} {b : Addr} {u : HO} {o : Obj} (e : H b = some u) (hu : Fzb u) (ho : h.get? b = some o) : freeze H h b = some (.frz o u) := by
  unfold freeze
  rw [e]
  simp only [Option.bind_some]
  unfold frzO
  split
  · rename_i o' v; exact hu.elim
  · rw [if_pos hu, ho]; rfl
open Classical in
theorem freeze_frz {H : Hp} {h : Heap} {b : Addr} {u : HO} {o : Obj} (e : H b = some (.frz o u)) (hu : Fzb u) : freeze H h b = some (.frz o u) := by
  unfold freeze
  rw [e]
  simp only [Option.bind_some]
  unfold frzO
  show (if Fzb u then some (HO.frz o u) else none) = _
  rw [if_pos hu]
theorem fzb_any {P : Program} {w : World} {H H' : Hp} {h h' : Heap} {b : Addr} {u : HO} (hu : Fzb u) (x : ObjOk P w H h b u) (e : ∀ o, h.get? b = some o → h'.get? b = some o) : ObjOk P w H' h' b u := by
  cases u with
  | lst xs => obtain ⟨z, its, n, r, q⟩ := x; exact ⟨z, its, n, r, e _ q⟩
  | tup xs => obtain ⟨z, its, r, ob, q, c⟩ := x; exact ⟨z, its, r, ob, e _ q, c⟩
  | dK kvs => exact (ObjOk.stay (H := fun _ => none) (H' := H') (h' := h') (show ObjOk P w (fun _ => none) h b (.dK kvs) from x) (fun c u hc q => by
      rcases hc with rfl | hc
      · exact e _ q
      · cases hc) (fun c q => by cases q) fun c xs q => by cases q)
  | _ => exact hu.elim
theorem HOk.freeze {P : Program} {w : World} {H : Hp} {h : Heap} (x : HOk P w H h) : HOk P w (freeze H h) h := fun a z e => by
  obtain ⟨o, v, rfl, hv, q⟩ := freeze_is e
  rcases q with ⟨q, ho⟩ | q
  · exact ⟨ho, fzb_any hv (x a v q) fun _ z => z⟩
  · obtain ⟨h1, h2⟩ := x a _ q
    exact ⟨h1, fzb_any hv h2 fun _ z => z⟩
/-- all that is no frame is kept as it is -/
theorem unB_frozen {P : Program} {w : World} {fs : List Addr} {H H' : Hp} {h B : Heap} (x : HOk P w H h) (u : UnB fs [] (freeze H h) H' h B) (ok : HOk P w H' B) (fr : ∀ b ∈ fs, H b = none) : ∀ b o, h.get? b = some o → b ∉ fs → B.get? b = some o := fun b o e hb => by
  cases q : freeze H h b with
  | none => exact u.keep b o e q hb (by simp)
  | some z =>
    obtain ⟨o', v, rfl, hv, hq⟩ := freeze_is q
    have h1 := (ok b _ (u.frzs b o' v q)).1
    rcases hq with ⟨_, ho⟩ | hq
    · rw [e] at ho; cases ho; exact h1
    · have := (x b _ hq).1
      rw [e] at this; cases this; exact h1
theorem un_frozen {P : Program} {w : World} {fs : List Addr} {H H' : Hp} {h h' : Heap} (x : HOk P w H h) (u : Un fs [] (freeze H h) H' h h') (ok : HOk P w H' h') (fr : ∀ b ∈ fs, H b = none) : ∀ b o, h.get? b = some o → b ∉ fs → h'.get? b = some o := fun b o e hb => by
  cases q : freeze H h b with
  | none => exact u.keep b o e q hb (by simp)
  | some z =>
    obtain ⟨o', v, rfl, hv, hq⟩ := freeze_is q
    have h1 := (ok b _ (u.frzs b o' v q)).1
    rcases hq with ⟨_, ho⟩ | hq
    · rw [e] at ho; cases ho; exact h1
    · have := (x b _ hq).1
      rw [e] at this; cases this; exact h1
theorem freeze_none {H : Hp} {h : Heap} {b : Addr} (e : H b = none) : freeze H h b = none := by
  unfold freeze; rw [e]; rfl
theorem un_kept {fs : List Addr} {H : Hp} {h h' : Heap} (k : ∀ b o, h.get? b = some o → b ∉ fs → h'.get? b = some o) (sl : ∀ b ∈ fs, ∀ o, h.get? b = some o → ∃ sl, h'.get? b = some { o with slots := sl }) : Un fs [] H H h h' where
  keep := fun b o e _ hb _ => k b o e hb
  slot := fun b o e _ hb _ => sl b hb o e
  free := fun _ _ _ n _ => n
  there := fun b o e _ => by
    by_cases hb : b ∈ fs
    · obtain ⟨sl, q⟩ := sl b hb o e; exact ⟨_, q⟩
    · exact ⟨o, k b o e hb⟩
  tups := fun _ _ q => q
  frzs := fun _ _ _ q => q
  tbls := fun _ ps q => ⟨#[], by simpa using q⟩
theorem hok_kept {P : Program} {w : World} {fs : List Addr} {H : Hp} {h h' : Heap} (x : HOk P w H h) (fr : ∀ b ∈ fs, H b = none) (k : ∀ b o, h.get? b = some o → b ∉ fs → h'.get? b = some o) : HOk P w H h' := fun a o e =>
  (x a o e).stay (fun b u hb q => k b u q fun m => by
    have := fr b m
    rcases hb with rfl | hb
    · rw [e] at this; cases this
    · rw [hb] at this; cases this) (fun _ q => q) fun _ _ q => q
section
variable {X : Cx} {pins : List (Addr × Obj)} {σ : St} {H : Hp} {s s' : Shared}
theorem Inv.env0F (I : Inv X pins σ H s) : Env0 X.prog X.w X.K X.mg X.base X.A X.stack s (freeze H s.heap) :=
  ⟨I.ok.frames, I.ok.mod, fun b o e => ⟨(I.bs b o e).1, freeze_none (I.bs b o e).2⟩, Nat.le_trans I.ok.bsz I.sz, I.stack, fun b hb => freeze_none (I.stkFree b hb), I.hok.freeze, I.bare⟩
/-- it came back: all is as it was -/
theorem Inv.backF {Q : VK} {u : Value} (I : Inv X pins σ H s) (h : CE X.stack X.prog X.w (freeze H s.heap) s Q u s') : Inv X pins σ H s' ∧ ∃ v H', RelV v u ∧ Q v H' := by
  obtain ⟨v, H', os, bare, un, hok, r, q⟩ := h
  have k := un_frozen I.hok un hok I.stkFree
  refine ⟨I.call' (ch := []) os (un_kept k fun b hb o e => un.slot b o e (freeze_none (I.stkFree b hb)) hb (by simp)) (hok_kept I.hok I.stkFree k) bare (fun b z => absurd z (by simp)), v, H', r, q⟩
end
end L2
set_option Elab.async false
set_option linter.all false
set_option maxRecDepth 100000
set_option maxHeartbeats 400000
/-! try: f(..) except ..: -/
namespace L2
open PySem PySem.Spec PyProof.Rows
/-- the context of a handler's suite -/
def Cx.mk1 (X : Cx) (e : Value) : Cx := { X with A := X.A.mark (some e), calm := false, xe := fun _ _ => False }
section
variable {X : Cx} {pins : List (Addr × Obj)} {σ : St} {H : Hp} {s s' : Shared} {e : Value}
theorem Cx.Ok.mk1 (ok : X.Ok) : (X.mk1 e).Ok :=
  ⟨ok.mod, ok.kind, ok.glob, ok.blt, ok.above, ok.inj, ok.has, ok.cab, (fun z => by cases z), ok.frames, ok.stk, ok.exf, ok.bs, ok.bsz, ok.noex, ok.exfs, ok.funs, ok.frf⟩
theorem Inv.mk1 (I : Inv X pins σ H s) : Inv (X.mk1 e) pins σ H s := ⟨I.ok.mk1, I.os, I.bare, I.base, I.loc, I.cell, I.free, I.freeC, I.pin, I.hok, I.len⟩
theorem Inv.unmk1 (ok : X.Ok) (I : Inv (X.mk1 e) pins σ H s) : Inv X pins σ H s := ⟨ok, I.os, I.bare, I.base, I.loc, I.cell, I.free, I.freeC, I.pin, I.hok, I.len⟩
theorem SP.unmk1 {D : Ends} {f : Flow} (ok : X.Ok) (h : SP (X.mk1 e) pins D f s') : SP X pins D f s' := by
  cases f with
  | next => obtain ⟨σ', H', I, q⟩ := h; exact ⟨σ', H', I.unmk1 ok, q⟩
  | brk => obtain ⟨σ', H', I, q⟩ := h; exact ⟨σ', H', I.unmk1 ok, q⟩
  | cont => obtain ⟨σ', H', I, q⟩ := h; exact ⟨σ', H', I.unmk1 ok, q⟩
  | ret u => obtain ⟨v, σ', H', I, r, q⟩ := h; exact ⟨v, σ', H', I.unmk1 ok, r, q⟩
/-- an exception flies here, and all is as it was -/
def Fly (X : Cx) (pins : List (Addr × Obj)) (σ : St) (H : Hp) (ea : Addr) (cls : Value) (s : Shared) : Prop :=
  ∃ s1 B a0, Inv X pins σ H s1 ∧ s.os = s1.os ∧ AllBare s.gens ∧ (∀ b o, s1.heap.get? b = some o → b ∉ frs X.stack → B.get? b = some o) ∧
    (∀ b ∈ frs X.stack, ∀ o, s1.heap.get? b = some o → ∃ sl, s.heap.get? b = some { o with slots := sl }) ∧ Heap.FlyingW B X.stack ea cls a0 s.heap
variable {ea : Addr} {cls : Value}
theorem Fly.inv (F : Fly X pins σ H ea cls s) : Inv X pins σ H s := by
  obtain ⟨s1, B, a0, I, os, bare, k, sl, fl⟩ := F
  have k' : ∀ b o, s1.heap.get? b = some o → b ∉ frs X.stack → s.heap.get? b = some o := fun b o e hb => fl.1 b o (k b o e hb)
  exact I.call' (ch := []) os (un_kept k' sl) (hok_kept I.hok I.stkFree k') bare (fun b z => absurd z (by simp))
theorem Fly.step {B : Heap} {a0 : Value} {h' : Heap} {s1 : Shared} (I : Inv X pins σ H s1) (os : s.os = s1.os) (bare : AllBare s.gens) (k : ∀ b o, s1.heap.get? b = some o → b ∉ frs X.stack → B.get? b = some o)
    (sl : ∀ b ∈ frs X.stack, ∀ o, s1.heap.get? b = some o → ∃ sl, s.heap.get? b = some { o with slots := sl }) (fl : Heap.FlyingW B X.stack ea cls a0 h') (up : s.heap.UpToSlots h') : Fly X pins σ H ea cls { s with heap := h' } := by
  refine ⟨s1, B, a0, I, os, bare, k, fun b hb o e => ?_, fl⟩
  obtain ⟨sl, q⟩ := sl b hb o e
  obtain ⟨_, o2, ho2, nf⟩ := I.stack.mem hb
  rw [e] at ho2; cases ho2
  obtain ⟨sl2, q2⟩ := up b _ q nf
  exact ⟨sl2, q2⟩
theorem Fly.of {E : XK} {e : Value} (I : Inv X pins σ H s) (h : CXr X.prog X.w X.stack (freeze H s.heap) s E e s') : ∃ ea cls H', e = .ref ea ∧ E cls none H' ∧ Fly X pins σ H ea cls s' := by
  obtain ⟨ea, cls, a0, H', B, rfl, hE, os, bare, u, sl, ok, -, fl⟩ := h
  exact ⟨ea, cls, H', rfl, hE, s, B, a0, I, os, bare, unB_frozen I.hok u ok I.stkFree, fun b hb o e => sl b hb o e (by simp), fl⟩
theorem Fly.ty {M : Model} (F : Fly X pins σ H ea cls s) : PySem.W.Looks M s.heap (typeOf (.ref ea)) cls := by
  obtain ⟨s1, B, a0, I, os, bare, k, sl, fl⟩ := F
  obtain ⟨ob, hob, hc⟩ := fl.there
  subst hc
  exact (PySem.W.Looks.ld hob).andThen .now
section
variable {M : Model} {A : Around} {E : Value → Shared → Prop} {Q : Unit → Shared → Prop}
theorem Fly.land (F : Fly X pins σ H ea cls s) (h : ∀ s', Fly X pins σ H ea cls s' → Q () s') : wpAny M A (setFlight (.ref ea) none) Q E s := by
  obtain ⟨s1, B, a0, I, os, bare, k, sl, fl⟩ := F
  exact lands_againW fl fun h' fl' up => h _ (Fly.step (s := s) I os bare k sl fl' up)
theorem Fly.look {L : Addr} {outer : List Env} (F : Fly X pins σ H ea cls s) (hs : X.stack = X.env :: outer) (hf : X.env.frame = some L) (hA : A.frames = some X.stack) (h : ∀ s', Fly X pins σ H ea cls s' → Q () s') :
    wpAny M A (noteFrame (.ref ea) X.env) (fun _ s2 => wpAny M A (setFlight (.ref ea) none) Q E s2) E s := by
  obtain ⟨s1, B, a0, I, os, bare, k, sl, fl⟩ := F
  rw [hs] at fl
  refine wpAny_looks_onW (outer := outer) (L := L) (hA.trans (by rw [hs])) hf fl fun h' hh up => ?_
  refine wpAny_landsW hh fun h2 fl2 up2 => ?_
  exact h _ (Fly.step (s := s) (h' := h2) I os bare k sl (by rw [hs]; exact fl2) (up.trans up2))
end
/-- what the clauses do with an exception of the class cls -/
def HB (X : Cx) (hs : List ExceptHandler) (cls : Value) (th : TS) : Prop := ∀ (ea : Addr) (pins : List (Addr × Obj)) (s : Shared) (σ : St) (H : Hp) (D : Ends), Fly X pins σ H ea cls s → th D σ H → wpAny (model X.prog X.w) X.A (handleBy (.ref ea) X.env hs) (SP X pins D) X.xe s
variable {x : Str} {c : Value} {np pos : Pos} {nm : Option Str} {body suite : List Stmt} {b₀ : Stmt} {rest : List ExceptHandler} {th : TS}
theorem hb_hit (hg : Gl X x) (hm : X.mg x = some c) (he : PySem.W.exmOne X.K cls c = some true) (hs : ∀ ea, PSs (X.mk1 (.ref ea)) (b₀ :: suite) th) (hdb : (x == ("__debug__" : Str)) = false := by decide) : HB X (.ExceptHandler (some (.Name x np)) none (b₀ :: suite) pos :: rest) cls th := by
  intro ea pins s σ H D F h
  refine wpAny_handleBy_cons (codeAny_handlers_test (ld_glob (X := X.mk1 (.ref ea)) F.inv.mk1 hg hm ?_ hdb)) (by intro q; cases q)
  refine PySem.W.exm_one F.inv.kIn F.ty he _ _ _ _ (fun _ _ z => z) ?_
  refine codeAny_handlers_suite (F.land fun s2 F2 => ?_)
  exact wpAny_mono (hs ea pins s2 σ H D F2.inv.mk1 h) (fun f s3 q => SP.unmk1 F2.inv.ok q) fun _ _ z => z.elim
/-- try: f(e, ..) except ..: the callee changes nothing; E: what may fly is chosen at the call -/
def tTry (P : Program) (w : World) (sp : Sp) (ta : TA) (th : Value → TS) : TS := fun D σ H => ta σ H fun vs H1 => ∃ E : XK, (∀ h, HOk P w H1 h → sp vs (freeze H1 h) (fun _ _ => D.nx σ H1) E) ∧ ∀ cls, (∃ H', E cls none H') → th cls D σ H1
theorem ps1_try {k L : Nat} {f : Addr} {sp : Sp} {fn : Str} {p cpos epos : Pos} {e : Expr} {es : List Expr} {ta : TA} {th : Value → TS} {h₀ : ExceptHandler} {hs : List ExceptHandler} {outer : List Env}
    (hF : ∀ vs H Q E, sp vs H Q E → ∃ fd ps sp', FnOkT X.prog X.w X.K X.mg X.base (CXr X.prog X.w) k f fd ps sp' ∧ Binds X.K fd ps [] ∧ sp' vs H Q E) (hr : Room k X.A) (hg : Gl X fn) (hm : X.mg fn = some (.ref f)) (hk : PySem.W.keepIn X.K (.ref f) = true) (ha : PA1 X.nox (e :: es) ta)
    (hst : X.stack = X.env :: outer) (hf : X.env.frame = some L) (hh : ∀ cls, HB X (h₀ :: hs) cls (th cls))
    (hsw : swapsWith (.Call (.Name fn p) (e :: es) [] cpos) none epos.line X.env = pure false := by rfl) (hdb : (fn == ("__debug__" : Str)) = false := by decide)
    (he : starEach (e :: es) X.env = (false, eval e X.env) :: starEach es X.env := by rfl) (hpl : (backTo cpos (starEach es X.env)).any (·.1) = false := by rfl) :
    PS1 X (.Try [.Expr (.Call (.Name fn p) (e :: es) [] cpos) epos] (h₀ :: hs) [] [] pos) (tTry X.prog X.w sp ta th) := by
  intro pins s σ H D h1 I h
  refine wpAny_Try_except ?_
  refine wpAny_execs_cons (wpAny_Expr_any ?_ I.quiet hsw)
  refine wpAny_Call_Name_kw (ld_glob I hg hm ?_ hdb)
  refine PySem.W.callWith_K (h₀ := X.base) I.ok.mod.kin hk (wpAny_falseE (thn (tok1 h1 (ha cpos pins s σ H _ h1 (I.wish _) h)) fun us s1 ⟨k1, vs, H1, I1', r, q⟩ => ?_)) he hpl
  have I1 := I1'.unwish
  refine ⟨I1.kIn, ?_⟩
  obtain ⟨E1, q1, q2⟩ := q
  obtain ⟨fd, ps, sp', F, hb, hsp⟩ := hF _ _ _ _ (q1 s1.heap I1.hok)
  have hl : us.length = ps.length := by rw [← r.length]; exact F.len _ _ _ _ hsp
  refine wpAny_call (codeAny_mono (F.run X.A X.stack s1 (freeze H1 s1.heap) ⟨us, []⟩ us vs _ E1 k1 hr I1.env0F (by simpa using hb s1 us I1.kIn (by simpa using hl)) r hsp) fun rr s' hq => ?_)
  cases rr with
  | error ev =>
    obtain ⟨ea, cls, H', rfl, hE, Fl⟩ := Fly.of I1 hq
    refine Fl.look hst hf I1.ok.frames fun s3 F3 => ?_
    exact hh cls ea pins s3 σ H1 D F3 (q2 cls ⟨_, hE⟩)
  | ok fl =>
    cases fl with
    | ret u =>
      obtain ⟨I2, v, H', _, q⟩ := I1.backF hq
      exact wpAny_execs_nil (wpAny_execs_nil ⟨σ, H1, I2, q⟩)
    | next => exact False.elim hq
    | brk => exact False.elim hq
    | cont => exact False.elim hq
end
end L2
set_option Elab.async false
set_option linter.all false
set_option maxRecDepth 100000
set_option maxHeartbeats 400000
/-! the second level: try -/
namespace WL
open PySem PySem.Spec PyProof.Rows L2
mutual
/-- a value as a callee sees it that may change nothing -/
inductive Fz (C : Hw) : T → T → Prop
  | non : Fz C .non .non
  | bl (b : Bool) : Fz C (.bl b) (.bl b)
  | int (i : Int) : Fz C (.int i) (.int i)
  | str (z : Str) : Fz C (.str z) (.str z)
  | tup {ts ts' : List T} (h : Fzs C ts ts') : Fz C (.tup ts) (.tup ts')
  | cl {ts ts' : List T} (h : Fzs C ts ts') : Fz C (.cl ts) (.cl ts')
  | lst {a : Addr} {ts ts' : List T} (e : C a = some (.lst ts)) (h : Fzs C ts ts') : Fz C (.ref a) (.cl ts')
  | ref (a : Addr) : Fz C (.ref a) (.ref a)
inductive Fzs (C : Hw) : List T → List T → Prop
  | nil : Fzs C [] []
  | cons {t t' : T} {ts ts' : List T} (h : Fz C t t') (r : Fzs C ts ts') : Fzs C (t :: ts) (t' :: ts')
end
def FzC (C C' : Hw) : Prop := ∀ a o, C' a = some o → o = .fdic [] ∧ C a = some (.dic [])
section
variable {K : PySem.W.Frag} {P : Program} {w : World} {F H : Hp} {C : Hw} {h : Heap}
theorem rd_frz {a : Addr} {u : HO} (ok : HOk P w H h) (hu : Fzb u) (r : Rd H a u) : ∃ o, freeze H h a = some (.frz o u) := by
  rcases r with r | ⟨o, r⟩
  · have := ok.lt r
    cases u with
    | lst xs => obtain ⟨_, its, n, _, q⟩ := (show ObjOk P w H h a (.lst xs) from ok a _ r); exact ⟨_, freeze_of r hu q⟩
    | tup xs => obtain ⟨_, its, _, ob, q, _⟩ := (show ObjOk P w H h a (.tup xs) from ok a _ r); exact ⟨_, freeze_of r hu q⟩
    | dK kvs =>
      cases q : h.get? a with
      | some o => exact ⟨_, freeze_of r hu q⟩
      | none =>
        exfalso
        obtain ⟨_, _, vs, _, z⟩ := (show ObjOk P w H h a (.dK kvs) from ok a _ r)
        obtain ⟨o, es, ep, e, _⟩ := z
        rw [q] at e; cases e
    | _ => exact hu.elim
  · exact ⟨o, freeze_frz r hu⟩
mutual
theorem fz_rep (R : Rl K F H C) (ok : HOk P w H h) : ∀ {v v' : T}, Fz C v v' → ∀ {x : V}, Rep K H x v → Rep K (freeze H h) x v'
  | _, _, .non, _, r => r
  | _, _, .bl _, _, r => r
  | _, _, .int _, _, r => r
  | _, _, .str _, _, r => r
  | _, _, .ref _, _, r => r
  | _, _, .tup f, x, r => by
    obtain ⟨a, ys, e, sq, rs⟩ := (show ∃ a ys, x = .ref a ∧ SqT K H a ys ∧ Reps K H ys _ from r)
    refine (show ∃ a ys, x = .ref a ∧ SqT K (freeze H h) a ys ∧ Reps K (freeze H h) ys _ from ⟨a, ys, e, ?_, fz_reps R ok f rs⟩)
    rcases sq with sq | sq
    · exact .inl (.inr (rd_frz ok trivial sq))
    · exact .inr sq
  | _, _, .cl f, x, r => by
    obtain ⟨a, ys, e, sq, rs⟩ := (show ∃ a ys, x = .ref a ∧ SqC K H a ys ∧ Reps K H ys _ from r)
    refine (show ∃ a ys, x = .ref a ∧ SqC K (freeze H h) a ys ∧ Reps K (freeze H h) ys _ from ⟨a, ys, e, ?_, fz_reps R ok f rs⟩)
    rcases sq with sq | sq
    · exact .inl (rd_frz ok trivial (.inr sq))
    · exact .inr sq
  | _, _, .lst (a := a) ec f, x, r => by
    obtain ⟨ys, e, rs⟩ := (show ∃ ys, H a = some (.lst ys) ∧ Reps K H ys _ from R.obj a _ ec)
    exact (show ∃ a ys, x = .ref a ∧ SqC K (freeze H h) a ys ∧ Reps K (freeze H h) ys _ from ⟨a, ys, r, .inl (rd_frz ok trivial (.inl e)), fz_reps R ok f rs⟩)
theorem fz_reps (R : Rl K F H C) (ok : HOk P w H h) : ∀ {vs vs' : List T}, Fzs C vs vs' → ∀ {xs : List V}, Reps K H xs vs → Reps K (freeze H h) xs vs'
  | _, _, .nil, _, r => r
  | _, _, .cons f g, xs, r => by
    obtain ⟨y, z, e, r1, r2⟩ := (show ∃ y z, xs = y :: z ∧ Rep K H y _ ∧ Reps K H z _ from r)
    exact (show ∃ y z, xs = y :: z ∧ Rep K (freeze H h) y _ ∧ Reps K (freeze H h) z _ from ⟨y, z, e, fz_rep R ok f r1, fz_reps R ok g r2⟩)
end
theorem fz_rl {C' : Hw} (R : Rl K F H C) (ok : HOk P w H h) (f : FzC C C') : Rl K (fun _ => none) (freeze H h) C' := by
  refine ⟨fun a o e => ?_, fun a o e => by cases e⟩
  obtain ⟨rfl, ec⟩ := f a o e
  obtain ⟨ks, q, p⟩ := (show ∃ ks, H a = some (.dK ks) ∧ PR K H ks [] from R.obj a _ ec)
  cases p
  exact ⟨[], .inr (rd_frz ok trivial (.inl q)), .nil⟩
end
/-- try: f(..) except ..; as: the copies of the callee, each with what is done if it raises -/
def sTry (P : Calls) (wA : WA) (as : List (Nat × WS)) : WS := fun D τ C => wA τ C (fun vs C1 => ∃ vs' C', Fzs C1 vs vs' ∧ FzC C1 C' ∧ ∃ q ∈ as, P q.1 vs' C' (fun _ _ => D.nx τ C1) (fun _ _ => False) ∧ q.2 D τ C1) D.xc
/-- what the clauses do -/
def SdH (X : Cx) (hs : List ExceptHandler) (cls : Value) (wh : WS) : Prop := ∃ th, HB X hs cls th ∧ SimS X.K th wh
section
variable {X : Cx} {x : Str} {c cls : Value} {np pos : Pos} {nm : Option Str} {body suite : List Stmt} {b₀ : Stmt} {rest : List ExceptHandler} {wh : WS}
theorem dh_hit (hg : Gl X x) (hm : X.mg x = some c) (he : PySem.W.exmOne X.K cls c = some true) (hs : ∀ e, SdB (X.mk1 e) (b₀ :: suite) wh) (hdb : (x == ("__debug__" : Str)) = false := by decide) : SdH X (.ExceptHandler (some (.Name x np)) none (b₀ :: suite) pos :: rest) cls wh := by
  refine ⟨fun D σ H => ∀ e, ∃ t, PSs (X.mk1 e) (b₀ :: suite) t ∧ t D σ H, hb_hit hg hm he (fun ea pins s σ H D I h => ?_) hdb, fun F H C σ τ D D' R S h d e => ?_⟩
  · obtain ⟨t, p, q⟩ := h (.ref ea)
    exact p pins s σ H D I q
  · obtain ⟨t, p, sm⟩ := hs e
    exact ⟨t, p, sm F H C σ τ D D' R S h d⟩
/-- a copy of the callee: its promise, and that the clauses do what is said with all that may fly -/
def Alt (X : Cx) (pr : List Df) (k : Nat) (fn : Str) (ps : List Str) (hs : List ExceptHandler) (q : Nat × WS) : Prop := ∃ E1 : XK, CaT X.prog X.w X.K X.mg X.base (CXr X.prog X.w) k fn ps (spR X.K pr E1 k q.1) ∧ ∀ cls H, E1 cls none H → SdH X hs cls q.2
theorem alt_never {k i : Nat} {pr : List Df} {fn : Str} {ps : List Str} {hs : List ExceptHandler} {wh : WS} (Cc : CaT X.prog X.w X.K X.mg X.base (CXr X.prog X.w) k fn ps (spR X.K pr (fun _ _ _ => False) k i)) : Alt X pr k fn ps hs (i, wh) := ⟨_, Cc, fun _ _ z => z.elim⟩
theorem alt_one {k i : Nat} {pr : List Df} {fn : Str} {ps : List Str} {hs : List ExceptHandler} {wh : WS} {C : Addr} {r : Prop} (Cc : CaT X.prog X.w X.K X.mg X.base (CXr X.prog X.w) k fn ps (spR X.K pr (Er [(C, r)]) k i)) (h : SdH X hs (.ref C) wh) : Alt X pr k fn ps hs (i, wh) := ⟨_, Cc, fun cls _ z => by
  obtain ⟨p, hp, rfl, _⟩ := z
  rw [List.mem_singleton.mp hp]
  exact h⟩
theorem ds1_try {k L : Nat} {ps : List Str} {pr : List Df} {fn : Str} {p cpos epos : Pos} {e : Expr} {es : List Expr} {wA : WA} {h₀ : ExceptHandler} {hs : List ExceptHandler} {outer : List Env} {f : Addr} {as : List (Nat × WS)}
    (hr : Room k X.A) (hg : Gl X fn) (hm : X.mg fn = some (.ref f)) (hk : PySem.W.keepIn X.K (.ref f) = true) (ha : SdA1 X.nox (e :: es) wA) (hA : ∀ q ∈ as, Alt X pr k fn ps (h₀ :: hs) q)
    (hst : X.stack = X.env :: outer) (hf : X.env.frame = some L)
    (hsw : swapsWith (.Call (.Name fn p) (e :: es) [] cpos) none epos.line X.env = pure false := by rfl) (hdb : (fn == ("__debug__" : Str)) = false := by decide)
    (he : starEach (e :: es) X.env = (false, eval e X.env) :: starEach es X.env := by rfl) (hpl : (backTo cpos (starEach es X.env)).any (·.1) = false := by rfl) :
    SdS1 X (.Try [.Expr (.Call (.Name fn p) (e :: es) [] cpos) epos] (h₀ :: hs) [] [] pos) (sTry (wpc pr k) wA as) := by
  obtain ⟨ta, p1, s⟩ := ha
  refine ⟨_, ps1_try (f := f) (sp := fun vs H Q E => ∃ fd ps sp', FnOkT X.prog X.w X.K X.mg X.base (CXr X.prog X.w) k f fd ps sp' ∧ Binds X.K fd ps [] ∧ sp' vs H Q E) (th := fun cls D σ H => ∃ t, HB X (h₀ :: hs) cls t ∧ t D σ H) (fun _ _ _ _ z => z) hr hg hm hk p1 hst hf (fun cls ea pins s' σ H D F z => ?_) hsw hdb he hpl, fun F H C σ τ D D' R S h d => ?_⟩
  · obtain ⟨t, hb, q⟩ := z
    exact hb ea pins s' σ H D F q
  · refine s F H C σ τ _ _ D'.xc R S h fun xs vs H1 C1 R1 t1 rs h1 => ?_
    obtain ⟨vs', C', f1, f2, q, hq, h2, h3⟩ := h1
    obtain ⟨E1, Cc, hE⟩ := hA q hq
    obtain ⟨f', fd, G, B, kp, m⟩ := Cc.ex
    rw [hm] at m; cases m
    refine ⟨E1, fun hp ok => ⟨fd, ps, _, G, B, rfl, fun _ => none, C', vs', _, _, fz_rl R1 ok f2, fz_reps R1 ok f1 rs, h2, fun y v H' C'' R' t' ry z => d.nx σ τ H1 C1 R1 t1 (S.tx t1) z⟩, fun cls hE' => ?_⟩
    obtain ⟨H', hE'⟩ := hE'
    obtain ⟨th, hb, sm⟩ := hE cls H' hE'
    exact ⟨th, hb, sm F H1 C1 σ τ D D' R1 (S.tx t1) h3 (d.at t1)⟩
end
end WL
set_option Elab.async false
set_option linter.all false
set_option maxRecDepth 100000
set_option maxHeartbeats 400000
/-! {e!r} of a text; tests and loops behind a token -/
namespace L2
open PySem PySem.Spec PyProof.Rows
def tFr (te : TE) : TE := fun σ H Q => te σ H fun x H1 => ∃ z : Str, x = .str z ∧ (reprText z).length ≤ sizeLine ∧ Q (.str (reprText z)) H1
theorem pe_fr {X : Cx} {e : Expr} {te : TE} {pos : Pos} (h : PE X e te) : PE X (.FormattedValue e 114 none pos) (tFr te) := by
  intro pins s σ H Q I q
  refine wpAny_FormattedValue_repr (thn (h pins s σ H _ I q) fun u s1 ⟨x, H1, I1, rx, z, ex, hz, q1⟩ => ?_)
  subst ex
  obtain ⟨t, rfl⟩ := rx
  exact wpAny_pyReprObj_str (formatField_str (fun t' tk => ⟨.str (reprText z), H1, I1.tok _, ⟨t', rfl⟩, q1⟩) hz) hz
end L2
namespace WL
open PySem PySem.Spec PyProof.Rows L2
def eFr (e : WE) : WE := fun τ C Q χ => e τ C (fun x C1 => ∃ z : Str, x = .str z ∧ (reprText z).length ≤ 1000 ∧ Q (.str (reprText z)) C1) χ
theorem d_fr {X : Cx} {e : Expr} {we : WE} {pos : Pos} (he : SdE X e we) : SdE X (.FormattedValue e 114 none pos) (eFr we) := by
  obtain ⟨t, p, s⟩ := he
  refine ⟨_, pe_fr p, fun F H C σ τ Q Q' χ R S h q => ?_⟩
  refine s F H C σ τ _ _ χ R S h fun x u H1 C1 R1 t1 rx h1 => ?_
  obtain ⟨z, rfl, hz, h1⟩ := h1
  cases of_str rx
  exact ⟨z, rfl, Nat.le_of_lt (small1000 hz), q _ _ H1 C1 R1 t1 rep_str h1⟩
end WL
set_option Elab.async false
set_option linter.all false
set_option maxRecDepth 100000
set_option maxHeartbeats 400000
/-! promises over any table of calls: two copies of one text in one list -/
namespace WL
open PySem PySem.Spec PyProof.Rows L2
/-- a promise over a table of calls; spW K pr n i is spV K (wpc pr n) i -/
def spV (K : PySem.W.Frag) (P : Calls) (i : Nat) : Sp := fun vs H Q _ => ∃ (F : Hp) (C : Hw) (vs' : List T) (Q' : WK) (χ : WX), Rl K F H C ∧ Reps K H vs vs' ∧ P i vs' C Q' χ ∧ QE K F H Q Q'
def spX (K : PySem.W.Frag) (P : Calls) (E1 : XK) (i : Nat) : Sp := fun vs H Q E => E = E1 ∧ spV K P i vs H Q E
section
variable {X : Cx} {k i : Nat} {x : Str} {ps : List Str} {P : Calls} {p pos : Pos} {e : Expr} {es : List Expr} {wA : WA} {E1 : XK}
theorem d_callV (Cc : Ca X.prog X.w X.K X.mg X.base k x ps (spV X.K P i)) (hr : Room k X.A) (hg : Gl X x) (ha : SdA X (e :: es) wA)
    (hdb : (x == ("__debug__" : Str)) = false := by decide) (he : starEach (e :: es) X.env = (false, eval e X.env) :: starEach es X.env := by rfl) (hpl : (backTo pos (starEach es X.env)).any (·.1) = false := by rfl) :
    SdE X (.Call (.Name x p) (e :: es) [] pos) (eCall P i wA) := by
  obtain ⟨t, p1, s⟩ := ha
  refine ⟨_, pe_ca Cc hr hg p1 hdb he hpl, fun F H C σ τ Q Q' χ R S h q => ?_⟩
  refine s F H C σ τ _ _ χ R S h fun xs vs H1 C1 R1 t1 rs h1 => ?_
  refine ⟨F, C1, vs, Q', χ, R1, ?_, h1, QE.at q t1⟩
  rw [List.append_nil]; exact rs
theorem d1_callV (Cc : Ca1 X.prog X.w X.K X.mg X.base k x ps (spV X.K P i)) (hr : Room k X.A) (hg : Gl X x) (ha : SdA1 X (e :: es) wA)
    (hdb : (x == ("__debug__" : Str)) = false := by decide) (he : starEach (e :: es) X.env = (false, eval e X.env) :: starEach es X.env := by rfl) (hpl : (backTo pos (starEach es X.env)).any (·.1) = false := by rfl) :
    SdE1 X (.Call (.Name x p) (e :: es) [] pos) (eCall P i wA) := by
  obtain ⟨t, p1, s⟩ := ha
  refine ⟨_, pe1_ca Cc hr hg p1 hdb he hpl, fun F H C σ τ Q Q' χ R S h q => ?_⟩
  refine s F H C σ τ _ _ χ R S h fun xs vs H1 C1 R1 t1 rs h1 => ?_
  refine ⟨F, C1, vs, Q', χ, R1, ?_, h1, QE.at q t1⟩
  rw [List.append_nil]; exact rs
theorem d_callX (hx : Passes (CXr X.prog X.w) X E1) (Cc : CaR X.prog X.w X.K X.mg X.base k x ps (spX X.K P E1 i)) (hr : Room k X.A) (hg : Gl X x) (ha : SdA X (e :: es) wA)
    (hdb : (x == ("__debug__" : Str)) = false := by decide) (he : starEach (e :: es) X.env = (false, eval e X.env) :: starEach es X.env := by rfl) (hpl : (backTo pos (starEach es X.env)).any (·.1) = false := by rfl) :
    SdE X (.Call (.Name x p) (e :: es) [] pos) (eCall P i wA) := by
  obtain ⟨t, p1, s⟩ := ha
  obtain ⟨f, fd, G, B, kp, m⟩ := Cc.ex
  refine ⟨_, pe_call G hr hg m kp B .nil hx p1 hdb he hpl, fun F H C σ τ Q Q' χ R S h q => ?_⟩
  refine s F H C σ τ _ _ χ R S h fun xs vs H1 C1 R1 t1 rs h1 => ?_
  refine ⟨rfl, F, C1, vs, Q', χ, R1, ?_, h1, QE.at q t1⟩
  rw [List.append_nil]; exact rs
theorem CaR.tk {P : Program} {w : World} {K : PySem.W.Frag} {mg : Str → Option Value} {base : Heap} {sp : Sp} (C : CaR P w K mg base k x ps sp) : CaT P w K mg base (CXr P w) k x ps sp := by
  obtain ⟨f, fd, F, r⟩ := C.ex
  exact ⟨f, fd, ⟨F.len, fun A outer s H args us vs Q E _ => F.run A outer s H args us vs Q E⟩, r⟩
theorem d1_callX (hx : Passes (CXr X.prog X.w) X E1) (Cc : CaT X.prog X.w X.K X.mg X.base (CXr X.prog X.w) k x ps (spX X.K P E1 i)) (hr : Room k X.A) (hg : Gl X x) (ha : SdA1 X (e :: es) wA)
    (hdb : (x == ("__debug__" : Str)) = false := by decide) (he : starEach (e :: es) X.env = (false, eval e X.env) :: starEach es X.env := by rfl) (hpl : (backTo pos (starEach es X.env)).any (·.1) = false := by rfl) :
    SdE1 X (.Call (.Name x p) (e :: es) [] pos) (eCall P i wA) := by
  obtain ⟨t, p1, s⟩ := ha
  refine ⟨_, pe1_caT Cc hr hx hg p1 hdb he hpl, fun F H C σ τ Q Q' χ R S h q => ?_⟩
  refine s F H C σ τ _ _ χ R S h fun xs vs H1 C1 R1 t1 rs h1 => ?_
  refine ⟨rfl, F, C1, vs, Q', χ, R1, ?_, h1, QE.at q t1⟩
  rw [List.append_nil]; exact rs
theorem ds_raiseX {C : Addr} {np cpos : Pos} (hf : Flies X E1) (hc : X.calm = true) (O : Xcl X.K X.mg x C) (hE : ∀ C' Q χ H, P i [] C' Q χ → E1 (.ref C) none H) (hg : Gl X x) (ha : SdA X (e :: es) wA) (hdb : (x == ("__debug__" : Str)) = false := by decide)
    (he : starEach (e :: es) X.env = (false, eval e X.env) :: starEach es X.env := by rfl) (hpl : (backTo cpos (starEach es X.env)).any (·.1) = false := by rfl) : SdS X (.Raise (some (.Call (.Name x np) (e :: es) [] cpos)) none pos) (sRaise P i wA) := by
  obtain ⟨t, p1, s⟩ := ha
  refine ⟨_, ps_raise hf hc O hg p1 hdb he hpl, fun F H Cw σ τ D D' R S h d => ?_⟩
  refine s F H Cw σ τ _ _ D'.xc R S h fun xs vs H1 C1 R1 t1 rs h1 => ?_
  exact ⟨by rw [rs.length]; exact Nat.le_of_lt (small1000 h1.1), hE _ _ _ _ h1.2⟩
end
/-- at the next depth the i-th call is what the body says of the calls at this depth -/
def Opens (P' P : Calls) (i : Nat) (N ps : List Str) (W : Calls → WS) : Prop := ∀ vs C Q χ, P' i vs C Q χ → vs.length = ps.length ∧ W P { nx := fun _ C' => Q .non C', rt := Q, xc := χ } (vs.map some ++ List.replicate (N.length - ps.length) none) C
theorem opens_of {pr : List Df} {n i : Nat} {N ps : List Str} {W : Calls → WS} (h : pr[i]? = some ⟨N.length, ps.length, W⟩) : Opens (wpc pr (n + 1)) (wpc pr n) i N ps W := fun vs C Q χ z => by
  obtain ⟨d, e, hl, z⟩ := z
  rw [h] at e; cases e
  exact ⟨hl, z⟩
theorem opens_sh {pr : List Df} {n i M : Nat} {N ps : List Str} {W : Calls → WS} (h : pr[i + M]? = some ⟨N.length, ps.length, fun P => W fun j => P (j + M)⟩) : Opens (fun j => wpc pr (n + 1) (j + M)) (fun j => wpc pr n (j + M)) i N ps W := fun vs C Q χ z => by
  obtain ⟨d, e, hl, z⟩ := z
  rw [h] at e; cases e
  exact ⟨hl, z⟩
section
variable {Pg : Program} {w : World} {K : PySem.W.Frag} {mg : Str → Option Value} {base : Heap} {x qual : Str} {st : Stmt} {f : Addr} {fd : FuncData} {N ps : List Str} {n i : Nat} {P P' : Calls} {E1 : XK} {W : Calls → WS}
theorem fn_okV (hO : Opens P' P i N ps W) (F : Fun K x qual st f fd) (S : FnScope N ps (defScope st))
    (hb : ∀ (cdv : Value) (A : Around) (outer : List Env) (s : Shared) (H : Hp) (E : XK), Room n (A.deeper (envOfC qual (defScope st) s.heap.objs.size f cdv)) → SdB (cxOf CX0 Pg w K mg base N qual (defScope st) f cdv A outer s H E).nox (defBody st) (W P)) :
    FnOk Pg w K mg base CX0 (n + 1) f fd ps (spV K P' i) := by
  refine F.ok S (fun vs H Q E h => ?_) (fun cdv A outer s H vs Q E hr h => ?_)
  · obtain ⟨F', C, vs', Q', χ, R, rs, h, _⟩ := h
    rw [rs.length, (hO _ _ _ _ h).1]
  · obtain ⟨F', C, vs', Q', χ, R, rs, h, q⟩ := h
    obtain ⟨hl, h⟩ := hO _ _ _ _ h
    obtain ⟨t, p, sm⟩ := hb cdv A outer s H E hr
    refine ⟨t, p, sm F' H C _ _ _ _ R (RepS.start rs N _ (by rw [rs.length, hl])) h ⟨fun σ τ H' C' R' t' _ h' => q .non .non H' C' R' t' rep_non h', q, fun _ _ _ _ _ _ _ z => z.elim, fun _ _ _ _ _ _ _ z => z.elim⟩⟩
theorem fn_okV1 (hO : Opens P' P i N ps W) (F : Fun K x qual st f fd) (S : FnScope N ps (defScope st))
    (hb : ∀ (cdv : Value) (A : Around) (outer : List Env) (s : Shared) (H : Hp) (E : XK), Room n (A.deeper (envOfC qual (defScope st) s.heap.objs.size f cdv)) → SdB1 (cxOf CX0 Pg w K mg base N qual (defScope st) f cdv A outer s H E).nox (defBody st) (W P)) :
    FnOk1 Pg w K mg base (n + 1) f fd ps (spV K P' i) := by
  refine F.ok1 S (fun vs H Q E h => ?_) (fun cdv A outer s H vs Q E hr h => ?_)
  · obtain ⟨F', C, vs', Q', χ, R, rs, h, _⟩ := h
    rw [rs.length, (hO _ _ _ _ h).1]
  · obtain ⟨F', C, vs', Q', χ, R, rs, h, q⟩ := h
    obtain ⟨hl, h⟩ := hO _ _ _ _ h
    obtain ⟨t, p, sm⟩ := hb cdv A outer s H E hr
    refine ⟨t, p, sm F' H C _ _ _ _ R (RepS.start rs N _ (by rw [rs.length, hl])) h ⟨fun σ τ H' C' R' t' _ h' => q .non .non H' C' R' t' rep_non h', q, fun _ _ _ _ _ _ _ z => z.elim, fun _ _ _ _ _ _ _ z => z.elim⟩⟩
theorem fn_okX (hO : Opens P' P i N ps W) (F : Fun K x qual st f fd) (S : FnScope N ps (defScope st))
    (hb : ∀ (cdv : Value) (A : Around) (outer : List Env) (s : Shared) (H : Hp), Room n (A.deeper (envOfC qual (defScope st) s.heap.objs.size f cdv)) → SdB (cxOf (CXr Pg w) Pg w K mg base N qual (defScope st) f cdv A outer s H E1) (defBody st) (W P)) :
    FnOk Pg w K mg base (CXr Pg w) (n + 1) f fd ps (spX K P' E1 i) := by
  obtain ⟨oc, od, kV, doc, pm, an, cdv, ct, osl, rfl, lk, hcd⟩ := F.ex
  refine fn_of lk hcd S (fun vs H Q E h => ?_) (fun A outer s H vs Q E hr h => ?_)
  · obtain ⟨_, F', C, vs', Q', χ, R, rs, h, _⟩ := h
    rw [rs.length, (hO _ _ _ _ h).1]
  · obtain ⟨rfl, F', C, vs', Q', χ, R, rs, h, q⟩ := h
    obtain ⟨hl, h⟩ := hO _ _ _ _ h
    obtain ⟨t, p, sm⟩ := hb cdv A outer s H hr
    refine ⟨t, p, sm F' H C _ _ _ _ R (RepS.start rs N _ (by rw [rs.length, hl])) h ⟨fun σ τ H' C' R' t' _ h' => q .non .non H' C' R' t' rep_non h', q, fun _ _ _ _ _ _ _ z => z.elim, fun _ _ _ _ _ _ _ z => z.elim⟩⟩
theorem fn_okXT (hO : Opens P' P i N ps W) (F : Fun K x qual st f fd) (S : FnScope N ps (defScope st))
    (hb : ∀ (cdv : Value) (A : Around) (outer : List Env) (s : Shared) (H : Hp), Room n (A.deeper (envOfC qual (defScope st) s.heap.objs.size f cdv)) → SdB1 (cxOf (CXr Pg w) Pg w K mg base N qual (defScope st) f cdv A outer s H E1) (defBody st) (W P)) :
    FnOkT Pg w K mg base (CXr Pg w) (n + 1) f fd ps (spX K P' E1 i) := by
  obtain ⟨oc, od, kV, doc, pm, an, cdv, ct, osl, rfl, lk, hcd⟩ := F.ex
  refine fn_ofT lk hcd S (fun vs H Q E h => ?_) (fun A outer s H vs Q E hr h => ?_)
  · obtain ⟨_, F', C, vs', Q', χ, R, rs, h, _⟩ := h
    rw [rs.length, (hO _ _ _ _ h).1]
  · obtain ⟨rfl, F', C, vs', Q', χ, R, rs, h, q⟩ := h
    obtain ⟨hl, h⟩ := hO _ _ _ _ h
    obtain ⟨t, p, sm⟩ := hb cdv A outer s H hr
    refine ⟨t, p, sm F' H C _ _ _ _ R (RepS.start rs N _ (by rw [rs.length, hl])) h ⟨fun σ τ H' C' R' t' _ h' => q .non .non H' C' R' t' rep_non h', q, fun _ _ _ _ _ _ _ z => z.elim, fun _ _ _ _ _ _ _ z => z.elim⟩⟩
/-- nothing is called at depth none -/
def Shut (P : Calls) : Prop := ∀ i vs C Q χ, ¬ P i vs C Q χ
theorem shut_0 {pr : List Df} : Shut (wpc pr 0) := fun _ _ _ _ _ z => z
theorem shut_sh {pr : List Df} {M : Nat} : Shut (fun j => wpc pr 0 (j + M)) := fun _ _ _ _ _ z => z
theorem spV_no {vs : List V} {H : Hp} {Q : VK} {E : XK} (z : Shut P) (h : spV K P i vs H Q E) : False := by
  obtain ⟨_, _, _, _, _, _, _, h, _⟩ := h; exact z _ _ _ _ _ h
theorem v0 (z : Shut P) (L : Ld K mg x st ps) : Ca Pg w K mg base n x ps (spV K P i) := by
  obtain ⟨f, fd, F, B, M⟩ := L
  exact ⟨f, fd, ⟨fun vs H Q E h => (spV_no z h).elim, fun A outer s H args us vs Q E _ _ _ _ h => (spV_no z h).elim⟩, B, F.kp, M⟩
theorem v01 (z : Shut P) (L : Ld K mg x st ps) : Ca1 Pg w K mg base n x ps (spV K P i) := (v0 z L).one
theorem x0 (z : Shut P) (L : Ld K mg x st ps) : CaR Pg w K mg base n x ps (spX K P E1 i) := by
  obtain ⟨f, fd, F, B, M⟩ := L
  exact ⟨f, fd, ⟨fun vs H Q E h => (spV_no z h.2).elim, fun A outer s H args us vs Q E _ _ _ _ h => (spV_no z h.2).elim⟩, B, F.kp, M⟩
theorem xT0 (z : Shut P) (L : Ld K mg x st ps) : CaT Pg w K mg base (CXr Pg w) n x ps (spX K P E1 i) := (x0 z L).tk
theorem v11 {sp : Sp} (L : Ld K mg x st ps) (G : ∀ {f fd}, Fun K x x st f fd → FnOk1 Pg w K mg base n f fd ps sp) : Ca1 Pg w K mg base n x ps sp := by
  obtain ⟨f, fd, F, B, M⟩ := L
  exact ⟨f, fd, G F, B, F.kp, M⟩
end
/-- the module's def by its name -/
theorem at_fn {P : Program} {w : World} {K : PySem.W.Frag} {mg : Str → Option Value} {base : Heap} {CX : CXT} {k : Nat} {x : Str} {ps : List Str} {sp : Sp} (C : CaT P w K mg base CX k x ps sp) : ∃ f, mg x = some (.ref f) ∧ PySem.W.keepIn K (.ref f) = true := by
  obtain ⟨f, _, _, _, kp, m⟩ := C.ex
  exact ⟨f, m, kp⟩
theorem alts_nil {X : Cx} {pr : List Df} {k : Nat} {fn : Str} {ps : List Str} {hs : List ExceptHandler} : ∀ q ∈ ([] : List (Nat × WS)), Alt X pr k fn ps hs q := fun _ h => nomatch h
theorem alts_cons {X : Cx} {pr : List Df} {k : Nat} {fn : Str} {ps : List Str} {hs : List ExceptHandler} {q : Nat × WS} {as : List (Nat × WS)} (h : Alt X pr k fn ps hs q) (r : ∀ q ∈ as, Alt X pr k fn ps hs q) : ∀ q' ∈ q :: as, Alt X pr k fn ps hs q' := fun q' m => by
  rcases List.mem_cons.mp m with rfl | m
  · exact h
  · exact r q' m
theorem ds1_tryE {X : Cx} {k L : Nat} {ps : List Str} {pr : List Df} {fn : Str} {p cpos epos pos : Pos} {e : Expr} {es : List Expr} {wA : WA} {h₀ : ExceptHandler} {hs : List ExceptHandler} {outer : List Env} {as : List (Nat × WS)} {P : Calls} (hP : wpc pr k = P)
    (hr : Room k X.A) (hg : Gl X fn) (hm : ∃ f, X.mg fn = some (.ref f) ∧ PySem.W.keepIn X.K (.ref f) = true) (ha : SdA1 X.nox (e :: es) wA) (hA : ∀ q ∈ as, Alt X pr k fn ps (h₀ :: hs) q)
    (hst : X.stack = X.env :: outer) (hf : X.env.frame = some L)
    (hsw : swapsWith (.Call (.Name fn p) (e :: es) [] cpos) none epos.line X.env = pure false := by rfl) (hdb : (fn == ("__debug__" : Str)) = false := by decide)
    (he : starEach (e :: es) X.env = (false, eval e X.env) :: starEach es X.env := by rfl) (hpl : (backTo cpos (starEach es X.env)).any (·.1) = false := by rfl) :
    SdS1 X (.Try [.Expr (.Call (.Name fn p) (e :: es) [] cpos) epos] (h₀ :: hs) [] [] pos) (sTry P wA as) := by
  subst hP
  obtain ⟨f, m, kp⟩ := hm
  exact ds1_try hr hg m kp ha hA hst hf hsw hdb he hpl
end WL
set_option Elab.async false
set_option linter.all false
set_option maxRecDepth 100000
set_option maxHeartbeats 4000000
namespace K19
open PySem PySem.Spec PyProof.Rows L2 WL
def g_FIGURES : T := .str "0123456789"
def g_LETTERS : T := .str "abcdefghijklmnopqrstuvwxyz"
def g_WORDS : T := .tup [.str "fun", .str "let", .str "choose", .str "first", .str "stop", .str "rows", .str "in", .str "when", .str "be"]
def g_OPS : T := .tup [.str "+", .str "-", .str "*", .str "<", .str "="]
def g_SHAPES : List (Str × Int) := [("Nil", 0), ("Cons", 2), ("No", 0), ("Yes", 0), ("Pair", 2)]
def g_MOST_FIGURES : T := .int 18
def g_MOST_PAIRS : T := .int 5
def g_FAMILIES : T := .tup [.tup [.str "Nil", .str "Cons"], .tup [.str "No", .str "Yes"], .tup [.str "Pair"]]
def top (i : Nat) : Stmt := PySem.Challenge.pw_idlegraph_k19_bad_forms.main.body.getD i (.Pass ⟨0, 0, 0, 0⟩)
structure Txt (w : World) (K : PySem.W.Frag) (mg : Str → Option Value) : Prop where
  n_all : mg "all" = none
  n_int : mg "int" = none
  n_isinstance : mg "isinstance" = none
  n_len : mg "len" = none
  n_max : mg "max" = none
  n_range : mg "range" = none
  n_reversed : mg "reversed" = none
  n_set : mg "set" = none
  n_str : mg "str" = none
  n_tuple : mg "tuple" = none
  g_FIGURES : Glb K mg "FIGURES" g_FIGURES
  g_LETTERS : Glb K mg "LETTERS" g_LETTERS
  g_WORDS : Glb K mg "WORDS" g_WORDS
  g_OPS : Glb K mg "OPS" g_OPS
  g_SHAPES : GDk w K mg "SHAPES" g_SHAPES
  g_MOST_FIGURES : Glb K mg "MOST_FIGURES" g_MOST_FIGURES
  g_MOST_PAIRS : Glb K mg "MOST_PAIRS" g_MOST_PAIRS
  g_FAMILIES : Glb K mg "FAMILIES" g_FAMILIES
/-- those that raise, and those that they call -/
structure CsR (Pg : Program) (w : World) (K : PySem.W.Frag) (mg : Str → Option Value) (base : Heap) (n : Nat) (P : Calls) (E1 : XK) (CN : Addr) : Prop where
  x_NoText : Xcl K mg "NoText" CN
  e_NoText : ∀ C' Q χ H, P 26 [] C' Q χ → E1 (.ref CN) none H
  c_is_name : Ca Pg w K mg base n "is_name" ["text"] (spV K P 0)
  c_read : CaT Pg w K mg base (CXr Pg w) n "read" ["text"] (spX K P E1 1)
  c_words_of : Ca1 Pg w K mg base n "words_of" ["text"] (spV K P 2)
  c_tree_of : CaR Pg w K mg base n "tree_of" ["words"] (spX K P E1 3)
  c_term_of : CaR Pg w K mg base n "term_of" ["tree"] (spX K P E1 4)
  c_word_term : CaR Pg w K mg base n "word_term" ["word"] (spX K P E1 5)
  c_is_number : Ca Pg w K mg base n "is_number" ["word"] (spV K P 6)
  c_two_terms : CaR Pg w K mg base n "two_terms" ["trees"] (spX K P E1 7)
  c_fun_term : CaR Pg w K mg base n "fun_term" ["trees"] (spX K P E1 8)
  c_call_term : CaR Pg w K mg base n "call_term" ["trees"] (spX K P E1 9)
  c_let_term : CaR Pg w K mg base n "let_term" ["trees"] (spX K P E1 10)
  c_pair_of : CaR Pg w K mg base n "pair_of" ["tree"] (spX K P E1 11)
  c_choose_term : CaR Pg w K mg base n "choose_term" ["trees"] (spX K P E1 12)
  c_alternative_of : CaR Pg w K mg base n "alternative_of" ["tree"] (spX K P E1 13)
  c_stop_term : CaR Pg w K mg base n "stop_term" ["trees"] (spX K P E1 14)
  c_rows_term : CaR Pg w K mg base n "rows_term" ["trees"] (spX K P E1 15)
  c_step_of : CaR Pg w K mg base n "step_of" ["tree"] (spX K P E1 16)
  c_items_of : CaR Pg w K mg base n "items_of" ["tree"] (spX K P E1 17)
  c_name_of : CaR Pg w K mg base n "name_of" ["tree"] (spX K P E1 18)
  c_refuse_alike : CaR Pg w K mg base n "refuse_alike" ["names"] (spX K P E1 19)
structure Cs (Pg : Program) (w : World) (K : PySem.W.Frag) (mg : Str → Option Value) (base : Heap) (n : Nat) (pr : List Df) (CN : Addr) : Prop where
  x_NoText : Xcl K mg "NoText" CN
  q_NoText : PySem.W.exmOne K (.ref CN) (.ref CN) = some true
  c_is_name : Ca Pg w K mg base n "is_name" ["text"] (spW K pr n 0)
  t0_read : CaT Pg w K mg base (CXr Pg w) n "read" ["text"] (spR K pr (fun _ _ _ => False) n 1)
  t1_read : CaT Pg w K mg base (CXr Pg w) n "read" ["text"] (spR K pr (Er [(CN, True)]) n 28)
  c_is_number : Ca Pg w K mg base n "is_number" ["word"] (spW K pr n 6)
  c__law_draws : Ca Pg w K mg base n "_law_draws" ["_law_script", "_law_many"] (spW K pr n 20)
  c__law_round : Ca Pg w K mg base n "_law_round" ["_law_words", "_law_cell"] (spW K pr n 21)
  c__law_good : Ca Pg w K mg base n "_law_good" ["_law_cell"] (spW K pr n 22)
  c__law_bad : Ca Pg w K mg base n "_law_bad" ["_law_cell"] (spW K pr n 23)
  c__law_one : Ca Pg w K mg base n "_law_one" ["_law_draws_here", "_law_cell", "_law_turn"] (spW K pr n 24)
  c_law : Ca Pg w K mg base n "law" ["_law_script"] (spW K pr n 25)
def SXr (j : Nat) (st : Stmt) (N : List Str) (q : Str) (Wx : Calls → WS) : Prop := ∀ {Pg : Program} {w : World} {K : PySem.W.Frag} {mg : Str → Option Value} {base : Heap} {n : Nat} {P : Calls} {f : Addr} {cdv : Value} {A : Around} {outer : List Env} {s : Shared} {H : Hp} {CN : Addr} {E1 : XK}, Txt w K mg → CsR Pg w K mg base n P E1 CN →
  Room n (A.deeper (envOfC q (defScope st) s.heap.objs.size f cdv)) → SdB (cxOf (CXr Pg w) Pg w K mg base N q (defScope st) f cdv A outer s H E1) ((defBody st).drop j) (Wx P)
def SXt (j : Nat) (st : Stmt) (N : List Str) (q : Str) (Wx : Calls → WS) : Prop := ∀ {Pg : Program} {w : World} {K : PySem.W.Frag} {mg : Str → Option Value} {base : Heap} {n : Nat} {P : Calls} {f : Addr} {cdv : Value} {A : Around} {outer : List Env} {s : Shared} {H : Hp} {CN : Addr} {E1 : XK}, Txt w K mg → CsR Pg w K mg base n P E1 CN →
  Room n (A.deeper (envOfC q (defScope st) s.heap.objs.size f cdv)) → SdB1 (cxOf (CXr Pg w) Pg w K mg base N q (defScope st) f cdv A outer s H E1) ((defBody st).drop j) (Wx P)
def SXv (j : Nat) (st : Stmt) (N : List Str) (q : Str) (Wx : Calls → WS) : Prop := ∀ {Pg : Program} {w : World} {K : PySem.W.Frag} {mg : Str → Option Value} {base : Heap} {n : Nat} {P : Calls} {f : Addr} {cdv : Value} {A : Around} {outer : List Env} {s : Shared} {H : Hp} {CN : Addr} {E1 E : XK}, Txt w K mg → CsR Pg w K mg base n P E1 CN →
  Room n (A.deeper (envOfC q (defScope st) s.heap.objs.size f cdv)) → SdB (cxOf CX0 Pg w K mg base N q (defScope st) f cdv A outer s H E).nox ((defBody st).drop j) (Wx P)
def SXu (j : Nat) (st : Stmt) (N : List Str) (q : Str) (Wx : Calls → WS) : Prop := ∀ {Pg : Program} {w : World} {K : PySem.W.Frag} {mg : Str → Option Value} {base : Heap} {n : Nat} {P : Calls} {f : Addr} {cdv : Value} {A : Around} {outer : List Env} {s : Shared} {H : Hp} {CN : Addr} {E1 E : XK}, Txt w K mg → CsR Pg w K mg base n P E1 CN →
  Room n (A.deeper (envOfC q (defScope st) s.heap.objs.size f cdv)) → SdB1 (cxOf CX0 Pg w K mg base N q (defScope st) f cdv A outer s H E).nox ((defBody st).drop j) (Wx P)
def SX (j : Nat) (st : Stmt) (N : List Str) (q : Str) (Wx : Calls → WS) : Prop := ∀ {Pg : Program} {w : World} {K : PySem.W.Frag} {mg : Str → Option Value} {base : Heap} {n : Nat} {P : Calls} {f : Addr} {cdv : Value} {A : Around} {outer : List Env} {s : Shared} {H : Hp} {CN : Addr} {pr : List Df} {E : XK}, wpc pr n = P → Txt w K mg → Cs Pg w K mg base n pr CN →
  Room n (A.deeper (envOfC q (defScope st) s.heap.objs.size f cdv)) → SdB (cxOf CX0 Pg w K mg base N q (defScope st) f cdv A outer s H E).nox ((defBody st).drop j) (Wx P)
abbrev st_is_name : Stmt := top 10
theorem sc_is_name : FnScope ["text"] ["text"] (defScope st_is_name) := ⟨rfl, rfl, rfl, by decide +kernel, rfl, by decide +kernel, by decide +kernel⟩
def D_is_name : {W // SXv 0 st_is_name ["text"] "is_name" W} := ⟨_, fun T S hr => by
    have hu := hu150 hr
    exact (db_cons (ds_if (dt_w (dw_or (dt_cmp o_lt (d_bi b_len (by rfl) T.n_len PySem.boot_len (da_cons (d_var 0) da_nil)) d_int (nomark _)) (dw_or1 (dt_cmp o_gt (d_bi b_len (by rfl) T.n_len PySem.boot_len (da_cons (d_var 0) da_nil)) d_int (nomark _))))) (db_one (ds_ret d_bl)) db_nil)
      (db_cons (ds_if (dt_w (dw_or (dt_cmp (o_notIn hu) (d_ix (d_var 0) d_int (fun _ _ => rfl)) (d_gl (by rfl) T.g_LETTERS) (by rfl)) (dw_or1 (dt_cmp (o_in hu) (d_var 0) (d_gl (by rfl) T.g_WORDS) (by rfl))))) (db_one (ds_ret d_bl)) db_nil)
      (db_one (ds_ret (d_bi (b_all rfl) (by rfl) T.n_all bt_all (da_cons (d_comp (cN := ["sign"]) (cap := [none]) (cl := []) (js := [0]) (g := (gName 0)) ⟨rfl, (fun _ => compOk0 rfl (by decide +kernel) (by decide +kernel) rfl (by decide)), (di_seq (d_var 0)), (fun _ _ _ => pg_name (i := 0) (show (["sign"] : List Str).Nodup by decide +kernel) rfl (Or.inl rfl)), gm_name, gk_name, sg_name, by decide +kernel, fun _ _ _ => dif_nil, fun _ _ _ => (d_or (d_cmp (o_in hu) (d_var 0) (d_gl (by rfl) T.g_LETTERS) (by rfl)) (d_one (d_cmp (o_in hu) (d_var 0) (d_gl (by rfl) T.g_FIGURES) (by rfl)))), fun _ => rfl⟩) da_nil))))))⟩
abbrev st_read : Stmt := top 14
theorem sc_read : FnScope ["text"] ["text"] (defScope st_read) := ⟨rfl, rfl, rfl, by decide +kernel, rfl, by decide +kernel, by decide +kernel⟩
def D_read : {W // SXt 0 st_read ["text"] "read" W} := ⟨_, fun T S hr => by
    exact (db1_cons (SdS.one (ds_if (dt_not (dt_tru (d_isi (by rfl) T.n_isinstance (by rfl) T.n_str bt_str (by decide) (d_var 0)))) (db_one (ds_raiseX (i := 26) fliesR rfl S.x_NoText S.e_NoText (by rfl) (da_cons d_str da_nil))) db_nil))
      (db1_one (ds1_ret (d1_callX (by first | exact passR | exact passC rfl rfl) (CaR.tk S.c_term_of) hr (by rfl) (da1_cons (d1_callX (by first | exact passR | exact passC rfl rfl) (CaR.tk S.c_tree_of) hr (by rfl) (da1_cons (d1_callV S.c_words_of hr (by rfl) (SdA.one (da_cons (d_var 0) da_nil))) da_nil)) da_nil)))))⟩
abbrev st_words_of : Stmt := top 15
theorem sc_words_of : FnScope ["text", "apart"] ["text"] (defScope st_words_of) := ⟨rfl, rfl, rfl, by decide +kernel, rfl, by decide +kernel, by decide +kernel⟩
def D_words_of : {W // SXu 0 st_words_of ["text", "apart"] "words_of" W} := ⟨_, fun T S hr => by
    have nd := sc_words_of.nd
    have hu := hu150 hr
    exact (db1_cons (ds1_set (i := 1) nd (d1_replace (d1_replace (d1_replace (SdE.one (d_var 0)) (by decide +kernel) (by decide +kernel)) (by decide +kernel) (by decide +kernel)) (by decide +kernel) (by decide +kernel)))
      (db1_one (SdS.one (ds_ret (d_comp (cN := ["word"]) (cap := [none]) (cl := []) (js := [0]) (g := (gName 0)) ⟨rfl, (fun _ => compOk0 rfl (by decide +kernel) (by decide +kernel) rfl (by decide)), (di_seq (d_mt PySem.F.plainAttrs_str PySem.F.slot_str_split PySem.F.type_str_split ty_str m_split (d_var 1) (da_cons d_str da_nil))), (fun _ _ _ => pg_name (i := 0) (show (["word"] : List Str).Nodup by decide +kernel) rfl (Or.inl rfl)), gm_name, gk_name, sg_name, by decide +kernel, fun _ _ _ => (dif_one (dt_cmp (o_ne hu) (d_var 0) d_str (nomark _))), fun _ _ _ => (d_var 0), fun _ => rfl⟩)))))⟩
abbrev st_tree_of : Stmt := top 16
theorem sc_tree_of : FnScope ["words", "pile", "word", "inner"] ["words"] (defScope st_tree_of) := ⟨rfl, rfl, rfl, by decide +kernel, rfl, by decide +kernel, by decide +kernel⟩
def D_tree_of_t1 : {W // SXr 4 st_tree_of ["words", "pile", "word", "inner"] "tree_of" W} := ⟨_, fun T S hr => by
    exact (db_one (ds_ret (d_ix (d_ix (d_var 1) d_int (fun _ _ => rfl)) d_int (fun _ _ => rfl))))⟩
def D_tree_of_t2 : {W // SXr 3 st_tree_of ["words", "pile", "word", "inner"] "tree_of" W} := ⟨_, fun T S hr => by
    have hu := hu150 hr
    exact (db_cons (ds_if (dt_cmp (o_ne hu) (d_bi b_len (by rfl) T.n_len PySem.boot_len (da_cons (d_ix (d_var 1) d_int (fun _ _ => rfl)) da_nil)) d_int (nomark _)) (db_one (ds_raiseX (i := 26) fliesR rfl S.x_NoText S.e_NoText (by rfl) (da_cons d_str da_nil))) db_nil)
      (D_tree_of_t1.2 T S hr))⟩
def D_tree_of_t3 : {W // SXr 2 st_tree_of ["words", "pile", "word", "inner"] "tree_of" W} := ⟨_, fun T S hr => by
    exact (db_cons (ds_if (dt_cmp o_gt (d_bi b_len (by rfl) T.n_len PySem.boot_len (da_cons (d_var 1) da_nil)) d_int (nomark _)) (db_one (ds_raiseX (i := 26) fliesR rfl S.x_NoText S.e_NoText (by rfl) (da_cons d_str da_nil))) db_nil)
      (D_tree_of_t2.2 T S hr))⟩
def D_tree_of : {W // SXr 0 st_tree_of ["words", "pile", "word", "inner"] "tree_of" W} := ⟨_, fun T S hr => by
    have nd := sc_tree_of.nd
    have hu := hu150 hr
    exact (db_cons (ds_set (i := 1) nd (d_lst (da_cons (d_lst da_nil) da_nil)))
      (db_cons (ds_for PassesOwn.leaving rfl (di_seq (d_var 0)) (dg_name (i := 2) nd)
      (db_one (ds_if (dt_cmp (o_eq hu) (d_var 2) d_str (nomark _)) (db_one (ds_expr (d_mt PySem.F.plainAttrs_list PySem.F.slot_list_append PySem.F.type_list_append ty_list m_append (d_var 1) (da_cons (d_lst da_nil) da_nil)))) (db_one (ds_if (dt_cmp (o_ne hu) (d_var 2) d_str (nomark _)) (db_one (ds_expr (d_mt PySem.F.plainAttrs_list PySem.F.slot_list_append PySem.F.type_list_append ty_list m_append (d_ix (d_var 1) (d_neg d_int) (fun _ _ => rfl)) (da_cons (d_var 2) da_nil)))) (db_one (ds_if (dt_cmp o_gt (d_bi b_len (by rfl) T.n_len PySem.boot_len (da_cons (d_var 1) da_nil)) d_int (nomark _)) (db_cons (ds_set (i := 3) nd (d_mt0 PySem.F.plainAttrs_list PySem.F.slot_list_pop PySem.F.type_list_pop ty_list m_pop (d_var 1)))
      (db_one (ds_expr (d_mt PySem.F.plainAttrs_list PySem.F.slot_list_append PySem.F.type_list_append ty_list m_append (d_ix (d_var 1) (d_neg d_int) (fun _ _ => rfl)) (da_cons (d_var 3) da_nil))))) (db_one (ds_raiseX (i := 26) fliesR rfl S.x_NoText S.e_NoText (by rfl) (da_cons d_str da_nil))))))))))
      (D_tree_of_t3.2 T S hr)))⟩
abbrev st_term_of : Stmt := top 17
theorem sc_term_of : FnScope ["tree", "head", "rest"] ["tree"] (defScope st_term_of) := ⟨rfl, rfl, rfl, by decide +kernel, rfl, by decide +kernel, by decide +kernel⟩
def D_term_of_t1 : {W // SXr 12 st_term_of ["tree", "head", "rest"] "term_of" W} := ⟨_, fun T S hr => by
    exact (db_one (ds_ret (d_callX (by first | exact passR | exact passC rfl rfl) S.c_call_term hr (by rfl) (da_cons (d_var 0) da_nil))))⟩
def D_term_of_t2 : {W // SXr 11 st_term_of ["tree", "head", "rest"] "term_of" W} := ⟨_, fun T S hr => by
    have hu := hu150 hr
    exact (db_cons (ds_if (dt_w (dw_or (dt_cmp (o_eq hu) (d_var 1) d_str (nomark _)) (dw_or1 (dt_cmp (o_eq hu) (d_var 1) d_str (nomark _))))) (db_one (ds_ret (d_tup (da_cons d_str (da_cons (d_var 1) (da_cons (d_callX (by first | exact passR | exact passC rfl rfl) S.c_two_terms hr (by rfl) (da_cons (d_var 2) da_nil)) da_nil)))))) db_nil)
      (D_term_of_t1.2 T S hr))⟩
def D_term_of_t3 : {W // SXr 10 st_term_of ["tree", "head", "rest"] "term_of" W} := ⟨_, fun T S hr => by
    have hu := hu150 hr
    exact (db_cons (ds_if (dt_cmp (o_eq hu) (d_var 1) d_str (nomark _)) (db_one (ds_ret (d_callX (by first | exact passR | exact passC rfl rfl) S.c_rows_term hr (by rfl) (da_cons (d_var 2) da_nil)))) db_nil)
      (D_term_of_t2.2 T S hr))⟩
def D_term_of_t4 : {W // SXr 9 st_term_of ["tree", "head", "rest"] "term_of" W} := ⟨_, fun T S hr => by
    have hu := hu150 hr
    exact (db_cons (ds_if (dt_cmp (o_eq hu) (d_var 1) d_str (nomark _)) (db_one (ds_ret (d_callX (by first | exact passR | exact passC rfl rfl) S.c_stop_term hr (by rfl) (da_cons (d_var 2) da_nil)))) db_nil)
      (D_term_of_t3.2 T S hr))⟩
def D_term_of_t5 : {W // SXr 8 st_term_of ["tree", "head", "rest"] "term_of" W} := ⟨_, fun T S hr => by
    have hu := hu150 hr
    exact (db_cons (ds_if (dt_cmp (o_eq hu) (d_var 1) d_str (nomark _)) (db_one (ds_ret (d_op o_add (d_tup (da_cons d_str da_nil)) (d_callX (by first | exact passR | exact passC rfl rfl) S.c_two_terms hr (by rfl) (da_cons (d_var 2) da_nil))))) db_nil)
      (D_term_of_t4.2 T S hr))⟩
def D_term_of_t6 : {W // SXr 7 st_term_of ["tree", "head", "rest"] "term_of" W} := ⟨_, fun T S hr => by
    have hu := hu150 hr
    exact (db_cons (ds_if (dt_cmp (o_eq hu) (d_var 1) d_str (nomark _)) (db_one (ds_ret (d_callX (by first | exact passR | exact passC rfl rfl) S.c_choose_term hr (by rfl) (da_cons (d_var 2) da_nil)))) db_nil)
      (D_term_of_t5.2 T S hr))⟩
def D_term_of_t7 : {W // SXr 6 st_term_of ["tree", "head", "rest"] "term_of" W} := ⟨_, fun T S hr => by
    have hu := hu150 hr
    exact (db_cons (ds_if (dt_cmp (o_eq hu) (d_var 1) d_str (nomark _)) (db_one (ds_ret (d_callX (by first | exact passR | exact passC rfl rfl) S.c_let_term hr (by rfl) (da_cons (d_var 2) da_nil)))) db_nil)
      (D_term_of_t6.2 T S hr))⟩
def D_term_of_t8 : {W // SXr 5 st_term_of ["tree", "head", "rest"] "term_of" W} := ⟨_, fun T S hr => by
    have hu := hu150 hr
    exact (db_cons (ds_if (dt_cmp (o_eq hu) (d_var 1) d_str (nomark _)) (db_one (ds_ret (d_callX (by first | exact passR | exact passC rfl rfl) S.c_fun_term hr (by rfl) (da_cons (d_var 2) da_nil)))) db_nil)
      (D_term_of_t7.2 T S hr))⟩
def D_term_of_t9 : {W // SXr 2 st_term_of ["tree", "head", "rest"] "term_of" W} := ⟨_, fun T S hr => by
    have nd := sc_term_of.nd
    have hu := hu150 hr
    exact (db_cons (ds_set (i := 1) nd (d_ix (d_var 0) d_int (fun _ _ => rfl)))
      (db_cons (ds_set (i := 2) nd (d_sl (d_var 0) (do_some d_int) do_none))
      (db_cons (ds_if (dt_cmp (o_inR hu) (d_var 1) (d_gl (by rfl) T.g_OPS) (by rfl)) (db_one (ds_ret (d_op o_add (d_tup (da_cons d_str (da_cons (d_var 1) da_nil))) (d_callX (by first | exact passR | exact passC rfl rfl) S.c_two_terms hr (by rfl) (da_cons (d_var 2) da_nil))))) db_nil)
      (D_term_of_t8.2 T S hr))))⟩
def D_term_of_t10 : {W // SXr 1 st_term_of ["tree", "head", "rest"] "term_of" W} := ⟨_, fun T S hr => by
    have hu := hu150 hr
    exact (db_cons (ds_if (dt_cmp (o_eq hu) (d_var 0) (d_lst da_nil) (nomark _)) (db_one (ds_raiseX (i := 26) fliesR rfl S.x_NoText S.e_NoText (by rfl) (da_cons d_str da_nil))) db_nil)
      (D_term_of_t9.2 T S hr))⟩
def D_term_of : {W // SXr 0 st_term_of ["tree", "head", "rest"] "term_of" W} := ⟨_, fun T S hr => by
    exact (db_cons (ds_if (dt_tru (d_isi (by rfl) T.n_isinstance (by rfl) T.n_str bt_str (by decide) (d_var 0))) (db_one (ds_ret (d_callX (by first | exact passR | exact passC rfl rfl) S.c_word_term hr (by rfl) (da_cons (d_var 0) da_nil)))) db_nil)
      (D_term_of_t10.2 T S hr))⟩
abbrev st_word_term : Stmt := top 18
theorem sc_word_term : FnScope ["word"] ["word"] (defScope st_word_term) := ⟨rfl, rfl, rfl, by decide +kernel, rfl, by decide +kernel, by decide +kernel⟩
def D_word_term_t1 : {W // SXr 3 st_word_term ["word"] "word_term" W} := ⟨_, fun T S hr => by
    exact (db_one (ds_raiseX (i := 26) fliesR rfl S.x_NoText S.e_NoText (by rfl) (da_cons (d_joined (dj_cons (d_fr (d_var 0)) (dj_cons d_str dj_nil))) da_nil)))⟩
def D_word_term_t2 : {W // SXr 2 st_word_term ["word"] "word_term" W} := ⟨_, fun T S hr => by
    have hu := hu150 hr
    exact (db_cons (ds_if (dt_cmp (o_eq hu) (d_gcget (by rfl) T.g_SHAPES (d_var 0) ⟨rfl, rfl, rfl, rfl⟩) d_int (nomark _)) (db_one (ds_ret (d_tup (da_cons d_str (da_cons (d_var 0) (da_cons (d_tup da_nil) da_nil)))))) db_nil)
      (D_word_term_t1.2 T S hr))⟩
def D_word_term_t3 : {W // SXr 1 st_word_term ["word"] "word_term" W} := ⟨_, fun T S hr => by
    exact (db_cons (ds_if (dt_tru (d_callV S.c_is_number hr (by rfl) (da_cons (d_var 0) da_nil))) (db_one (ds_ret (d_tup (da_cons d_str (da_cons (d_ty b_intT (by rfl) T.n_int bt_int (da_cons (d_var 0) da_nil)) da_nil))))) db_nil)
      (D_word_term_t2.2 T S hr))⟩
def D_word_term : {W // SXr 0 st_word_term ["word"] "word_term" W} := ⟨_, fun T S hr => by
    exact (db_cons (ds_if (dt_tru (d_callV S.c_is_name hr (by rfl) (da_cons (d_var 0) da_nil))) (db_one (ds_ret (d_tup (da_cons d_str (da_cons (d_var 0) da_nil))))) db_nil)
      (D_word_term_t3.2 T S hr))⟩
abbrev st_is_number : Stmt := top 19
theorem sc_is_number : FnScope ["word"] ["word"] (defScope st_is_number) := ⟨rfl, rfl, rfl, by decide +kernel, rfl, by decide +kernel, by decide +kernel⟩
def D_is_number : {W // SXv 0 st_is_number ["word"] "is_number" W} := ⟨_, fun T S hr => by
    have hu := hu150 hr
    exact (db_cons (ds_if (dt_w (dw_or (dt_cmp o_lt (d_bi b_len (by rfl) T.n_len PySem.boot_len (da_cons (d_var 0) da_nil)) d_int (nomark _)) (dw_or1 (dt_cmp o_gt (d_bi b_len (by rfl) T.n_len PySem.boot_len (da_cons (d_var 0) da_nil)) (d_gl (by rfl) T.g_MOST_FIGURES) (nomark _))))) (db_one (ds_ret d_bl)) db_nil)
      (db_cons (ds_if (dt_w (dw_and (dt_cmp (o_eq hu) (d_ix (d_var 0) d_int (fun _ _ => rfl)) d_str (nomark _)) (dw_and1 (dt_cmp (o_ne hu) (d_var 0) d_str (nomark _))))) (db_one (ds_ret d_bl)) db_nil)
      (db_one (ds_ret (d_bi (b_all rfl) (by rfl) T.n_all bt_all (da_cons (d_comp (cN := ["sign"]) (cap := [none]) (cl := []) (js := [0]) (g := (gName 0)) ⟨rfl, (fun _ => compOk0 rfl (by decide +kernel) (by decide +kernel) rfl (by decide)), (di_seq (d_var 0)), (fun _ _ _ => pg_name (i := 0) (show (["sign"] : List Str).Nodup by decide +kernel) rfl (Or.inl rfl)), gm_name, gk_name, sg_name, by decide +kernel, fun _ _ _ => dif_nil, fun _ _ _ => (d_cmp (o_in hu) (d_var 0) (d_gl (by rfl) T.g_FIGURES) (by rfl)), fun _ => rfl⟩) da_nil))))))⟩
abbrev st_two_terms : Stmt := top 20
theorem sc_two_terms : FnScope ["trees"] ["trees"] (defScope st_two_terms) := ⟨rfl, rfl, rfl, by decide +kernel, rfl, by decide +kernel, by decide +kernel⟩
def D_two_terms : {W // SXr 0 st_two_terms ["trees"] "two_terms" W} := ⟨_, fun T S hr => by
    have hu := hu150 hr
    exact (db_cons (ds_if (dt_cmp (o_ne hu) (d_bi b_len (by rfl) T.n_len PySem.boot_len (da_cons (d_var 0) da_nil)) d_int (nomark _)) (db_one (ds_raiseX (i := 26) fliesR rfl S.x_NoText S.e_NoText (by rfl) (da_cons d_str da_nil))) db_nil)
      (db_one (ds_ret (d_tup (da_cons (d_callX (by first | exact passR | exact passC rfl rfl) S.c_term_of hr (by rfl) (da_cons (d_ix (d_var 0) d_int (fun _ _ => rfl)) da_nil)) (da_cons (d_callX (by first | exact passR | exact passC rfl rfl) S.c_term_of hr (by rfl) (da_cons (d_ix (d_var 0) d_int (fun _ _ => rfl)) da_nil)) da_nil))))))⟩
abbrev st_fun_term : Stmt := top 21
theorem sc_fun_term : FnScope ["trees", "term", "tree"] ["trees"] (defScope st_fun_term) := ⟨rfl, rfl, rfl, by decide +kernel, rfl, by decide +kernel, by decide +kernel⟩
def D_fun_term : {W // SXr 0 st_fun_term ["trees", "term", "tree"] "fun_term" W} := ⟨_, fun T S hr => by
    have nd := sc_fun_term.nd
    exact (db_cons (ds_if (dt_cmp o_lt (d_bi b_len (by rfl) T.n_len PySem.boot_len (da_cons (d_var 0) da_nil)) d_int (nomark _)) (db_one (ds_raiseX (i := 26) fliesR rfl S.x_NoText S.e_NoText (by rfl) (da_cons d_str da_nil))) db_nil)
      (db_cons (ds_set (i := 1) nd (d_callX (by first | exact passR | exact passC rfl rfl) S.c_term_of hr (by rfl) (da_cons (d_ix (d_var 0) (d_neg d_int) (fun _ _ => rfl)) da_nil)))
      (db_cons (ds_for PassesOwn.leaving rfl (di_rev (by rfl) T.n_reversed (da_cons (d_sl (d_var 0) do_none (do_some (d_neg d_int))) da_nil)) (dg_name (i := 2) nd)
      (db_one (ds_set (i := 1) nd (d_tup (da_cons d_str (da_cons (d_callX (by first | exact passR | exact passC rfl rfl) S.c_name_of hr (by rfl) (da_cons (d_var 2) da_nil)) (da_cons (d_var 1) da_nil)))))))
      (db_one (ds_ret (d_var 1))))))⟩
abbrev st_call_term : Stmt := top 22
theorem sc_call_term : FnScope ["trees", "term", "tree"] ["trees"] (defScope st_call_term) := ⟨rfl, rfl, rfl, by decide +kernel, rfl, by decide +kernel, by decide +kernel⟩
def D_call_term : {W // SXr 0 st_call_term ["trees", "term", "tree"] "call_term" W} := ⟨_, fun T S hr => by
    have nd := sc_call_term.nd
    exact (db_cons (ds_if (dt_cmp o_lt (d_bi b_len (by rfl) T.n_len PySem.boot_len (da_cons (d_var 0) da_nil)) d_int (nomark _)) (db_one (ds_raiseX (i := 26) fliesR rfl S.x_NoText S.e_NoText (by rfl) (da_cons d_str da_nil))) db_nil)
      (db_cons (ds_set (i := 1) nd (d_callX (by first | exact passR | exact passC rfl rfl) S.c_term_of hr (by rfl) (da_cons (d_ix (d_var 0) d_int (fun _ _ => rfl)) da_nil)))
      (db_cons (ds_for PassesOwn.leaving rfl (di_seq (d_sl (d_var 0) (do_some d_int) do_none)) (dg_name (i := 2) nd)
      (db_one (ds_set (i := 1) nd (d_tup (da_cons d_str (da_cons (d_var 1) (da_cons (d_callX (by first | exact passR | exact passC rfl rfl) S.c_term_of hr (by rfl) (da_cons (d_var 2) da_nil)) da_nil)))))))
      (db_one (ds_ret (d_var 1))))))⟩
abbrev st_let_term : Stmt := top 23
theorem sc_let_term : FnScope ["trees", "pairs"] ["trees"] (defScope st_let_term) := ⟨rfl, rfl, rfl, by decide +kernel, rfl, by decide +kernel, by decide +kernel⟩
def D_let_term_t1 : {W // SXr 1 st_let_term ["trees", "pairs"] "let_term" W} := ⟨_, fun T S hr => by
    have nd := sc_let_term.nd
    exact (db_cons (ds_set (i := 1) nd (d_ty b_tuple (by rfl) T.n_tuple bt_tuple (da_cons (d_compR (cN := ["tree"]) (cap := [none]) (cl := []) (js := [0]) (g := (gName 0)) ⟨rfl, (fun _ => compOk0 rfl (by decide +kernel) (by decide +kernel) rfl (by decide)), (di_seq (d_sl (d_var 0) do_none (do_some (d_neg d_int)))), (fun _ _ _ => pg_name (i := 0) (show (["tree"] : List Str).Nodup by decide +kernel) rfl (Or.inl rfl)), gm_name, gk_name, sg_name, by decide +kernel, fun _ _ _ => dif_nil, fun _ _ _ => (d_callX (by first | exact passR | exact passC rfl rfl) S.c_pair_of hr (by rfl) (da_cons (d_var 0) da_nil)), fun _ => rfl⟩) da_nil)))
      (db_cons (ds_expr (d_callX (by first | exact passR | exact passC rfl rfl) S.c_refuse_alike hr (by rfl) (da_cons (d_comp (cN := ["name", "part"]) (cap := [none, none]) (cl := []) (js := ([0] ++ ([1] ++ []))) (g := (gTup _ 2 (gCons (gName 0) (gCons (gName 1) gNil)))) ⟨rfl, (fun _ => compOk0 rfl (by decide +kernel) (by decide +kernel) rfl (by decide)), (di_seq (d_var 1)), (fun _ _ _ => pg_tup (n := 2) rfl (pgs_cons (pg_name (i := 0) (show (["name", "part"] : List Str).Nodup by decide +kernel) rfl (Or.inl rfl)) (pgs_cons (pg_name (i := 1) (show (["name", "part"] : List Str).Nodup by decide +kernel) rfl (Or.inl rfl)) pgs_nil))), (gm_tup (gm_cons gm_name (gm_cons gm_name gm_nil))), (gk_tup (gk_cons gk_name gm_name (gk_cons gk_name gm_name gk_nil gm_nil) (gm_cons gm_name gm_nil))), (sg_tup (sg_cons sg_name (sg_cons sg_name sg_nil)) (gl_cons1 (gl_cons1 gl_nil))), by decide +kernel, fun _ _ _ => dif_nil, fun _ _ _ => (d_var 0), fun _ => rfl⟩) da_nil)))
      (db_one (ds_ret (d_tup (da_cons d_str (da_cons (d_var 1) (da_cons (d_callX (by first | exact passR | exact passC rfl rfl) S.c_term_of hr (by rfl) (da_cons (d_ix (d_var 0) (d_neg d_int) (fun _ _ => rfl)) da_nil)) da_nil))))))))⟩
def D_let_term : {W // SXr 0 st_let_term ["trees", "pairs"] "let_term" W} := ⟨_, fun T S hr => by
    exact (db_cons (ds_if (dt_w (dw_or (dt_cmp o_lt (d_bi b_len (by rfl) T.n_len PySem.boot_len (da_cons (d_var 0) da_nil)) d_int (nomark _)) (dw_or1 (dt_cmp o_gt (d_bi b_len (by rfl) T.n_len PySem.boot_len (da_cons (d_var 0) da_nil)) (d_op o_add (d_gl (by rfl) T.g_MOST_PAIRS) d_int) (nomark _))))) (db_one (ds_raiseX (i := 26) fliesR rfl S.x_NoText S.e_NoText (by rfl) (da_cons d_str da_nil))) db_nil)
      (D_let_term_t1.2 T S hr))⟩
abbrev st_pair_of : Stmt := top 24
theorem sc_pair_of : FnScope ["tree", "items"] ["tree"] (defScope st_pair_of) := ⟨rfl, rfl, rfl, by decide +kernel, rfl, by decide +kernel, by decide +kernel⟩
def D_pair_of : {W // SXr 0 st_pair_of ["tree", "items"] "pair_of" W} := ⟨_, fun T S hr => by
    have nd := sc_pair_of.nd
    have hu := hu150 hr
    exact (db_cons (ds_set (i := 1) nd (d_callX (by first | exact passR | exact passC rfl rfl) S.c_items_of hr (by rfl) (da_cons (d_var 0) da_nil)))
      (db_cons (ds_if (dt_cmp (o_ne hu) (d_bi b_len (by rfl) T.n_len PySem.boot_len (da_cons (d_var 1) da_nil)) d_int (nomark _)) (db_one (ds_raiseX (i := 26) fliesR rfl S.x_NoText S.e_NoText (by rfl) (da_cons d_str da_nil))) db_nil)
      (db_one (ds_ret (d_tup (da_cons (d_callX (by first | exact passR | exact passC rfl rfl) S.c_name_of hr (by rfl) (da_cons (d_ix (d_var 1) d_int (fun _ _ => rfl)) da_nil)) (da_cons (d_callX (by first | exact passR | exact passC rfl rfl) S.c_term_of hr (by rfl) (da_cons (d_ix (d_var 1) d_int (fun _ _ => rfl)) da_nil)) da_nil)))))))⟩
abbrev st_choose_term : Stmt := top 25
theorem sc_choose_term : FnScope ["trees", "alternatives"] ["trees"] (defScope st_choose_term) := ⟨rfl, rfl, rfl, by decide +kernel, rfl, by decide +kernel, by decide +kernel⟩
def D_choose_term_t1 : {W // SXr 3 st_choose_term ["trees", "alternatives"] "choose_term" W} := ⟨_, fun T S hr => by
    exact (db_one (ds_ret (d_tup (da_cons d_str (da_cons (d_callX (by first | exact passR | exact passC rfl rfl) S.c_term_of hr (by rfl) (da_cons (d_ix (d_var 0) d_int (fun _ _ => rfl)) da_nil)) (da_cons (d_var 1) da_nil))))))⟩
def D_choose_term_t2 : {W // SXr 1 st_choose_term ["trees", "alternatives"] "choose_term" W} := ⟨_, fun T S hr => by
    have nd := sc_choose_term.nd
    have hu := hu150 hr
    exact (db_cons (ds_set (i := 1) nd (d_ty b_tuple (by rfl) T.n_tuple bt_tuple (da_cons (d_compR (cN := ["tree"]) (cap := [none]) (cl := []) (js := [0]) (g := (gName 0)) ⟨rfl, (fun _ => compOk0 rfl (by decide +kernel) (by decide +kernel) rfl (by decide)), (di_seq (d_sl (d_var 0) (do_some d_int) do_none)), (fun _ _ _ => pg_name (i := 0) (show (["tree"] : List Str).Nodup by decide +kernel) rfl (Or.inl rfl)), gm_name, gk_name, sg_name, by decide +kernel, fun _ _ _ => dif_nil, fun _ _ _ => (d_callX (by first | exact passR | exact passC rfl rfl) S.c_alternative_of hr (by rfl) (da_cons (d_var 0) da_nil)), fun _ => rfl⟩) da_nil)))
      (db_cons (ds_if (dt_cmp (o_notIn hu) (d_ty b_tuple (by rfl) T.n_tuple bt_tuple (da_cons (d_comp (cN := ["shape", "names", "body"]) (cap := [none, none, none]) (cl := []) (js := ([0] ++ ([1] ++ ([2] ++ [])))) (g := (gTup _ 3 (gCons (gName 0) (gCons (gName 1) (gCons (gName 2) gNil))))) ⟨rfl, (fun _ => compOk0 rfl (by decide +kernel) (by decide +kernel) rfl (by decide)), (di_seq (d_var 1)), (fun _ _ _ => pg_tup (n := 3) rfl (pgs_cons (pg_name (i := 0) (show (["shape", "names", "body"] : List Str).Nodup by decide +kernel) rfl (Or.inl rfl)) (pgs_cons (pg_name (i := 1) (show (["shape", "names", "body"] : List Str).Nodup by decide +kernel) rfl (Or.inl rfl)) (pgs_cons (pg_name (i := 2) (show (["shape", "names", "body"] : List Str).Nodup by decide +kernel) rfl (Or.inl rfl)) pgs_nil)))), (gm_tup (gm_cons gm_name (gm_cons gm_name (gm_cons gm_name gm_nil)))), (gk_tup (gk_cons gk_name gm_name (gk_cons gk_name gm_name (gk_cons gk_name gm_name gk_nil gm_nil) (gm_cons gm_name gm_nil)) (gm_cons gm_name (gm_cons gm_name gm_nil)))), (sg_tup (sg_cons sg_name (sg_cons sg_name (sg_cons sg_name sg_nil))) (gl_cons1 (gl_cons1 (gl_cons1 gl_nil)))), by decide +kernel, fun _ _ _ => dif_nil, fun _ _ _ => (d_var 0), fun _ => rfl⟩) da_nil)) (d_gl (by rfl) T.g_FAMILIES) (by rfl)) (db_one (ds_raiseX (i := 26) fliesR rfl S.x_NoText S.e_NoText (by rfl) (da_cons d_str da_nil))) db_nil)
      (D_choose_term_t1.2 T S hr)))⟩
def D_choose_term : {W // SXr 0 st_choose_term ["trees", "alternatives"] "choose_term" W} := ⟨_, fun T S hr => by
    have hu := hu150 hr
    exact (db_cons (ds_if (dt_cmp (o_eq hu) (d_var 0) (d_lst da_nil) (nomark _)) (db_one (ds_raiseX (i := 26) fliesR rfl S.x_NoText S.e_NoText (by rfl) (da_cons d_str da_nil))) db_nil)
      (D_choose_term_t2.2 T S hr))⟩
abbrev st_alternative_of : Stmt := top 26
theorem sc_alternative_of : FnScope ["tree", "items", "names"] ["tree"] (defScope st_alternative_of) := ⟨rfl, rfl, rfl, by decide +kernel, rfl, by decide +kernel, by decide +kernel⟩
def D_alternative_of_t1 : {W // SXr 5 st_alternative_of ["tree", "items", "names"] "alternative_of" W} := ⟨_, fun T S hr => by
    exact (db_one (ds_ret (d_tup (da_cons (d_ix (d_var 1) d_int (fun _ _ => rfl)) (da_cons (d_var 2) (da_cons (d_callX (by first | exact passR | exact passC rfl rfl) S.c_term_of hr (by rfl) (da_cons (d_ix (d_var 1) (d_neg d_int) (fun _ _ => rfl)) da_nil)) da_nil))))))⟩
def D_alternative_of_t2 : {W // SXr 2 st_alternative_of ["tree", "items", "names"] "alternative_of" W} := ⟨_, fun T S hr => by
    have nd := sc_alternative_of.nd
    have hu := hu150 hr
    exact (db_cons (ds_set (i := 2) nd (d_ty b_tuple (by rfl) T.n_tuple bt_tuple (da_cons (d_compR (cN := ["item"]) (cap := [none]) (cl := []) (js := [0]) (g := (gName 0)) ⟨rfl, (fun _ => compOk0 rfl (by decide +kernel) (by decide +kernel) rfl (by decide)), (di_seq (d_sl (d_var 1) (do_some d_int) (do_some (d_neg d_int)))), (fun _ _ _ => pg_name (i := 0) (show (["item"] : List Str).Nodup by decide +kernel) rfl (Or.inl rfl)), gm_name, gk_name, sg_name, by decide +kernel, fun _ _ _ => dif_nil, fun _ _ _ => (d_callX (by first | exact passR | exact passC rfl rfl) S.c_name_of hr (by rfl) (da_cons (d_var 0) da_nil)), fun _ => rfl⟩) da_nil)))
      (db_cons (ds_expr (d_callX (by first | exact passR | exact passC rfl rfl) S.c_refuse_alike hr (by rfl) (da_cons (d_var 2) da_nil)))
      (db_cons (ds_if (dt_cmp (o_ne hu) (d_gcget (by rfl) T.g_SHAPES (d_ix (d_var 1) d_int (fun _ _ => rfl)) ⟨rfl, rfl, rfl, rfl⟩) (d_bi b_len (by rfl) T.n_len PySem.boot_len (da_cons (d_var 2) da_nil)) (nomark _)) (db_one (ds_raiseX (i := 26) fliesR rfl S.x_NoText S.e_NoText (by rfl) (da_cons d_str da_nil))) db_nil)
      (D_alternative_of_t1.2 T S hr))))⟩
def D_alternative_of : {W // SXr 0 st_alternative_of ["tree", "items", "names"] "alternative_of" W} := ⟨_, fun T S hr => by
    have nd := sc_alternative_of.nd
    exact (db_cons (ds_set (i := 1) nd (d_callX (by first | exact passR | exact passC rfl rfl) S.c_items_of hr (by rfl) (da_cons (d_var 0) da_nil)))
      (db_cons (ds_if (dt_w (dw_or (dt_cmp o_lt (d_bi b_len (by rfl) T.n_len PySem.boot_len (da_cons (d_var 1) da_nil)) d_int (nomark _)) (dw_or1 (dt_not (dt_tru (d_isi (by rfl) T.n_isinstance (by rfl) T.n_str bt_str (by decide) (d_ix (d_var 1) d_int (fun _ _ => rfl)))))))) (db_one (ds_raiseX (i := 26) fliesR rfl S.x_NoText S.e_NoText (by rfl) (da_cons d_str da_nil))) db_nil)
      (D_alternative_of_t2.2 T S hr)))⟩
abbrev st_stop_term : Stmt := top 27
theorem sc_stop_term : FnScope ["trees"] ["trees"] (defScope st_stop_term) := ⟨rfl, rfl, rfl, by decide +kernel, rfl, by decide +kernel, by decide +kernel⟩
def D_stop_term : {W // SXr 0 st_stop_term ["trees"] "stop_term" W} := ⟨_, fun T S hr => by
    have hu := hu150 hr
    exact (db_cons (ds_if (dt_cmp (o_ne hu) (d_bi b_len (by rfl) T.n_len PySem.boot_len (da_cons (d_var 0) da_nil)) d_int (nomark _)) (db_one (ds_raiseX (i := 26) fliesR rfl S.x_NoText S.e_NoText (by rfl) (da_cons d_str da_nil))) db_nil)
      (db_one (ds_ret (d_tup (da_cons d_str (da_cons (d_callX (by first | exact passR | exact passC rfl rfl) S.c_name_of hr (by rfl) (da_cons (d_ix (d_var 0) d_int (fun _ _ => rfl)) da_nil)) da_nil))))))⟩
abbrev st_rows_term : Stmt := top 28
theorem sc_rows_term : FnScope ["trees"] ["trees"] (defScope st_rows_term) := ⟨rfl, rfl, rfl, by decide +kernel, rfl, by decide +kernel, by decide +kernel⟩
def D_rows_term : {W // SXr 0 st_rows_term ["trees"] "rows_term" W} := ⟨_, fun T S hr => by
    have hu := hu150 hr
    exact (db_cons (ds_if (dt_cmp (o_eq hu) (d_var 0) (d_lst da_nil) (nomark _)) (db_one (ds_raiseX (i := 26) fliesR rfl S.x_NoText S.e_NoText (by rfl) (da_cons d_str da_nil))) db_nil)
      (db_one (ds_ret (d_tup (da_cons d_str (da_cons (d_callX (by first | exact passR | exact passC rfl rfl) S.c_term_of hr (by rfl) (da_cons (d_ix (d_var 0) d_int (fun _ _ => rfl)) da_nil)) (da_cons (d_ty b_tuple (by rfl) T.n_tuple bt_tuple (da_cons (d_compR (cN := ["tree"]) (cap := [none]) (cl := []) (js := [0]) (g := (gName 0)) ⟨rfl, (fun _ => compOk0 rfl (by decide +kernel) (by decide +kernel) rfl (by decide)), (di_seq (d_sl (d_var 0) (do_some d_int) do_none)), (fun _ _ _ => pg_name (i := 0) (show (["tree"] : List Str).Nodup by decide +kernel) rfl (Or.inl rfl)), gm_name, gk_name, sg_name, by decide +kernel, fun _ _ _ => dif_nil, fun _ _ _ => (d_callX (by first | exact passR | exact passC rfl rfl) S.c_step_of hr (by rfl) (da_cons (d_var 0) da_nil)), fun _ => rfl⟩) da_nil)) da_nil)))))))⟩
abbrev st_step_of : Stmt := top 29
theorem sc_step_of : FnScope ["tree", "items"] ["tree"] (defScope st_step_of) := ⟨rfl, rfl, rfl, by decide +kernel, rfl, by decide +kernel, by decide +kernel⟩
def D_step_of : {W // SXr 0 st_step_of ["tree", "items"] "step_of" W} := ⟨_, fun T S hr => by
    have nd := sc_step_of.nd
    have hu := hu150 hr
    exact (db_cons (ds_set (i := 1) nd (d_callX (by first | exact passR | exact passC rfl rfl) S.c_items_of hr (by rfl) (da_cons (d_var 0) da_nil)))
      (db_cons (ds_if (dt_w (dw_and (dt_cmp (o_eq hu) (d_bi b_len (by rfl) T.n_len PySem.boot_len (da_cons (d_var 1) da_nil)) d_int (nomark _)) (dw_and1 (dt_cmp (o_eq hu) (d_ix (d_var 1) d_int (fun _ _ => rfl)) d_str (nomark _))))) (db_one (ds_ret (d_tup (da_cons d_str (da_cons (d_callX (by first | exact passR | exact passC rfl rfl) S.c_term_of hr (by rfl) (da_cons (d_ix (d_var 1) d_int (fun _ _ => rfl)) da_nil)) da_nil))))) db_nil)
      (db_cons (ds_if (dt_w (dw_and (dt_cmp (o_eq hu) (d_bi b_len (by rfl) T.n_len PySem.boot_len (da_cons (d_var 1) da_nil)) d_int (nomark _)) (dw_and1 (dt_w (dw_or (dt_cmp (o_eq hu) (d_ix (d_var 1) d_int (fun _ _ => rfl)) d_str (nomark _)) (dw_or1 (dt_cmp (o_eq hu) (d_ix (d_var 1) d_int (fun _ _ => rfl)) d_str (nomark _)))))))) (db_one (ds_ret (d_tup (da_cons (d_ix (d_var 1) d_int (fun _ _ => rfl)) (da_cons (d_callX (by first | exact passR | exact passC rfl rfl) S.c_name_of hr (by rfl) (da_cons (d_ix (d_var 1) d_int (fun _ _ => rfl)) da_nil)) (da_cons (d_callX (by first | exact passR | exact passC rfl rfl) S.c_term_of hr (by rfl) (da_cons (d_ix (d_var 1) d_int (fun _ _ => rfl)) da_nil)) da_nil)))))) db_nil)
      (db_one (ds_raiseX (i := 26) fliesR rfl S.x_NoText S.e_NoText (by rfl) (da_cons d_str da_nil))))))⟩
abbrev st_items_of : Stmt := top 30
theorem sc_items_of : FnScope ["tree"] ["tree"] (defScope st_items_of) := ⟨rfl, rfl, rfl, by decide +kernel, rfl, by decide +kernel, by decide +kernel⟩
def D_items_of : {W // SXr 0 st_items_of ["tree"] "items_of" W} := ⟨_, fun T S hr => by
    exact (db_cons (ds_if (dt_tru (d_isi (by rfl) T.n_isinstance (by rfl) T.n_str bt_str (by decide) (d_var 0))) (db_one (ds_raiseX (i := 26) fliesR rfl S.x_NoText S.e_NoText (by rfl) (da_cons (d_joined (dj_cons d_str (dj_cons (d_fr (d_var 0)) dj_nil))) da_nil))) db_nil)
      (db_one (ds_ret (d_var 0))))⟩
abbrev st_name_of : Stmt := top 31
theorem sc_name_of : FnScope ["tree"] ["tree"] (defScope st_name_of) := ⟨rfl, rfl, rfl, by decide +kernel, rfl, by decide +kernel, by decide +kernel⟩
def D_name_of : {W // SXr 0 st_name_of ["tree"] "name_of" W} := ⟨_, fun T S hr => by
    exact (db_cons (ds_if (dt_w (dw_or (dt_not (dt_tru (d_isi (by rfl) T.n_isinstance (by rfl) T.n_str bt_str (by decide) (d_var 0)))) (dw_or1 (dt_not (dt_tru (d_callV S.c_is_name hr (by rfl) (da_cons (d_var 0) da_nil))))))) (db_one (ds_raiseX (i := 26) fliesR rfl S.x_NoText S.e_NoText (by rfl) (da_cons d_str da_nil))) db_nil)
      (db_one (ds_ret (d_var 0))))⟩
abbrev st_refuse_alike : Stmt := top 32
theorem sc_refuse_alike : FnScope ["names"] ["names"] (defScope st_refuse_alike) := ⟨rfl, rfl, rfl, by decide +kernel, rfl, by decide +kernel, by decide +kernel⟩
def D_refuse_alike : {W // SXr 0 st_refuse_alike ["names"] "refuse_alike" W} := ⟨_, fun T S hr => by
    have hu := hu150 hr
    exact (db_one (ds_if (dt_cmp (o_ne hu) (d_lenset rfl (by rfl) T.n_len (by rfl) T.n_set (d_var 0)) (d_bi b_len (by rfl) T.n_len PySem.boot_len (da_cons (d_var 0) da_nil)) (nomark _)) (db_one (ds_raiseX (i := 26) fliesR rfl S.x_NoText S.e_NoText (by rfl) (da_cons d_str da_nil))) db_nil))⟩
abbrev st__law_draws : Stmt := top 34
theorem sc__law_draws : FnScope ["_law_script", "_law_many", "_law_found", "_law_k", "_law_cell"] ["_law_script", "_law_many"] (defScope st__law_draws) := ⟨rfl, rfl, rfl, by decide +kernel, rfl, by decide +kernel, by decide +kernel⟩
def D__law_draws : {W // SX 0 st__law_draws ["_law_script", "_law_many", "_law_found", "_law_k", "_law_cell"] "_law_draws" W} := ⟨_, fun hP T S hr => by
    have nd := sc__law_draws.nd
    exact (db_cons (ds_set (i := 2) nd (d_lst da_nil))
      (db_cons (ds_for PassesOwn.never rfl (di_r1 (by rfl) T.n_range (da_cons (d_var 1) da_nil)) (dg_name (i := 3) nd)
      (db_cons (ds_set (i := 4) nd d_int)
      (db_cons (ds_if (dt_cmp o_gt (d_bi b_len (by rfl) T.n_len PySem.boot_len (da_cons (d_var 0) da_nil)) d_int (nomark _)) (db_one (ds_set (i := 4) nd (d_op o_mod (d_ix (d_var 0) (d_op o_mod (d_var 3) (d_bi b_len (by rfl) T.n_len PySem.boot_len (da_cons (d_var 0) da_nil))) (fun _ _ => rfl)) (d_op o_pow d_int d_int)))) db_nil)
      (db_one (ds_expr (d_mt PySem.F.plainAttrs_list PySem.F.slot_list_append PySem.F.type_list_append ty_list m_append (d_var 2) (da_cons (d_op o_add (d_var 4) (d_op o_mul d_int (d_op o_div (d_var 3) (d_bi (b_max rfl) (by rfl) T.n_max bt_max (da_cons d_int (da_cons (d_bi b_len (by rfl) T.n_len PySem.boot_len (da_cons (d_var 0) da_nil)) da_nil)))))) da_nil)))))))
      (db_one (ds_ret (d_var 2)))))⟩
abbrev st__law_round : Stmt := top 35
theorem sc__law_round : FnScope ["_law_words", "_law_cell", "_law_way", "_law_x", "_law_n"] ["_law_words", "_law_cell"] (defScope st__law_round) := ⟨rfl, rfl, rfl, by decide +kernel, rfl, by decide +kernel, by decide +kernel⟩
def D__law_round_t1 : {W // SX 11 st__law_round ["_law_words", "_law_cell", "_law_way", "_law_x", "_law_n"] "_law_round" W} := ⟨_, fun hP T S hr => by
    exact (db_one (ds_ret (d_op o_add (d_op o_add (d_lst (da_cons d_str (da_cons d_str (da_cons d_str (da_cons (d_var 3) (da_cons (d_var 4) (da_cons d_str da_nil))))))) (d_var 0)) (d_lst (da_cons d_str da_nil)))))⟩
def D__law_round_t2 : {W // SX 10 st__law_round ["_law_words", "_law_cell", "_law_way", "_law_x", "_law_n"] "_law_round" W} := ⟨_, fun hP T S hr => by
    have hu := hu150 hr
    exact (db_cons (ds_if (dt_cmp (o_eq hu) (d_var 2) d_int (nomark _)) (db_one (ds_ret (d_op o_add (d_op o_add (d_lst (da_cons d_str (da_cons d_str da_nil))) (d_var 0)) (d_lst (da_cons d_str (da_cons d_str (da_cons d_str (da_cons d_str (da_cons d_str (da_cons d_str (da_cons (d_var 3) (da_cons (d_var 4) (da_cons d_str (da_cons d_str da_nil)))))))))))))) db_nil)
      (D__law_round_t1.2 hP T S hr))⟩
def D__law_round_t3 : {W // SX 9 st__law_round ["_law_words", "_law_cell", "_law_way", "_law_x", "_law_n"] "_law_round" W} := ⟨_, fun hP T S hr => by
    have hu := hu150 hr
    exact (db_cons (ds_if (dt_cmp (o_eq hu) (d_var 2) d_int (nomark _)) (db_one (ds_ret (d_op o_add (d_op o_add (d_lst (da_cons d_str (da_cons d_str (da_cons (d_var 3) da_nil)))) (d_var 0)) (d_lst (da_cons d_str da_nil))))) db_nil)
      (D__law_round_t2.2 hP T S hr))⟩
def D__law_round_t4 : {W // SX 8 st__law_round ["_law_words", "_law_cell", "_law_way", "_law_x", "_law_n"] "_law_round" W} := ⟨_, fun hP T S hr => by
    have hu := hu150 hr
    exact (db_cons (ds_if (dt_cmp (o_eq hu) (d_var 2) d_int (nomark _)) (db_one (ds_ret (d_op o_add (d_op o_add (d_lst (da_cons d_str (da_cons d_str da_nil))) (d_var 0)) (d_lst (da_cons (d_var 3) (da_cons d_str da_nil)))))) db_nil)
      (D__law_round_t3.2 hP T S hr))⟩
def D__law_round_t5 : {W // SX 7 st__law_round ["_law_words", "_law_cell", "_law_way", "_law_x", "_law_n"] "_law_round" W} := ⟨_, fun hP T S hr => by
    have hu := hu150 hr
    exact (db_cons (ds_if (dt_cmp (o_eq hu) (d_var 2) d_int (nomark _)) (db_one (ds_ret (d_op o_add (d_op o_add (d_lst (da_cons d_str (da_cons d_str (da_cons (d_var 3) (da_cons d_str (da_cons d_str da_nil)))))) (d_var 0)) (d_lst (da_cons d_str (da_cons d_str (da_cons d_str (da_cons (d_var 3) (da_cons d_str (da_cons (d_var 4) (da_cons d_str (da_cons d_str da_nil)))))))))))) db_nil)
      (D__law_round_t4.2 hP T S hr))⟩
def D__law_round_t6 : {W // SX 6 st__law_round ["_law_words", "_law_cell", "_law_way", "_law_x", "_law_n"] "_law_round" W} := ⟨_, fun hP T S hr => by
    have hu := hu150 hr
    exact (db_cons (ds_if (dt_cmp (o_eq hu) (d_var 2) d_int (nomark _)) (db_one (ds_ret (d_op o_add (d_op o_add (d_lst (da_cons d_str (da_cons d_str (da_cons d_str (da_cons (d_var 3) da_nil))))) (d_var 0)) (d_lst (da_cons d_str (da_cons d_str (da_cons d_str (da_cons (d_var 4) (da_cons d_str (da_cons (d_var 3) (da_cons d_str da_nil))))))))))) db_nil)
      (D__law_round_t5.2 hP T S hr))⟩
def D__law_round_t7 : {W // SX 5 st__law_round ["_law_words", "_law_cell", "_law_way", "_law_x", "_law_n"] "_law_round" W} := ⟨_, fun hP T S hr => by
    have hu := hu150 hr
    exact (db_cons (ds_if (dt_cmp (o_eq hu) (d_var 2) d_int (nomark _)) (db_one (ds_ret (d_op o_add (d_op o_add (d_lst (da_cons d_str (da_cons (d_var 3) da_nil))) (d_var 0)) (d_lst (da_cons (d_var 4) (da_cons d_str da_nil)))))) db_nil)
      (D__law_round_t6.2 hP T S hr))⟩
def D__law_round_t8 : {W // SX 4 st__law_round ["_law_words", "_law_cell", "_law_way", "_law_x", "_law_n"] "_law_round" W} := ⟨_, fun hP T S hr => by
    have hu := hu150 hr
    exact (db_cons (ds_if (dt_cmp (o_eq hu) (d_var 2) d_int (nomark _)) (db_one (ds_ret (d_op o_add (d_op o_add (d_lst (da_cons d_str (da_cons d_str (da_cons (d_var 3) da_nil)))) (d_var 0)) (d_lst (da_cons d_str da_nil))))) db_nil)
      (D__law_round_t7.2 hP T S hr))⟩
def D__law_round : {W // SX 0 st__law_round ["_law_words", "_law_cell", "_law_way", "_law_x", "_law_n"] "_law_round" W} := ⟨_, fun hP T S hr => by
    have nd := sc__law_round.nd
    have hu := hu150 hr
    exact (db_cons (ds_set (i := 2) nd (d_op o_mod (d_var 1) d_int))
      (db_cons (ds_set (i := 3) nd (d_ix d_str (d_op o_mod (d_op o_div (d_var 1) d_int) d_int) (fun _ _ => rfl)))
      (db_cons (ds_set (i := 4) nd (d_ty b_str2 (by rfl) T.n_str bt_str (da_cons (d_op o_mod (d_op o_mul (d_op o_div (d_var 1) d_int) d_int) (d_op o_pow d_int d_int)) da_nil)))
      (db_cons (ds_if (dt_cmp (o_eq hu) (d_var 2) d_int (nomark _)) (db_one (ds_ret (d_op o_add (d_op o_add (d_lst (da_cons d_str (da_cons (d_ix d_str (d_op o_mod (d_op o_div (d_var 1) d_int) d_int) (fun _ _ => rfl)) (da_cons (d_var 4) da_nil)))) (d_var 0)) (d_lst (da_cons d_str da_nil))))) db_nil)
      (D__law_round_t8.2 hP T S hr)))))⟩
abbrev st__law_good : Stmt := top 36
theorem sc__law_good : FnScope ["_law_cell", "_law_some"] ["_law_cell"] (defScope st__law_good) := ⟨rfl, rfl, rfl, by decide +kernel, rfl, by decide +kernel, by decide +kernel⟩
def D__law_good : {W // SX 0 st__law_good ["_law_cell", "_law_some"] "_law_good" W} := ⟨_, fun hP T S hr => by
    have nd := sc__law_good.nd
    exact (db_cons (ds_set (i := 1) nd (d_lst (da_cons d_str (da_cons d_str (da_cons d_str (da_cons d_str (da_cons d_str da_nil)))))))
      (db_cons (ds_set (i := 1) nd (d_op o_add (d_var 1) (d_lst (da_cons d_str (da_cons d_str (da_cons d_str (da_cons d_str da_nil)))))))
      (db_cons (ds_set (i := 1) nd (d_op o_add (d_var 1) (d_lst (da_cons d_str da_nil))))
      (db_one (ds_ret (d_ix (d_var 1) (d_op o_mod (d_var 0) d_int) (fun _ _ => rfl)))))))⟩
abbrev st__law_bad : Stmt := top 37
theorem sc__law_bad : FnScope ["_law_cell", "_law_some"] ["_law_cell"] (defScope st__law_bad) := ⟨rfl, rfl, rfl, by decide +kernel, rfl, by decide +kernel, by decide +kernel⟩
def D__law_bad : {W // SX 0 st__law_bad ["_law_cell", "_law_some"] "_law_bad" W} := ⟨_, fun hP T S hr => by
    have nd := sc__law_bad.nd
    exact (db_cons (ds_set (i := 1) nd (d_lst (da_cons d_str (da_cons d_str (da_cons d_str (da_cons d_str (da_cons d_str (da_cons d_str (da_cons d_str (da_cons d_str da_nil))))))))))
      (db_cons (ds_set (i := 1) nd (d_op o_add (d_var 1) (d_lst (da_cons d_str (da_cons d_str (da_cons d_str (da_cons d_str (da_cons d_str (da_cons d_str da_nil)))))))))
      (db_cons (ds_set (i := 1) nd (d_op o_add (d_var 1) (d_lst (da_cons d_str (da_cons d_str da_nil)))))
      (db_cons (ds_set (i := 1) nd (d_op o_add (d_var 1) (d_lst (da_cons d_str (da_cons d_str (da_cons d_str (da_cons d_str (da_cons d_str da_nil))))))))
      (db_cons (ds_set (i := 1) nd (d_op o_add (d_var 1) (d_lst (da_cons d_str da_nil))))
      (db_cons (ds_set (i := 1) nd (d_op o_add (d_var 1) (d_lst (da_cons d_str (da_cons d_str da_nil)))))
      (db_cons (ds_set (i := 1) nd (d_op o_add (d_var 1) (d_lst (da_cons d_str (da_cons d_str (da_cons d_str (da_cons d_str (da_cons d_str (da_cons d_str (da_cons d_str (da_cons d_str (da_cons d_str da_nil))))))))))))
      (db_cons (ds_set (i := 1) nd (d_op o_add (d_var 1) (d_lst (da_cons d_str (da_cons d_str (da_cons d_str (da_cons d_str da_nil)))))))
      (db_cons (ds_set (i := 1) nd (d_op o_add (d_var 1) (d_lst (da_cons d_str da_nil))))
      (db_cons (ds_set (i := 1) nd (d_op o_add (d_var 1) (d_lst (da_cons d_str (da_cons d_str (da_cons d_str da_nil))))))
      (db_cons (ds_set (i := 1) nd (d_op o_add (d_var 1) (d_lst (da_cons d_str (da_cons d_str (da_cons d_str da_nil))))))
      (db_cons (ds_set (i := 1) nd (d_op o_add (d_var 1) (d_lst (da_cons d_str (da_cons d_str (da_cons d_str da_nil))))))
      (db_cons (ds_set (i := 1) nd (d_op o_add (d_var 1) (d_lst (da_cons d_str (da_cons d_str (da_cons d_str (da_cons d_str da_nil)))))))
      (db_cons (ds_set (i := 1) nd (d_op o_add (d_var 1) (d_lst (da_cons d_str (da_cons d_str (da_cons d_str (da_cons d_str (da_cons d_str da_nil))))))))
      (db_cons (ds_set (i := 1) nd (d_op o_add (d_var 1) (d_lst (da_cons d_str (da_cons d_str (da_cons d_str (da_cons d_str da_nil)))))))
      (db_cons (ds_set (i := 1) nd (d_op o_add (d_var 1) (d_lst (da_cons d_str (da_cons d_str (da_cons d_str da_nil))))))
      (db_cons (ds_set (i := 1) nd (d_op o_add (d_var 1) (d_lst (da_cons d_str da_nil))))
      (db_cons (ds_set (i := 1) nd (d_op o_add (d_var 1) (d_lst (da_cons d_str (da_cons d_str (da_cons d_str (da_cons d_str (da_cons d_str da_nil))))))))
      (db_cons (ds_set (i := 1) nd (d_op o_add (d_var 1) (d_lst (da_cons d_str (da_cons d_str (da_cons d_str da_nil))))))
      (db_cons (ds_set (i := 1) nd (d_op o_add (d_var 1) (d_lst (da_cons d_str (da_cons d_str (da_cons d_str (da_cons d_str (da_cons d_str da_nil))))))))
      (db_cons (ds_set (i := 1) nd (d_op o_add (d_var 1) (d_lst (da_cons d_str (da_cons d_str (da_cons d_str (da_cons d_str da_nil)))))))
      (db_cons (ds_set (i := 1) nd (d_op o_add (d_var 1) (d_lst (da_cons d_str (da_cons d_str (da_cons d_str (da_cons d_str da_nil)))))))
      (db_cons (ds_set (i := 1) nd (d_op o_add (d_var 1) (d_lst (da_cons d_str (da_cons d_str (da_cons d_str da_nil))))))
      (db_cons (ds_set (i := 1) nd (d_op o_add (d_var 1) (d_lst (da_cons d_str (da_cons d_str (da_cons d_str da_nil))))))
      (db_one (ds_ret (d_ix (d_var 1) (d_op o_mod (d_var 0) (d_bi b_len (by rfl) T.n_len PySem.boot_len (da_cons (d_var 1) da_nil))) (fun _ _ => rfl))))))))))))))))))))))))))))⟩
abbrev st__law_one : Stmt := top 38
theorem sc__law_one : FnScope ["_law_draws_here", "_law_cell", "_law_turn", "_law_good_here", "_law_form", "_law_letters", "_law_x", "_law_y", "_law_taken_words", "_law_words", "_law_word", "_law_k"] ["_law_draws_here", "_law_cell", "_law_turn"] (defScope st__law_one) := ⟨rfl, rfl, rfl, by decide +kernel, rfl, by decide +kernel, by decide +kernel⟩
def D__law_one : {W // SX 0 st__law_one ["_law_draws_here", "_law_cell", "_law_turn", "_law_good_here", "_law_form", "_law_letters", "_law_x", "_law_y", "_law_taken_words", "_law_words", "_law_word", "_law_k"] "_law_one" W} := ⟨_, fun hP T S hr => by
    have nd := sc__law_one.nd
    have hu := hu150 hr
    exact (db_cons (ds_set (i := 3) nd (d_cmp (o_eq hu) (d_op o_mod (d_op o_add (d_var 1) (d_var 2)) d_int) d_int (nomark _)))
      (db_cons (ds_set (i := 4) nd (cP hP (d_call S.c__law_bad hr (by rfl) (da_cons (d_op o_div (d_var 1) d_int) da_nil))))
      (db_cons (ds_if (dt_tru (d_var 3)) (db_one (ds_set (i := 4) nd (cP hP (d_call S.c__law_good hr (by rfl) (da_cons (d_op o_div (d_var 1) d_int) da_nil))))) db_nil)
      (dbp_cons (dsp_str (i := 5) nd)
      (db1_cons (SdS.one (ds_set (i := 6) nd (d_op o_add (d_ix (d_var 5) (d_op o_mod (d_ix (d_var 0) (d_op o_add d_int (d_var 2)) (fun _ _ => rfl)) d_int) (fun _ _ => rfl)) d_str)))
      (db1_cons (SdS.one (ds_set (i := 7) nd (d_op o_add (d_ix (d_var 5) (d_op o_mod (d_op o_div (d_ix (d_var 0) (d_op o_add d_int (d_var 2)) (fun _ _ => rfl)) d_int) d_int) (fun _ _ => rfl)) d_str)))
      (db1_cons (SdS.one (ds_set (i := 8) nd (d_lst (da_cons d_str (da_cons d_str (da_cons d_str (da_cons d_str (da_cons d_str (da_cons d_str (da_cons d_str (da_cons d_str (da_cons d_str da_nil))))))))))))
      (db1_cons (SdS.one (ds_set (i := 9) nd (d_lst da_nil)))
      (db1_cons (SdS.one (ds_for PassesOwn.never rfl (di_seq (d_mt PySem.F.plainAttrs_str PySem.F.slot_str_split PySem.F.type_str_split ty_str m_split (d_var 4) (da_cons d_str da_nil))) (dg_name (i := 10) nd)
      (db_cons (ds_if (dt_cmp (o_eq hu) (d_var 10) d_str (nomark _)) (db_one (ds_set (i := 10) nd (d_ty b_str2 (by rfl) T.n_str bt_str (da_cons (d_op o_mod (d_op o_mul (d_ix (d_var 0) d_int (fun _ _ => rfl)) d_int) (d_op o_pow d_int d_int)) da_nil)))) (db_one (ds_if (dt_cmp (o_eq hu) (d_var 10) d_str (nomark _)) (db_one (ds_set (i := 10) nd (d_var 6))) (db_one (ds_if (dt_cmp (o_eq hu) (d_var 10) d_str (nomark _)) (db_one (ds_set (i := 10) nd (d_ix (d_var 8) (d_op o_mod (d_ix (d_var 0) (d_op o_add d_int (d_var 2)) (fun _ _ => rfl)) d_int) (fun _ _ => rfl)))) (db_one (ds_if (dt_cmp (o_eq hu) (d_var 10) d_str (nomark _)) (db_one (ds_set (i := 10) nd (d_var 7))) db_nil)))))))
      (db_one (ds_expr (d_mt PySem.F.plainAttrs_list PySem.F.slot_list_append PySem.F.type_list_append ty_list m_append (d_var 9) (da_cons (d_var 10) da_nil)))))))
      (db1_cons (SdS.one (ds_for PassesOwn.never rfl (di_r1 (by rfl) T.n_range (da_cons (d_op o_mod (d_ix (d_var 0) (d_op o_add d_int (d_var 2)) (fun _ _ => rfl)) d_int) da_nil)) (dg_name (i := 11) nd)
      (db_one (ds_set (i := 9) nd (cP hP (d_call S.c__law_round hr (by rfl) (da_cons (d_var 9) (da_cons (d_ix (d_var 0) (d_op o_add d_int (d_op o_mod (d_op o_add (d_var 11) (d_var 2)) d_int)) (fun _ _ => rfl)) da_nil))))))))
      (db1_cons (ds1_tryE hP hr (by rfl) (at_fn S.t0_read) (SdA.one (da_cons (d_mt PySem.F.plainAttrs_str PySem.F.slot_str_join PySem.F.type_str_join ty_str m_join d_str (da_cons (d_var 9) da_nil)) da_nil)) (alts_cons (alt_never (wh := fun _ _ _ => True) S.t0_read) (alts_cons (alt_one S.t1_read (dh_hit (by rfl) S.x_NoText.at_ S.q_NoText (fun _ => (db_one (ds_ret (d_not (d_var 3))))))) alts_nil)) rfl rfl)
      (db1_one (SdS.one (ds_ret (d_var 3)))))))))))))))⟩
abbrev st_law : Stmt := top 39
theorem sc_law : FnScope ["_law_script", "_law_draws_here", "_law_turn"] ["_law_script"] (defScope st_law) := ⟨rfl, rfl, rfl, by decide +kernel, rfl, by decide +kernel, by decide +kernel⟩
def D_law_t1 : {W // SX 2 st_law ["_law_script", "_law_draws_here", "_law_turn"] "law" W} := ⟨_, fun hP T S hr => by
    exact (db_one (ds_ret d_bl))⟩
def D_law : {W // SX 0 st_law ["_law_script", "_law_draws_here", "_law_turn"] "law" W} := ⟨_, fun hP T S hr => by
    have nd := sc_law.nd
    exact (db_cons (ds_set (i := 1) nd (cP hP (d_call S.c__law_draws hr (by rfl) (da_cons (d_var 0) (da_cons d_int da_nil)))))
      (db_cons (ds_for PassesOwn.never rfl (di_r1 (by rfl) T.n_range (da_cons d_int da_nil)) (dg_name (i := 2) nd)
      (db_one (ds_if (dt_not (dt_tru (cP hP (d_call S.c__law_one hr (by rfl) (da_cons (d_var 1) (da_cons (d_op o_add (d_ix (d_var 1) (d_op o_add d_int (d_var 2)) (fun _ _ => rfl)) (d_op o_mul d_int (d_ix (d_var 1) (d_op o_sub d_int (d_var 2)) (fun _ _ => rfl)))) (da_cons (d_var 2) da_nil))))))) (db_one (ds_ret d_bl)) db_nil)))
      (D_law_t1.2 hP T S hr)))⟩
end K19
set_option Elab.async false
set_option linter.all false
set_option maxRecDepth 100000
set_option maxHeartbeats 4000000
namespace K19
open PySem PySem.Spec PyProof.Rows L2 WL
/-- slots: 0:text -/
def w_is_name : Calls → WS := D_is_name.1
/-- slots: 0:text -/
def w_read : Calls → WS := D_read.1
/-- slots: 0:text 1:apart -/
def w_words_of : Calls → WS := D_words_of.1
def w_tree_of_t1 : Calls → WS := D_tree_of_t1.1
def w_tree_of_t2 : Calls → WS := D_tree_of_t2.1
def w_tree_of_t3 : Calls → WS := D_tree_of_t3.1
/-- slots: 0:words 1:pile 2:word 3:inner -/
def w_tree_of : Calls → WS := D_tree_of.1
def w_term_of_t1 : Calls → WS := D_term_of_t1.1
def w_term_of_t2 : Calls → WS := D_term_of_t2.1
def w_term_of_t3 : Calls → WS := D_term_of_t3.1
def w_term_of_t4 : Calls → WS := D_term_of_t4.1
def w_term_of_t5 : Calls → WS := D_term_of_t5.1
def w_term_of_t6 : Calls → WS := D_term_of_t6.1
def w_term_of_t7 : Calls → WS := D_term_of_t7.1
def w_term_of_t8 : Calls → WS := D_term_of_t8.1
def w_term_of_t9 : Calls → WS := D_term_of_t9.1
def w_term_of_t10 : Calls → WS := D_term_of_t10.1
/-- slots: 0:tree 1:head 2:rest -/
def w_term_of : Calls → WS := D_term_of.1
def w_word_term_t1 : Calls → WS := D_word_term_t1.1
def w_word_term_t2 : Calls → WS := D_word_term_t2.1
def w_word_term_t3 : Calls → WS := D_word_term_t3.1
/-- slots: 0:word -/
def w_word_term : Calls → WS := D_word_term.1
/-- slots: 0:word -/
def w_is_number : Calls → WS := D_is_number.1
/-- slots: 0:trees -/
def w_two_terms : Calls → WS := D_two_terms.1
/-- slots: 0:trees 1:term 2:tree -/
def w_fun_term : Calls → WS := D_fun_term.1
/-- slots: 0:trees 1:term 2:tree -/
def w_call_term : Calls → WS := D_call_term.1
def w_let_term_t1 : Calls → WS := D_let_term_t1.1
/-- slots: 0:trees 1:pairs -/
def w_let_term : Calls → WS := D_let_term.1
/-- slots: 0:tree 1:items -/
def w_pair_of : Calls → WS := D_pair_of.1
def w_choose_term_t1 : Calls → WS := D_choose_term_t1.1
def w_choose_term_t2 : Calls → WS := D_choose_term_t2.1
/-- slots: 0:trees 1:alternatives -/
def w_choose_term : Calls → WS := D_choose_term.1
def w_alternative_of_t1 : Calls → WS := D_alternative_of_t1.1
def w_alternative_of_t2 : Calls → WS := D_alternative_of_t2.1
/-- slots: 0:tree 1:items 2:names -/
def w_alternative_of : Calls → WS := D_alternative_of.1
/-- slots: 0:trees -/
def w_stop_term : Calls → WS := D_stop_term.1
/-- slots: 0:trees -/
def w_rows_term : Calls → WS := D_rows_term.1
/-- slots: 0:tree 1:items -/
def w_step_of : Calls → WS := D_step_of.1
/-- slots: 0:tree -/
def w_items_of : Calls → WS := D_items_of.1
/-- slots: 0:tree -/
def w_name_of : Calls → WS := D_name_of.1
/-- slots: 0:names -/
def w_refuse_alike : Calls → WS := D_refuse_alike.1
/-- slots: 0:_law_script 1:_law_many 2:_law_found 3:_law_k 4:_law_cell -/
def w__law_draws : Calls → WS := D__law_draws.1
def w__law_round_t1 : Calls → WS := D__law_round_t1.1
def w__law_round_t2 : Calls → WS := D__law_round_t2.1
def w__law_round_t3 : Calls → WS := D__law_round_t3.1
def w__law_round_t4 : Calls → WS := D__law_round_t4.1
def w__law_round_t5 : Calls → WS := D__law_round_t5.1
def w__law_round_t6 : Calls → WS := D__law_round_t6.1
def w__law_round_t7 : Calls → WS := D__law_round_t7.1
def w__law_round_t8 : Calls → WS := D__law_round_t8.1
/-- slots: 0:_law_words 1:_law_cell 2:_law_way 3:_law_x 4:_law_n -/
def w__law_round : Calls → WS := D__law_round.1
/-- slots: 0:_law_cell 1:_law_some -/
def w__law_good : Calls → WS := D__law_good.1
/-- slots: 0:_law_cell 1:_law_some -/
def w__law_bad : Calls → WS := D__law_bad.1
/-- slots: 0:_law_draws_here 1:_law_cell 2:_law_turn 3:_law_good_here 4:_law_form 5:_law_letters 6:_law_x 7:_law_y 8:_law_taken_words 9:_law_words 10:_law_word 11:_law_k -/
def w__law_one : Calls → WS := D__law_one.1
def w_law_t1 : Calls → WS := D_law_t1.1
/-- slots: 0:_law_script 1:_law_draws_here 2:_law_turn -/
def w_law : Calls → WS := D_law.1
abbrev i_is_name : Nat := 0
abbrev i_read : Nat := 1
abbrev i_words_of : Nat := 2
abbrev i_tree_of : Nat := 3
abbrev i_term_of : Nat := 4
abbrev i_word_term : Nat := 5
abbrev i_is_number : Nat := 6
abbrev i_two_terms : Nat := 7
abbrev i_fun_term : Nat := 8
abbrev i_call_term : Nat := 9
abbrev i_let_term : Nat := 10
abbrev i_pair_of : Nat := 11
abbrev i_choose_term : Nat := 12
abbrev i_alternative_of : Nat := 13
abbrev i_stop_term : Nat := 14
abbrev i_rows_term : Nat := 15
abbrev i_step_of : Nat := 16
abbrev i_items_of : Nat := 17
abbrev i_name_of : Nat := 18
abbrev i_refuse_alike : Nat := 19
abbrev i__law_draws : Nat := 20
abbrev i__law_round : Nat := 21
abbrev i__law_good : Nat := 22
abbrev i__law_bad : Nat := 23
abbrev i__law_one : Nat := 24
abbrev i_law : Nat := 25
abbrev M : Nat := 27
abbrev iR : Nat := 26
def pr : List Df := [⟨1, 1, w_is_name⟩, ⟨1, 1, w_read⟩, ⟨2, 1, w_words_of⟩, ⟨4, 1, w_tree_of⟩, ⟨3, 1, w_term_of⟩, ⟨1, 1, w_word_term⟩, ⟨1, 1, w_is_number⟩, ⟨1, 1, w_two_terms⟩, ⟨3, 1, w_fun_term⟩, ⟨3, 1, w_call_term⟩, ⟨2, 1, w_let_term⟩, ⟨2, 1, w_pair_of⟩, ⟨2, 1, w_choose_term⟩, ⟨3, 1, w_alternative_of⟩, ⟨1, 1, w_stop_term⟩, ⟨1, 1, w_rows_term⟩, ⟨2, 1, w_step_of⟩, ⟨1, 1, w_items_of⟩, ⟨1, 1, w_name_of⟩, ⟨1, 1, w_refuse_alike⟩, ⟨5, 2, w__law_draws⟩, ⟨5, 2, w__law_round⟩, ⟨2, 1, w__law_good⟩, ⟨2, 1, w__law_bad⟩, ⟨12, 3, w__law_one⟩, ⟨3, 1, w_law⟩, ⟨0, 0, fun _ _ _ _ => False⟩, ⟨1, 1, fun P => w_is_name fun j => P (j + 27)⟩, ⟨1, 1, fun P => w_read fun j => P (j + 27)⟩, ⟨2, 1, fun P => w_words_of fun j => P (j + 27)⟩, ⟨4, 1, fun P => w_tree_of fun j => P (j + 27)⟩, ⟨3, 1, fun P => w_term_of fun j => P (j + 27)⟩, ⟨1, 1, fun P => w_word_term fun j => P (j + 27)⟩, ⟨1, 1, fun P => w_is_number fun j => P (j + 27)⟩, ⟨1, 1, fun P => w_two_terms fun j => P (j + 27)⟩, ⟨3, 1, fun P => w_fun_term fun j => P (j + 27)⟩, ⟨3, 1, fun P => w_call_term fun j => P (j + 27)⟩, ⟨2, 1, fun P => w_let_term fun j => P (j + 27)⟩, ⟨2, 1, fun P => w_pair_of fun j => P (j + 27)⟩, ⟨2, 1, fun P => w_choose_term fun j => P (j + 27)⟩, ⟨3, 1, fun P => w_alternative_of fun j => P (j + 27)⟩, ⟨1, 1, fun P => w_stop_term fun j => P (j + 27)⟩, ⟨1, 1, fun P => w_rows_term fun j => P (j + 27)⟩, ⟨2, 1, fun P => w_step_of fun j => P (j + 27)⟩, ⟨1, 1, fun P => w_items_of fun j => P (j + 27)⟩, ⟨1, 1, fun P => w_name_of fun j => P (j + 27)⟩, ⟨1, 1, fun P => w_refuse_alike fun j => P (j + 27)⟩, ⟨0, 0, fun _ _ _ _ => False⟩, ⟨0, 0, fun _ _ _ _ => False⟩, ⟨0, 0, fun _ _ _ _ => False⟩, ⟨0, 0, fun _ _ _ _ => False⟩, ⟨0, 0, fun _ _ _ _ => False⟩, ⟨0, 0, fun _ _ _ _ => False⟩, ⟨0, 0, fun _ _ _ _ => True⟩]
theorem u__law_draws {n : Nat} {vs : List T} {C : Hw} {Q : WK} {χ : WX} (hl : vs.length = 2) (h : w__law_draws (wpc pr n) { nx := fun _ C' => Q .non C', rt := Q, xc := χ } (vs.map some ++ List.replicate 3 none) C) : wpc pr (n + 1) 20 vs C Q χ := ⟨_, rfl, hl, h⟩
theorem u__law_round {n : Nat} {vs : List T} {C : Hw} {Q : WK} {χ : WX} (hl : vs.length = 2) (h : w__law_round (wpc pr n) { nx := fun _ C' => Q .non C', rt := Q, xc := χ } (vs.map some ++ List.replicate 3 none) C) : wpc pr (n + 1) 21 vs C Q χ := ⟨_, rfl, hl, h⟩
theorem u__law_good {n : Nat} {vs : List T} {C : Hw} {Q : WK} {χ : WX} (hl : vs.length = 1) (h : w__law_good (wpc pr n) { nx := fun _ C' => Q .non C', rt := Q, xc := χ } (vs.map some ++ List.replicate 1 none) C) : wpc pr (n + 1) 22 vs C Q χ := ⟨_, rfl, hl, h⟩
theorem u__law_bad {n : Nat} {vs : List T} {C : Hw} {Q : WK} {χ : WX} (hl : vs.length = 1) (h : w__law_bad (wpc pr n) { nx := fun _ C' => Q .non C', rt := Q, xc := χ } (vs.map some ++ List.replicate 1 none) C) : wpc pr (n + 1) 23 vs C Q χ := ⟨_, rfl, hl, h⟩
theorem u__law_one {n : Nat} {vs : List T} {C : Hw} {Q : WK} {χ : WX} (hl : vs.length = 3) (h : w__law_one (wpc pr n) { nx := fun _ C' => Q .non C', rt := Q, xc := χ } (vs.map some ++ List.replicate 9 none) C) : wpc pr (n + 1) 24 vs C Q χ := ⟨_, rfl, hl, h⟩
theorem u_law {n : Nat} {vs : List T} {C : Hw} {Q : WK} {χ : WX} (hl : vs.length = 1) (h : w_law (wpc pr n) { nx := fun _ C' => Q .non C', rt := Q, xc := χ } (vs.map some ++ List.replicate 2 none) C) : wpc pr (n + 1) 25 vs C Q χ := ⟨_, rfl, hl, h⟩
/-- a table of calls that opens as the text says; r: whether a raise may be -/
structure Rp (W : Nat → Calls) (r : Prop) : Prop where
  o_is_name : ∀ {n : Nat} {vs : List T} {C : Hw} {Q : WK} {χ : WX}, vs.length = 1 → w_is_name (W n) { nx := fun _ C' => Q .non C', rt := Q, xc := χ } (vs.map some ++ List.replicate 0 none) C → W (n + 1) 0 vs C Q χ
  o_read : ∀ {n : Nat} {vs : List T} {C : Hw} {Q : WK} {χ : WX}, vs.length = 1 → w_read (W n) { nx := fun _ C' => Q .non C', rt := Q, xc := χ } (vs.map some ++ List.replicate 0 none) C → W (n + 1) 1 vs C Q χ
  o_words_of : ∀ {n : Nat} {vs : List T} {C : Hw} {Q : WK} {χ : WX}, vs.length = 1 → w_words_of (W n) { nx := fun _ C' => Q .non C', rt := Q, xc := χ } (vs.map some ++ List.replicate 1 none) C → W (n + 1) 2 vs C Q χ
  o_tree_of : ∀ {n : Nat} {vs : List T} {C : Hw} {Q : WK} {χ : WX}, vs.length = 1 → w_tree_of (W n) { nx := fun _ C' => Q .non C', rt := Q, xc := χ } (vs.map some ++ List.replicate 3 none) C → W (n + 1) 3 vs C Q χ
  o_term_of : ∀ {n : Nat} {vs : List T} {C : Hw} {Q : WK} {χ : WX}, vs.length = 1 → w_term_of (W n) { nx := fun _ C' => Q .non C', rt := Q, xc := χ } (vs.map some ++ List.replicate 2 none) C → W (n + 1) 4 vs C Q χ
  o_word_term : ∀ {n : Nat} {vs : List T} {C : Hw} {Q : WK} {χ : WX}, vs.length = 1 → w_word_term (W n) { nx := fun _ C' => Q .non C', rt := Q, xc := χ } (vs.map some ++ List.replicate 0 none) C → W (n + 1) 5 vs C Q χ
  o_is_number : ∀ {n : Nat} {vs : List T} {C : Hw} {Q : WK} {χ : WX}, vs.length = 1 → w_is_number (W n) { nx := fun _ C' => Q .non C', rt := Q, xc := χ } (vs.map some ++ List.replicate 0 none) C → W (n + 1) 6 vs C Q χ
  o_two_terms : ∀ {n : Nat} {vs : List T} {C : Hw} {Q : WK} {χ : WX}, vs.length = 1 → w_two_terms (W n) { nx := fun _ C' => Q .non C', rt := Q, xc := χ } (vs.map some ++ List.replicate 0 none) C → W (n + 1) 7 vs C Q χ
  o_fun_term : ∀ {n : Nat} {vs : List T} {C : Hw} {Q : WK} {χ : WX}, vs.length = 1 → w_fun_term (W n) { nx := fun _ C' => Q .non C', rt := Q, xc := χ } (vs.map some ++ List.replicate 2 none) C → W (n + 1) 8 vs C Q χ
  o_call_term : ∀ {n : Nat} {vs : List T} {C : Hw} {Q : WK} {χ : WX}, vs.length = 1 → w_call_term (W n) { nx := fun _ C' => Q .non C', rt := Q, xc := χ } (vs.map some ++ List.replicate 2 none) C → W (n + 1) 9 vs C Q χ
  o_let_term : ∀ {n : Nat} {vs : List T} {C : Hw} {Q : WK} {χ : WX}, vs.length = 1 → w_let_term (W n) { nx := fun _ C' => Q .non C', rt := Q, xc := χ } (vs.map some ++ List.replicate 1 none) C → W (n + 1) 10 vs C Q χ
  o_pair_of : ∀ {n : Nat} {vs : List T} {C : Hw} {Q : WK} {χ : WX}, vs.length = 1 → w_pair_of (W n) { nx := fun _ C' => Q .non C', rt := Q, xc := χ } (vs.map some ++ List.replicate 1 none) C → W (n + 1) 11 vs C Q χ
  o_choose_term : ∀ {n : Nat} {vs : List T} {C : Hw} {Q : WK} {χ : WX}, vs.length = 1 → w_choose_term (W n) { nx := fun _ C' => Q .non C', rt := Q, xc := χ } (vs.map some ++ List.replicate 1 none) C → W (n + 1) 12 vs C Q χ
  o_alternative_of : ∀ {n : Nat} {vs : List T} {C : Hw} {Q : WK} {χ : WX}, vs.length = 1 → w_alternative_of (W n) { nx := fun _ C' => Q .non C', rt := Q, xc := χ } (vs.map some ++ List.replicate 2 none) C → W (n + 1) 13 vs C Q χ
  o_stop_term : ∀ {n : Nat} {vs : List T} {C : Hw} {Q : WK} {χ : WX}, vs.length = 1 → w_stop_term (W n) { nx := fun _ C' => Q .non C', rt := Q, xc := χ } (vs.map some ++ List.replicate 0 none) C → W (n + 1) 14 vs C Q χ
  o_rows_term : ∀ {n : Nat} {vs : List T} {C : Hw} {Q : WK} {χ : WX}, vs.length = 1 → w_rows_term (W n) { nx := fun _ C' => Q .non C', rt := Q, xc := χ } (vs.map some ++ List.replicate 0 none) C → W (n + 1) 15 vs C Q χ
  o_step_of : ∀ {n : Nat} {vs : List T} {C : Hw} {Q : WK} {χ : WX}, vs.length = 1 → w_step_of (W n) { nx := fun _ C' => Q .non C', rt := Q, xc := χ } (vs.map some ++ List.replicate 1 none) C → W (n + 1) 16 vs C Q χ
  o_items_of : ∀ {n : Nat} {vs : List T} {C : Hw} {Q : WK} {χ : WX}, vs.length = 1 → w_items_of (W n) { nx := fun _ C' => Q .non C', rt := Q, xc := χ } (vs.map some ++ List.replicate 0 none) C → W (n + 1) 17 vs C Q χ
  o_name_of : ∀ {n : Nat} {vs : List T} {C : Hw} {Q : WK} {χ : WX}, vs.length = 1 → w_name_of (W n) { nx := fun _ C' => Q .non C', rt := Q, xc := χ } (vs.map some ++ List.replicate 0 none) C → W (n + 1) 18 vs C Q χ
  o_refuse_alike : ∀ {n : Nat} {vs : List T} {C : Hw} {Q : WK} {χ : WX}, vs.length = 1 → w_refuse_alike (W n) { nx := fun _ C' => Q .non C', rt := Q, xc := χ } (vs.map some ++ List.replicate 0 none) C → W (n + 1) 19 vs C Q χ
  o_raise : ∀ {n : Nat} {C : Hw} {Q : WK} {χ : WX}, r → W (n + 1) 26 [] C Q χ
theorem rp0 : Rp (wpc pr) False := ⟨fun hl h => ⟨_, rfl, hl, h⟩, fun hl h => ⟨_, rfl, hl, h⟩, fun hl h => ⟨_, rfl, hl, h⟩, fun hl h => ⟨_, rfl, hl, h⟩, fun hl h => ⟨_, rfl, hl, h⟩, fun hl h => ⟨_, rfl, hl, h⟩, fun hl h => ⟨_, rfl, hl, h⟩, fun hl h => ⟨_, rfl, hl, h⟩, fun hl h => ⟨_, rfl, hl, h⟩, fun hl h => ⟨_, rfl, hl, h⟩, fun hl h => ⟨_, rfl, hl, h⟩, fun hl h => ⟨_, rfl, hl, h⟩, fun hl h => ⟨_, rfl, hl, h⟩, fun hl h => ⟨_, rfl, hl, h⟩, fun hl h => ⟨_, rfl, hl, h⟩, fun hl h => ⟨_, rfl, hl, h⟩, fun hl h => ⟨_, rfl, hl, h⟩, fun hl h => ⟨_, rfl, hl, h⟩, fun hl h => ⟨_, rfl, hl, h⟩, fun hl h => ⟨_, rfl, hl, h⟩, fun h => h.elim⟩
theorem rp1 : Rp (fun n j => wpc pr n (j + M)) True := ⟨fun hl h => ⟨_, rfl, hl, h⟩, fun hl h => ⟨_, rfl, hl, h⟩, fun hl h => ⟨_, rfl, hl, h⟩, fun hl h => ⟨_, rfl, hl, h⟩, fun hl h => ⟨_, rfl, hl, h⟩, fun hl h => ⟨_, rfl, hl, h⟩, fun hl h => ⟨_, rfl, hl, h⟩, fun hl h => ⟨_, rfl, hl, h⟩, fun hl h => ⟨_, rfl, hl, h⟩, fun hl h => ⟨_, rfl, hl, h⟩, fun hl h => ⟨_, rfl, hl, h⟩, fun hl h => ⟨_, rfl, hl, h⟩, fun hl h => ⟨_, rfl, hl, h⟩, fun hl h => ⟨_, rfl, hl, h⟩, fun hl h => ⟨_, rfl, hl, h⟩, fun hl h => ⟨_, rfl, hl, h⟩, fun hl h => ⟨_, rfl, hl, h⟩, fun hl h => ⟨_, rfl, hl, h⟩, fun hl h => ⟨_, rfl, hl, h⟩, fun hl h => ⟨_, rfl, hl, h⟩, fun _ => ⟨_, rfl, rfl, trivial⟩⟩
end K19
set_option Elab.async false
set_option linter.all false
set_option maxRecDepth 100000
set_option maxHeartbeats 4000000
namespace K19
open PySem PySem.Spec PyProof.Rows L2 WL
section
variable {Pg : Program} {w : World} {K : PySem.W.Frag} {mg : Str → Option Value} {base : Heap} {f CN : Addr} {fd : FuncData} {n i : Nat} {pr : List Df} {x q : Str} {N ps : List Str} {st : Stmt} {P P' : Calls} {E1 : XK}
theorem okQ (D : {W // SX 0 st N q W}) (T : Txt w K mg) (S : Cs Pg w K mg base n pr CN) (sc : FnScope N ps (defScope st)) (hd : pr[i]? = some ⟨N.length, ps.length, D.1⟩) (F : Fun K x q st f fd) : FnOk Pg w K mg base CX0 (n + 1) f fd ps (spW K pr (n + 1) i) := fn_okQ F sc hd rfl rfl fun _ _ _ _ _ _ hr => D.2 rfl T S hr
theorem okX (D : {W // SXr 0 st N q W}) (T : Txt w K mg) (S : CsR Pg w K mg base n P E1 CN) (sc : FnScope N ps (defScope st)) (hO : Opens P' P i N ps D.1) (F : Fun K x q st f fd) : FnOk Pg w K mg base (CXr Pg w) (n + 1) f fd ps (spX K P' E1 i) := fn_okX hO F sc fun _ _ _ _ _ hr => D.2 T S hr
theorem okT (D : {W // SXt 0 st N q W}) (T : Txt w K mg) (S : CsR Pg w K mg base n P E1 CN) (sc : FnScope N ps (defScope st)) (hO : Opens P' P i N ps D.1) (F : Fun K x q st f fd) : FnOkT Pg w K mg base (CXr Pg w) (n + 1) f fd ps (spX K P' E1 i) := fn_okXT hO F sc fun _ _ _ _ _ hr => D.2 T S hr
theorem okV (D : {W // SXv 0 st N q W}) (T : Txt w K mg) (S : CsR Pg w K mg base n P E1 CN) (sc : FnScope N ps (defScope st)) (hO : Opens P' P i N ps D.1) (F : Fun K x q st f fd) : FnOk Pg w K mg base CX0 (n + 1) f fd ps (spV K P' i) := fn_okV hO F sc fun _ _ _ _ _ _ hr => D.2 T S hr
theorem okU (D : {W // SXu 0 st N q W}) (T : Txt w K mg) (S : CsR Pg w K mg base n P E1 CN) (sc : FnScope N ps (defScope st)) (hO : Opens P' P i N ps D.1) (F : Fun K x q st f fd) : FnOk1 Pg w K mg base (n + 1) f fd ps (spV K P' i) := fn_okV1 hO F sc fun _ _ _ _ _ _ hr => D.2 T S hr
end
theorem bn0 {C : List Value → Prop} (h : C []) : ∀ us : List Value, us.length = 0 → C us
  | [], _ => h
theorem bn1 {C : List Value → Prop} (h : ∀ a, C [a]) : ∀ us : List Value, us.length = 1 → C us
  | [a], _ => h a
theorem bn2 {C : List Value → Prop} (h : ∀ a b, C [a, b]) : ∀ us : List Value, us.length = 2 → C us
  | [a, b], _ => h a b
theorem bn3 {C : List Value → Prop} (h : ∀ a b c, C [a, b, c]) : ∀ us : List Value, us.length = 3 → C us
  | [a, b, c], _ => h a b c
theorem bn4 {C : List Value → Prop} (h : ∀ a b c d, C [a, b, c, d]) : ∀ us : List Value, us.length = 4 → C us
  | [a, b, c, d], _ => h a b c d
theorem bn5 {C : List Value → Prop} (h : ∀ a b c d e, C [a, b, c, d, e]) : ∀ us : List Value, us.length = 5 → C us
  | [a, b, c, d, e], _ => h a b c d e
theorem bn6 {C : List Value → Prop} (h : ∀ a b c d e f, C [a, b, c, d, e, f]) : ∀ us : List Value, us.length = 6 → C us
  | [a, b, c, d, e, f], _ => h a b c d e f
theorem all_mk {l : PySem.W.OpenLaw} {w : World} {K : PySem.W.Frag} {h : Heap} {mg : Str → Option Value} {fa CN : Addr} (X : K.In h) (G : h.Ns mainGlobals mg) (hfa : mg "law" = some (.ref fa))
    (aCN : PySem.W.nsIn K mainGlobals "NoText" = some (some (.ref CN))) (xCN : PySem.W.excIn K CN [.type "ValueError", .type "Exception", .type "BaseException", .type "object"] "ValueError.__new__" = true) (qCN : PySem.W.exmOne K (.ref CN) (.ref CN) = some true)
    (l0 : Fg K "is_name" st_is_name)
    (l1 : Fg K "read" st_read)
    (l2 : Fg K "words_of" st_words_of)
    (l3 : Fg K "tree_of" st_tree_of)
    (l4 : Fg K "term_of" st_term_of)
    (l5 : Fg K "word_term" st_word_term)
    (l6 : Fg K "is_number" st_is_number)
    (l7 : Fg K "two_terms" st_two_terms)
    (l8 : Fg K "fun_term" st_fun_term)
    (l9 : Fg K "call_term" st_call_term)
    (l10 : Fg K "let_term" st_let_term)
    (l11 : Fg K "pair_of" st_pair_of)
    (l12 : Fg K "choose_term" st_choose_term)
    (l13 : Fg K "alternative_of" st_alternative_of)
    (l14 : Fg K "stop_term" st_stop_term)
    (l15 : Fg K "rows_term" st_rows_term)
    (l16 : Fg K "step_of" st_step_of)
    (l17 : Fg K "items_of" st_items_of)
    (l18 : Fg K "name_of" st_name_of)
    (l19 : Fg K "refuse_alike" st_refuse_alike)
    (l20 : Fg K "_law_draws" st__law_draws)
    (l21 : Fg K "_law_round" st__law_round)
    (l22 : Fg K "_law_good" st__law_good)
    (l23 : Fg K "_law_bad" st__law_bad)
    (l24 : Fg K "_law_one" st__law_one)
    (l25 : Fg K "law" st_law)
    (z_all : PySem.W.nsIn K mainGlobals "all" = some none)
    (z_int : PySem.W.nsIn K mainGlobals "int" = some none)
    (z_isinstance : PySem.W.nsIn K mainGlobals "isinstance" = some none)
    (z_len : PySem.W.nsIn K mainGlobals "len" = some none)
    (z_max : PySem.W.nsIn K mainGlobals "max" = some none)
    (z_range : PySem.W.nsIn K mainGlobals "range" = some none)
    (z_reversed : PySem.W.nsIn K mainGlobals "reversed" = some none)
    (z_set : PySem.W.nsIn K mainGlobals "set" = some none)
    (z_str : PySem.W.nsIn K mainGlobals "str" = some none)
    (z_tuple : PySem.W.nsIn K mainGlobals "tuple" = some none)
    {u_FIGURES : Value} (gg_FIGURES : PySem.W.nsIn K mainGlobals "FIGURES" = some (some u_FIGURES)) (r_FIGURES : RelV (V.str "0123456789") u_FIGURES)
    {u_LETTERS : Value} (gg_LETTERS : PySem.W.nsIn K mainGlobals "LETTERS" = some (some u_LETTERS)) (r_LETTERS : RelV (V.str "abcdefghijklmnopqrstuvwxyz") u_LETTERS)
    {gt_WORDS_0 : Tok}
    {gt_WORDS_1 : Tok}
    {gt_WORDS_2 : Tok}
    {gt_WORDS_3 : Tok}
    {gt_WORDS_4 : Tok}
    {gt_WORDS_5 : Tok}
    {gt_WORDS_6 : Tok}
    {gt_WORDS_7 : Tok}
    {gt_WORDS_8 : Tok}
    {ga_WORDS : Addr} {gn_WORDS : Nat} {gs_WORDS : Array (Option Value)} (gk_WORDS : K.lookup ga_WORDS = some ⟨.type "tuple", none, .seq #[.str "fun" gt_WORDS_0, .str "let" gt_WORDS_1, .str "choose" gt_WORDS_2, .str "first" gt_WORDS_3, .str "stop" gt_WORDS_4, .str "rows" gt_WORDS_5, .str "in" gt_WORDS_6, .str "when" gt_WORDS_7, .str "be" gt_WORDS_8] gn_WORDS, gs_WORDS⟩)
    (gg_WORDS : PySem.W.nsIn K mainGlobals "WORDS" = some (some (.ref ga_WORDS)))
    {gt_OPS_0 : Tok}
    {gt_OPS_1 : Tok}
    {gt_OPS_2 : Tok}
    {gt_OPS_3 : Tok}
    {gt_OPS_4 : Tok}
    {ga_OPS : Addr} {gn_OPS : Nat} {gs_OPS : Array (Option Value)} (gk_OPS : K.lookup ga_OPS = some ⟨.type "tuple", none, .seq #[.str "+" gt_OPS_0, .str "-" gt_OPS_1, .str "*" gt_OPS_2, .str "<" gt_OPS_3, .str "=" gt_OPS_4] gn_OPS, gs_OPS⟩)
    (gg_OPS : PySem.W.nsIn K mainGlobals "OPS" = some (some (.ref ga_OPS)))
    {ga_SHAPES : Addr} {gn_SHAPES : Nat} {gt_SHAPES_0 gu_SHAPES_0 gt_SHAPES_1 gu_SHAPES_1 gt_SHAPES_2 gu_SHAPES_2 gt_SHAPES_3 gu_SHAPES_3 gt_SHAPES_4 gu_SHAPES_4 : Tok} (gg_SHAPES : PySem.W.nsIn K mainGlobals "SHAPES" = some (some (.ref ga_SHAPES))) (gk_SHAPES : K.lookup ga_SHAPES = some ⟨.type "dict", none, .dict #[⟨PyData.keyHash w.params "Nil", .str "Nil" gt_SHAPES_0, .int 0 gu_SHAPES_0⟩, ⟨PyData.keyHash w.params "Cons", .str "Cons" gt_SHAPES_1, .int 2 gu_SHAPES_1⟩, ⟨PyData.keyHash w.params "No", .str "No" gt_SHAPES_2, .int 0 gu_SHAPES_2⟩, ⟨PyData.keyHash w.params "Yes", .str "Yes" gt_SHAPES_3, .int 0 gu_SHAPES_3⟩, ⟨PyData.keyHash w.params "Pair", .str "Pair" gt_SHAPES_4, .int 2 gu_SHAPES_4⟩] gn_SHAPES, #[]⟩) (gl_SHAPES : (ga_SHAPES == sysModules) = false)
    {u_MOST_FIGURES : Value} (gg_MOST_FIGURES : PySem.W.nsIn K mainGlobals "MOST_FIGURES" = some (some u_MOST_FIGURES)) (r_MOST_FIGURES : RelV (V.int 18) u_MOST_FIGURES)
    {u_MOST_PAIRS : Value} (gg_MOST_PAIRS : PySem.W.nsIn K mainGlobals "MOST_PAIRS" = some (some u_MOST_PAIRS)) (r_MOST_PAIRS : RelV (V.int 5) u_MOST_PAIRS)
    {gt_FAMILIES_0 : Tok}
    {gt_FAMILIES_1 : Tok}
    {ga_FAMILIES_2 : Addr} {gn_FAMILIES_2 : Nat} {gs_FAMILIES_2 : Array (Option Value)} (gk_FAMILIES_2 : K.lookup ga_FAMILIES_2 = some ⟨.type "tuple", none, .seq #[.str "Nil" gt_FAMILIES_0, .str "Cons" gt_FAMILIES_1] gn_FAMILIES_2, gs_FAMILIES_2⟩)
    {gt_FAMILIES_3 : Tok}
    {gt_FAMILIES_4 : Tok}
    {ga_FAMILIES_5 : Addr} {gn_FAMILIES_5 : Nat} {gs_FAMILIES_5 : Array (Option Value)} (gk_FAMILIES_5 : K.lookup ga_FAMILIES_5 = some ⟨.type "tuple", none, .seq #[.str "No" gt_FAMILIES_3, .str "Yes" gt_FAMILIES_4] gn_FAMILIES_5, gs_FAMILIES_5⟩)
    {gt_FAMILIES_6 : Tok}
    {ga_FAMILIES_7 : Addr} {gn_FAMILIES_7 : Nat} {gs_FAMILIES_7 : Array (Option Value)} (gk_FAMILIES_7 : K.lookup ga_FAMILIES_7 = some ⟨.type "tuple", none, .seq #[.str "Pair" gt_FAMILIES_6] gn_FAMILIES_7, gs_FAMILIES_7⟩)
    {ga_FAMILIES : Addr} {gn_FAMILIES : Nat} {gs_FAMILIES : Array (Option Value)} (gk_FAMILIES : K.lookup ga_FAMILIES = some ⟨.type "tuple", none, .seq #[.ref ga_FAMILIES_2, .ref ga_FAMILIES_5, .ref ga_FAMILIES_7] gn_FAMILIES, gs_FAMILIES⟩)
    (gg_FAMILIES : PySem.W.nsIn K mainGlobals "FAMILIES" = some (some (.ref ga_FAMILIES)))
    : ∃ fd : FuncData, (∀ (s : Shared) (v : Value), BindsTo s fd ⟨[v], []⟩ [("_law_script", v)]) ∧ ∀ base : Heap, K.In base → base.Ns mainGlobals mg → FnOk l.prog w K mg base CX0 60 fa fd ["_law_script"] (spW K pr 60 25) := by
  have L25 := ld_mk (ps := ["_law_script"]) X G l25 fun _ _ _ _ _ _ => bn1 fun _ => rfl
  obtain ⟨f25, _, a25, ⟨oc, od, kV, dc, pm, an, cd, ct, sl, rfl, ll, lc⟩, lk⟩ := l25
  have F25 := fun_mk (st := st_law) ll lc lk
  have e := hfa.symm.trans (PySem.W.mg_of X G a25)
  cases e
  have T : Txt w K mg := ⟨PySem.W.mg_none_of X G z_all, PySem.W.mg_none_of X G z_int, PySem.W.mg_none_of X G z_isinstance, PySem.W.mg_none_of X G z_len, PySem.W.mg_none_of X G z_max, PySem.W.mg_none_of X G z_range, PySem.W.mg_none_of X G z_reversed, PySem.W.mg_none_of X G z_set, PySem.W.mg_none_of X G z_str, PySem.W.mg_none_of X G z_tuple, ⟨_, u_FIGURES, PySem.W.mg_of X G gg_FIGURES, r_FIGURES, fun _ => rep_str⟩, ⟨_, u_LETTERS, PySem.W.mg_of X G gg_LETTERS, r_LETTERS, fun _ => rep_str⟩, ⟨.ref ga_WORDS, .ref ga_WORDS, PySem.W.mg_of X G gg_WORDS, rfl, fun H => (rep_ktup (xs := [V.str "fun", V.str "let", V.str "choose", V.str "first", V.str "stop", V.str "rows", V.str "in", V.str "when", V.str "be"]) gk_WORDS (show 9 ≤ sizeLine by decide) (.cons ⟨_, rfl⟩ (.cons ⟨_, rfl⟩ (.cons ⟨_, rfl⟩ (.cons ⟨_, rfl⟩ (.cons ⟨_, rfl⟩ (.cons ⟨_, rfl⟩ (.cons ⟨_, rfl⟩ (.cons ⟨_, rfl⟩ (.cons ⟨_, rfl⟩ .nil))))))))) (reps_cons rep_str (reps_cons rep_str (reps_cons rep_str (reps_cons rep_str (reps_cons rep_str (reps_cons rep_str (reps_cons rep_str (reps_cons rep_str (reps_cons rep_str reps_nil))))))))))⟩, ⟨.ref ga_OPS, .ref ga_OPS, PySem.W.mg_of X G gg_OPS, rfl, fun H => (rep_ktup (xs := [V.str "+", V.str "-", V.str "*", V.str "<", V.str "="]) gk_OPS (show 5 ≤ sizeLine by decide) (.cons ⟨_, rfl⟩ (.cons ⟨_, rfl⟩ (.cons ⟨_, rfl⟩ (.cons ⟨_, rfl⟩ (.cons ⟨_, rfl⟩ .nil))))) (reps_cons rep_str (reps_cons rep_str (reps_cons rep_str (reps_cons rep_str (reps_cons rep_str reps_nil))))))⟩, ⟨ga_SHAPES, _, gn_SHAPES, PySem.W.mg_of X G gg_SHAPES, gl_SHAPES, gk_SHAPES, ⟨⟨_, rfl⟩, rfl, _, rfl⟩, ⟨⟨_, rfl⟩, rfl, _, rfl⟩, ⟨⟨_, rfl⟩, rfl, _, rfl⟩, ⟨⟨_, rfl⟩, rfl, _, rfl⟩, ⟨⟨_, rfl⟩, rfl, _, rfl⟩, trivial⟩, ⟨_, u_MOST_FIGURES, PySem.W.mg_of X G gg_MOST_FIGURES, r_MOST_FIGURES, fun _ => rep_int⟩, ⟨_, u_MOST_PAIRS, PySem.W.mg_of X G gg_MOST_PAIRS, r_MOST_PAIRS, fun _ => rep_int⟩, ⟨.ref ga_FAMILIES, .ref ga_FAMILIES, PySem.W.mg_of X G gg_FAMILIES, rfl, fun H => (rep_ktup (xs := [V.ref ga_FAMILIES_2, V.ref ga_FAMILIES_5, V.ref ga_FAMILIES_7]) gk_FAMILIES (show 3 ≤ sizeLine by decide) (.cons rfl (.cons rfl (.cons rfl .nil))) (reps_cons (rep_ktup (xs := [V.str "Nil", V.str "Cons"]) gk_FAMILIES_2 (show 2 ≤ sizeLine by decide) (.cons ⟨_, rfl⟩ (.cons ⟨_, rfl⟩ .nil)) (reps_cons rep_str (reps_cons rep_str reps_nil))) (reps_cons (rep_ktup (xs := [V.str "No", V.str "Yes"]) gk_FAMILIES_5 (show 2 ≤ sizeLine by decide) (.cons ⟨_, rfl⟩ (.cons ⟨_, rfl⟩ .nil)) (reps_cons rep_str (reps_cons rep_str reps_nil))) (reps_cons (rep_ktup (xs := [V.str "Pair"]) gk_FAMILIES_7 (show 1 ≤ sizeLine by decide) (.cons ⟨_, rfl⟩ .nil) (reps_cons rep_str reps_nil)) reps_nil))))⟩⟩
  have L0 := ld_mk (ps := ["text"]) X G l0 fun _ _ _ _ _ _ => bn1 fun _ => rfl
  have L1 := ld_mk (ps := ["text"]) X G l1 fun _ _ _ _ _ _ => bn1 fun _ => rfl
  have L2 := ld_mk (ps := ["text"]) X G l2 fun _ _ _ _ _ _ => bn1 fun _ => rfl
  have L3 := ld_mk (ps := ["words"]) X G l3 fun _ _ _ _ _ _ => bn1 fun _ => rfl
  have L4 := ld_mk (ps := ["tree"]) X G l4 fun _ _ _ _ _ _ => bn1 fun _ => rfl
  have L5 := ld_mk (ps := ["word"]) X G l5 fun _ _ _ _ _ _ => bn1 fun _ => rfl
  have L6 := ld_mk (ps := ["word"]) X G l6 fun _ _ _ _ _ _ => bn1 fun _ => rfl
  have L7 := ld_mk (ps := ["trees"]) X G l7 fun _ _ _ _ _ _ => bn1 fun _ => rfl
  have L8 := ld_mk (ps := ["trees"]) X G l8 fun _ _ _ _ _ _ => bn1 fun _ => rfl
  have L9 := ld_mk (ps := ["trees"]) X G l9 fun _ _ _ _ _ _ => bn1 fun _ => rfl
  have L10 := ld_mk (ps := ["trees"]) X G l10 fun _ _ _ _ _ _ => bn1 fun _ => rfl
  have L11 := ld_mk (ps := ["tree"]) X G l11 fun _ _ _ _ _ _ => bn1 fun _ => rfl
  have L12 := ld_mk (ps := ["trees"]) X G l12 fun _ _ _ _ _ _ => bn1 fun _ => rfl
  have L13 := ld_mk (ps := ["tree"]) X G l13 fun _ _ _ _ _ _ => bn1 fun _ => rfl
  have L14 := ld_mk (ps := ["trees"]) X G l14 fun _ _ _ _ _ _ => bn1 fun _ => rfl
  have L15 := ld_mk (ps := ["trees"]) X G l15 fun _ _ _ _ _ _ => bn1 fun _ => rfl
  have L16 := ld_mk (ps := ["tree"]) X G l16 fun _ _ _ _ _ _ => bn1 fun _ => rfl
  have L17 := ld_mk (ps := ["tree"]) X G l17 fun _ _ _ _ _ _ => bn1 fun _ => rfl
  have L18 := ld_mk (ps := ["tree"]) X G l18 fun _ _ _ _ _ _ => bn1 fun _ => rfl
  have L19 := ld_mk (ps := ["names"]) X G l19 fun _ _ _ _ _ _ => bn1 fun _ => rfl
  have L20 := ld_mk (ps := ["_law_script", "_law_many"]) X G l20 fun _ _ _ _ _ _ => bn2 fun _ _ => rfl
  have L21 := ld_mk (ps := ["_law_words", "_law_cell"]) X G l21 fun _ _ _ _ _ _ => bn2 fun _ _ => rfl
  have L22 := ld_mk (ps := ["_law_cell"]) X G l22 fun _ _ _ _ _ _ => bn1 fun _ => rfl
  have L23 := ld_mk (ps := ["_law_cell"]) X G l23 fun _ _ _ _ _ _ => bn1 fun _ => rfl
  have L24 := ld_mk (ps := ["_law_draws_here", "_law_cell", "_law_turn"]) X G l24 fun _ _ _ _ _ _ => bn3 fun _ _ _ => rfl
  refine ⟨PySem.W.fnOf "law" "law" (defArgs st_law) (defBody st_law) (defScope st_law) .none kV dc pm an cd ct, fun s v => .of_eq rfl, fun base _ _ => ?_⟩
  have XN : Xcl K mg "NoText" CN := ⟨PySem.W.mg_of X G aCN, _, _, _, _, PySem.F.excBase_ValueError, by decide +kernel, xCN⟩
  have R0 : ∀ n, CsR l.prog w K mg base n (wpc pr n) (fun _ _ _ => False) CN := fun n => by
    induction n with
    | zero => exact ⟨XN, fun _ _ _ _ h => (wish_r (r := False) rfl h).elim, v0 shut_0 L0, xT0 shut_0 L1, v01 shut_0 L2, x0 shut_0 L3, x0 shut_0 L4, x0 shut_0 L5, v0 shut_0 L6, x0 shut_0 L7, x0 shut_0 L8, x0 shut_0 L9, x0 shut_0 L10, x0 shut_0 L11, x0 shut_0 L12, x0 shut_0 L13, x0 shut_0 L14, x0 shut_0 L15, x0 shut_0 L16, x0 shut_0 L17, x0 shut_0 L18, x0 shut_0 L19⟩
    | succ n ih => exact ⟨XN, fun _ _ _ _ h => (wish_r (r := False) rfl h).elim, ld1 L0 (okV D_is_name T ih sc_is_name (opens_of rfl)), ldT1 L1 (okT D_read T ih sc_read (opens_of rfl)), v11 L2 (okU D_words_of T ih sc_words_of (opens_of rfl)), ldR1 L3 (okX D_tree_of T ih sc_tree_of (opens_of rfl)), ldR1 L4 (okX D_term_of T ih sc_term_of (opens_of rfl)), ldR1 L5 (okX D_word_term T ih sc_word_term (opens_of rfl)), ld1 L6 (okV D_is_number T ih sc_is_number (opens_of rfl)), ldR1 L7 (okX D_two_terms T ih sc_two_terms (opens_of rfl)), ldR1 L8 (okX D_fun_term T ih sc_fun_term (opens_of rfl)), ldR1 L9 (okX D_call_term T ih sc_call_term (opens_of rfl)), ldR1 L10 (okX D_let_term T ih sc_let_term (opens_of rfl)), ldR1 L11 (okX D_pair_of T ih sc_pair_of (opens_of rfl)), ldR1 L12 (okX D_choose_term T ih sc_choose_term (opens_of rfl)), ldR1 L13 (okX D_alternative_of T ih sc_alternative_of (opens_of rfl)), ldR1 L14 (okX D_stop_term T ih sc_stop_term (opens_of rfl)), ldR1 L15 (okX D_rows_term T ih sc_rows_term (opens_of rfl)), ldR1 L16 (okX D_step_of T ih sc_step_of (opens_of rfl)), ldR1 L17 (okX D_items_of T ih sc_items_of (opens_of rfl)), ldR1 L18 (okX D_name_of T ih sc_name_of (opens_of rfl)), ldR1 L19 (okX D_refuse_alike T ih sc_refuse_alike (opens_of rfl))⟩
  have R1 : ∀ n, CsR l.prog w K mg base n (fun j => wpc pr n (j + M)) (Er [(CN, True)]) CN := fun n => by
    induction n with
    | zero => exact ⟨XN, fun _ _ _ _ _ => ⟨_, .head _, rfl, trivial⟩, v0 shut_sh L0, xT0 shut_sh L1, v01 shut_sh L2, x0 shut_sh L3, x0 shut_sh L4, x0 shut_sh L5, v0 shut_sh L6, x0 shut_sh L7, x0 shut_sh L8, x0 shut_sh L9, x0 shut_sh L10, x0 shut_sh L11, x0 shut_sh L12, x0 shut_sh L13, x0 shut_sh L14, x0 shut_sh L15, x0 shut_sh L16, x0 shut_sh L17, x0 shut_sh L18, x0 shut_sh L19⟩
    | succ n ih => exact ⟨XN, fun _ _ _ _ _ => ⟨_, .head _, rfl, trivial⟩, ld1 L0 (okV D_is_name T ih sc_is_name (opens_sh rfl)), ldT1 L1 (okT D_read T ih sc_read (opens_sh rfl)), v11 L2 (okU D_words_of T ih sc_words_of (opens_sh rfl)), ldR1 L3 (okX D_tree_of T ih sc_tree_of (opens_sh rfl)), ldR1 L4 (okX D_term_of T ih sc_term_of (opens_sh rfl)), ldR1 L5 (okX D_word_term T ih sc_word_term (opens_sh rfl)), ld1 L6 (okV D_is_number T ih sc_is_number (opens_sh rfl)), ldR1 L7 (okX D_two_terms T ih sc_two_terms (opens_sh rfl)), ldR1 L8 (okX D_fun_term T ih sc_fun_term (opens_sh rfl)), ldR1 L9 (okX D_call_term T ih sc_call_term (opens_sh rfl)), ldR1 L10 (okX D_let_term T ih sc_let_term (opens_sh rfl)), ldR1 L11 (okX D_pair_of T ih sc_pair_of (opens_sh rfl)), ldR1 L12 (okX D_choose_term T ih sc_choose_term (opens_sh rfl)), ldR1 L13 (okX D_alternative_of T ih sc_alternative_of (opens_sh rfl)), ldR1 L14 (okX D_stop_term T ih sc_stop_term (opens_sh rfl)), ldR1 L15 (okX D_rows_term T ih sc_rows_term (opens_sh rfl)), ldR1 L16 (okX D_step_of T ih sc_step_of (opens_sh rfl)), ldR1 L17 (okX D_items_of T ih sc_items_of (opens_sh rfl)), ldR1 L18 (okX D_name_of T ih sc_name_of (opens_sh rfl)), ldR1 L19 (okX D_refuse_alike T ih sc_refuse_alike (opens_sh rfl))⟩
  have CS : ∀ n, Cs l.prog w K mg base n pr CN := fun n => by
    induction n with
    | zero => exact ⟨XN, qCN, (R0 0).c_is_name, (R0 0).c_read, (R1 0).c_read, (R0 0).c_is_number, ld0 L20, ld0 L21, ld0 L22, ld0 L23, ld0 L24, ld0 L25⟩
    | succ n ih => exact ⟨XN, qCN, (R0 (n + 1)).c_is_name, (R0 (n + 1)).c_read, (R1 (n + 1)).c_read, (R0 (n + 1)).c_is_number, ld1 L20 (okQ D__law_draws T ih sc__law_draws rfl), ld1 L21 (okQ D__law_round T ih sc__law_round rfl), ld1 L22 (okQ D__law_good T ih sc__law_good rfl), ld1 L23 (okQ D__law_bad T ih sc__law_bad rfl), ld1 L24 (okQ D__law_one T ih sc__law_one rfl), ld1 L25 (okQ D_law T ih sc_law rfl)⟩
  exact okQ D_law T (CS (59)) sc_law rfl F25
end K19
set_option Elab.async false
set_option linter.all false
set_option maxRecDepth 100000
set_option maxHeartbeats 4000000
/-! the second level's own words: reading a def, loops, what stays -/
namespace WL
open PySem PySem.Spec PyProof.Rows L2
/-- what stood stands -/
def Ex (C C' : Hw) : Prop := ∀ a o, C a = some o → C' a = some o
theorem Ex.refl (C : Hw) : Ex C C := fun _ _ h => h
theorem Ex.trans {C C1 C2 : Hw} (a : Ex C C1) (b : Ex C1 C2) : Ex C C2 := fun c o h => b c o (a c o h)
theorem cne {C : Hw} {a b : Addr} {o : O} (h : C a = some o) (h' : C b = none) : a ≠ b := fun e => by subst e; rw [h] at h'; cases h'
theorem cne' {C : Hw} {a b : Addr} {o : O} (h : C a = some o) (h' : C b = none) : b ≠ a := fun e => cne h h' e.symm
theorem Ex.new {C : Hw} {p : Addr} {o : O} (h : C p = none) : Ex C (up C p o) := fun a u e => by rw [up_ne (cne e h)]; exact e
theorem fr1 {C : Hw} {p q : Addr} {o : O} (h : up C p o q = none) : q ≠ p ∧ C q = none := by
  have n : q ≠ p := fun z => by subst z; rw [up_same] at h; cases h
  rw [up_ne n] at h
  exact ⟨n, h⟩
theorem Ex.free {C C' : Hw} (e : Ex C C') {p : Addr} (h : C' p = none) : C p = none := by
  cases q : C p with
  | none => rfl
  | some o => rw [e p o q] at h; cases h
/-- what stood stands, but for one -/
def ExB (p : Addr) (C C' : Hw) : Prop := ∀ a o, a ≠ p → C a = some o → C' a = some o
theorem flats_iff : ∀ {xs : List T} {n : Nat}, flats xs n = true ↔ ∀ x ∈ xs, flat x n = true
  | [], n => by unfold flats; simp
  | x :: xs, n => by unfold flats; rw [Bool.and_eq_true, flats_iff]; simp
theorem flat_tup {xs : List T} {n : Nat} (h : ∀ x ∈ xs, flat x n = true) : flat (.tup xs) (n + 1) = true := by unfold flat; exact flats_iff.mpr h
theorem flat_str {x : Str} {n : Nat} : flat (.str x) n = true := by unfold flat; rfl
theorem flat_int {x : Int} {n : Nat} : flat (.int x) n = true := by unfold flat; rfl
theorem flat_bl {x : Bool} {n : Nat} : flat (.bl x) n = true := by unfold flat; rfl
theorem isFlat_str {x : Str} : isFlat (.str x) = True := eq_true flat_str
theorem isFlat_int {x : Int} : isFlat (.int x) = True := eq_true flat_int
theorem isFlat_bl {x : Bool} : isFlat (.bl x) = True := eq_true flat_bl
theorem flats_strs {xs : List Str} {n : Nat} : flats (xs.map T.str) n = true := flats_iff.mpr fun x hx => by obtain ⟨y, _, rfl⟩ := List.mem_map.mp hx; exact flat_str
section
variable {n : Bool} {C : Hw} {Q : WK}
theorem wEq_str {a b : Str} : wEqG n (.str a) (.str b) C Q = Q (.bl (if n = true then !(a == b) else a == b)) C := by
  show (isFlat _ ∧ isFlat _ ∧ Q (.bl (if n = true then !eqT (.str a) (.str b) else eqT (.str a) (.str b))) C) = _
  rw [isFlat_str, isFlat_str, true_and, true_and, show eqT (.str a) (.str b) = (a == b) by unfold eqT; rfl]
theorem wEq_int {a b : Int} : wEqG n (.int a) (.int b) C Q = Q (.bl (if n = true then !(a == b) else a == b)) C := by
  show (isFlat _ ∧ isFlat _ ∧ Q (.bl (if n = true then !eqT (.int a) (.int b) else eqT (.int a) (.int b))) C) = _
  rw [isFlat_int, isFlat_int, true_and, true_and, show eqT (.int a) (.int b) = (a == b) by unfold eqT; rfl]
theorem wEq_bl {a b : Bool} : wEqG n (.bl a) (.bl b) C Q = Q (.bl (if n = true then !(a == b) else a == b)) C := by
  show (isFlat _ ∧ isFlat _ ∧ Q (.bl (if n = true then !eqT (.bl a) (.bl b) else eqT (.bl a) (.bl b))) C) = _
  rw [isFlat_bl, isFlat_bl, true_and, true_and, show eqT (.bl a) (.bl b) = (a == b) by unfold eqT; rfl]
end
section
variable {α : Type} {a b c d e : α} {xs : List α}
theorem erase0 : (a :: xs).eraseIdx 0 = xs := rfl
theorem atI_0 : atI (a :: xs) 0 = some a := atI_nat (j := 0) rfl
theorem atI_1 : atI (a :: b :: xs) 1 = some b := atI_nat (j := 1) rfl
theorem atI_2 : atI (a :: b :: c :: xs) 2 = some c := atI_nat (j := 2) rfl
theorem atI_3 : atI (a :: b :: c :: d :: xs) 3 = some d := atI_nat (j := 3) rfl
theorem atI_4 : atI (a :: b :: c :: d :: e :: xs) 4 = some e := atI_nat (j := 4) rfl
theorem atI_m1 : atI [a] (-1) = some a := rfl
theorem atI_m2 : atI [a, b] (-1) = some b := rfl
theorem atI_m3 : atI [a, b, c] (-1) = some c := rfl
theorem atI_m4 : atI [a, b, c, d] (-1) = some d := rfl
end
/-- a loop by what holds of the turns done; N is whatever the next turn wants -/
theorem for_inv {g : WG} {b : WS} {ok : Hw → Prop} {D : We} {xs : List T} (Pv : Nat → Sw → Hw → Prop) {τ : Sw} {C : Hw} (h0 : Pv 0 τ C) (hok : ∀ i τ C, i ≤ xs.length → Pv i τ C → ok C)
    (hs : ∀ i x τ C (N : Sw → Hw → Prop), xs[i]? = some x → Pv i τ C → (∀ τ' C', Pv (i + 1) τ' C' → N τ' C') → g x τ C (fun τ2 C2 => b { D with nx := N, ct := N, bk := D.nx } τ2 C2) D.xc)
    (hd : ∀ τ C, Pv xs.length τ C → D.nx τ C) : forW g b ok D xs τ C := by
  have key : ∀ (k i : Nat) (τ : Sw) (C : Hw), xs.length - i = k → i ≤ xs.length → Pv i τ C → forW g b ok D (xs.drop i) τ C := by
    intro k
    induction k with
    | zero =>
      intro i τ C hk hi hp
      have e : i = xs.length := by omega
      subst e
      rw [List.drop_length]
      exact ⟨hok _ τ C (Nat.le_refl _) hp, hd τ C hp⟩
    | succ k ih =>
      intro i τ C hk hi hp
      have hlt : i < xs.length := by omega
      rw [List.drop_eq_getElem_cons hlt]
      exact ⟨hok i τ C hi hp, hs i _ τ C _ (by simp [hlt]) hp fun τ' C' h => ih (i + 1) τ' C' (by omega) hlt h⟩
  exact key xs.length 0 τ C (by simp) (Nat.zero_le _) h0
theorem rng_len (lo : Int) (n : Nat) : (rng lo n).length = n := by unfold rng; simp
theorem rng_get {lo : Int} {n i : Nat} {x : T} (h : (rng lo n)[i]? = some x) : i < n ∧ x = .int (lo + i) := by
  have hi : i < n := by
    have := (List.getElem?_eq_some_iff.mp h).1
    rw [rng_len] at this; exact this
  unfold rng at h
  rw [List.getElem?_map, List.getElem?_range hi] at h
  cases h
  exact ⟨hi, rfl⟩
/-- over a range -/
theorem for_rng {g : WG} {b : WS} {ok : Hw → Prop} {D : We} {lo : Int} {n : Nat} (Pv : Nat → Sw → Hw → Prop) {τ : Sw} {C : Hw} (h0 : Pv 0 τ C) (hok : ∀ C, ok C)
    (hs : ∀ i τ C (N : Sw → Hw → Prop), i < n → Pv i τ C → (∀ τ' C', Pv (i + 1) τ' C' → N τ' C') → g (.int (lo + i)) τ C (fun τ2 C2 => b { D with nx := N, ct := N, bk := D.nx } τ2 C2) D.xc)
    (hd : ∀ τ C, Pv n τ C → D.nx τ C) : forW g b ok D (rng lo n) τ C := by
  refine for_inv Pv h0 (fun _ _ C _ _ => hok C) (fun i x τ C N hx hp hN => ?_) (fun τ C h => hd τ C (by rw [rng_len] at h; exact h))
  obtain ⟨hi, rfl⟩ := rng_get hx
  exact hs i τ C N hi hp hN
theorem comp_inv {g : WG} {c : WT} {e : WE} {ok : Hw → Prop} {τ : Sw} {Q : List T → Hw → Prop} {χ : WX} {xs : List T} (Pv : Nat → List T → Hw → Prop) {C : Hw} (h0 : Pv 0 [] C) (hok : ∀ i acc C, i ≤ xs.length → Pv i acc C → ok C)
    (hs : ∀ i x acc C (N : List T → Hw → Prop), xs[i]? = some x → Pv i acc C → (∀ acc' C', Pv (i + 1) acc' C' → N acc' C') →
      g x τ C (fun τ2 C2 => c τ2 C2 (fun b C3 => if b = true then e τ2 C3 (fun v C4 => acc.length < sizeLine ∧ N (acc ++ [v]) C4) χ else N acc C3) χ) χ)
    (hd : ∀ acc C, Pv xs.length acc C → Q acc C) : compW g c e ok τ Q χ xs [] C := by
  have key : ∀ (k i : Nat) (acc : List T) (C : Hw), xs.length - i = k → i ≤ xs.length → Pv i acc C → compW g c e ok τ Q χ (xs.drop i) acc C := by
    intro k
    induction k with
    | zero =>
      intro i acc C hk hi hp
      have e : i = xs.length := by omega
      subst e
      rw [List.drop_length]
      exact ⟨hok _ acc C (Nat.le_refl _) hp, hd acc C hp⟩
    | succ k ih =>
      intro i acc C hk hi hp
      have hlt : i < xs.length := by omega
      rw [List.drop_eq_getElem_cons hlt]
      exact ⟨hok i acc C hi hp, hs i _ acc C _ (by simp [hlt]) hp fun acc' C' h => ih (i + 1) acc' C' (by omega) hlt h⟩
  exact key xs.length 0 [] C (by simp) (Nat.zero_le _) h0
/-- each item gives a value or is left out, the heap stays -/
theorem comp_fm {g : WG} {c : WT} {e : WE} {ok : Hw → Prop} {τ : Sw} {Q : List T → Hw → Prop} {χ : WX} {xs : List T} (f : T → Option T) {C : Hw} (hok : ok C) (hl : xs.length ≤ sizeLine)
    (hs : ∀ x ∈ xs, ∀ (R : WK) (N : Hw → Prop), (∀ v, f x = some v → R v C) → (f x = none → N C) → g x τ C (fun τ2 C2 => c τ2 C2 (fun b C3 => if b = true then e τ2 C3 R χ else N C3) χ) χ) (hd : Q (xs.filterMap f) C) : compW g c e ok τ Q χ xs [] C := by
  refine comp_inv (fun i acc C' => C' = C ∧ acc = (xs.take i).filterMap f) ⟨rfl, rfl⟩ (fun i acc C' _ h => by rw [h.1]; exact hok) (fun i x acc C' N hx hp hN => ?_) (fun acc C' h => ?_)
  · obtain ⟨rfl, rfl⟩ := hp
    have hi : i < xs.length := (List.getElem?_eq_some_iff.mp hx).1
    refine hs x (List.mem_of_getElem? hx) _ _ (fun v hv => ⟨?_, hN _ _ ⟨rfl, ?_⟩⟩) (fun hv => hN _ _ ⟨rfl, ?_⟩)
    · have := List.length_filterMap_le f (xs.take i)
      rw [List.length_take] at this
      omega
    · rw [List.take_add_one, hx, List.filterMap_append]
      simp [hv]
    · rw [List.take_add_one, hx, List.filterMap_append]
      simp [hv]
  · obtain ⟨rfl, rfl⟩ := h
    rw [List.take_length]; exact hd
/-- each item gives a value, the heap stays -/
theorem comp_pure {g : WG} {e : WE} {ok : Hw → Prop} {τ : Sw} {Q : List T → Hw → Prop} {χ : WX} {xs : List T} (f : T → T) {C : Hw} (hok : ok C) (hl : xs.length ≤ sizeLine)
    (hs : ∀ x ∈ xs, ∀ R : WK, R (f x) C → g x τ C (fun τ2 C2 => e τ2 C2 R χ) χ) (hd : Q (xs.map f) C) : compW g tYes e ok τ Q χ xs [] C := by
  refine comp_inv (fun i acc C' => C' = C ∧ acc = (xs.take i).map f) ⟨rfl, rfl⟩ (fun i acc C' _ h => by rw [h.1]; exact hok) (fun i x acc C' N hx hp hN => ?_) (fun acc C' h => ?_)
  · obtain ⟨rfl, rfl⟩ := hp
    have hi : i < xs.length := (List.getElem?_eq_some_iff.mp hx).1
    refine hs x (List.mem_of_getElem? hx) _ ⟨?_, hN _ _ ⟨rfl, ?_⟩⟩
    · rw [List.length_map, List.length_take]; omega
    · rw [List.take_add_one, hx, List.map_append]; rfl
  · obtain ⟨rfl, rfl⟩ := h
    rw [List.take_length]; exact hd
theorem inL_strs {z : Str} {zs : List Str} : inL (.str z) (zs.map T.str) = decide (z ∈ zs) := by
  unfold inL
  rw [List.any_map]
  induction zs with
  | nil => rfl
  | cons y ys ih =>
    rw [List.any_cons, ih]
    have e : (((fun y => eqT y (.str z)) ∘ T.str) y) = (y == z) := by show eqT (.str y) (.str z) = _; unfold eqT; rfl
    rw [e]
    by_cases h : y = z
    · subst h; simp
    · have h' : z ≠ y := fun q => h q.symm
      simp [h, h']
theorem atT_ints {ds : List Int} {i : Int} (h0 : 0 ≤ i) (h1 : i < (ds.length : Int)) : ∃ d, atI (ds.map T.int) i = some (.int d) ∧ d ∈ ds := by
  obtain ⟨v, h, m⟩ := atI_in (xs := ds.map T.int) h0 (by simpa using h1)
  obtain ⟨d, hd, rfl⟩ := List.mem_map.mp m
  exact ⟨d, h, hd⟩
theorem small63 {n : Nat} (h : n ≤ 100000) : n ≤ sizeLine := Nat.le_trans h (by decide)
theorem small63' {n : Nat} (h : n ≤ 100000) : n < sizeLine := Nat.lt_of_le_of_lt h (by decide)
end WL
set_option Elab.async false
set_option linter.all false
set_option maxRecDepth 100000
set_option maxHeartbeats 400000
/-! the reader as a function: a tree of words, and the term that it writes, if any (pure: no program) -/
namespace Rd
open PySem PySem.Spec PyProof.Rows L2 WL
inductive Tr where
  | w (x : Str)
  | n (ts : List Tr)
abbrev occ (j : Str) (c : Nat) : Bool := !(Builtin.Str.occurrences j ⟨#[c]⟩ 0 j.length 1).isEmpty
def nine : List Str := ["fun", "let", "choose", "first", "stop", "rows", "in", "when", "be"]
def ops : List Str := ["+", "-", "*", "<", "="]
def shp : List (Str × Int) := [("Nil", 0), ("Cons", 2), ("No", 0), ("Yes", 0), ("Pair", 2)]
def fams : List (List Str) := [["Nil", "Cons"], ["No", "Yes"], ["Pair"]]
def isNm (x : Str) : Bool := match x.cps.toList with
  | [] => false
  | c :: _ => decide (x.length ≤ 8) && occ "abcdefghijklmnopqrstuvwxyz" c && decide (x ∉ nine) && x.cps.toList.all fun d => occ "abcdefghijklmnopqrstuvwxyz" d || occ "0123456789" d
def isNo (x : Str) : Bool := match x.cps.toList with
  | [] => false
  | c :: _ => decide (x.length ≤ 18) && (!((⟨#[c]⟩ : Str) == "0") || x == "0") && x.cps.toList.all fun d => occ "0123456789" d
def rdWord (x : Str) : Option T :=
  if isNm x = true then some (.tup [.str "name", .str x]) else if isNo x = true then (intText? x).map fun v => .tup [.str "number", .int v] else if shp.lookup x = some 0 then some (.tup [.str "shape", .str x, .tup []]) else none
def nmOf : Tr → Option Str
  | .w x => if isNm x = true then some x else none
  | .n _ => none
def all {α β : Type} (f : α → Option β) : List α → Option (List β)
  | [] => some []
  | a :: r => match f a, all f r with
    | some b, some bs => some (b :: bs)
    | _, _ => none
section
variable (g : Tr → Option T)
def two : List Tr → Option (T × T)
  | [a, b] => match g a, g b with
    | some x, some y => some (x, y)
    | _, _ => none
  | _ => none
def funT (ss : List Str) (t : T) : T := ss.foldr (fun s t => .tup [.str "fun", .str s, t]) t
instance : Inhabited Tr := ⟨.w ""⟩
def rdFun (ts : List Tr) : Option T := if ts.length < 2 then none else match all nmOf ts.dropLast, g ts.getLast! with
  | some ss, some t => some (funT ss t)
  | _, _ => none
def callT (f : T) (as : List T) : T := as.foldl (fun f a => .tup [.str "call", f, a]) f
def rdCall (ts : List Tr) : Option T := if ts.length < 2 then none else match all g ts with
  | some (f :: as) => some (callT f as)
  | _ => none
def pairOf : Tr → Option (Str × T)
  | .n [a, b] => match nmOf a, g b with
    | some s, some t => some (s, t)
    | _, _ => none
  | _ => none
def rdLet (ts : List Tr) : Option T := if ts.length < 2 ∨ ts.length > 6 then none else match all (pairOf g) ts.dropLast, g ts.getLast! with
  | some ps, some b => if (ps.map (·.1)).Nodup then some (.tup [.str "let", .tup (ps.map fun p => .tup [.str p.1, p.2]), b]) else none
  | _, _ => none
def altOf : Tr → Option (Str × List Str × T)
  | .n (.w s :: r) => if r = [] then none else match all nmOf r.dropLast, g r.getLast! with
    | some ns, some b => if ns.Nodup ∧ shp.lookup s = some (ns.length : Int) then some (s, ns, b) else none
    | _, _ => none
  | _ => none
def rdChoose : List Tr → Option T
  | [] => none
  | t :: as => match g t, all (altOf g) as with
    | some x, some bs => if bs.map (·.1) ∈ fams then some (.tup [.str "choose", x, .tup (bs.map fun b => .tup [.str b.1, .tup (b.2.1.map T.str), b.2.2])]) else none
    | _, _ => none
def stepOf : Tr → Option T
  | .n [.w s, t] => if s = "when" then (g t).map fun x => .tup [.str s, x] else none
  | .n [.w s, a, t] => if s = "in" ∨ s = "be" then (match nmOf a, g t with
    | some y, some x => some (.tup [.str s, .str y, x])
    | _, _ => none) else none
  | _ => none
def rdRows : List Tr → Option T
  | [] => none
  | t :: ss => match g t, all (stepOf g) ss with
    | some x, some ys => some (.tup [.str "rows", x, .tup ys])
    | _, _ => none
def rdL : List Tr → Option T
  | [] => none
  | .n us :: r => rdCall g (.n us :: r)
  | .w x :: r =>
    if x ∈ ops then (two g r).map fun p => .tup [.str "does", .str x, p.1, p.2]
    else if x = "fun" then rdFun g r
    else if x = "let" then rdLet g r
    else if x = "choose" then rdChoose g r
    else if x = "first" then (two g r).map fun p => .tup [.str "first", p.1, p.2]
    else if x = "stop" then (match r with | [t] => (nmOf t).map fun s => .tup [.str "stop", .str s] | _ => none)
    else if x = "rows" then rdRows g r
    else if x = "Cons" ∨ x = "Pair" then (two g r).map fun p => .tup [.str "shape", .str x, .tup [p.1, p.2]]
    else rdCall g (.w x :: r)
end
/-- at most n levels -/
def rd : Nat → Tr → Option T
  | _, .w x => rdWord x
  | 0, .n _ => none
  | n + 1, .n ts => rdL (rd n) ts
end Rd
set_option Elab.async false
set_option linter.all false
set_option maxRecDepth 100000
set_option maxHeartbeats 4000000
/-! a text of two signs replaced, sign by sign -/
namespace WL
open PySem PySem.Builtin PySem.Builtin.Str PySem.StrLaws
section
variable {x y : Str} {a b : Nat}
theorem glue_cons {z p : Str} {q : Str} {r : List Str} : (glued z (p :: q :: r)).cps.toList = p.cps.toList ++ z.cps.toList ++ (glued z (q :: r)).cps.toList := by
  rw [glued_eq_join, glued_eq_join]
  show (p ++ z ++ Str.join z (q :: r)).cps.toList = _
  rw [Str.cps_append, Str.cps_append]; simp
end
end WL
set_option Elab.async false
set_option linter.all false
set_option maxRecDepth 100000
set_option maxHeartbeats 4000000
/-! words laid together -/
namespace WL
open PySem PySem.Builtin PySem.Builtin.Str PySem.StrLaws
def okc (c : Nat) : Bool := c != 32 && c != 40 && c != 41
/-- a word: a bracket, or signs that are neither blanks nor brackets -/
def gw (w : Str) : Bool := w == "(" || w == ")" || (decide (1 ≤ w.length) && decide (w.length ≤ 20) && w.cps.toList.all okc)
def J : List Str → List Nat
  | [] => []
  | [w] => w.cps.toList
  | w :: v :: r => w.cps.toList ++ 32 :: J (v :: r)
theorem join_J : ∀ ws : List Str, (Txt.join (" " : Str) ws).cps.toList = J ws := by
  intro ws
  show (glued (" " : Str) ws).cps.toList = J ws
  rw [glued_eq_join]
  induction ws with
  | nil => rfl
  | cons w r ih =>
    cases r with
    | nil => rfl
    | cons v r =>
      show (w ++ (" " : Str) ++ Str.join (" " : Str) (v :: r)).cps.toList = _
      rw [Str.cps_append, Str.cps_append]
      simp only [Array.toList_append, List.append_assoc]
      rw [ih]; rfl
theorem str_ext {a b : Str} (h : a.cps.toList = b.cps.toList) : a = b := Str.ext' (Array.toList_inj.mp h)
end WL
set_option Elab.async false
set_option linter.all false
set_option maxRecDepth 100000
set_option maxHeartbeats 4000000
/-! a text of one sign replaced; a text split at a sign -/
namespace WL
open PySem PySem.Builtin PySem.Builtin.Str PySem.StrLaws
def rep1 (a : Nat) (z : List Nat) (l : List Nat) : List Nat := l.flatMap fun c => if c = a then z else [c]
def occ1 (a : Nat) : Nat → List Nat → List Nat
  | i, c :: r => if c = a then i :: occ1 a (i + 1) r else occ1 a (i + 1) r
  | _, [] => []
def spl (a : Nat) : List Nat → List (List Nat)
  | [] => [[]]
  | c :: r => if c = a then [] :: spl a r else match spl a r with
    | p :: ps => (c :: p) :: ps
    | [] => [[c]]
theorem spl_ne (a : Nat) : ∀ l, ∃ p ps, spl a l = p :: ps
  | [] => ⟨_, _, rfl⟩
  | c :: r => by
    unfold spl
    split
    · exact ⟨_, _, rfl⟩
    · obtain ⟨p, ps, e⟩ := spl_ne a r
      rw [e]; exact ⟨_, _, rfl⟩
section
variable {x y : Str} {a : Nat}
theorem sub_at1 {i : Nat} (hy : y.cps.toList = [a]) : subAt x y i = true ↔ ∃ r, x.cps.toList.drop i = a :: r := by
  have h2 : y.length = 1 := by show y.cps.size = 1; rw [← Array.length_toList, hy]; rfl
  rw [subAt_eq, hy, h2, beq_iff_eq]
  match x.cps.toList.drop i with
  | [] => simp
  | u :: r => simp
theorem occ_run1 (hy : y.cps.toList = [a]) : ∀ (m i : Nat) (acc : Array Nat) (free : Nat), x.length + 1 - i = m → i ≤ x.length + 1 → free ≤ i → acc.size ≤ i →
    (forIn (List.range' i (x.length + 1 - i)) (acc, free) (occBody x y x.length (x.length + 1))).run.fst.toList = acc.toList ++ occ1 a i (x.cps.toList.drop i) := by
  have h2 : y.length = 1 := by show y.cps.size = 1; rw [← Array.length_toList, hy]; rfl
  have hL : x.cps.toList.length = x.length := by simp [Str.length]
  intro m
  induction m with
  | zero =>
    intro i acc free hm hi hf ha
    rw [hm]
    have : x.cps.toList.drop i = [] := List.drop_eq_nil_of_le (by omega)
    rw [this]
    simp [occ1]
  | succ k ih =>
    intro i acc free hm hi hf ha
    rw [hm, List.range'_succ, List.forIn_cons]
    have hk' : x.length + 1 - (i + 1) = k := by omega
    by_cases hs : subAt x y i = true
    · obtain ⟨r, hr⟩ := (sub_at1 hy).mp hs
      have hlen : i + 1 ≤ x.length := by
        have := congrArg List.length hr
        rw [List.length_drop, hL, List.length_cons] at this
        omega
      have hb : occBody x y x.length (x.length + 1) i (acc, free) = pure (ForInStep.yield (acc.push i, i + 1)) := by
        unfold occBody
        rw [if_pos ⟨⟨⟨by show acc.size < _; omega, hf⟩, by rw [h2]; omega⟩, hs⟩, h2]
      rw [hb]
      show (forIn (List.range' (i + 1) k) (acc.push i, i + 1) (occBody x y x.length (x.length + 1))).run.fst.toList = _
      have e := ih (i + 1) (acc.push i) (i + 1) (by omega) (by omega) (Nat.le_refl _) (by simp; omega)
      rw [hk'] at e
      rw [e, hr]
      have hd : x.cps.toList.drop (i + 1) = r := by
        rw [← List.drop_drop, hr]; rfl
      rw [hd]
      simp [occ1]
    · have hb : occBody x y x.length (x.length + 1) i (acc, free) = pure (ForInStep.yield (acc, free)) := by
        unfold occBody
        rw [if_neg (fun h => hs h.2)]
      rw [hb]
      show (forIn (List.range' (i + 1) k) (acc, free) (occBody x y x.length (x.length + 1))).run.fst.toList = _
      have e := ih (i + 1) acc free (by omega) (by omega) (by omega) (by omega)
      rw [hk'] at e
      rw [e]
      have hn : ¬ ∃ r, x.cps.toList.drop i = a :: r := fun h => hs ((sub_at1 hy).mpr h)
      have hd : x.cps.toList.drop (i + 1) = (x.cps.toList.drop i).drop 1 := by rw [List.drop_drop]
      rw [hd]
      match hx : x.cps.toList.drop i with
      | [] => simp [occ1]
      | u :: r =>
        have : ¬ (u = a) := fun h1 => hn ⟨r, by rw [hx, h1]⟩
        show _ = acc.toList ++ (if u = a then _ else _)
        rw [if_neg this]; rfl
theorem occ_all1 (hy : y.cps.toList = [a]) : occurrences x y 0 x.length (x.length + 1) = occ1 a 0 x.cps.toList := by
  rw [occ_eq]
  have := occ_run1 (x := x) hy (x.length + 1) 0 #[] 0 rfl (Nat.zero_le _) (Nat.le_refl _) (Nat.le_refl _)
  simpa using this
/-- the parts between, as lists -/
theorem parts_spl : ∀ (m i lo : Nat), x.length - i = m → lo ≤ i → i ≤ x.length → ∀ p ps, spl a (x.cps.toList.drop i) = p :: ps →
    (partsFrom x 1 lo (occ1 a i (x.cps.toList.drop i))).map (fun z => z.cps.toList) = ((x.cps.toList.drop lo).take (i - lo) ++ p) :: ps := by
  have hL : x.cps.toList.length = x.length := by simp [Str.length]
  intro m
  induction m with
  | zero =>
    intro i lo hm hlo hi p ps hs
    have hx : x.cps.toList.drop i = [] := List.drop_eq_nil_of_le (by omega)
    rw [hx] at hs ⊢
    cases hs
    show [(strSub x lo x.length).cps.toList] = _
    rw [strSub_toList, List.append_nil, show i - lo = x.length - lo by omega]
  | succ k ih =>
    intro i lo hm hlo hi p ps hs
    match hx : x.cps.toList.drop i with
    | [] =>
      have := congrArg List.length hx
      rw [List.length_drop, hL, List.length_nil] at this
      omega
    | u :: r =>
      rw [hx] at hs
      have hd1 : x.cps.toList.drop (i + 1) = r := by rw [← List.drop_drop, hx]; rfl
      by_cases c : u = a
      · have e1 : occ1 a i (u :: r) = i :: occ1 a (i + 1) r := by simp [occ1, c]
        have e2 : spl a (u :: r) = [] :: spl a r := by simp [spl, c]
        rw [e2] at hs
        cases hs
        obtain ⟨p', ps', e'⟩ := spl_ne a r
        have e3 := ih (i + 1) (i + 1) (by omega) (Nat.le_refl _) (by omega) p' ps' (by rw [hd1]; exact e')
        rw [hd1] at e3
        rw [e1]
        show (strSub x lo i).cps.toList :: (partsFrom x 1 (i + 1) (occ1 a (i + 1) r)).map _ = _
        rw [e3, strSub_toList, e']
        simp
      · have e1 : occ1 a i (u :: r) = occ1 a (i + 1) r := by simp [occ1, c]
        obtain ⟨p', ps', e'⟩ := spl_ne a r
        have e2 : spl a (u :: r) = (u :: p') :: ps' := by simp [spl, c, e']
        rw [e2] at hs
        cases hs
        have e3 := ih (i + 1) lo (by omega) (by omega) (by omega) p' _ (by rw [hd1]; exact e')
        rw [hd1] at e3
        rw [e1, e3]
        have : (x.cps.toList.drop lo).take (i + 1 - lo) = (x.cps.toList.drop lo).take (i - lo) ++ [u] := by
          rw [show i + 1 - lo = (i - lo) + 1 by omega, List.take_add_one, List.getElem?_drop, show lo + (i - lo) = i by omega]
          have hu : x.cps.toList[i]? = some u := by
            have := congrArg (·[0]?) hx
            simpa using this
          rw [hu]; rfl
        rw [this]; simp
/-- parts laid together again -/
def gl (z : List Nat) : List (List Nat) → List Nat
  | [] => []
  | [p] => p
  | p :: q :: r => p ++ z ++ gl z (q :: r)
theorem gl_glued {z : Str} : ∀ ps : List Str, (glued z ps).cps.toList = gl z.cps.toList (ps.map fun p => p.cps.toList)
  | [] => by rw [glued_eq_join]; rfl
  | [p] => by rw [glued_eq_join]; rfl
  | p :: q :: r => by rw [glue_cons, gl_glued (q :: r)]; rfl
theorem gl_spl {z : List Nat} : ∀ l, gl z (spl a l) = rep1 a z l
  | [] => rfl
  | c :: r => by
    obtain ⟨p, ps, e⟩ := spl_ne a r
    have ih := gl_spl (z := z) r
    by_cases h : c = a
    · have e2 : spl a (c :: r) = [] :: p :: ps := by simp [spl, h, e]
      rw [e2]
      show [] ++ z ++ gl z (p :: ps) = _
      rw [← e, ih]
      simp [rep1, h]
    · have e2 : spl a (c :: r) = (c :: p) :: ps := by simp [spl, h, e]
      rw [e2]
      rw [e] at ih
      have : rep1 a z (c :: r) = c :: rep1 a z r := by simp [rep1, h]
      rw [this, ← ih]
      cases ps with
      | nil => rfl
      | cons q r => rfl
theorem occ1_nil : ∀ {i : Nat} {l : List Nat}, occ1 a i l = [] → ∀ c ∈ l, c ≠ a
  | _, [], _ => fun c hc => by cases hc
  | i, c :: r, h => by
    by_cases e : c = a
    · simp [occ1, e] at h
    · have h' : occ1 a (i + 1) r = [] := by simpa [occ1, e] using h
      intro d hd
      rcases List.mem_cons.mp hd with rfl | hd
      · exact e
      · exact occ1_nil h' d hd
theorem spl_none : ∀ {l : List Nat}, (∀ c ∈ l, c ≠ a) → spl a l = [l]
  | [], _ => rfl
  | c :: r, h => by
    have e := spl_none (l := r) fun d hd => h d (by simp [hd])
    simp [spl, h c (by simp), e]
theorem rep1_none {z : List Nat} : ∀ {l : List Nat}, (∀ c ∈ l, c ≠ a) → rep1 a z l = l := fun {l} h => by
  rw [← gl_spl, spl_none h]; rfl
theorem parts_all : (partsFrom x 1 0 (occ1 a 0 x.cps.toList)).map (fun z => z.cps.toList) = spl a x.cps.toList := by
  obtain ⟨p, ps, e⟩ := spl_ne a x.cps.toList
  have := parts_spl (x := x) (a := a) x.length 0 0 rfl (Nat.le_refl _) (Nat.zero_le _) p ps (by simpa using e)
  simp only [List.drop_zero, Nat.sub_self, List.take_zero, List.nil_append] at this
  rw [this, e]
theorem replace_rep1 {z : Str} (hy : y.cps.toList = [a]) : (Txt.replace x y z).cps.toList = rep1 a z.cps.toList x.cps.toList := by
  have h2 : y.length = 1 := by show y.cps.size = 1; rw [← Array.length_toList, hy]; rfl
  unfold Txt.replace
  rw [occ_all1 hy]
  have h20 : (y.length == 0 && z.length == 0) = false := by rw [h2]; rfl
  rw [h20, Bool.or_false]
  split
  · rename_i h
    exact (rep1_none (occ1_nil (List.isEmpty_iff.mp h))).symm
  · rw [partsBetween_eq, h2, gl_glued, parts_all, gl_spl]
/-- split at a sign: none of greater width -/
theorem split_spl (hy : y.cps.toList = [a]) (hk : ∀ x : Str, ¬ Builtin.Str.strKind x < Builtin.Str.strKind y) : (Txt.split x y).map (fun z => z.cps.toList) = spl a x.cps.toList := by
  have h2 : y.length = 1 := by show y.cps.size = 1; rw [← Array.length_toList, hy]; rfl
  unfold Txt.split
  rw [occ_all1 hy]
  split
  · rename_i h
    rw [Bool.or_eq_true, decide_eq_true_eq, decide_eq_true_eq] at h
    rcases h with h | h
    · have : x.cps.toList = [] := List.eq_nil_of_length_eq_zero (by rw [h2] at h; have e : x.cps.toList.length = x.length := (by simp [Str.length]); omega)
      rw [List.map_singleton, this]; rfl
    · exact absurd h (hk x)
  · split
    · rename_i h
      rw [spl_none (occ1_nil (List.isEmpty_iff.mp h))]; rfl
    · rw [partsBetween_eq, h2]; exact parts_all
end
/-! ### the words of a text -/
/-- what is left of a split behind the empty ones -/
def wds (l : List Nat) : List (List Nat) := (spl 32 l).filter fun p => !p.isEmpty
theorem spl_app : ∀ {l r : List Nat}, spl 32 (l ++ 32 :: r) = spl 32 l ++ spl 32 r
  | [], r => by simp [spl]
  | c :: l, r => by
    have ih := spl_app (l := l) (r := r)
    obtain ⟨p, ps, e⟩ := spl_ne 32 l
    by_cases h : c = 32
    · simp [spl, h, ih]
    · have f1 : spl 32 (c :: (l ++ 32 :: r)) = (c :: p) :: (ps ++ spl 32 r) := by
        have : spl 32 (c :: (l ++ 32 :: r)) = match spl 32 (l ++ 32 :: r) with
          | p :: ps => (c :: p) :: ps
          | [] => [[c]] := by
          show (if c = 32 then _ else _) = _
          rw [if_neg h]
        rw [this, ih, e]; rfl
      have f2 : spl 32 (c :: l) = (c :: p) :: ps := by simp [spl, h, e]
      rw [List.cons_append, f1, f2]; rfl
theorem wds_app {l r : List Nat} : wds (l ++ 32 :: r) = wds l ++ wds r := by unfold wds; rw [spl_app, List.filter_append]
theorem wds_nil : wds [] = [] := rfl
theorem wds_sp {r : List Nat} : wds (32 :: r) = wds r := by have := wds_app (l := []) (r := r); simpa [wds_nil] using this
theorem wds_end {l : List Nat} : wds (l ++ [32]) = wds l := by have := wds_app (l := l) (r := []); rw [wds_nil, List.append_nil] at this; exact this
theorem wds_one {w : List Nat} (h0 : w ≠ []) (h : ∀ c ∈ w, c ≠ 32) : wds w = [w] := by
  unfold wds; rw [spl_none h]
  cases w with
  | nil => exact absurd rfl h0
  | cons c r => rfl
theorem wds_blanks : ∀ {b l : List Nat}, (∀ c ∈ b, c = 32) → wds (b ++ l) = wds l
  | [], _, _ => rfl
  | c :: b, l, h => by
    rw [h c (by simp), List.cons_append, wds_sp]
    exact wds_blanks fun d hd => h d (by simp [hd])
/-- behind nothing, or behind a blank -/
def Bk (l : List Nat) : Prop := l = [] ∨ ∃ q, l = q ++ [32]
theorem wds_bk {l r : List Nat} (h : Bk l) : wds (l ++ r) = wds l ++ wds r := by
  rcases h with rfl | ⟨q, rfl⟩
  · simp [wds_nil]
  · rw [List.append_assoc, List.singleton_append, wds_app, wds_end]
end WL
set_option Elab.async false
set_option linter.all false
set_option maxRecDepth 100000
set_option maxHeartbeats 4000000
namespace K19
open PySem PySem.Spec PyProof.Rows L2 WL
local macro_rules | `(tactic| walk_at "ws") => `(tactic| try simp (config := { decide := true }) only [eVar, eC, eBin, eUn, aNil, aCons, eTup, eLst, eCall, eBi, eMt, eIf, eAnd, eOr, eNot, tTru, tBl, tAn, tOr', tNo, eChain, wAdd, wSub, wMul, wDiv, wMod, wPow, wNeg, wLt, wLe, wGt, wGe, wIsN, wNotN, wIdx, oNo, oSome, wSl, eSl, bLen, bMax, bMin, bTuple, bList, eIsi, tyN, gNm, gsNil, gsCons, gTp, gSb, sPass, sSeq, sExpr, sRet, sRetN, sIf, sAsg, sBrk, sCont, sNever, sFor, iSeq, iR1, iR2, iEn, capW, tYes, eComp, tyL', tyS, mAppend, mPop, mPopAt, wEq, wNe, wIn, wNotIn, wEq_str, wEq_int, erase0, atI_0, atI_1, atI_2, atI_3, atI_4, atI_m1, atI_m2, atI_m3, atI_m4, wEq_bl,
  List.map_cons, List.map_nil, List.length_cons, List.length_nil, List.replicate, List.cons_append, List.nil_append, List.getElem?_cons_zero, List.getElem?_cons_succ, List.set_cons_zero, List.set_cons_succ, Option.some.injEq, T.int.injEq, T.str.injEq, T.bl.injEq, T.ref.injEq, T.tup.injEq, T.cl.injEq, exists_eq_left', exists_eq_left, exists_eq', exists_and_left, and_assoc, List.cons.injEq, and_true, true_and, reduceCtorEq, false_and, exists_false, List.append_nil, if_true, if_false, Bool.not_not, decide_eq_true_eq, Bool.not_eq_true', decide_eq_false_iff_not, Bool.false_eq_true, List.nil_eq, Option.bind_none, Option.bind_some, Option.join_some, Nat.reduceAdd, Nat.reduceSub, Nat.sub_self, Nat.zero_add, Nat.sub_zero, beq_iff_eq, Bool.not_false, Bool.not_true])
/-! walking by terms -/
section
variable {C : Hw} {Q : WK} {χ : WX} {τ : Sw}
theorem ite_t {p q : Prop} (h : p) : if true = true then p else q := h
theorem ite_f {p q : Prop} (h : q) : if false = true then p else q := h
theorem ite_p {p q : Prop} {b : Bool} (hb : b = true) (h : p) : if b = true then p else q := by rw [if_pos hb]; exact h
theorem ite_n {p q : Prop} {b : Bool} (hb : b = false) (h : q) : if b = true then p else q := by subst hb; exact h
theorem eqS {a b : Str} {v : Bool} (h : (a == b) = v) (q : Q (.bl v) C) : wEqG false (.str a) (.str b) C Q := by rw [wEq_str, if_neg (by decide), h]; exact q
theorem eqI {a b : Int} {v : Bool} (h : (a == b) = v) (q : Q (.bl v) C) : wEqG false (.int a) (.int b) C Q := by rw [wEq_int, if_neg (by decide), h]; exact q
theorem neS {a b : Str} {v : Bool} (h : (a == b) = v) (q : Q (.bl (!v)) C) : wEqG true (.str a) (.str b) C Q := by rw [wEq_str, if_pos rfl, h]; exact q
theorem neI {a b : Int} {v : Bool} (h : (a == b) = v) (q : Q (.bl (!v)) C) : wEqG true (.int a) (.int b) C Q := by rw [wEq_int, if_pos rfl, h]; exact q
theorem eqSc {a b : Str} {v : Bool} (h : (a == b) = v) (q : Q (.bl v) C) : eC (.str b) τ C (fun y C2 => wEq (.str a) y C2 Q) χ := eqS h q
theorem eqIc {a b : Int} {v : Bool} (h : (a == b) = v) (q : Q (.bl v) C) : eC (.int b) τ C (fun y C2 => wEq (.int a) y C2 Q) χ := eqI h q
theorem neSc {a b : Str} {v : Bool} (h : (a == b) = v) (q : Q (.bl (!v)) C) : eC (.str b) τ C (fun y C2 => wNe (.str a) y C2 Q) χ := neS h q
theorem neIc {a b : Int} {v : Bool} (h : (a == b) = v) (q : Q (.bl (!v)) C) : eC (.int b) τ C (fun y C2 => wNe (.int a) y C2 Q) χ := neI h q
theorem call_if {P : Calls} {i k : Nat} {v : T} {A B : WS} {D : We} (h : τ[k]? = some (some v)) (q : P i [v] C (fun x C1 => ∃ b, tru x C1 b ∧ if b = true then A { D with nx := B D } τ C1 else B D τ C1) D.xc) : sSeq (sIf (tTru (eCall P i (aCons (eVar k) aNil))) A sPass) B D τ C := ⟨v, h, q⟩
end
/-! tests by a word or a number, one after another: what is not taken is not walked -/
section
variable {A B : WS} {D : We} {τ : Sw} {C : Hw} {i k : Nat} {v : T} {r : List T} {s s' w : Str} {x y : Int}
end
/-! ### what the program's own defs give -/
def rowsSc : List T → List (T × List T × T) → List (List T × T)
  | _, [] => []
  | b, z :: r => (b, z.2.2) :: rowsSc (b ++ z.2.1) r
def mids : List (T × List T × T) → List T
  | [] => []
  | z :: r => z.2.1 ++ mids r
def sorts : List Str := ["does", "call", "first", "fun", "let", "shape", "choose", "rows"]
/-- a term's own tuple: the names bound in each part, and the part; how many steps it has, where it is rows -/
inductive Sc : T → Option Nat → List (List T × T) → Prop
  | does {o A B : T} : Sc (.tup [.str "does", o, A, B]) none [([], A), ([], B)]
  | call {A B : T} : Sc (.tup [.str "call", A, B]) none [([], A), ([], B)]
  | first {A B : T} : Sc (.tup [.str "first", A, B]) none [([], A), ([], B)]
  | fun_ {x B : T} : Sc (.tup [.str "fun", x, B]) none [([x], B)]
  | let_ {B : T} {xs : List (T × T)} (h : xs.length ≤ 1000) : Sc (.tup [.str "let", .tup (xs.map fun x => .tup [x.1, x.2]), B]) none (xs.map (fun x => (xs.map (·.1), x.2)) ++ [(xs.map (·.1), B)])
  | shape {c : T} {ps : List T} (h : ps.length ≤ 1000) : Sc (.tup [.str "shape", c, .tup ps]) none (ps.map fun x => ([], x))
  | choose {E : T} {ys : List (T × List T × T)} (h : ys.length ≤ 1000) : Sc (.tup [.str "choose", E, .tup (ys.map fun y => .tup [y.1, .tup y.2.1, y.2.2])]) none (([], E) :: ys.map (·.2))
  | rows {E : T} {zs : List (T × List T × T)} (h : zs.length ≤ 1000) (hm : ∀ z ∈ zs, z.2.1.length ≤ 1) : Sc (.tup [.str "rows", E, .tup (zs.map fun z => .tup (z.1 :: (z.2.1 ++ [z.2.2])))]) (some zs.length) ((mids zs, E) :: rowsSc [] zs)
  | other {w : Str} {rest : List T} (h : w ∉ sorts) : Sc (.tup (.str w :: rest)) none []
section
variable {C : Hw} {Q : WK} {χ : WX} {n : Nat}
theorem s_draws {ns : List Int} {m : Nat} (h63 : ns.length ≤ 63) (hm : m ≤ 100) (q : ∀ p (ds : List Int), C p = none → ds.length = m → (∀ d ∈ ds, 0 ≤ d) → Q (.ref p) (up C p (.lst (ds.map T.int)))) :
    wpc pr (n + 1) i__law_draws [.cl (ns.map T.int), .int m] C Q χ := by
  refine u__law_draws rfl ?_
  unfold w__law_draws D__law_draws
  walk_at "ws"
  intro p hp
  refine ⟨by omega, by omega, ?_⟩
  refine for_rng (fun i τ C' => ∃ x3 x4, ∃ ds : List Int, τ = [some (.cl (ns.map T.int)), some (.int m), some (.ref p), x3, x4] ∧ C' = up C p (.lst (ds.map T.int)) ∧ ds.length = i ∧ ∀ d ∈ ds, 0 ≤ d) ⟨none, none, [], rfl, rfl, rfl, by simp⟩ (fun _ => trivial) ?_ ?_
  · rintro i τ C' N hi ⟨x3, x4, ds, rfl, rfl, hd, hn⟩ hN
    walk_at "ws"
    have hlen : ((ns.map T.int).length : Int) = (ns.length : Int) := by rw [List.length_map]
    have hdv : (0 : Int) ≤ (0 + (i : Int)) / (if ((ns.map T.int).length : Int) > 1 then ((ns.map T.int).length : Int) else 1) := Int.ediv_nonneg (by omega) (by split <;> omega)
    have app : ∀ v : Int, 0 ≤ v → ∀ x3 x4, N [some (.cl (ns.map T.int)), some (.int m), some (.ref p), x3, x4] (up (up C p (.lst (ds.map T.int))) p (.lst (ds.map T.int ++ [.int v]))) := fun v hv x3 x4 => by
      refine hN _ _ ⟨x3, x4, ds ++ [v], rfl, ?_, by rw [List.length_append, hd]; rfl, ?_⟩
      · rw [up_up, List.map_append]; rfl
      · intro x hx
        rcases List.mem_append.mp hx with hx | hx
        · exact hn x hx
        · rw [List.mem_singleton.mp hx]; exact hv
    refine ite2 (fun c => ?_) fun c => ?_
    · obtain ⟨d, h1, h2⟩ := atT_ints (ds := ns) (i := (0 + (i : Int)) % ((ns.map T.int).length : Int)) (Int.emod_nonneg _ (by omega)) (by rw [hlen]; exact Int.emod_lt_of_pos _ (by omega))
      refine ⟨c, _, h1, ⟨by decide, by decide, by decide⟩, by decide, ⟨_, up_same⟩, ⟨by split <;> omega, by split <;> omega⟩, .inl ⟨by decide, by decide⟩, _, up_same, small63' (by rw [List.length_map]; omega), app _ ?_ _ _⟩
      have := Int.emod_nonneg d (b := 10 ^ Int.toNat 18) (by decide)
      generalize d % 10 ^ Int.toNat 18 = u at this ⊢
      generalize (0 + (i : Int)) / (if ((ns.map T.int).length : Int) > 1 then ((ns.map T.int).length : Int) else 1) = t at hdv ⊢
      omega
    · refine ⟨⟨_, up_same⟩, ⟨by split <;> omega, by split <;> omega⟩, .inl ⟨by decide, by decide⟩, _, up_same, small63' (by rw [List.length_map]; omega), app _ ?_ _ _⟩
      generalize (0 + (i : Int)) / (if ((ns.map T.int).length : Int) > 1 then ((ns.map T.int).length : Int) else 1) = t at hdv ⊢
      omega
  · rintro τ C' ⟨x3, x4, ds, rfl, rfl, hd, hn⟩
    walk_at "ws"
    exact q p ds hp hd hn
end
set_option Elab.async false
set_option linter.all false
set_option maxRecDepth 100000
set_option maxHeartbeats 400000
open PySem PySem.Spec PyProof.Rows L2 WL Rd
mutual
/-- the value v is the tree, in the heap -/
def TrH (C : Hw) (v : T) : Tr → Prop
  | .w x => v = .str x
  | .n ts => ∃ a vs, v = .ref a ∧ C a = some (.lst vs) ∧ TrHs C vs ts
def TrHs (C : Hw) (vs : List T) : List Tr → Prop
  | [] => vs = []
  | t :: ts => ∃ v r, vs = v :: r ∧ TrH C v t ∧ TrHs C r ts
end
mutual
theorem TrH.ex {C C' : Hw} (h : Ex C C') {v : T} : ∀ {t : Tr}, TrH C v t → TrH C' v t
  | .w x, q => by unfold TrH at q ⊢; exact q
  | .n ts, q => by
    unfold TrH at q ⊢
    obtain ⟨a, vs, e, ha, q⟩ := q
    exact ⟨a, vs, e, h _ _ ha, TrHs.ex h q⟩
theorem TrHs.ex {C C' : Hw} (h : Ex C C') {vs : List T} : ∀ {ts : List Tr}, TrHs C vs ts → TrHs C' vs ts
  | [], q => by unfold TrHs at q ⊢; exact q
  | t :: ts, q => by
    unfold TrHs at q ⊢
    obtain ⟨v, r, e, q1, q2⟩ := q
    exact ⟨v, r, e, TrH.ex h q1, TrHs.ex h q2⟩
end
section
variable {C : Hw}
theorem of_w {x : Str} {v : T} (h : TrH C v (.w x)) : v = .str x := by unfold TrH at h; exact h
theorem of_n {ts : List Tr} {v : T} (h : TrH C v (.n ts)) : ∃ a vs, v = .ref a ∧ C a = some (.lst vs) ∧ TrHs C vs ts := by unfold TrH at h; exact h
theorem trs_nil : TrHs C [] [] := by unfold TrHs; rfl
theorem trs_cons {v : T} {vs : List T} {t : Tr} {ts : List Tr} (h : TrH C v t) (hs : TrHs C vs ts) : TrHs C (v :: vs) (t :: ts) := by unfold TrHs; exact ⟨v, vs, rfl, h, hs⟩
theorem of_tnil {vs : List T} (h : TrHs C vs []) : vs = [] := by unfold TrHs at h; exact h
theorem of_tcons {vs : List T} {t : Tr} {ts : List Tr} (h : TrHs C vs (t :: ts)) : ∃ v r, vs = v :: r ∧ TrH C v t ∧ TrHs C r ts := by unfold TrHs at h; exact h
theorem TrHs.length : ∀ {ts : List Tr} {vs : List T}, TrHs C vs ts → vs.length = ts.length
  | [], _, h => by rw [of_tnil h]; rfl
  | _ :: _, _, h => by obtain ⟨v, r, rfl, _, q⟩ := of_tcons h; rw [List.length_cons, List.length_cons, q.length]
theorem of_tapp : ∀ {ts us : List Tr} {vs : List T}, TrHs C vs (ts ++ us) → ∃ xs ys, vs = xs ++ ys ∧ TrHs C xs ts ∧ TrHs C ys us
  | [], us, vs, h => ⟨[], vs, rfl, trs_nil, h⟩
  | t :: ts, us, vs, h => by
    obtain ⟨v, r, rfl, a, b⟩ := of_tcons h
    obtain ⟨xs, ys, rfl, c, d⟩ := of_tapp b
    exact ⟨v :: xs, ys, rfl, trs_cons a c, d⟩
end
theorem cps_len (x : Str) : x.cps.toList.length = x.length := by simp [Str.length]
/-- a word that may be told of: not too long -/
def Wk (x : Str) : Prop := x.length ≤ 500 ∧ (reprText x).length ≤ 900 ∧ (isNo x = true → ∃ v, intText? x = some v)
section
variable {C : Hw} {Q : WK} {χ : WX} {n : Nat} {W : Nat → Calls} {r : Prop}
theorem isInC {b : Bool} {j : Str} {c : Nat} {τ : Sw} (h : occ j c = b) (q : Q (.bl b) C) : eC (.str j) τ C (fun y C2 => wIn (.str ⟨#[c]⟩) y C2 Q) χ := by
  show wInG false (.str ⟨#[c]⟩) (.str j) C Q
  subst h; exact q
theorem notInC {b : Bool} {j : Str} {c : Nat} {τ : Sw} (h : occ j c = b) (q : Q (.bl (!b)) C) : eC (.str j) τ C (fun y C2 => wNotIn (.str ⟨#[c]⟩) y C2 Q) χ := by
  show wInG true (.str ⟨#[c]⟩) (.str j) C Q
  subst h; exact q
theorem isInT {b : Bool} {z : Str} {zs : List Str} {τ : Sw} (h : decide (z ∈ zs) = b) (q : Q (.bl b) C) : eC (.tup (zs.map T.str)) τ C (fun y C2 => wIn (.str z) y C2 Q) χ := by
  show wInG false (.str z) (.tup (zs.map T.str)) C Q
  subst h; exact ⟨flat_str, flats_strs, by rw [inL_strs]; exact q⟩
theorem all_map {l : List Nat} {f : Nat → Bool} : (l.map f).all id = l.all f := by simp [List.all_map]
theorem s_is_name {x : Str} (R : Rp W r) (hx : x.length ≤ 1000) (q : ∀ C', Ex C C' → Q (.bl (isNm x)) C') : W (n + 1) i_is_name [.str x] C Q χ := by
  have hz : x.length ≤ sizeLine := Nat.le_of_lt (small1000 hx)
  refine R.o_is_name rfl ?_
  cases e : x.cps.toList with
  | nil =>
    have hl : x.length = 0 := by rw [← cps_len, e]; rfl
    have k1 : ((x.length : Int) < 1) := by omega
    have : isNm x = false := by unfold isNm; rw [e]
    refine ⟨_, rfl, _, rfl, hz, _, rfl, ite_p (decide_eq_true k1) ?_⟩
    exact this ▸ q C (Ex.refl C)
  | cons c l =>
    have hl : x.length = l.length + 1 := by rw [← cps_len, e, List.length_cons]
    have k1 : ¬ ((x.length : Int) < 1) := by omega
    have em : isNm x = (decide (x.length ≤ 8) && occ "abcdefghijklmnopqrstuvwxyz" c && decide (x ∉ nine) && x.cps.toList.all fun d => occ "abcdefghijklmnopqrstuvwxyz" d || occ "0123456789" d) := by
      conv => lhs; unfold isNm
      rw [e]
    refine ⟨_, rfl, _, rfl, hz, _, rfl, ite_n (decide_eq_false k1) ⟨_, rfl, _, rfl, hz, _, rfl, ?_⟩⟩
    by_cases k2 : (x.length : Int) > 8
    · have : isNm x = false := by rw [em, decide_eq_false (by omega)]; rfl
      exact ite_p (decide_eq_true k2) (this ▸ q C (Ex.refl C))
    · refine ite_n (decide_eq_false k2) ?_
      have k3 : x.length ≤ 8 := by omega
      refine ⟨_, rfl, hz, c, by rw [e]; exact atI_0, notInC (j := "abcdefghijklmnopqrstuvwxyz") rfl ⟨_, rfl, ?_⟩⟩
      by_cases hc : occ "abcdefghijklmnopqrstuvwxyz" c = true
      · refine ite_n (by rw [hc]; rfl) ⟨_, rfl, isInT (zs := nine) rfl ⟨_, rfl, ?_⟩⟩
        by_cases h9 : x ∈ nine
        · have : isNm x = false := by rw [em, decide_eq_false (show ¬ x ∉ nine from fun z => z h9)]; simp
          exact ite_p (decide_eq_true h9) (this ▸ q C (Ex.refl C))
        · refine ite_n (decide_eq_false h9) ?_
          have ea : isNm x = x.cps.toList.all fun d => occ "abcdefghijklmnopqrstuvwxyz" d || occ "0123456789" d := by rw [em, hc, decide_eq_true k3, decide_eq_true h9]; rfl
          refine ⟨_, rfl, comp_pure (fun v => match v with | .str z => .bl (occ "abcdefghijklmnopqrstuvwxyz" (z.cps.getD 0 0) || occ "0123456789" (z.cps.getD 0 0)) | _ => .non) trivial (by rw [List.length_map, cps_len]; exact hz) (fun y hy R hR => ?_) fun p hp => ?_⟩
          · obtain ⟨d, hd, rfl⟩ := List.mem_map.mp hy
            refine ⟨_, rfl, isInC (j := "abcdefghijklmnopqrstuvwxyz") rfl ⟨_, rfl, ?_⟩⟩
            by_cases hd1 : occ "abcdefghijklmnopqrstuvwxyz" d = true
            · refine ite_p hd1 ?_
              have : (T.bl true) = .bl (occ "abcdefghijklmnopqrstuvwxyz" d || occ "0123456789" d) := by rw [hd1]; rfl
              exact this ▸ hR
            · refine ite_n (Bool.eq_false_iff.mpr hd1) ⟨_, rfl, isInC (j := "0123456789") rfl ?_⟩
              have : (T.bl (occ "0123456789" d)) = .bl (occ "abcdefghijklmnopqrstuvwxyz" d || occ "0123456789" d) := by rw [Bool.eq_false_iff.mpr hd1]; rfl
              exact this ▸ hR
          · refine ⟨p, x.cps.toList.map fun d => occ "abcdefghijklmnopqrstuvwxyz" d || occ "0123456789" d, rfl, by rw [up_same, List.map_map, List.map_map]; rfl, ?_⟩
            rw [all_map, ← ea]
            exact q _ (Ex.new hp)
      · have : isNm x = false := by rw [em, Bool.eq_false_iff.mpr hc]; simp
        exact ite_p (by rw [Bool.eq_false_iff.mpr hc]; rfl) (this ▸ q C (Ex.refl C))
end
set_option Elab.async false
set_option linter.all false
set_option maxRecDepth 100000
set_option maxHeartbeats 400000
open PySem PySem.Spec PyProof.Rows L2 WL Rd
section
variable {C : Hw} {Q : WK} {χ : WX} {n : Nat} {W : Nat → Calls} {r : Prop}
theorem s_is_number {x : Str} (R : Rp W r) (hx : x.length ≤ 1000) (q : ∀ C', Ex C C' → Q (.bl (isNo x)) C') : W (n + 1) i_is_number [.str x] C Q χ := by
  have hz : x.length ≤ sizeLine := Nat.le_of_lt (small1000 hx)
  refine R.o_is_number rfl ?_
  cases e : x.cps.toList with
  | nil =>
    have hl : x.length = 0 := by rw [← cps_len, e]; rfl
    have k1 : ((x.length : Int) < 1) := by omega
    have : isNo x = false := by unfold isNo; rw [e]
    refine ⟨_, rfl, _, rfl, hz, _, rfl, ite_p (decide_eq_true k1) ?_⟩
    exact this ▸ q C (Ex.refl C)
  | cons c l =>
    have hl : x.length = l.length + 1 := by rw [← cps_len, e, List.length_cons]
    have k1 : ¬ ((x.length : Int) < 1) := by omega
    have em : isNo x = (decide (x.length ≤ 18) && (!((⟨#[c]⟩ : Str) == "0") || x == "0") && x.cps.toList.all fun d => occ "0123456789" d) := by
      conv => lhs; unfold isNo
      rw [e]
    refine ⟨_, rfl, _, rfl, hz, _, rfl, ite_n (decide_eq_false k1) ⟨_, rfl, _, rfl, hz, _, rfl, ?_⟩⟩
    by_cases k2 : (x.length : Int) > 18
    · have : isNo x = false := by rw [em, decide_eq_false (by omega)]; rfl
      exact ite_p (decide_eq_true k2) (this ▸ q C (Ex.refl C))
    · refine ite_n (decide_eq_false k2) ?_
      have k3 : x.length ≤ 18 := by omega
      have fin : isNo x = (x.cps.toList.all fun d => occ "0123456789" d) → ∀ {D : We} {τ : Sw}, D.rt = Q → τ = [some (.str x)] → D.xc = χ → sRet (eBi bAll (aCons (eComp [none] (iSeq (eVar 0)) (gNm 0) tYes (eBin wIn (eVar 0) (eC g_FIGURES))) aNil)) D τ C := by
        rintro ea D τ hD rfl hX
        obtain ⟨nx, rt, bk, ct, xc⟩ := D
        cases hD
        cases hX
        refine ⟨_, rfl, comp_pure (fun v => match v with | .str z => .bl (occ "0123456789" (z.cps.getD 0 0)) | _ => .non) trivial (by rw [List.length_map, cps_len]; exact hz) (fun y hy R hR => ?_) fun p hp => ?_⟩
        · obtain ⟨d, hd, rfl⟩ := List.mem_map.mp hy
          exact ⟨_, rfl, isInC (j := "0123456789") rfl hR⟩
        · refine ⟨p, x.cps.toList.map fun d => occ "0123456789" d, rfl, by rw [up_same, List.map_map, List.map_map]; rfl, ?_⟩
          rw [all_map, ← ea]
          exact q _ (Ex.new hp)
      refine ⟨_, rfl, hz, c, by rw [e]; exact atI_0, eqSc rfl ⟨_, rfl, ?_⟩⟩
      by_cases c0 : ((⟨#[c]⟩ : Str) == Str.ofString "0") = true
      · refine ite_p c0 ⟨_, rfl, neSc (v := x == Str.ofString "0") rfl ⟨_, rfl, ?_⟩⟩
        by_cases x0 : (x == Str.ofString "0") = true
        · refine ite_n (by rw [x0]; rfl) (fin ?_ rfl rfl rfl)
          rw [em, decide_eq_true k3, x0]; simp
        · have : isNo x = false := by rw [em, c0, Bool.eq_false_iff.mpr x0]; simp
          exact ite_p (by rw [Bool.eq_false_iff.mpr x0]; rfl) (this ▸ q C (Ex.refl C))
      · refine ite_n (Bool.eq_false_iff.mpr c0) (ite_f (fin ?_ rfl rfl rfl))
        rw [em, decide_eq_true k3, Bool.eq_false_iff.mpr c0]; simp
theorem s_raise {D : We} {τ : Sw} {m : Str} (R : Rp W r) (hr : r) : sRaise (W (n + 1)) 26 (aCons (eC (.str m)) aNil) D τ C := ⟨Nat.le_of_ble_eq_true rfl, R.o_raise hr⟩
theorem s_raise_f {D : We} {τ : Sw} {m x : Str} (R : Rp W r) (hr : r) (hx : (reprText x).length ≤ 900) (hm : m.length ≤ 100) (h0 : τ[0]? = some (some (.str x))) : sRaise (W (n + 1)) 26 (aCons (eJ [eFr (eVar 0), eC (.str m)] Str.empty) aNil) D τ C := by
  have l0 : (Str.empty ++ reprText x).length = (reprText x).length := by simp [Str.length_append]; rfl
  have l1 : ((Str.empty ++ reprText x) ++ m).length = (reprText x).length + m.length := by rw [Str.length_append, l0]
  refine ⟨_, h0, x, rfl, by omega, _, rfl, Nat.le_of_lt (small1000 (by omega)), _, rfl, Nat.le_of_lt (small1000 (by omega)), ?_⟩
  exact ⟨Nat.le_of_ble_eq_true rfl, R.o_raise hr⟩
theorem s_raise_g {D : We} {τ : Sw} {m x : Str} (R : Rp W r) (hr : r) (hx : (reprText x).length ≤ 900) (hm : m.length ≤ 90) (h0 : τ[0]? = some (some (.str x))) : sRaise (W (n + 1)) 26 (aCons (eJ [eC (.str m), eFr (eVar 0)] Str.empty) aNil) D τ C := by
  have l0 : (Str.empty ++ m).length = m.length := by simp [Str.length_append]; rfl
  have l1 : ((Str.empty ++ m) ++ reprText x).length = m.length + (reprText x).length := by rw [Str.length_append, l0]
  refine ⟨_, rfl, Nat.le_of_lt (small1000 (by omega)), _, h0, x, rfl, by omega, _, rfl, Nat.le_of_lt (small1000 (by omega)), ?_⟩
  exact ⟨Nat.le_of_ble_eq_true rfl, R.o_raise hr⟩
theorem s_word {x : Str} (R : Rp W r) (hx : Wk x) (q : ∀ t C', rdWord x = some t → Ex C C' → Q t C') (qr : rdWord x = none → r) : W (n + 2) i_word_term [.str x] C Q χ := by
  obtain ⟨h1, h2, h3⟩ := hx
  refine R.o_word_term rfl (call_if rfl (s_is_name R (by omega) fun C1 hE => ⟨_, rfl, ?_⟩))
  unfold rdWord at q qr
  by_cases k1 : isNm x = true
  · rw [if_pos k1] at q
    exact ite_p k1 ⟨_, rfl, Nat.le_of_ble_eq_true rfl, q _ C1 rfl hE⟩
  rw [if_neg k1] at q qr
  refine ite_n (Bool.eq_false_iff.mpr k1) (call_if rfl (s_is_number R (by omega) fun C2 hE2 => ⟨_, rfl, ?_⟩))
  by_cases k2 : isNo x = true
  · rw [if_pos k2] at q
    obtain ⟨v, hv⟩ := h3 k2
    rw [hv] at q
    exact ite_p k2 ⟨_, rfl, _, _, rfl, hv, by omega, Nat.le_of_ble_eq_true rfl, q _ C2 rfl (hE.trans hE2)⟩
  rw [if_neg k2] at q qr
  refine ite_n (Bool.eq_false_iff.mpr k2) ⟨_, rfl, x, rfl, ?_⟩
  have sh : gcT g_SHAPES x = match shp.lookup x with | some i => T.int i | none => .non := rfl
  rw [sh]
  cases hs : shp.lookup x with
  | none =>
    rw [hs] at q qr
    refine ⟨rfl, rfl, false, rfl, ite_f ?_⟩
    exact s_raise_f R (qr rfl) h2 (by decide) rfl
  | some i =>
    rw [hs] at q qr
    by_cases i0 : i = 0
    · subst i0
      exact eqIc (v := true) rfl ⟨true, rfl, ite_t ⟨_, rfl, Nat.le_of_ble_eq_true rfl, Nat.le_of_ble_eq_true rfl, q _ C2 (by rw [if_pos rfl]) (hE.trans hE2)⟩⟩
    · refine eqIc (v := false) (by simpa using i0) ⟨false, rfl, ite_f ?_⟩
      exact s_raise_f R (qr (by rw [if_neg (fun z => i0 (Option.some.inj z))])) h2 (by decide) rfl
/-- all words of the tree may be told of; at most f levels -/
inductive Wt : Nat → Tr → Prop
  | w {f : Nat} {x : Str} (h : Wk x) : Wt f (.w x)
  | n {f : Nat} {ts : List Tr} (hl : ts.length ≤ 500) (h : ∀ t ∈ ts, Wt f t) : Wt (f + 1) (.n ts)
theorem s_items {f : Nat} {t : Tr} {v : T} (R : Rp W r) (hw : Wt f t) (hv : TrH C v t) (q : ∀ ts, t = .n ts → Q v C) (qr : (∃ x, t = .w x) → r) : W (n + 2) i_items_of [v] C Q χ := by
  refine R.o_items_of rfl ?_
  cases hw with
  | w h =>
    cases of_w hv
    exact ⟨_, rfl, "str", rfl, true, rfl, ite_t (s_raise_g R (qr ⟨_, rfl⟩) h.2.1 (by decide) rfl)⟩
  | n hl h =>
    obtain ⟨a, vs, rfl, ha, hs⟩ := of_n hv
    exact ⟨_, rfl, "list", .inl ⟨rfl, _, ha⟩, false, rfl, ite_f ⟨_, rfl, q _ rfl⟩⟩
theorem s_name_of {f : Nat} {t : Tr} {v : T} (R : Rp W r) (hw : Wt f t) (hv : TrH C v t) (q : ∀ x C', nmOf t = some x → Ex C C' → Q (.str x) C') (qr : nmOf t = none → r) : W (n + 2) i_name_of [v] C Q χ := by
  refine R.o_name_of rfl ?_
  cases hw with
  | @w _ x h =>
    cases of_w hv
    refine ⟨_, rfl, "str", rfl, true, rfl, ite_f ?_⟩
    refine ⟨_, rfl, s_is_name R (by have := h.1; omega) fun C1 hE => ⟨_, rfl, ?_⟩⟩
    by_cases k : isNm x = true
    · exact ite_n (by rw [k]; rfl) ⟨_, rfl, q x C1 (if_pos k) hE⟩
    · exact ite_p (by rw [Bool.eq_false_iff.mpr k]; rfl) (s_raise R (qr (if_neg k)))
  | n hl h =>
    obtain ⟨a, vs, rfl, ha, hs⟩ := of_n hv
    exact ⟨_, rfl, "list", .inl ⟨rfl, _, ha⟩, false, rfl, ite_t (s_raise R (qr rfl))⟩
/-- a comprehension of calls over trees -/
theorem comp_all {β : Type} {Wp : Tr → Prop} {i : Nat} {P : Calls} {g : Tr → Option β} {enc : β → T} {K : List T → Hw → Prop} {ok : Hw → Prop} {χ : WX}
    (he : ∀ (t : Tr) (v : T) (C : Hw) (Q : WK), Wp t → TrH C v t → (∀ b C', g t = some b → Ex C C' → Q (enc b) C') → (g t = none → r) → P i [v] C Q χ) : ∀ (ts : List Tr) (vs acc : List T) (C : Hw), (∀ C', Ex C C' → ok C') → (∀ t ∈ ts, Wp t) → TrHs C vs ts → acc.length + ts.length ≤ 1000 →
      (∀ bs C', all g ts = some bs → Ex C C' → K (acc ++ bs.map enc) C') → (all g ts = none → r) → compW (gNm 0) tYes (eCall P i (aCons (eVar 0) aNil)) ok [none] K χ vs acc C
  | [], vs, acc, C, hok, hw, hv, hl, q, qr => by
    cases of_tnil hv
    exact ⟨hok C (Ex.refl C), by have := q [] C rfl (Ex.refl C); simpa using this⟩
  | t :: ts, vs, acc, C, hok, hw, hv, hl, q, qr => by
    obtain ⟨v, rs, rfl, h1, h2⟩ := of_tcons hv
    have hl' : acc.length + (ts.length + 1) ≤ 1000 := by simpa using hl
    refine ⟨hok C (Ex.refl C), @ite_t _ (compW (gNm 0) tYes (eCall P i (aCons (eVar 0) aNil)) ok [none] K χ rs acc C) ⟨_, rfl, he t v C _ (hw t (.head _)) h1 (fun b C1 eb hE => ?_) (fun e => qr (by unfold Rd.all; rw [e]))⟩⟩
    refine ⟨small1000 (by omega), comp_all he ts rs _ C1 (fun C2 h => hok C2 (hE.trans h)) (fun t' m => hw t' (.tail _ m)) (h2.ex hE) (by simp; omega) (fun bs C2 ebs hE2 => ?_) (fun e => qr (by unfold Rd.all; rw [e]; cases g t <;> rfl))⟩
    have := q (b :: bs) C2 (by unfold Rd.all; rw [eb, ebs]) (hE.trans hE2)
    simpa using this
/-- term_of does what rd says, of trees of at most f levels -/
def GT (W : Nat → Calls) (r : Prop) (f : Nat) : Prop := ∀ {n : Nat} {C : Hw} {Q : WK} {χ : WX} {v : T} {t : Tr}, Wt f t → TrH C v t → (∀ x C', rd f t = some x → Ex C C' → Q x C') → (rd f t = none → r) → W (n + 3 * f + 3) i_term_of [v] C Q χ
variable {f : Nat}
theorem GT.at {m : Nat} {v : T} {t : Tr} (G : GT W r f) (hm : 3 * f + 3 ≤ m) (hw : Wt f t) (hv : TrH C v t) (q : ∀ x C', rd f t = some x → Ex C C' → Q x C') (qr : rd f t = none → r) : W m i_term_of [v] C Q χ := by
  obtain ⟨n, rfl⟩ : ∃ n, m = n + 3 * f + 3 := ⟨m - (3 * f + 3), by omega⟩
  exact G hw hv q qr
theorem s_two {a : Addr} {vs : List T} {ts : List Tr} {m : Nat} (R : Rp W r) (G : GT W r f) (hm : 3 * f + 4 ≤ m) (ha : C a = some (.lst vs)) (hl : ts.length ≤ 500) (hw : ∀ t ∈ ts, Wt f t) (hv : TrHs C vs ts)
    (q : ∀ x y C', two (rd f) ts = some (x, y) → Ex C C' → Q (.tup [x, y]) C') (qr : two (rd f) ts = none → r) : W m i_two_terms [.ref a] C Q χ := by
  obtain ⟨m, rfl⟩ : ∃ k, m = k + 1 := ⟨m - 1, by omega⟩
  have e := hv.length
  obtain ⟨m', rfl⟩ : ∃ k, m = k + 1 := ⟨m - 1, by omega⟩
  by_cases k : ts.length = 2
  · obtain ⟨t1, t2, rfl⟩ : ∃ t1 t2, ts = [t1, t2] := by
      match ts, k with
      | [t1, t2], _ => exact ⟨t1, t2, rfl⟩
    obtain ⟨v1, rs, rfl, h1, hv⟩ := of_tcons hv
    obtain ⟨v2, rs, rfl, h2, hv⟩ := of_tcons hv
    cases of_tnil hv
    have w1 := hw t1 (.head _)
    have w2 := hw t2 (.tail _ (.head _))
    refine R.o_two_terms rfl ⟨_, rfl, _, rfl, _, ha, neIc (v := true) rfl ⟨_, rfl, ite_f ?_⟩⟩
    refine ⟨_, rfl, _, _, ha, atI_0, G.at (by omega) w1 h1 (fun x C1 ex hE => ?_) fun e1 => qr (by simp [two, e1])⟩
    refine ⟨_, rfl, _, _, hE _ _ ha, atI_1, G.at (by omega) w2 (h2.ex hE) (fun y C2 ey hE2 => ?_) fun e2 => qr (by simp [two, ex, e2])⟩
    exact ⟨Nat.le_of_ble_eq_true rfl, q x y C2 (by simp [two, ex, ey]) (hE.trans hE2)⟩
  · refine R.o_two_terms rfl ⟨_, rfl, _, rfl, _, ha, neIc (v := false) (by rw [e]; simpa using (show ¬ (ts.length : Int) = 2 by omega)) ⟨_, rfl, ite_t (s_raise R (qr ?_))⟩⟩
    match ts, k with
    | [], _ => rfl
    | [_], _ => rfl
    | [_, _], k => exact absurd rfl k
    | _ :: _ :: _ :: _, _ => rfl
theorem cut_1 {α : Type} {x : α} {l : List α} : cut (x :: l) (some 1) none = l := by
  unfold cut
  have h1 : HT.sIx (x :: l).length 0 (some 1) = 1 := by
    have := HT.sIx_nat (x :: l).length 0 1
    rw [List.length_cons] at this ⊢
    rw [show (some (1 : Int)) = some ((1 : Nat) : Int) from rfl, this]; omega
  rw [h1, HT.sIx_none]
  simp
theorem s_stop {a : Addr} {vs : List T} {ts : List Tr} {m : Nat} (R : Rp W r) (hm : 4 ≤ m) (ha : C a = some (.lst vs)) (hw : ∀ t ∈ ts, Wt f t) (hv : TrHs C vs ts)
    (q : ∀ x C', (match ts with | [t] => (nmOf t).map fun s => T.tup [.str "stop", .str s] | _ => none) = some x → Ex C C' → Q x C') (qr : (match ts with | [t] => (nmOf t).map fun s => T.tup [.str "stop", .str s] | _ => none) = none → r) : W m i_stop_term [.ref a] C Q χ := by
  obtain ⟨m, rfl⟩ : ∃ k, m = k + 3 := ⟨m - 3, by omega⟩
  have e := hv.length
  by_cases k : ts.length = 1
  · obtain ⟨t1, rfl⟩ : ∃ t1, ts = [t1] := by
      match ts, k with
      | [t1], _ => exact ⟨t1, rfl⟩
    obtain ⟨v1, rs, rfl, h1, hv⟩ := of_tcons hv
    cases of_tnil hv
    refine R.o_stop_term rfl ⟨_, rfl, _, rfl, _, ha, neIc (v := true) rfl ⟨_, rfl, ite_f ?_⟩⟩
    refine ⟨_, rfl, _, _, ha, atI_0, s_name_of R (hw t1 (.head _)) h1 (fun x C1 ex hE => ?_) fun e1 => qr (by simp [e1])⟩
    exact ⟨Nat.le_of_ble_eq_true rfl, q _ C1 (by simp [ex]) hE⟩
  · refine R.o_stop_term rfl ⟨_, rfl, _, rfl, _, ha, neIc (v := false) (by rw [e]; simpa using (show ¬ (ts.length : Int) = 1 by omega)) ⟨_, rfl, ite_t (s_raise R (qr ?_))⟩⟩
    match ts, k with
    | [], _ => rfl
    | [_], k => exact absurd rfl k
    | _ :: _ :: _, _ => rfl
/-- the arguments one after another -/
theorem loop_call {m : Nat} {D : We} {x0 : Option T} {l : Addr} {ws : List T} (G : GT W r f) (hm : 3 * f + 3 ≤ m) : ∀ (ts : List Tr) (vs : List T) (F : T) (x2 : Option T) (C : Hw), C l = some (.lst ws) → (∀ t ∈ ts, Wt f t) → TrHs C vs ts →
    (∀ as x2 C', all (rd f) ts = some as → Ex C C' → D.nx [x0, some (callT F as), x2] C') → (all (rd f) ts = none → r) →
    forW (gNm 2) (sAsg (eTup (aCons (eC (.str "call")) (aCons (eVar 1) (aCons (eCall (W m) 4 (aCons (eVar 2) aNil)) aNil)))) (gNm 1)) (fun C2 => C2 l = some (.lst ws)) D vs [x0, some F, x2] C
  | [], vs, F, x2, C, hl, hw, hv, q, qr => by
    cases of_tnil hv
    exact ⟨hl, q [] x2 C rfl (Ex.refl C)⟩
  | t :: ts, vs, F, x2, C, hl, hw, hv, q, qr => by
    obtain ⟨v, rs, rfl, h1, h2⟩ := of_tcons hv
    refine ⟨hl, _, rfl, _, rfl, G.at hm (hw t (.head _)) h1 (fun x C1 ex hE => ?_) fun e => qr (by unfold Rd.all; rw [e])⟩
    refine ⟨Nat.le_of_ble_eq_true rfl, ?_⟩
    refine loop_call G hm ts rs _ _ C1 (hE _ _ hl) (fun t' m => hw t' (.tail _ m)) (h2.ex hE) (fun as x2' C2 eas hE2 => ?_) fun e => qr (by unfold Rd.all; rw [e]; cases rd f t <;> rfl)
    exact q (x :: as) x2' C2 (by unfold Rd.all; rw [ex, eas]) (hE.trans hE2)
theorem s_call {a : Addr} {vs : List T} {ts : List Tr} {m : Nat} (R : Rp W r) (G : GT W r f) (hm : 3 * f + 4 ≤ m) (ha : C a = some (.lst vs)) (hl : ts.length ≤ 500) (hw : ∀ t ∈ ts, Wt f t) (hv : TrHs C vs ts)
    (q : ∀ x C', rdCall (rd f) ts = some x → Ex C C' → Q x C') (qr : rdCall (rd f) ts = none → r) : W m i_call_term [.ref a] C Q χ := by
  obtain ⟨m, rfl⟩ : ∃ k, m = k + 2 := ⟨m - 2, by omega⟩
  have e := hv.length
  unfold rdCall at q qr
  by_cases k : ts.length < 2
  · rw [if_pos k] at qr
    exact R.o_call_term rfl ⟨_, rfl, _, rfl, _, ha, _, rfl, ite_p (decide_eq_true (show (vs.length : Int) < 2 by omega)) (s_raise R (qr rfl))⟩
  rw [if_neg k] at q qr
  cases ts with
  | nil => exact absurd (by simp) k
  | cons t ts =>
    obtain ⟨v, rs, rfl, h1, h2⟩ := of_tcons hv
    refine R.o_call_term rfl ⟨_, rfl, _, rfl, _, ha, _, rfl, ite_n (decide_eq_false (show ¬ ((v :: rs).length : Int) < 2 by omega)) ?_⟩
    refine ⟨_, rfl, _, _, ha, atI_0, G.at (by omega) (hw t (.head _)) h1 (fun x C1 ex hE => ?_) fun e => qr (by simp [Rd.all, e])⟩
    refine ⟨_, rfl, 1, rfl, _, hE _ _ ha, fun l hl' => ?_⟩
    rw [cut_1]
    refine ⟨_, up_same, loop_call G (by omega) ts rs x none _ up_same (fun t' m => hw t' (.tail _ m)) (h2.ex (hE.trans (Ex.new hl'))) (fun as x2 C2 eas hE2 => ?_) fun e => qr (by simp [Rd.all, ex, e])⟩
    exact ⟨_, rfl, q _ C2 (by simp [Rd.all, ex, eas]) ((hE.trans (Ex.new hl')).trans hE2)⟩
end
set_option Elab.async false
set_option linter.all false
set_option maxRecDepth 100000
set_option maxHeartbeats 400000
open PySem PySem.Spec PyProof.Rows L2 WL Rd
section
variable {C : Hw} {Q : WK} {χ : WX} {n f m : Nat} {W : Nat → Calls} {r : Prop}
theorem Wt.mono {g : Nat} {t : Tr} (h : Wt g t) : Wt (g + 1) t := by
  induction h with
  | w h => exact .w h
  | n hl h ih => exact .n hl ih
theorem s_pair {t : Tr} {v : T} (R : Rp W r) (G : GT W r f) (hm : 3 * f + 4 ≤ m) (hw : Wt f t) (hv : TrH C v t)
    (q : ∀ p C', pairOf (rd f) t = some p → Ex C C' → Q (.tup [.str p.1, p.2]) C') (qr : pairOf (rd f) t = none → r) : W m i_pair_of [v] C Q χ := by
  obtain ⟨m, rfl⟩ : ∃ k, m = k + 3 := ⟨m - 3, by omega⟩
  refine R.o_pair_of rfl ⟨_, rfl, s_items R hw hv (fun ts et => ?_) fun ⟨x, e⟩ => qr (by rw [e]; rfl)⟩
  subst et
  obtain ⟨a, vs, rfl, ha, hs⟩ := of_n hv
  have hw' : ∀ t ∈ ts, Wt f t := by cases hw with | n hl h => exact fun t m => (h t m).mono
  have e := hs.length
  by_cases k : ts.length = 2
  · obtain ⟨t1, t2, rfl⟩ : ∃ t1 t2, ts = [t1, t2] := by
      match ts, k with
      | [t1, t2], _ => exact ⟨t1, t2, rfl⟩
    obtain ⟨v1, rs, rfl, h1, hs⟩ := of_tcons hs
    obtain ⟨v2, rs, rfl, h2, hs⟩ := of_tcons hs
    cases of_tnil hs
    refine ⟨_, rfl, _, rfl, _, ha, neIc (v := true) rfl ⟨_, rfl, ite_f ?_⟩⟩
    refine ⟨_, rfl, _, _, ha, atI_0, s_name_of R (hw' t1 (.head _)) h1 (fun x C1 ex hE => ?_) fun e1 => qr (by simp [pairOf, e1])⟩
    refine ⟨_, rfl, _, _, hE _ _ ha, atI_1, G.at (by omega) (hw' t2 (.tail _ (.head _))) (h2.ex hE) (fun y C2 ey hE2 => ?_) fun e2 => qr (by simp [pairOf, ex, e2])⟩
    exact ⟨Nat.le_of_ble_eq_true rfl, q (x, y) C2 (by simp [pairOf, ex, ey]) (hE.trans hE2)⟩
  · refine ⟨_, rfl, _, rfl, _, ha, neIc (v := false) (by rw [e]; simpa using (show ¬ (ts.length : Int) = 2 by omega)) ⟨_, rfl, ite_t (s_raise R (qr ?_))⟩⟩
    match ts, k with
    | [], _ => rfl
    | [_], _ => rfl
    | [_, _], k => exact absurd rfl k
    | _ :: _ :: _ :: _, _ => rfl
theorem wEq_nil {p p' : Addr} {ts : List T} (hp : C p = some (.lst ts)) (hr : C p' = some (.lst [])) (q : Q (.bl ts.isEmpty) C) : wEqG false (.ref p) (.ref p') C Q := by
  refine ⟨ts, [], hp, hr, fun h => ?_, ?_⟩
  · have : ts = [] := List.eq_nil_of_length_eq_zero h
    subst this
    exact ⟨by unfold flats; rfl, by unfold flats; rfl⟩
  · have : eqTs ts [] = ts.isEmpty := by cases ts <;> simp [eqTs]
    rw [if_neg (by decide), this]; exact q
/-- == of a tree and a written word -/
def hd (t : Tr) (s : Str) : Bool := match t with | .w x => x == s | .n _ => false
theorem eqT_w {t : Tr} {v : T} {s : Str} {τ : Sw} (hv : TrH C v t) (q : Q (.bl (hd t s)) C) : eC (.str s) τ C (fun y C2 => wEq v y C2 Q) χ := by
  cases t with
  | w x => cases of_w hv; exact eqSc rfl q
  | n ts => obtain ⟨a, vs, rfl, ha, _⟩ := of_n hv; exact ⟨⟨_, ha⟩, flat_str, q⟩
theorem s_step {t : Tr} {v : T} (R : Rp W r) (G : GT W r f) (hm : 3 * f + 4 ≤ m) (hw : Wt f t) (hv : TrH C v t)
    (q : ∀ p C', stepOf (rd f) t = some p → Ex C C' → Q p C') (qr : stepOf (rd f) t = none → r) : W m i_step_of [v] C Q χ := by
  obtain ⟨m, rfl⟩ : ∃ k, m = k + 3 := ⟨m - 3, by omega⟩
  refine R.o_step_of rfl ⟨_, rfl, s_items R hw hv (fun ts et => ?_) fun ⟨x, e⟩ => qr (by rw [e]; rfl)⟩
  subst et
  obtain ⟨a, vs, rfl, ha, hs⟩ := of_n hv
  have hw' : ∀ t ∈ ts, Wt f t := by cases hw with | n hl h => exact fun t m => (h t m).mono
  have e := hs.length
  refine ⟨_, rfl, _, rfl, _, ha, eqIc (v := (vs.length : Int) == 2) rfl ⟨_, rfl, ?_⟩⟩
  by_cases k : ts.length = 2
  · obtain ⟨t1, t2, rfl⟩ : ∃ t1 t2, ts = [t1, t2] := by
      match ts, k with
      | [t1, t2], _ => exact ⟨t1, t2, rfl⟩
    obtain ⟨v1, rs, rfl, h1, hs⟩ := of_tcons hs
    obtain ⟨v2, rs, rfl, h2, hs⟩ := of_tcons hs
    cases of_tnil hs
    refine ite_p rfl ⟨_, rfl, _, _, ha, atI_0, eqT_w h1 ⟨_, rfl, ?_⟩⟩
    by_cases kw : hd t1 "when" = true
    · refine ite_p kw ?_
      cases t1 with
      | n _ => cases kw
      | w x =>
        have ex : x = "when" := by simpa [hd] using kw
        subst ex
        refine ⟨_, rfl, _, _, ha, atI_1, G.at (by omega) (hw' t2 (.tail _ (.head _))) h2 (fun y C2 ey hE2 => ?_) fun e2 => qr (by simp [stepOf, e2])⟩
        exact ⟨Nat.le_of_ble_eq_true rfl, q _ C2 (by simp [stepOf, ey]) hE2⟩
    · refine ite_n (Bool.eq_false_iff.mpr kw) ⟨_, rfl, _, rfl, _, ha, eqIc (v := false) rfl ⟨_, rfl, ite_f (ite_f (s_raise (τ := []) R (qr ?_)))⟩⟩
      cases t1 with
      | n _ => rfl
      | w x =>
        have ex : x ≠ "when" := by simpa [hd] using kw
        simp [stepOf, ex]
  · refine ite_n (by rw [e]; simpa using (show ¬ (ts.length : Int) = 2 by omega)) (ite_f ⟨_, rfl, _, rfl, _, ha, eqIc (v := (vs.length : Int) == 3) rfl ⟨_, rfl, ?_⟩⟩)
    by_cases k3 : ts.length = 3
    · obtain ⟨t1, t2, t3, rfl⟩ : ∃ t1 t2 t3, ts = [t1, t2, t3] := by
        match ts, k3 with
        | [t1, t2, t3], _ => exact ⟨t1, t2, t3, rfl⟩
      obtain ⟨v1, rs, rfl, h1, hs⟩ := of_tcons hs
      obtain ⟨v2, rs, rfl, h2, hs⟩ := of_tcons hs
      obtain ⟨v3, rs, rfl, h3, hs⟩ := of_tcons hs
      cases of_tnil hs
      refine ite_p rfl ⟨_, rfl, _, _, ha, atI_0, eqT_w h1 ⟨_, rfl, ?_⟩⟩
      have body : ∀ s : Str, t1 = .w s → (s = "in" ∨ s = "be") → ∀ {D : We} {x0 : Option T}, D.rt = Q → D.xc = χ →
          sRet (eTup (aCons (eBin wIdx (eVar 1) (eC (.int 0))) (aCons (eCall (W (m + 2)) 18 (aCons (eBin wIdx (eVar 1) (eC (.int 1))) aNil)) (aCons (eCall (W (m + 2)) 4 (aCons (eBin wIdx (eVar 1) (eC (.int 2))) aNil)) aNil)))) D [x0, some (.ref a)] C := by
        rintro s rfl hs' D x0 hD hX
        obtain ⟨nx, rt, bk, ct, xc⟩ := D
        cases hD
        cases hX
        cases of_w h1
        refine ⟨_, rfl, _, _, ha, atI_0, ?_⟩
        refine ⟨_, rfl, _, _, ha, atI_1, s_name_of R (hw' t2 (.tail _ (.head _))) h2 (fun x C1 ex hE => ?_) fun e1 => qr (by simp [stepOf, hs', e1])⟩
        refine ⟨_, rfl, _, _, hE _ _ ha, rfl, G.at (by omega) (hw' t3 (.tail _ (.tail _ (.head _)))) (h3.ex hE) (fun y C2 ey hE2 => ?_) fun e2 => qr (by simp [stepOf, hs', ex, e2])⟩
        exact ⟨Nat.le_of_ble_eq_true rfl, q _ C2 (by simp [stepOf, hs', ex, ey]) (hE.trans hE2)⟩
      by_cases ki : hd t1 "in" = true
      · refine ite_p ki ?_
        cases t1 with
        | n _ => cases ki
        | w x => exact body x rfl (.inl (by simpa [hd] using ki)) rfl rfl
      · refine ite_n (Bool.eq_false_iff.mpr ki) ⟨_, rfl, _, _, ha, atI_0, eqT_w h1 ⟨_, rfl, ?_⟩⟩
        by_cases kb : hd t1 "be" = true
        · refine ite_p kb ?_
          cases t1 with
          | n _ => cases kb
          | w x => exact body x rfl (.inr (by simpa [hd] using kb)) rfl rfl
        · refine ite_n (Bool.eq_false_iff.mpr kb) (s_raise (τ := []) R (qr ?_))
          cases t1 with
          | n _ => rfl
          | w x =>
            have e1 : x ≠ "in" := by simpa [hd] using ki
            have e2 : x ≠ "be" := by simpa [hd] using kb
            simp [stepOf, e1, e2]
    · refine ite_n (by rw [e]; simpa using (show ¬ (ts.length : Int) = 3 by omega)) (ite_f (s_raise (τ := []) R (qr ?_)))
      match ts, k, k3 with
      | [], _, _ => rfl
      | [t1], _, _ => cases t1 <;> rfl
      | [_, _], k, _ => exact absurd rfl k
      | [_, _, _], _, k => exact absurd rfl k
      | t1 :: _ :: _ :: _ :: _, _, _ => cases t1 <;> rfl
theorem s_rows {a : Addr} {vs : List T} {ts : List Tr} (R : Rp W r) (G : GT W r f) (hm : 3 * f + 5 ≤ m) (ha : C a = some (.lst vs)) (hl : ts.length ≤ 500) (hw : ∀ t ∈ ts, Wt f t) (hv : TrHs C vs ts)
    (q : ∀ x C', rdRows (rd f) ts = some x → Ex C C' → Q x C') (qr : rdRows (rd f) ts = none → r) : W m i_rows_term [.ref a] C Q χ := by
  obtain ⟨m, rfl⟩ : ∃ k, m = k + 3 := ⟨m - 3, by omega⟩
  refine R.o_rows_term rfl ⟨_, rfl, Nat.zero_le _, ?_⟩
  intro p hp
  refine wEq_nil ((Ex.new hp) _ _ ha) up_same ⟨_, rfl, ?_⟩
  cases ts with
  | nil =>
    cases of_tnil hv
    exact ite_t (s_raise (τ := []) R (qr rfl))
  | cons t ts =>
    obtain ⟨v, rs, rfl, h1, h2⟩ := of_tcons hv
    have E1 : Ex C (up C p (.lst [])) := Ex.new hp
    have hl' : ts.length + 1 ≤ 500 := by simpa using hl
    refine ite_f ⟨_, rfl, _, _, E1 _ _ ha, atI_0, G.at (by omega) (hw t (.head _)) (h1.ex E1) (fun x C1 ex hE => ?_) fun e => qr (by simp [rdRows, e])⟩
    have E2 := E1.trans hE
    refine ⟨_, rfl, 1, rfl, _, E2 _ _ ha, fun l hl2 => ?_⟩
    rw [cut_1]
    have E3 := E2.trans (Ex.new (o := .lst rs) hl2)
    refine ⟨_, up_same, comp_all (g := stepOf (rd f)) (enc := id) (Wp := Wt f) (r := r) (fun t v C Q hw hv q qr => s_step R G (by omega) hw hv q qr) ts rs [] _ (fun C' h => h _ _ up_same) (fun t m => hw t (.tail _ m)) (h2.ex E3) (by simp; omega) (fun bs C4 eb E4 => ?_) fun e => qr (by simp [rdRows, ex, e])⟩
    intro p2 hp2
    refine ⟨_, rfl, _, up_same, ?_⟩
    exact ⟨Nat.le_of_ble_eq_true rfl, q _ _ (by simp [rdRows, ex, eb]) ((E3.trans E4).trans (Ex.new hp2))⟩
end
set_option Elab.async false
set_option linter.all false
set_option maxRecDepth 100000
set_option maxHeartbeats 400000
open PySem PySem.Spec PyProof.Rows L2 WL Rd
theorem len_le : ∀ (ss ys : List Str), ys.Nodup → (∀ y ∈ ys, y ∈ ss) → ys.length ≤ ss.length
  | [], ys, _, h => by
    cases ys with
    | nil => exact Nat.le_refl _
    | cons y ys => exact absurd (h y (.head _)) (by simp)
  | a :: ss, ys, nd, h => by
    by_cases ha : a ∈ ys
    · have := len_le ss (ys.erase a) (nd.erase a) fun y hy => by
        obtain ⟨n, hy⟩ := (nd.mem_erase_iff).mp hy
        exact (List.mem_cons.mp (h y hy)).resolve_left n
      rw [List.length_erase_of_mem ha] at this
      rw [List.length_cons]; omega
    · have := len_le ss ys nd fun y hy => (List.mem_cons.mp (h y hy)).resolve_left fun e => ha (e ▸ hy)
      rw [List.length_cons]; omega
theorem nd_of_len : ∀ (ss ys : List Str), ys.Nodup → (∀ y ∈ ys, y ∈ ss) → ys.length = ss.length → ss.Nodup
  | [], ys, _, _, _ => .nil
  | a :: ss, ys, nd, h, hl => by
    rw [List.length_cons] at hl
    have ha : a ∈ ys := Classical.byContradiction fun ha => by
      have := len_le ss ys nd fun y hy => (List.mem_cons.mp (h y hy)).resolve_left fun e => ha (e ▸ hy)
      omega
    have hs : ∀ y ∈ ys.erase a, y ∈ ss := fun y hy => by
      obtain ⟨n, hy⟩ := (nd.mem_erase_iff).mp hy
      exact (List.mem_cons.mp (h y hy)).resolve_left n
    have hl' : (ys.erase a).length = ss.length := by rw [List.length_erase_of_mem ha]; omega
    refine List.nodup_cons.mpr ⟨fun m => ?_, nd_of_len ss _ (nd.erase a) hs hl'⟩
    have := len_le (ss.erase a) (ys.erase a) (nd.erase a) fun y hy => by
      have hn := ((nd.mem_erase_iff).mp hy).1
      exact (List.mem_erase_of_ne hn).mpr (hs y hy)
    rw [List.length_erase_of_mem m] at this
    have := List.length_pos_of_mem m
    omega
theorem nd_len {ss ys : List Str} (nd : ys.Nodup) (h : ∀ y, y ∈ ys ↔ y ∈ ss) : ys.length = ss.length ↔ ss.Nodup :=
  ⟨nd_of_len ss ys nd fun y hy => (h y).mp hy, fun ns => Nat.le_antisymm (len_le ss ys nd fun y hy => (h y).mp hy) (len_le ys ss ns fun y hy => (h y).mpr hy)⟩
section
variable {C : Hw} {Q : WK} {χ : WX} {n f m : Nat} {W : Nat → Calls} {r : Prop}
theorem s_alike {v : T} {ss : List Str} (R : Rp W r) (hv : v = .tup (ss.map T.str) ∨ ∃ a, v = .ref a ∧ C a = some (.lst (ss.map T.str))) (hl : ss.length ≤ 500) (q : ss.Nodup → Q .non C) (qr : ¬ ss.Nodup → r) : W (n + 2) i_refuse_alike [v] C Q χ := by
  have hb : ss.length + 1 < scanBound := Nat.lt_of_le_of_lt (show ss.length + 1 ≤ 600 by omega) (by decide)
  refine R.o_refuse_alike rfl ⟨_, rfl, ss, hv, hb, fun ys nd hy => ?_⟩
  have key : bLen [v] C (fun x C1 => wNe (.int ys.length) x C1 (fun x C1 => ∃ k, x = T.bl k ∧ if k = true then sRaise (W (n + 1)) 26 (aCons (eC (.str "names that are bound together are unlike")) aNil) { nx := fun _ C' => Q .non C', rt := Q, xc := χ } [some v] C1 else Q .non C1)) := by
    have fin : wNe (.int ys.length) (.int ((ss.map T.str).length : Nat)) C (fun x C1 => ∃ k, x = T.bl k ∧ if k = true then sRaise (W (n + 1)) 26 (aCons (eC (.str "names that are bound together are unlike")) aNil) { nx := fun _ C' => Q .non C', rt := Q, xc := χ } [some v] C1 else Q .non C1) := by
      rw [List.length_map]
      by_cases k : ss.Nodup
      · exact neI (v := true) (by rw [(nd_len nd hy).mpr k]; simp) ⟨false, rfl, ite_f (q k)⟩
      · refine neI (v := false) (by simpa using (show ¬ (ys.length : Int) = ss.length from fun e => k ((nd_len nd hy).mp (by omega)))) ⟨true, rfl, ite_t (s_raise R (qr k))⟩
    rcases hv with rfl | ⟨a, rfl, ha⟩
    · exact ⟨_, rfl, fin⟩
    · exact ⟨_, rfl, _, ha, fin⟩
  exact ⟨_, rfl, key⟩
theorem sIx_m1 {n d : Nat} (h : 1 ≤ n) : HT.sIx n d (some (-1)) = n - 1 := by
  show (if (-1 : Int) < 0 then ((-1 : Int) + (n : Int)).toNat else min (-1 : Int).toNat n) = n - 1
  rw [if_pos (by decide)]; omega
theorem cut_init {α : Type} {x : α} {l : List α} : cut (l ++ [x]) none (some (-1)) = l := by
  unfold cut
  rw [sIx_m1 (by simp), HT.sIx_none]
  simp
theorem cut_mid {α : Type} {x y : α} {l : List α} : cut (x :: (l ++ [y])) (some 1) (some (-1)) = l := by
  unfold cut
  have h1 : HT.sIx (x :: (l ++ [y])).length 0 (some 1) = 1 := by
    have := HT.sIx_nat (x :: (l ++ [y])).length 0 1
    rw [show (some (1 : Int)) = some ((1 : Nat) : Int) from rfl, this]
    simp
  rw [h1, sIx_m1 (by simp)]
  simp
theorem last_is {ts : List Tr} (h : 1 ≤ ts.length) : ∃ us l, ts = us ++ [l] := by
  have hn : ts ≠ [] := fun e => by rw [e] at h; simp at h
  exact ⟨ts.dropLast, ts.getLast hn, (List.dropLast_concat_getLast hn).symm⟩
theorem drop_last {us : List Tr} {l : Tr} : (us ++ [l]).dropLast = us := by simp
theorem get_last {us : List Tr} {l : Tr} : (us ++ [l]).getLast! = l := by simp [List.getLast!_eq_getLast?_getD]
theorem all_len {α β : Type} {g : α → Option β} : ∀ {ts : List α} {bs : List β}, all g ts = some bs → bs.length = ts.length
  | [], bs, e => by cases e; rfl
  | t :: ts, bs, e => by
    unfold Rd.all at e
    split at e
    · rename_i b bs' e1 e2
      cases e
      rw [List.length_cons, List.length_cons, all_len e2]
    · cases e
theorem s_let {a : Addr} {vs : List T} {ts : List Tr} (R : Rp W r) (G : GT W r f) (hm : 3 * f + 5 ≤ m) (ha : C a = some (.lst vs)) (hl : ts.length ≤ 500) (hw : ∀ t ∈ ts, Wt f t) (hv : TrHs C vs ts)
    (q : ∀ x C', rdLet (rd f) ts = some x → Ex C C' → Q x C') (qr : rdLet (rd f) ts = none → r) : W m i_let_term [.ref a] C Q χ := by
  obtain ⟨m, rfl⟩ : ∃ k, m = k + 3 := ⟨m - 3, by omega⟩
  have e := hv.length
  unfold rdLet at q qr
  by_cases k : ts.length < 2 ∨ ts.length > 6
  · rw [if_pos k] at qr
    refine R.o_let_term rfl ⟨_, rfl, _, rfl, _, ha, _, rfl, ?_⟩
    by_cases k1 : ts.length < 2
    · exact ite_p (decide_eq_true (show (vs.length : Int) < 2 by omega)) (s_raise (τ := []) R (qr rfl))
    · exact ite_n (decide_eq_false (show ¬ (vs.length : Int) < 2 by omega)) ⟨_, rfl, _, rfl, _, ha, _, rfl, ite_p (decide_eq_true (show (vs.length : Int) > 5 + 1 by omega)) (s_raise (τ := []) R (qr rfl))⟩
  rw [if_neg k] at q qr
  refine R.o_let_term rfl ⟨_, rfl, _, rfl, _, ha, _, rfl, ite_n (decide_eq_false (show ¬ (vs.length : Int) < 2 by omega)) ⟨_, rfl, _, rfl, _, ha, _, rfl, ite_n (decide_eq_false (show ¬ (vs.length : Int) > 5 + 1 by omega)) ?_⟩⟩
  obtain ⟨us, l, rfl⟩ := last_is (ts := ts) (by omega)
  rw [drop_last, get_last] at q qr
  obtain ⟨xs, ys, rfl, h1, h2⟩ := of_tapp hv
  obtain ⟨vl, rs, rfl, h4, h3⟩ := of_tcons h2
  cases of_tnil h3
  have hwl : Wt f l := hw l (by simp)
  have hwu : ∀ t ∈ us, Wt f t := fun t m => hw t (by simp [m])
  have hlu : us.length ≤ 500 := by rw [List.length_append] at hl; omega
  refine ⟨_, rfl, -1, rfl, _, ha, fun p hp => ?_⟩
  rw [cut_init]
  have E1 : Ex C (up C p (.lst xs)) := Ex.new hp
  refine ⟨_, up_same, comp_all (g := pairOf (rd f)) (enc := fun p => .tup [.str p.1, p.2]) (Wp := Wt f) (r := r) (fun t v C Q hw hv q qr => s_pair R G (by omega) hw hv q qr) us xs [] _ (fun C' h => h _ _ up_same) hwu (h1.ex E1) (by simp; omega) (fun ps C4 eb E4 => ?_) fun e => qr (by simp [e])⟩
  intro p2 hp2
  refine ⟨_, rfl, _, up_same, ?_⟩
  have E5 := (E1.trans E4).trans (Ex.new (o := .lst ([] ++ ps.map fun p => T.tup [.str p.1, p.2])) hp2)
  have hlp : ps.length ≤ 500 := by rw [all_len eb]; exact hlu
  refine ⟨_, rfl, comp_pure (fun v => match v with | .tup [s, _] => s | _ => .non) trivial (by simp; exact Nat.le_of_lt (small1000 (by omega))) (fun y hy R' hR => ?_) fun p3 hp3 => ?_⟩
  · simp only [List.nil_append, List.mem_map] at hy
    obtain ⟨pp, _, rfl⟩ := hy
    exact ⟨_, rfl, _, _, rfl, _, _, rfl, rfl, _, rfl, hR⟩
  have E6 := E5.trans (Ex.new (o := .lst ((ps.map (·.1)).map T.str)) hp3)
  have em : List.map (fun v : T => match v with | .tup [s, _] => s | _ => .non) ([] ++ List.map (fun p : Str × T => T.tup [.str p.1, p.2]) ps) = (ps.map (·.1)).map T.str := by
    rw [List.nil_append, List.map_map, List.map_map]; rfl
  rw [em]
  refine s_alike R (.inr ⟨p3, rfl, up_same⟩) (by rw [List.length_map]; exact hlp) (fun nd => ?_) fun nn => qr (by rw [eb]; cases rd f l <;> simp [nn])
  refine ⟨_, rfl, _, rfl, _, _, E6 _ _ ha, atI_last xs vl, G.at (by omega) hwl (h4.ex E6) (fun y C7 ey E7 => ?_) fun ee => qr (by rw [eb, ee])⟩
  exact ⟨Nat.le_of_ble_eq_true rfl, q _ C7 (by rw [eb, ey]; simp [nd]) (E6.trans E7)⟩
end
set_option Elab.async false
set_option linter.all false
set_option maxRecDepth 100000
set_option maxHeartbeats 400000
open PySem PySem.Spec PyProof.Rows L2 WL Rd
section
variable {C : Hw} {Q : WK} {χ : WX} {n f m : Nat} {W : Nat → Calls} {r : Prop}
theorem TrHs.rev : ∀ {ts : List Tr} {vs : List T}, TrHs C vs ts → TrHs C vs.reverse ts.reverse := by
  have app : ∀ {ts us : List Tr} {vs ws : List T}, TrHs C vs ts → TrHs C ws us → TrHs C (vs ++ ws) (ts ++ us) := by
    intro ts
    induction ts with
    | nil => intro us vs ws h q; rw [of_tnil h]; exact q
    | cons t ts ih => intro us vs ws h q; obtain ⟨v, l, rfl, a, b⟩ := of_tcons h; exact trs_cons a (ih b q)
  intro ts
  induction ts with
  | nil => intro vs h; rw [of_tnil h]; exact trs_nil
  | cons t ts ih =>
    intro vs h
    obtain ⟨v, l, rfl, a, b⟩ := of_tcons h
    rw [List.reverse_cons, List.reverse_cons]
    exact app (ih b) (trs_cons a trs_nil)
theorem all_app {α β : Type} {g : α → Option β} : ∀ (ts us : List α), all g (ts ++ us) = match all g ts, all g us with | some a, some b => some (a ++ b) | _, _ => none
  | [], us => by
    show all g us = _
    cases all g us <;> rfl
  | t :: ts, us => by
    have ih := all_app (g := g) ts us
    show (match g t, all g (ts ++ us) with | some b, some bs => some (b :: bs) | _, _ => none) = match (match g t, all g ts with | some b, some bs => some (b :: bs) | _, _ => none), all g us with | some a, some b => some (a ++ b) | _, _ => none
    rw [ih]
    cases g t <;> cases all g ts <;> cases all g us <;> rfl
theorem all_rev {α β : Type} {g : α → Option β} : ∀ (ts : List α), all g ts.reverse = (all g ts).map List.reverse
  | [] => rfl
  | t :: ts => by
    rw [List.reverse_cons, all_app, all_rev ts]
    show _ = Option.map _ (match g t, all g ts with | some b, some bs => some (b :: bs) | _, _ => none)
    have : all g [t] = (g t).map fun b => [b] := by
      show (match g t, all g [] with | some b, some bs => some (b :: bs) | _, _ => none) = _
      cases g t <;> rfl
    rw [this]
    cases g t <;> cases all g ts <;> simp
/-- the names one after another, the last first -/
theorem loop_fun {D : We} {x0 : Option T} {ok : Hw → Prop} (R : Rp W r) : ∀ (ts : List Tr) (vs : List T) (F : T) (x2 : Option T) (C : Hw), (∀ C', Ex C C' → ok C') → (∀ t ∈ ts, Wt f t) → TrHs C vs ts →
    (∀ ss x2 C', all nmOf ts = some ss → Ex C C' → D.nx [x0, some (ss.foldl (fun F s => .tup [.str "fun", .str s, F]) F), x2] C') → (all nmOf ts = none → r) →
    forW (gNm 2) (sAsg (eTup (aCons (eC (.str "fun")) (aCons (eCall (W (n + 2)) 18 (aCons (eVar 2) aNil)) (aCons (eVar 1) aNil)))) (gNm 1)) ok D vs [x0, some F, x2] C
  | [], vs, F, x2, C, hok, hw, hv, q, qr => by
    cases of_tnil hv
    exact ⟨hok C (Ex.refl C), q [] x2 C rfl (Ex.refl C)⟩
  | t :: ts, vs, F, x2, C, hok, hw, hv, q, qr => by
    obtain ⟨v, rs, rfl, h1, h2⟩ := of_tcons hv
    refine ⟨hok C (Ex.refl C), _, rfl, s_name_of R (hw t (.head _)) h1 (fun x C1 ex hE => ?_) fun e => qr (by unfold Rd.all; rw [e])⟩
    refine ⟨_, rfl, Nat.le_of_ble_eq_true rfl, ?_⟩
    refine loop_fun R ts rs _ _ C1 (fun C' h => hok C' (hE.trans h)) (fun t' m => hw t' (.tail _ m)) (h2.ex hE) (fun ss x2' C2 es hE2 => ?_) fun e => qr (by unfold Rd.all; rw [e]; cases nmOf t <;> rfl)
    exact q (x :: ss) x2' C2 (by unfold Rd.all; rw [ex, es]) (hE.trans hE2)
theorem s_fun {a : Addr} {vs : List T} {ts : List Tr} (R : Rp W r) (G : GT W r f) (hm : 3 * f + 5 ≤ m) (ha : C a = some (.lst vs)) (hl : ts.length ≤ 500) (hw : ∀ t ∈ ts, Wt f t) (hv : TrHs C vs ts)
    (q : ∀ x C', rdFun (rd f) ts = some x → Ex C C' → Q x C') (qr : rdFun (rd f) ts = none → r) : W m i_fun_term [.ref a] C Q χ := by
  obtain ⟨m, rfl⟩ : ∃ k, m = k + 3 := ⟨m - 3, by omega⟩
  have e := hv.length
  unfold rdFun at q qr
  by_cases k : ts.length < 2
  · rw [if_pos k] at qr
    exact R.o_fun_term rfl ⟨_, rfl, _, rfl, _, ha, _, rfl, ite_p (decide_eq_true (show (vs.length : Int) < 2 by omega)) (s_raise (τ := []) R (qr rfl))⟩
  rw [if_neg k] at q qr
  refine R.o_fun_term rfl ⟨_, rfl, _, rfl, _, ha, _, rfl, ite_n (decide_eq_false (show ¬ (vs.length : Int) < 2 by omega)) ?_⟩
  obtain ⟨us, l, rfl⟩ := last_is (ts := ts) (by omega)
  rw [drop_last, get_last] at q qr
  obtain ⟨xs, ys, rfl, h1, h2⟩ := of_tapp hv
  obtain ⟨vl, rs, rfl, h4, h3⟩ := of_tcons h2
  cases of_tnil h3
  have hwl : Wt f l := hw l (by simp)
  have hwu : ∀ t ∈ us, Wt f t := fun t m => hw t (by simp [m])
  refine ⟨_, rfl, _, _, ha, atI_last xs vl, G.at (by omega) hwl h4 (fun y C1 ey E1 => ?_) fun ee => qr (by rw [ee]; cases all nmOf us <;> rfl)⟩
  refine ⟨_, rfl, -1, rfl, _, E1 _ _ ha, fun p hp => ?_⟩
  rw [cut_init]
  have E2 := E1.trans (Ex.new (o := .lst xs) hp)
  refine ⟨p, xs, rfl, up_same, loop_fun R us.reverse xs.reverse y none _ (fun C' h => h _ _ up_same) (fun t m => hwu t (List.mem_reverse.mp m)) (TrHs.rev (h1.ex E2)) (fun ss x2 C3 es E3 => ?_) fun ee => qr (by
    rw [all_rev, Option.map_eq_none_iff] at ee
    rw [ee])⟩
  rw [all_rev] at es
  cases eu : all nmOf us with
  | none => rw [eu] at es; cases es
  | some ns =>
    rw [eu] at es
    cases es
    refine ⟨_, rfl, q _ C3 (by rw [eu, ey]) (E2.trans E3) |> fun z => ?_⟩
    rw [List.foldl_reverse]
    exact z
theorem s_alt {t : Tr} {v : T} (R : Rp W r) (G : GT W r f) (hm : 3 * f + 4 ≤ m) (hw : Wt f t) (hv : TrH C v t)
    (q : ∀ b C', altOf (rd f) t = some b → Ex C C' → Q (.tup [.str b.1, .tup (b.2.1.map T.str), b.2.2]) C') (qr : altOf (rd f) t = none → r) : W m i_alternative_of [v] C Q χ := by
  obtain ⟨m, rfl⟩ : ∃ k, m = k + 3 := ⟨m - 3, by omega⟩
  refine R.o_alternative_of rfl ⟨_, rfl, s_items R hw hv (fun ts et => ?_) fun ⟨x, e⟩ => qr (by rw [e]; rfl)⟩
  subst et
  obtain ⟨a, vs, rfl, ha, hs⟩ := of_n hv
  have hw' : ∀ t ∈ ts, Wt f t := by cases hw with | n hl h => exact fun t m => (h t m).mono
  have hlt : ts.length ≤ 500 := by cases hw with | n hl h => exact hl
  have e := hs.length
  refine ⟨_, rfl, _, rfl, _, ha, _, rfl, ?_⟩
  by_cases k : ts.length < 2
  · refine ite_p (decide_eq_true (show (vs.length : Int) < 2 by omega)) (s_raise (τ := []) R (qr ?_))
    match ts, k with
    | [], _ => rfl
    | [t1], _ => cases t1 <;> rfl
    | _ :: _ :: _, k => exact absurd k (by simp only [List.length_cons]; omega)
  refine ite_n (decide_eq_false (show ¬ (vs.length : Int) < 2 by omega)) ?_
  cases ts with
  | nil => simp at k
  | cons t0 ts =>
    obtain ⟨v0, rs, rfl, h0, hs1⟩ := of_tcons hs
    cases t0 with
    | n us =>
      obtain ⟨a0, vs0, rfl, ha0, _⟩ := of_n h0
      exact ⟨_, rfl, _, _, ha, atI_0, "list", .inl ⟨rfl, _, ha0⟩, false, rfl, s_raise (τ := []) R (qr rfl)⟩
    | w s =>
      cases of_w h0
      have hk : 1 ≤ ts.length := by simp at k; omega
      obtain ⟨us, l, rfl⟩ := last_is (ts := ts) hk
      have al : altOf (rd f) (.n (.w s :: (us ++ [l]))) = match all nmOf us, rd f l with
          | some ns, some b => if ns.Nodup ∧ shp.lookup s = some (ns.length : Int) then some (s, ns, b) else none
          | _, _ => none := by
        show (if us ++ [l] = [] then none else _) = _
        rw [if_neg (by simp), drop_last, get_last] <;> rfl
      rw [al] at q qr
      obtain ⟨xs, ys, rfl, h1, h2⟩ := of_tapp hs1
      obtain ⟨vl, rs, rfl, h4, h3⟩ := of_tcons h2
      cases of_tnil h3
      have hwl : Wt f l := hw' l (by simp)
      have hwu : ∀ t ∈ us, Wt f t := fun t m => hw' t (by simp [m])
      have hlu : us.length ≤ 500 := by simp at hlt; omega
      refine ⟨_, rfl, _, _, ha, atI_0, "str", rfl, true, rfl, ?_⟩
      refine ⟨_, rfl, 1, rfl, -1, rfl, _, ha, fun p hp => ?_⟩
      rw [cut_mid]
      have E1 : Ex C (up C p (.lst xs)) := Ex.new hp
      refine ⟨_, up_same, comp_all (g := nmOf) (enc := T.str) (Wp := Wt f) (r := r) (fun t v C Q hw hv q qr => s_name_of R hw hv q qr) us xs [] _ (fun C' h => h _ _ up_same) hwu (h1.ex E1) (by simp; omega) (fun ns C4 eb E4 => ?_) fun e => qr (by rw [e])⟩
      rw [List.nil_append]
      intro p2 hp2
      refine ⟨_, rfl, _, up_same, ?_⟩
      have E5 := (E1.trans E4).trans (Ex.new (o := .lst (ns.map T.str)) hp2)
      have hln : ns.length ≤ 500 := by rw [all_len eb]; exact hlu
      refine ⟨_, rfl, s_alike R (.inl rfl) hln (fun nd => ?_) fun nn => qr (by rw [eb]; cases rd f l <;> simp [nn])⟩
      refine ⟨_, rfl, _, _, E5 _ _ ha, atI_0, s, rfl, _, rfl, _, rfl, ?_⟩
      have en : (ns.map T.str).length = ns.length := by simp
      have fin : shp.lookup s = some (ns.length : Int) → sRet (eTup (aCons (eBin wIdx (eVar 1) (eC (.int 0))) (aCons (eVar 2) (aCons (eCall (W (m + 2)) 4 (aCons (eBin wIdx (eVar 1) (eUn wNeg (eC (.int 1)))) aNil)) aNil)))) { nx := fun _ C' => Q .non C', rt := Q, xc := χ } [some (.ref a), some (.ref a), some (.tup (ns.map T.str))] (up C4 p2 (.lst (ns.map T.str))) := fun hsh => by
        refine ⟨_, rfl, _, _, E5 _ _ ha, atI_0, _, rfl, _, rfl, _, _, E5 _ _ ha, (show atI ((T.str s :: xs) ++ [vl]) (-1) = some vl from atI_last _ _), G.at (by omega) hwl (h4.ex E5) (fun y C7 ey E7 => ?_) fun ee => qr (by rw [eb, ee])⟩
        exact ⟨Nat.le_of_ble_eq_true rfl, q (s, ns, y) C7 (by rw [eb, ey]; simp [nd, hsh]) (E5.trans E7)⟩
      have sh : gcT g_SHAPES s = match shp.lookup s with | some i => T.int i | none => .non := rfl
      rw [sh]
      cases hsh : shp.lookup s with
      | none => exact ⟨rfl, rfl, true, rfl, ite_t (s_raise (τ := []) R (qr (by rw [eb]; cases rd f l <;> simp [hsh])))⟩
      | some i =>
        by_cases ki : i = (ns.length : Int)
        · refine neI (v := true) (by rw [ki, en]; simp) ⟨false, rfl, ite_f (fin (by rw [hsh, ki]))⟩
        · refine neI (v := false) (by rw [en]; simpa using ki) ⟨true, rfl, ite_t (s_raise (τ := []) R (qr (by rw [eb]; cases rd f l <;> simp [hsh, ki])))⟩
end
set_option Elab.async false
set_option linter.all false
set_option maxRecDepth 100000
set_option maxHeartbeats 400000
open PySem PySem.Spec PyProof.Rows L2 WL Rd
theorem eqTs_strs : ∀ (as bs : List Str), eqTs (as.map T.str) (bs.map T.str) = decide (as = bs)
  | [], [] => by simp [eqTs]
  | [], _ :: _ => by simp [eqTs]
  | _ :: _, [] => by simp [eqTs]
  | a :: as, b :: bs => by
    have ih := eqTs_strs as bs
    simp only [List.map_cons, eqTs, WL.eqT, ih]
    by_cases h : a = b <;> by_cases k : as = bs <;> simp [h, k]
theorem inL_fam (ss : List Str) : inL (.tup (ss.map T.str)) (fams.map fun l => .tup (l.map T.str)) = decide (ss ∈ fams) := by
  unfold inL
  rw [List.any_map]
  have : ((fun y => WL.eqT y (.tup (ss.map T.str))) ∘ fun l : List Str => T.tup (l.map T.str)) = fun l => decide (l = ss) := by
    funext l
    show WL.eqT (.tup (l.map T.str)) (.tup (ss.map T.str)) = _
    simp only [WL.eqT]
    exact eqTs_strs l ss
  rw [this]
  by_cases h : ss ∈ fams
  · rw [decide_eq_true h]; exact List.any_eq_true.mpr ⟨ss, h, by simp⟩
  · rw [decide_eq_false h]; exact List.any_eq_false.mpr fun l hl => by
      have : l ≠ ss := fun e => h (e ▸ hl)
      simp [this]
section
variable {C : Hw} {Q : WK} {χ : WX} {n f m : Nat} {W : Nat → Calls} {r : Prop}
theorem s_choose {a : Addr} {vs : List T} {ts : List Tr} (R : Rp W r) (G : GT W r f) (hm : 3 * f + 5 ≤ m) (ha : C a = some (.lst vs)) (hl : ts.length ≤ 500) (hw : ∀ t ∈ ts, Wt f t) (hv : TrHs C vs ts)
    (q : ∀ x C', rdChoose (rd f) ts = some x → Ex C C' → Q x C') (qr : rdChoose (rd f) ts = none → r) : W m i_choose_term [.ref a] C Q χ := by
  obtain ⟨m, rfl⟩ : ∃ k, m = k + 3 := ⟨m - 3, by omega⟩
  refine R.o_choose_term rfl ⟨_, rfl, Nat.zero_le _, ?_⟩
  intro p hp
  refine wEq_nil ((Ex.new hp) _ _ ha) up_same ⟨_, rfl, ?_⟩
  cases ts with
  | nil =>
    cases of_tnil hv
    exact ite_t (s_raise (τ := []) R (qr rfl))
  | cons t ts =>
    obtain ⟨v, rs, rfl, h1, h2⟩ := of_tcons hv
    have E2 : Ex C (up C p (.lst [])) := Ex.new hp
    have hl' : ts.length + 1 ≤ 500 := by simpa using hl
    refine ite_f ⟨_, rfl, 1, rfl, _, E2 _ _ ha, fun l hl2 => ?_⟩
    rw [cut_1]
    have E3 := E2.trans (Ex.new (o := .lst rs) hl2)
    refine ⟨_, up_same, comp_all (g := altOf (rd f)) (enc := fun b => .tup [.str b.1, .tup (b.2.1.map T.str), b.2.2]) (Wp := Wt f) (r := r) (fun t v C Q hw hv q qr => s_alt R G (by omega) hw hv q qr) ts rs [] _ (fun C' h => h _ _ up_same) (fun t m => hw t (.tail _ m)) (h2.ex E3) (by simp; omega) (fun bs C4 eb E4 => ?_) fun e => qr (by simp only [rdChoose, e]; cases rd f t <;> rfl)⟩
    rw [List.nil_append]
    intro p2 hp2
    refine ⟨_, rfl, _, up_same, ?_⟩
    have E5 := (E3.trans E4).trans (Ex.new (o := .lst (bs.map fun b => T.tup [.str b.1, .tup (b.2.1.map T.str), b.2.2])) hp2)
    have hlb : bs.length ≤ 500 := by rw [all_len eb]; omega
    refine ⟨_, rfl, comp_pure (fun v => match v with | .tup [s, _, _] => s | _ => .non) trivial (by simp; exact Nat.le_of_lt (small1000 (by omega))) (fun y hy R' hR => ?_) fun p3 hp3 => ?_⟩
    · obtain ⟨b, _, rfl⟩ := List.mem_map.mp hy
      exact ⟨_, rfl, _, _, rfl, _, _, rfl, _, _, rfl, rfl, _, rfl, hR⟩
    have em : List.map (fun v : T => match v with | .tup [s, _, _] => s | _ => .non) (List.map (fun b : Str × List Str × T => T.tup [.str b.1, .tup (b.2.1.map T.str), b.2.2]) bs) = (bs.map (·.1)).map T.str := by
      rw [List.map_map, List.map_map]; rfl
    rw [em]
    have E6 := E5.trans (Ex.new (o := .lst ((bs.map (·.1)).map T.str)) hp3)
    refine ⟨_, rfl, _, up_same, flat_tup (fun x hx => by obtain ⟨y, _, rfl⟩ := List.mem_map.mp hx; exact flat_str), rfl, ?_⟩
    refine ⟨_, rfl, ?_⟩
    have ei : inL (.tup ((bs.map (·.1)).map T.str)) [.tup [.str "Nil", .str "Cons"], .tup [.str "No", .str "Yes"], .tup [.str "Pair"]] = decide (bs.map (·.1) ∈ fams) := inL_fam _
    by_cases kf : bs.map (·.1) ∈ fams
    · refine ite_n (by show (if true = true then !inL _ _ else inL _ _) = false; rw [if_pos rfl, ei, decide_eq_true kf]; rfl) ?_
      refine ⟨_, rfl, _, _, E6 _ _ ha, atI_0, G.at (by omega) (hw t (.head _)) (h1.ex E6) (fun x C1 ex hE => ?_) fun e => qr (by simp only [rdChoose, e])⟩
      exact ⟨_, rfl, Nat.le_of_ble_eq_true rfl, q _ _ (by simp only [rdChoose, ex, eb]; rw [if_pos kf]) (E6.trans hE)⟩
    · refine ite_p (by show (if true = true then !inL _ _ else inL _ _) = true; rw [if_pos rfl, ei, decide_eq_false kf]; rfl) (s_raise (τ := []) R (qr ?_))
      simp only [rdChoose, eb]
      cases rd f t
      · rfl
      · exact if_neg kf
end
set_option Elab.async false
set_option linter.all false
set_option maxRecDepth 100000
set_option maxHeartbeats 400000
open PySem PySem.Spec PyProof.Rows L2 WL Rd
section
variable {C : Hw} {Q : WK} {χ : WX} {n f m : Nat} {W : Nat → Calls} {r : Prop}
theorem s_term_w {x : Str} (R : Rp W r) (hx : Wk x) (q : ∀ t C', rdWord x = some t → Ex C C' → Q t C') (qr : rdWord x = none → r) : W (n + 3) i_term_of [.str x] C Q χ :=
  R.o_term_of rfl ⟨_, rfl, "str", rfl, true, rfl, ite_t ⟨_, rfl, s_word R hx q qr⟩⟩
theorem inR_w {x : Str} {τ : Sw} (q : Q (.bl (decide (x ∈ ops))) C) : eC g_OPS τ C (fun y C2 => wInR (.str x) y C2 Q) χ := by
  show wInG false (.str x) (.tup (ops.map T.str)) C Q
  exact ⟨flat_str, flats_strs, by rw [inL_strs]; exact q⟩
theorem inR_n {a : Addr} {vs : List T} {τ : Sw} (ha : C a = some (.lst vs)) (q : Q (.bl false) C) : eC g_OPS τ C (fun y C2 => wInR (.ref a) y C2 Q) χ := ⟨⟨_, ha⟩, ⟨ops, rfl⟩, q⟩
theorem gt_n (R : Rp W r) (G : GT W r f) {ts : List Tr} {a : Addr} {vs : List T} (hl : ts.length ≤ 500) (hw : ∀ t ∈ ts, Wt f t) (ha : C a = some (.lst vs)) (hv : TrHs C vs ts)
    (q : ∀ x C', rdL (rd f) ts = some x → Ex C C' → Q x C') (qr : rdL (rd f) ts = none → r) (hm : 3 * f + 5 ≤ m) : W (m + 1) i_term_of [.ref a] C Q χ := by
  refine R.o_term_of rfl ⟨_, rfl, "list", .inl ⟨rfl, _, ha⟩, false, rfl, ite_f ⟨_, rfl, Nat.zero_le _, ?_⟩⟩
  intro p hp
  refine wEq_nil ((Ex.new hp) _ _ ha) up_same ⟨_, rfl, ?_⟩
  obtain ⟨m, rfl⟩ : ∃ k, m = k + 1 := ⟨m - 1, by omega⟩
  cases ts with
  | nil =>
    cases of_tnil hv
    exact ite_t (s_raise (τ := []) R (qr rfl))
  | cons t ts =>
    obtain ⟨v, rs, rfl, h1, h2⟩ := of_tcons hv
    have E1 : Ex C (up C p (.lst [])) := Ex.new hp
    have hl' : ts.length ≤ 500 := by simp at hl; omega
    have hw' : ∀ t ∈ ts, Wt f t := fun t m => hw t (.tail _ m)
    refine ite_f ⟨_, rfl, _, _, E1 _ _ ha, atI_0, _, rfl, 1, rfl, _, E1 _ _ ha, fun b hb => ?_⟩
    rw [cut_1]
    have E := E1.trans (Ex.new (o := .lst rs) hb)
    have hb' : (up (up C p (.lst [])) b (.lst rs)) b = some (.lst rs) := up_same
    have call : (rdL (rd f) (t :: ts) = rdCall (rd f) (t :: ts)) → ∀ {Q' : WK}, Q' = Q → W (m + 1) i_call_term [.ref a] (up (up C p (.lst [])) b (.lst rs)) Q' χ := by
      rintro ec Q' rfl
      rw [ec] at q qr
      exact s_call R G (by omega) (E _ _ ha) hl hw (trs_cons (h1.ex E) (h2.ex E)) (fun x C' ex hE => q x C' ex (E.trans hE)) qr
    cases t with
    | n us =>
      obtain ⟨a0, vs0, rfl, ha0, _⟩ := of_n h1
      have h1' := h1.ex E
      refine ⟨_, rfl, inR_n (E _ _ ha0) ⟨_, rfl, ite_f ?_⟩⟩
      refine ⟨_, rfl, eqT_w h1' ⟨_, rfl, ite_f ⟨_, rfl, eqT_w h1' ⟨_, rfl, ite_f ⟨_, rfl, eqT_w h1' ⟨_, rfl, ite_f ⟨_, rfl, eqT_w h1' ⟨_, rfl, ite_f ⟨_, rfl, eqT_w h1' ⟨_, rfl, ite_f ⟨_, rfl, eqT_w h1' ⟨_, rfl, ite_f ?_⟩⟩⟩⟩⟩⟩⟩⟩⟩⟩⟩⟩
      exact ⟨_, rfl, eqT_w h1' ⟨_, rfl, ite_f ⟨_, rfl, eqT_w h1' ⟨_, rfl, ite_f ⟨_, rfl, call rfl rfl⟩⟩⟩⟩⟩
    | w x =>
      cases of_w h1
      have h2' := h2.ex E
      have ee : ∀ s : Str, (x == s) = true → x = s := fun s h => by simpa using h
      have en : ∀ {s : Str}, x ≠ s → (x == s) = false := fun h => by simpa using h
      refine ⟨_, rfl, inR_w ⟨_, rfl, ?_⟩⟩
      by_cases k0 : x ∈ ops
      · have e : rdL (rd f) (.w x :: ts) = (two (rd f) ts).map fun p => .tup [.str "does", .str x, p.1, p.2] := if_pos k0
        rw [e] at q qr
        exact ite_p (decide_eq_true k0) ⟨_, rfl, Nat.le_of_ble_eq_true rfl, _, rfl, s_two R G (by omega) hb' hl' hw' h2' (fun y z C' e hE => ⟨Nat.le_of_ble_eq_true rfl, q _ C' (by rw [e]; rfl) (E.trans hE)⟩) fun e => qr (by rw [e]; rfl)⟩
      refine ite_n (decide_eq_false k0) ⟨_, rfl, eqSc rfl ⟨_, rfl, ?_⟩⟩
      simp only [rdL, if_neg k0] at q qr
      by_cases k1 : x = "fun"
      · rw [if_pos k1] at q qr
        exact ite_p (by simpa using k1) ⟨_, rfl, s_fun R G (by omega) hb' hl' hw' h2' (fun y C' e hE => q y C' e (E.trans hE)) qr⟩
      rw [if_neg k1] at q qr
      refine ite_n (en k1) ⟨_, rfl, eqSc rfl ⟨_, rfl, ?_⟩⟩
      by_cases k2 : x = "let"
      · rw [if_pos k2] at q qr
        exact ite_p (by simpa using k2) ⟨_, rfl, s_let R G (by omega) hb' hl' hw' h2' (fun y C' e hE => q y C' e (E.trans hE)) qr⟩
      rw [if_neg k2] at q qr
      refine ite_n (en k2) ⟨_, rfl, eqSc rfl ⟨_, rfl, ?_⟩⟩
      by_cases k3 : x = "choose"
      · rw [if_pos k3] at q qr
        exact ite_p (by simpa using k3) ⟨_, rfl, s_choose R G (by omega) hb' hl' hw' h2' (fun y C' e hE => q y C' e (E.trans hE)) qr⟩
      rw [if_neg k3] at q qr
      refine ite_n (en k3) ⟨_, rfl, eqSc rfl ⟨_, rfl, ?_⟩⟩
      by_cases k4 : x = "first"
      · rw [if_pos k4] at q qr
        exact ite_p (by simpa using k4) ⟨Nat.le_of_ble_eq_true rfl, _, rfl, s_two R G (by omega) hb' hl' hw' h2' (fun y z C' e hE => ⟨Nat.le_of_ble_eq_true rfl, q _ C' (by rw [e]; rfl) (E.trans hE)⟩) fun e => qr (by rw [e]; rfl)⟩
      rw [if_neg k4] at q qr
      refine ite_n (en k4) ⟨_, rfl, eqSc rfl ⟨_, rfl, ?_⟩⟩
      by_cases k5 : x = "stop"
      · rw [if_pos k5] at q qr
        exact ite_p (by simpa using k5) ⟨_, rfl, s_stop R (by omega) hb' hw' h2' (fun y C' e hE => q y C' e (E.trans hE)) qr⟩
      rw [if_neg k5] at q qr
      refine ite_n (en k5) ⟨_, rfl, eqSc rfl ⟨_, rfl, ?_⟩⟩
      by_cases k6 : x = "rows"
      · rw [if_pos k6] at q qr
        exact ite_p (by simpa using k6) ⟨_, rfl, s_rows R G (by omega) hb' hl' hw' h2' (fun y C' e hE => q y C' e (E.trans hE)) qr⟩
      rw [if_neg k6] at q qr
      refine ite_n (en k6) ⟨_, rfl, eqSc rfl ⟨_, rfl, ?_⟩⟩
      have shape : (x = "Cons" ∨ x = "Pair") → ∀ {D : We}, D.rt = Q → D.xc = χ → sRet (eTup (aCons (eC (.str "shape")) (aCons (eVar 1) (aCons (eCall (W (m + 1)) 7 (aCons (eVar 2) aNil)) aNil)))) D [some (.ref a), some (.str x), some (.ref b)] (up (up C p (.lst [])) b (.lst rs)) := by
        rintro k7 D hD hX
        obtain ⟨nx, rt, bk, ct, xc⟩ := D
        cases hD
        cases hX
        rw [if_pos k7] at q qr
        exact ⟨_, rfl, _, rfl, s_two R G (by omega) hb' hl' hw' h2' (fun y z C' e hE => ⟨Nat.le_of_ble_eq_true rfl, q _ C' (by rw [e]; rfl) (E.trans hE)⟩) fun e => qr (by rw [e]; rfl)⟩
      by_cases k7 : x = "Cons"
      · exact ite_p (by simpa using k7) (shape (.inl k7) rfl rfl)
      refine ite_n (en k7) ⟨_, rfl, eqSc rfl ⟨_, rfl, ?_⟩⟩
      by_cases k8 : x = "Pair"
      · exact ite_p (by simpa using k8) (shape (.inr k8) rfl rfl)
      refine ite_n (en k8) ⟨_, rfl, call ?_ rfl⟩
      have k9 : ¬ (x = "Cons" ∨ x = "Pair") := by simp [k7, k8]
      show (if x ∈ ops then _ else _) = _
      rw [if_neg k0, if_neg k1, if_neg k2, if_neg k3, if_neg k4, if_neg k5, if_neg k6, if_neg k9]
theorem gt_all (R : Rp W r) : ∀ f, GT W r f
  | 0, n, C, Q, χ, v, t, hw, hv, q, qr => by
    cases hw with
    | w h => cases of_w hv; exact s_term_w R h q qr
  | f + 1, n, C, Q, χ, v, t, hw, hv, q, qr => by
    cases hw with
    | w h =>
      cases of_w hv
      exact s_term_w (n := n + 3 * (f + 1)) R h q qr
    | n hl h =>
      obtain ⟨a, vs, rfl, ha, hs⟩ := of_n hv
      exact gt_n (m := n + 3 * f + 5) R (gt_all R f) hl h ha hs q qr (by omega)
end
set_option Elab.async false
set_option linter.all false
set_option maxRecDepth 100000
set_option maxHeartbeats 400000
/-! a tree with trees put for its words is read just where it is read itself (pure) -/
namespace Rd
open PySem PySem.Spec PyProof.Rows L2 WL
mutual
def mp (s : Str → Tr) : Tr → Tr
  | .w x => s x
  | .n ts => .n (mps s ts)
def mps (s : Str → Tr) : List Tr → List Tr
  | [] => []
  | t :: ts => mp s t :: mps s ts
end
theorem mp_w {s : Str → Tr} {x : Str} : mp s (.w x) = s x := by unfold mp; rfl
theorem mps_map {s : Str → Tr} : ∀ ts : List Tr, mps s ts = ts.map (mp s)
  | [] => by unfold mps; rfl
  | t :: ts => by unfold mps; rw [mps_map ts]; rfl
theorem mp_n {s : Str → Tr} {ts : List Tr} : mp s (.n ts) = .n (ts.map (mp s)) := by unfold mp; rw [mps_map]
mutual
def fl : Tr → List Str
  | .w x => [x]
  | .n ts => "(" :: (fls ts ++ [(")" : Str)])
def fls : List Tr → List Str
  | [] => []
  | t :: ts => fl t ++ fls ts
end
theorem fl_w {x : Str} : fl (.w x) = [x] := by unfold fl; rfl
theorem fl_n {ts : List Tr} : fl (.n ts) = ("(" : Str) :: (fls ts ++ [(")" : Str)]) := by rw [fl]
theorem fls_0 : fls [] = [] := by unfold fls; rfl
theorem fls_c {t : Tr} {ts : List Tr} : fls (t :: ts) = fl t ++ fls ts := by rw [fls]
def sp : List Str := ops ++ nine ++ shp.map (·.1)
def wH (H : List Str) : Tr → Bool
  | .w x => decide (x ∈ H)
  | .n _ => true
def hdT (H : List Str) : List Tr → Bool
  | .w x :: r => decide (x ∈ H) && (!(x == "let") || r.dropLast.all (wH H)) && (!(x == "choose") || r.tail.all (wH H)) && (!(x == "rows") || r.tail.all (wH H))
  | _ => true
/-- what is asked of a pattern: at most n levels, its words in L, those that head a bracket in H -/
def okP (L H : List Str) : Nat → Tr → Bool
  | _, .w x => decide (x ∈ L)
  | 0, .n _ => false
  | n + 1, .n ts => ts.all (okP L H n) && (hdT H ts && decide (ts.length ≤ 500))
theorem okP_mono {L H : List Str} : ∀ {n : Nat} {t : Tr}, okP L H n t = true → okP L H (n + 1) t = true
  | n, .w x, h => by cases n <;> exact h
  | 0, .n _, h => by cases h
  | n + 1, .n ts, h => by
    unfold okP at h ⊢
    rw [Bool.and_eq_true, List.all_eq_true] at h ⊢
    exact ⟨fun t ht => okP_mono (h.1 t ht), h.2⟩
theorem rd_w {n : Nat} {x : Str} : rd n (.w x) = rdWord x := by cases n <;> rfl
structure Sb (s : Str → Tr) (L H : List Str) (k : Nat) : Prop where
  t : ∀ w ∈ L, ∀ m, k ≤ m → (rd m (s w)).isSome = (rdWord w).isSome
  nm : ∀ w ∈ L, isNm w = true → ∃ x, s w = .w x ∧ isNm x = true
  no : ∀ w ∈ L, isNm w = false → nmOf (s w) = none
  inj : ∀ w ∈ L, ∀ v ∈ L, isNm w = true → isNm v = true → s w = s v → w = v
  h : ∀ w ∈ H, ∃ x, s w = .w x ∧ (x = w ∨ (w ∉ sp ∧ x ∉ sp))
section
variable {α β γ : Type}
theorem all_len {f : α → Option β} : ∀ {ts : List α} {bs : List β}, all f ts = some bs → bs.length = ts.length
  | [], bs, h => by cases h; rfl
  | t :: ts, bs, h => by
    unfold all at h
    cases e : f t with
    | none => rw [e] at h; cases h
    | some b =>
      rw [e] at h
      cases e2 : all f ts with
      | none => rw [e2] at h; cases h
      | some cs => rw [e2] at h; cases h; rw [List.length_cons, List.length_cons, all_len e2]
theorem all_mem {f : α → Option β} : ∀ {ts : List α} {bs : List β}, all f ts = some bs → ∀ b ∈ bs, ∃ t ∈ ts, f t = some b
  | [], bs, h, b, hb => by cases h; cases hb
  | t :: ts, bs, h, b, hb => by
    unfold all at h
    cases e : f t with
    | none => rw [e] at h; cases h
    | some c =>
      rw [e] at h
      cases e2 : all f ts with
      | none => rw [e2] at h; cases h
      | some cs =>
        rw [e2] at h; cases h
        rcases List.mem_cons.mp hb with rfl | hb
        · exact ⟨t, .head _, e⟩
        · obtain ⟨u, hu, eu⟩ := all_mem e2 b hb
          exact ⟨u, .tail _ hu, eu⟩
theorem all_sim {m : α → α} {f' f : α → Option β} {p : β → γ} {q : γ → γ} : ∀ {ts : List α}, (∀ t ∈ ts, (f' (m t)).map p = ((f t).map p).map q) → (all f' (ts.map m)).map (List.map p) = ((all f ts).map (List.map p)).map (List.map q)
  | [], _ => rfl
  | t :: ts, h => by
    have h1 := h t (.head _)
    have h2 := all_sim (ts := ts) fun u hu => h u (.tail _ hu)
    rw [List.map_cons]
    unfold all
    cases e : f t with
    | none =>
      rw [e] at h1
      cases e' : f' (m t) with
      | none => rfl
      | some b => rw [e'] at h1; cases h1
    | some b =>
      rw [e] at h1
      cases e' : f' (m t) with
      | none => rw [e'] at h1; cases h1
      | some b' =>
        rw [e'] at h1
        cases e2 : all f ts with
        | none =>
          rw [e2] at h2
          cases e2' : all f' (ts.map m) with
          | none => rfl
          | some bs => rw [e2'] at h2; cases h2
        | some bs =>
          rw [e2] at h2
          cases e2' : all f' (ts.map m) with
          | none => rw [e2'] at h2; cases h2
          | some bs' =>
            rw [e2'] at h2
            have a1 := Option.some.inj h1
            have a2 := Option.some.inj h2
            show some (p b' :: bs'.map p) = some (q (p b) :: (bs.map p).map q)
            rw [a1, a2]
theorem isSome_map {o : Option α} {f : α → β} : (o.map f).isSome = o.isSome := by cases o <;> rfl
theorem map_un {o o' : Option α} : o'.map (fun _ => ()) = (o.map fun _ => ()).map id ↔ o'.isSome = o.isSome := by cases o <;> cases o' <;> simp
theorem all_some {m : α → α} {f' f : α → Option β} {ts : List α} (h : ∀ t ∈ ts, (f' (m t)).isSome = (f t).isSome) : (all f' (ts.map m)).isSome = (all f ts).isSome := by
  have := congrArg Option.isSome (all_sim (p := fun _ : β => ()) (q := id) fun t ht => map_un.mpr (h t ht))
  simpa [isSome_map] using this
end
theorem nodup_inj {f : Str → Str} : ∀ {l : List Str}, (∀ a ∈ l, ∀ b ∈ l, f a = f b → a = b) → ((l.map f).Nodup ↔ l.Nodup)
  | [], _ => by simp
  | a :: l, h => by
    have ih := nodup_inj (f := f) (l := l) fun x hx y hy => h x (.tail _ hx) y (.tail _ hy)
    rw [List.map_cons, List.nodup_cons, List.nodup_cons, ih]
    refine and_congr_left fun _ => not_congr ⟨fun hm => ?_, fun hm => List.mem_map_of_mem hm⟩
    obtain ⟨b, hb, e⟩ := List.mem_map.mp hm
    rw [← h b (.tail _ hb) a (.head _) e]; exact hb
section
variable {s : Str → Tr} {L H : List Str} {k n m : Nat} {g g' : Tr → Option T} (S : Sb s L H k)
def un (s : Str → Tr) (w : Str) : Str := match s w with | .w x => x | .n _ => w
theorem ok_n {ts : List Tr} (h : okP L H n (.n ts) = true) : ∀ t ∈ ts, okP L H n t = true := by
  cases n with
  | zero => cases h
  | succ n =>
    unfold okP at h
    rw [Bool.and_eq_true, List.all_eq_true] at h
    exact fun t ht => okP_mono (h.1 t ht)
theorem ok_hd {ts : List Tr} (h : okP L H n (.n ts) = true) : hdT H ts = true := by
  cases n with
  | zero => cases h
  | succ n =>
    unfold okP at h
    rw [Bool.and_eq_true, Bool.and_eq_true] at h
    exact h.2.1
theorem ok_len {ts : List Tr} (h : okP L H n (.n ts) = true) : ts.length ≤ 500 := by
  cases n with
  | zero => cases h
  | succ n =>
    unfold okP at h
    rw [Bool.and_eq_true, Bool.and_eq_true, decide_eq_true_eq] at h
    exact h.2.2
theorem ok_h {x : Str} {ts : List Tr} (h : hdT H (.w x :: ts) = true) : x ∈ H := by
  unfold hdT at h
  simp only [Bool.and_eq_true, decide_eq_true_eq] at h
  exact h.1.1.1
theorem ok_let {ts : List Tr} (h : hdT H (.w "let" :: ts) = true) : ∀ t ∈ ts.dropLast, wH H t = true := by
  unfold hdT at h
  simp only [Bool.and_eq_true, decide_eq_true_eq] at h
  have := h.1.1.2
  rw [show ((("let" : Str) == ("let" : Str))) = true by decide, Bool.not_true, Bool.false_or, List.all_eq_true] at this
  exact this
theorem ok_ch {ts : List Tr} (h : hdT H (.w "choose" :: ts) = true) : ∀ t ∈ ts.tail, wH H t = true := by
  unfold hdT at h
  simp only [Bool.and_eq_true, decide_eq_true_eq] at h
  have := h.1.2
  rw [show ((("choose" : Str) == ("choose" : Str))) = true by decide, Bool.not_true, Bool.false_or, List.all_eq_true] at this
  exact this
theorem ok_ro {ts : List Tr} (h : hdT H (.w "rows" :: ts) = true) : ∀ t ∈ ts.tail, wH H t = true := by
  unfold hdT at h
  simp only [Bool.and_eq_true, decide_eq_true_eq] at h
  have := h.2
  rw [show ((("rows" : Str) == ("rows" : Str))) = true by decide, Bool.not_true, Bool.false_or, List.all_eq_true] at this
  exact this
theorem ok_w {x : Str} (h : okP L H n (.w x) = true) : x ∈ L := by cases n <;> exact of_decide_eq_true h
include S
theorem nm_sim {t : Tr} (h : okP L H n t = true) : nmOf (mp s t) = (nmOf t).map (un s) := by
  cases t with
  | n ts => rw [mp_n]; rfl
  | w x =>
    have hx := ok_w h
    rw [mp_w]
    cases e : isNm x with
    | true =>
      obtain ⟨y, e1, e2⟩ := S.nm x hx e
      have : un s x = y := by unfold un; rw [e1]
      rw [e1]
      unfold nmOf
      dsimp only
      rw [if_pos e2, if_pos e, Option.map_some, this]
    | false =>
      rw [S.no x hx e]
      unfold nmOf
      dsimp only
      rw [if_neg (by rw [e]; decide)]; rfl
theorem un_inj {a b : Str} (ha : a ∈ L) (hb : b ∈ L) (na : isNm a = true) (nb : isNm b = true) (e : un s a = un s b) : a = b := by
  obtain ⟨x, ex, _⟩ := S.nm a ha na
  obtain ⟨y, ey, _⟩ := S.nm b hb nb
  refine S.inj a ha b hb na nb ?_
  unfold un at e
  rw [ex, ey] at e
  rw [ex, ey]
  exact congrArg Tr.w e
theorem nms_sim {ts : List Tr} (h : ∀ t ∈ ts, okP L H n t = true) : all nmOf (ts.map (mp s)) = (all nmOf ts).map (List.map (un s)) := by
  have := all_sim (p := id) (q := un s) (f := nmOf) (f' := nmOf) (m := mp s) (ts := ts) fun t ht => by
    have := nm_sim S (h t ht)
    simpa using this
  simpa using this
omit S in
theorem nm_of {t : Tr} {x : Str} (h : nmOf t = some x) : t = .w x ∧ isNm x = true := by
  cases t with
  | n ts => cases h
  | w y =>
    unfold nmOf at h
    dsimp only at h
    by_cases c : isNm y = true
    · rw [if_pos c] at h; cases h; exact ⟨rfl, c⟩
    · rw [if_neg c] at h; cases h
theorem nodup_sim {ts : List Tr} {ns : List Str} (h : ∀ t ∈ ts, okP L H n t = true) (e : all nmOf ts = some ns) : (ns.map (un s)).Nodup ↔ ns.Nodup := by
  have key : ∀ a ∈ ns, a ∈ L ∧ isNm a = true := fun a ha => by
    obtain ⟨t, ht, e1⟩ := all_mem e a ha
    obtain ⟨rfl, e2⟩ := nm_of e1
    exact ⟨ok_w (h _ ht), e2⟩
  exact nodup_inj fun a ha b hb e => un_inj S (key a ha).1 (key b hb).1 (key a ha).2 (key b hb).2 e
variable (hg : ∀ t, okP L H n t = true → (g' (mp s t)).isSome = (g t).isSome)
include hg
omit S in
theorem two_sim {ts : List Tr} (h : ∀ t ∈ ts, okP L H n t = true) : (two g' (ts.map (mp s))).isSome = (two g ts).isSome := by
  match ts, h with
  | [], _ => rfl
  | [_], _ => rfl
  | _ :: _ :: _ :: _, _ => rfl
  | [a, b], h =>
    have h1 := hg a (h a (.head _))
    have h2 := hg b (h b (.tail _ (.head _)))
    show (two g' [mp s a, mp s b]).isSome = _
    unfold two
    dsimp only
    cases e1 : g a <;> cases e1' : g' (mp s a) <;> rw [e1, e1'] at h1 <;> first | rfl | (cases h1; done) | skip
    · cases e2 : g b <;> cases e2' : g' (mp s b) <;> rw [e2, e2'] at h2 <;> first | (cases h2; done) | rfl
omit S hg in
theorem last_map {ts : List Tr} (h : ts ≠ []) : (ts.map (mp s)).getLast! = mp s ts.getLast! := by
  rw [← List.dropLast_concat_getLast h]
  simp
omit S hg in
theorem last_mem {ts : List Tr} (h : ts ≠ []) : ts.getLast! ∈ ts := by
  obtain ⟨l, a, rfl⟩ : ∃ l a, ts = l ++ [a] := ⟨ts.dropLast, ts.getLast h, (List.dropLast_concat_getLast h).symm⟩
  simp
omit S hg in
theorem drop_map {ts : List Tr} : (ts.map (mp s)).dropLast = ts.dropLast.map (mp s) := List.map_dropLast.symm
theorem fun_sim {ts : List Tr} (h : ∀ t ∈ ts, okP L H n t = true) : (rdFun g' (ts.map (mp s))).isSome = (rdFun g ts).isSome := by
  unfold rdFun
  rw [List.length_map]
  by_cases c : ts.length < 2
  · rw [if_pos c, if_pos c]
  rw [if_neg c, if_neg c]
  have ne : ts ≠ [] := fun e => c (by rw [e]; decide)
  rw [drop_map, last_map ne, nms_sim S fun t ht => h t (List.dropLast_subset _ ht)]
  have h2 := hg _ (h _ (last_mem ne))
  cases all nmOf ts.dropLast with
  | none => rfl
  | some ss => cases e : g ts.getLast! <;> cases e' : g' (mp s ts.getLast!) <;> rw [e, e'] at h2 <;> first | (cases h2; done) | rfl
omit S in
theorem call_sim {ts : List Tr} (h : ∀ t ∈ ts, okP L H n t = true) : (rdCall g' (ts.map (mp s))).isSome = (rdCall g ts).isSome := by
  unfold rdCall
  rw [List.length_map]
  by_cases c : ts.length < 2
  · rw [if_pos c, if_pos c]
  rw [if_neg c, if_neg c]
  have h1 := all_some (m := mp s) (f' := g') (f := g) (ts := ts) fun t ht => hg t (h t ht)
  cases e : all g ts with
  | none =>
    rw [e] at h1
    cases e' : all g' (ts.map (mp s)) with
    | none => rfl
    | some bs => rw [e'] at h1; cases h1
  | some bs =>
    rw [e] at h1
    cases e' : all g' (ts.map (mp s)) with
    | none => rw [e'] at h1; cases h1
    | some bs' =>
      have l1 := all_len e
      have l2 := all_len e'
      rw [List.length_map] at l2
      cases bs with
      | nil => rw [← l1] at c; exact absurd (by decide) c
      | cons b bs =>
        cases bs' with
        | nil => rw [← l2] at c; exact absurd (by decide) c
        | cons b' bs' => rfl
theorem pair_sim {t : Tr} (h : okP L H n t = true) (hw : wH H t = true) : (pairOf g' (mp s t)).map (·.1) = ((pairOf g t).map (·.1)).map (un s) ∧ ∀ p, pairOf g t = some p → p.1 ∈ L ∧ isNm p.1 = true := by
  cases t with
  | w x =>
    obtain ⟨y, ey, _⟩ := S.h x (of_decide_eq_true hw)
    rw [mp_w, ey]
    exact ⟨rfl, fun p hp => by cases hp⟩
  | n us =>
    rw [mp_n]
    have hu := ok_n h
    match us, hu with
    | [], _ => exact ⟨rfl, fun p hp => by cases hp⟩
    | [_], _ => exact ⟨rfl, fun p hp => by cases hp⟩
    | _ :: _ :: _ :: _, _ => exact ⟨rfl, fun p hp => by cases hp⟩
    | [a, b], hu =>
      have h1 := nm_sim S (hu a (.head _))
      have h2 := hg b (hu b (.tail _ (.head _)))
      show (pairOf g' (.n [mp s a, mp s b])).map (·.1) = _ ∧ _
      unfold pairOf
      dsimp only
      rw [h1]
      cases e1 : nmOf a with
      | none => exact ⟨rfl, fun p hp => by cases hp⟩
      | some x =>
        obtain ⟨rfl, ex⟩ := nm_of e1
        cases e : g b <;> cases e' : g' (mp s b) <;> rw [e, e'] at h2 <;> first | (cases h2; done) | skip
        · exact ⟨rfl, fun p hp => by cases hp⟩
        · exact ⟨rfl, fun p hp => by cases hp; exact ⟨ok_w (hu _ (.head _)), ex⟩⟩
theorem let_sim {ts : List Tr} (h : ∀ t ∈ ts, okP L H n t = true) (hw : ∀ t ∈ ts.dropLast, wH H t = true) : (rdLet g' (ts.map (mp s))).isSome = (rdLet g ts).isSome := by
  unfold rdLet
  rw [List.length_map]
  by_cases c : ts.length < 2 ∨ ts.length > 6
  · rw [if_pos c, if_pos c]
  rw [if_neg c, if_neg c]
  have ne : ts ≠ [] := fun e => c (by rw [e]; exact .inl (by decide))
  rw [drop_map, last_map ne]
  have h2 := hg _ (h _ (last_mem ne))
  have h1 := all_sim (m := mp s) (f' := pairOf g') (f := pairOf g) (p := (·.1)) (q := un s) (ts := ts.dropLast) fun t ht => (pair_sim S hg (h t (List.dropLast_subset _ ht)) (hw t ht)).1
  cases e : all (pairOf g) ts.dropLast with
  | none =>
    rw [e] at h1
    cases e' : all (pairOf g') (ts.dropLast.map (mp s)) with
    | none => rfl
    | some bs => rw [e'] at h1; cases h1
  | some ps =>
    rw [e] at h1
    cases e' : all (pairOf g') (ts.dropLast.map (mp s)) with
    | none => rw [e'] at h1; cases h1
    | some ps' =>
      rw [e'] at h1
      have h3 : ps'.map (·.1) = (ps.map (·.1)).map (un s) := Option.some.inj h1
      have key : ∀ a ∈ ps.map (·.1), a ∈ L ∧ isNm a = true := fun a ha => by
        obtain ⟨p, hp, rfl⟩ := List.mem_map.mp ha
        obtain ⟨t, ht, et⟩ := all_mem e p hp
        exact (pair_sim S hg (h t (List.dropLast_subset _ ht)) (hw t ht)).2 p et
      have h4 : (ps'.map (·.1)).Nodup ↔ (ps.map (·.1)).Nodup := by
        rw [h3]
        exact nodup_inj fun a ha b hb e => un_inj S (key a ha).1 (key b hb).1 (key a ha).2 (key b hb).2 e
      cases e : g ts.getLast! <;> cases e' : g' (mp s ts.getLast!) <;> rw [e, e'] at h2 <;> first | rfl | (cases h2; done) | skip
      · dsimp only
        by_cases nd : (ps.map (·.1)).Nodup
        · rw [if_pos nd, if_pos (h4.mpr nd)]; rfl
        · rw [if_neg nd, if_neg (fun z => nd (h4.mp z))]
omit hg in
theorem hd_sim {x : Str} (hx : x ∈ H) : ∃ y, s x = .w y ∧ ∀ z ∈ sp, y = z ↔ x = z := by
  obtain ⟨y, e, h | ⟨h1, h2⟩⟩ := S.h x hx
  · exact ⟨y, e, fun z _ => by rw [h]⟩
  · exact ⟨y, e, fun z hz => ⟨fun e => absurd (e ▸ hz) h2, fun e => absurd (e ▸ hz) h1⟩⟩
omit S hg in
theorem lk_none {y : Str} : ∀ {l : List (Str × Int)}, y ∉ l.map (·.1) → l.lookup y = none
  | [], _ => rfl
  | (a, b) :: l, h => by
    rw [List.map_cons, List.mem_cons, not_or] at h
    rw [List.lookup_cons, show (y == a) = false by simpa using h.1]
    exact lk_none h.2
omit hg in
theorem lk_sim {x : Str} (hx : x ∈ H) : ∃ y, s x = .w y ∧ (y = x ∨ (shp.lookup x = none ∧ shp.lookup y = none)) := by
  obtain ⟨y, e, h | ⟨h1, h2⟩⟩ := S.h x hx
  · exact ⟨y, e, .inl h⟩
  · have : ∀ z, z ∉ sp → shp.lookup z = none := fun z hz => lk_none fun hm => hz (List.mem_append_right _ hm)
    exact ⟨y, e, .inr ⟨this x h1, this y h2⟩⟩
theorem alt_sim {t : Tr} (h : okP L H n t = true) (hw : wH H t = true) : (altOf g' (mp s t)).map (·.1) = ((altOf g t).map (·.1)).map id := by
  cases t with
  | w x =>
    obtain ⟨y, ey, _⟩ := S.h x (of_decide_eq_true hw)
    rw [mp_w, ey]; rfl
  | n us =>
    rw [mp_n]
    have hu := ok_n h
    have hd := ok_hd h
    cases us with
    | nil => rfl
    | cons u r =>
      cases u with
      | n vs => rw [List.map_cons, mp_n]; rfl
      | w x =>
        obtain ⟨y, ey, hy⟩ := lk_sim S (ok_h hd)
        rw [List.map_cons, mp_w, ey]
        have hr : ∀ t ∈ r, okP L H n t = true := fun t ht => hu t (.tail _ ht)
        unfold altOf
        dsimp only
        by_cases c : r = []
        · subst c; rfl
        rw [if_neg c, if_neg (fun z => c (List.map_eq_nil_iff.mp z)), drop_map, last_map c, nms_sim S fun t ht => hr t (List.dropLast_subset _ ht)]
        have h2 := hg _ (hr _ (last_mem c))
        cases e : all nmOf r.dropLast with
        | none => rfl
        | some ns =>
          have h4 := nodup_sim S (fun t ht => hr t (List.dropLast_subset _ ht)) e
          cases e : g r.getLast! <;> cases e' : g' (mp s r.getLast!) <;> rw [e, e'] at h2 <;> first | rfl | (cases h2; done) | skip
          · dsimp only [Option.map_some]
            rw [List.length_map]
            rcases hy with rfl | ⟨l1, l2⟩
            · by_cases c2 : ns.Nodup ∧ shp.lookup y = some (ns.length : Int)
              · rw [if_pos c2, if_pos ⟨h4.mpr c2.1, c2.2⟩]; rfl
              · rw [if_neg c2, if_neg (fun z => c2 ⟨h4.mp z.1, z.2⟩)]; rfl
            · rw [if_neg (fun z => by rw [l2] at z; cases z.2), if_neg (fun z => by rw [l1] at z; cases z.2)]; rfl
theorem choose_sim {ts : List Tr} (h : ∀ t ∈ ts, okP L H n t = true) (hw : ∀ t ∈ ts.tail, wH H t = true) : (rdChoose g' (ts.map (mp s))).isSome = (rdChoose g ts).isSome := by
  cases ts with
  | nil => rfl
  | cons t as =>
    rw [List.map_cons]
    unfold rdChoose
    dsimp only
    have h2 := hg _ (h _ (.head _))
    have h1 := all_sim (m := mp s) (f' := altOf g') (f := altOf g) (p := (·.1)) (q := id) (ts := as) fun t ht => alt_sim S hg (h t (.tail _ ht)) (hw t ht)
    cases e1 : g t <;> cases e1' : g' (mp s t) <;> rw [e1, e1'] at h2 <;> first | rfl | (cases h2; done) | skip
    cases e : all (altOf g) as with
    | none =>
      rw [e] at h1
      cases e' : all (altOf g') (as.map (mp s)) with
      | none => rfl
      | some bs => rw [e'] at h1; cases h1
    | some ps =>
      rw [e] at h1
      cases e' : all (altOf g') (as.map (mp s)) with
      | none => rw [e'] at h1; cases h1
      | some ps' =>
        rw [e'] at h1
        have h3 : ps'.map (·.1) = ps.map (·.1) := by simpa using Option.some.inj h1
        dsimp only
        rw [h3]
        by_cases c : ps.map (·.1) ∈ fams
        · rw [if_pos c, if_pos c]; rfl
        · rw [if_neg c, if_neg c]
theorem step_sim {t : Tr} (h : okP L H n t = true) (hw : wH H t = true) : (stepOf g' (mp s t)).isSome = (stepOf g t).isSome := by
  cases t with
  | w x =>
    obtain ⟨y, ey, _⟩ := S.h x (of_decide_eq_true hw)
    rw [mp_w, ey]; rfl
  | n us =>
    rw [mp_n]
    have hu := ok_n h
    have hd := ok_hd h
    cases us with
    | nil => rfl
    | cons u r =>
      cases u with
      | n vs =>
        rw [List.map_cons, mp_n]
        match r with
        | [] => rfl
        | [_] => rfl
        | [_, _] => rfl
        | _ :: _ :: _ :: _ => rfl
      | w x =>
        obtain ⟨y, ey, hy⟩ := hd_sim S (ok_h hd)
        rw [List.map_cons, mp_w, ey]
        match r, hu with
        | [], _ => rfl
        | [a], hu =>
          have h2 := hg a (hu a (.tail _ (.head _)))
          show (stepOf g' (.n [.w y, mp s a])).isSome = (stepOf g (.n [.w x, a])).isSome
          unfold stepOf
          dsimp only
          have hy1 := hy "when" (by decide)
          by_cases c : x = "when"
          · rw [if_pos c, if_pos (hy1.mpr c), isSome_map, isSome_map]; exact h2
          · rw [if_neg c, if_neg (fun z => c (hy1.mp z))]
        | [a, b], hu =>
          have h1 := nm_sim S (hu a (.tail _ (.head _)))
          have h2 := hg b (hu b (.tail _ (.tail _ (.head _))))
          show (stepOf g' (.n [.w y, mp s a, mp s b])).isSome = (stepOf g (.n [.w x, a, b])).isSome
          unfold stepOf
          dsimp only
          have hy1 := hy "in" (by decide)
          have hy2 := hy "be" (by decide)
          by_cases c : x = "in" ∨ x = "be"
          · rw [if_pos c, if_pos (c.imp hy1.mpr hy2.mpr), h1]
            cases nmOf a with
            | none => rfl
            | some z => cases e : g b <;> cases e' : g' (mp s b) <;> rw [e, e'] at h2 <;> first | (cases h2; done) | rfl
          · rw [if_neg c, if_neg (fun z => c (z.imp hy1.mp hy2.mp))]
        | _ :: _ :: _ :: _, _ => rfl
theorem rows_sim {ts : List Tr} (h : ∀ t ∈ ts, okP L H n t = true) (hw : ∀ t ∈ ts.tail, wH H t = true) : (rdRows g' (ts.map (mp s))).isSome = (rdRows g ts).isSome := by
  cases ts with
  | nil => rfl
  | cons t as =>
    rw [List.map_cons]
    unfold rdRows
    dsimp only
    have h2 := hg _ (h _ (.head _))
    have h1 := all_some (m := mp s) (f' := stepOf g') (f := stepOf g) (ts := as) fun t ht => step_sim S hg (h t (.tail _ ht)) (hw t ht)
    cases e1 : g t <;> cases e1' : g' (mp s t) <;> rw [e1, e1'] at h2 <;> first | rfl | (cases h2; done) | skip
    cases e : all (stepOf g) as <;> cases e' : all (stepOf g') (as.map (mp s)) <;> rw [e, e'] at h1 <;> first | (cases h1; done) | rfl
theorem L_sim {ts : List Tr} (h : ∀ t ∈ ts, okP L H n t = true) (hd : hdT H ts = true) : (rdL g' (ts.map (mp s))).isSome = (rdL g ts).isSome := by
  cases ts with
  | nil => rfl
  | cons u r =>
    cases u with
    | n vs =>
      have := call_sim hg h
      rw [List.map_cons, mp_n] at this ⊢
      exact this
    | w x =>
      obtain ⟨y, ey, hy⟩ := hd_sim S (ok_h hd)
      have hr : ∀ t ∈ r, okP L H n t = true := fun t ht => h t (.tail _ ht)
      have hc := call_sim hg h
      rw [List.map_cons, mp_w, ey] at hc ⊢
      unfold rdL
      dsimp only
      have ho : y ∈ ops ↔ x ∈ ops := by
        have : ∀ z ∈ ops, y = z ↔ x = z := fun z hz => hy z (List.mem_append_left _ (List.mem_append_left _ hz))
        constructor
        · intro hm; rw [(this y hm).mp rfl]; exact hm
        · intro hm; rw [(this x hm).mpr rfl]; exact hm
      by_cases k0 : x ∈ ops
      · rw [if_pos k0, if_pos (ho.mpr k0), isSome_map, isSome_map]; exact two_sim hg hr
      rw [if_neg k0, if_neg fun z => k0 (ho.mp z)]
      have y1 := hy "fun" (by decide)
      by_cases k1 : x = "fun"
      · rw [if_pos k1, if_pos (y1.mpr k1)]; exact fun_sim S hg hr
      rw [if_neg k1, if_neg fun z => k1 (y1.mp z)]
      have y2 := hy "let" (by decide)
      by_cases k2 : x = "let"
      · rw [if_pos k2, if_pos (y2.mpr k2)]
        subst k2
        exact let_sim S hg hr (ok_let hd)
      rw [if_neg k2, if_neg fun z => k2 (y2.mp z)]
      have y3 := hy "choose" (by decide)
      by_cases k3 : x = "choose"
      · rw [if_pos k3, if_pos (y3.mpr k3)]
        subst k3
        exact choose_sim S hg hr (ok_ch hd)
      rw [if_neg k3, if_neg fun z => k3 (y3.mp z)]
      have y4 := hy "first" (by decide)
      by_cases k4 : x = "first"
      · rw [if_pos k4, if_pos (y4.mpr k4), isSome_map, isSome_map]; exact two_sim hg hr
      rw [if_neg k4, if_neg fun z => k4 (y4.mp z)]
      have y5 := hy "stop" (by decide)
      by_cases k5 : x = "stop"
      · rw [if_pos k5, if_pos (y5.mpr k5)]
        match r, hr with
        | [], _ => rfl
        | _ :: _ :: _, _ => rfl
        | [a], hr =>
          have h1 := nm_sim S (hr a (.head _))
          show ((nmOf (mp s a)).map fun s => T.tup [.str "stop", .str s]).isSome = ((nmOf a).map fun s => T.tup [.str "stop", .str s]).isSome
          rw [h1, isSome_map, isSome_map, isSome_map]
      rw [if_neg k5, if_neg fun z => k5 (y5.mp z)]
      have y6 := hy "rows" (by decide)
      by_cases k6 : x = "rows"
      · rw [if_pos k6, if_pos (y6.mpr k6)]
        subst k6
        exact rows_sim S hg hr (ok_ro hd)
      rw [if_neg k6, if_neg fun z => k6 (y6.mp z)]
      have y7 := hy "Cons" (by decide)
      have y8 := hy "Pair" (by decide)
      by_cases k7 : x = "Cons" ∨ x = "Pair"
      · rw [if_pos k7, if_pos (k7.imp y7.mpr y8.mpr), isSome_map, isSome_map]; exact two_sim hg hr
      rw [if_neg k7, if_neg fun z => k7 (z.imp y7.mp y8.mp)]
      exact hc
end
theorem sim {s : Str → Tr} {L H : List Str} {k : Nat} (S : Sb s L H k) : ∀ {n : Nat} {t : Tr}, okP L H n t = true → ∀ m, n + k ≤ m → (rd m (mp s t)).isSome = (rd n t).isSome
  | n, .w x, h, m, hm => by
    rw [mp_w, rd_w]
    exact S.t x (ok_w h) m (by omega)
  | 0, .n ts, h, m, hm => by cases h
  | n + 1, .n ts, h, m, hm => by
    obtain ⟨m, rfl⟩ : ∃ j, m = j + 1 := ⟨m - 1, by omega⟩
    rw [mp_n]
    have ho : ∀ t ∈ ts, okP L H n t = true := by
      unfold okP at h
      rw [Bool.and_eq_true, List.all_eq_true] at h
      exact h.1
    exact L_sim (n := n) S (fun t ht => sim S ht m (by omega)) ho (ok_hd h)
end Rd
set_option Elab.async false
set_option linter.all false
set_option maxRecDepth 100000
set_option maxHeartbeats 400000
/-! words to a tree: a pile of lists, the top first (pure) -/
namespace Rd
open PySem PySem.Spec PyProof.Rows L2 WL
def stepW (S : List (List Tr)) (w : Str) : Option (List (List Tr)) :=
  if w = "(" then some ([] :: S) else if w ≠ ")" then (match S with | t :: r => some ((t ++ [.w w]) :: r) | [] => none) else match S with
    | t :: u :: r => some ((u ++ [.n t]) :: r)
    | _ => none
def run : List Str → List (List Tr) → Option (List (List Tr))
  | [], S => some S
  | w :: ws, S => (stepW S w).bind (run ws)
theorem run_app : ∀ (ws vs : List Str) (S : List (List Tr)), run (ws ++ vs) S = (run ws S).bind (run vs)
  | [], vs, S => rfl
  | w :: ws, vs, S => by
    show (stepW S w).bind (run (ws ++ vs)) = ((stepW S w).bind (run ws)).bind (run vs)
    cases stepW S w with
    | none => rfl
    | some S' => exact run_app ws vs S'
mutual
/-- no word of the tree is a bracket -/
def Nb : Tr → Prop
  | .w x => x ≠ "(" ∧ x ≠ ")"
  | .n ts => Nbs ts
def Nbs : List Tr → Prop
  | [] => True
  | t :: ts => Nb t ∧ Nbs ts
end
mutual
theorem run_fl : ∀ {τ : Tr}, Nb τ → ∀ (t : List Tr) (r : List (List Tr)), run (fl τ) (t :: r) = some ((t ++ [τ]) :: r)
  | .w x, h, t, r => by
    unfold Nb at h
    unfold fl
    show (stepW (t :: r) x).bind (run []) = _
    unfold stepW
    rw [if_neg h.1, if_pos h.2]; rfl
  | .n ts, h, t, r => by
    unfold Nb at h
    unfold fl
    show (stepW (t :: r) "(").bind (run (fls ts ++ [(")" : Str)])) = _
    have e : stepW (t :: r) "(" = some ([] :: t :: r) := by unfold stepW; rw [if_pos rfl]
    rw [e]
    show run (fls ts ++ [(")" : Str)]) ([] :: t :: r) = _
    rw [run_app, run_fls h]
    show (stepW (([] ++ ts) :: t :: r) ")").bind (run []) = _
    have e2 : stepW (([] ++ ts) :: t :: r) ")" = some ((t ++ [.n ts]) :: r) := by unfold stepW; rw [if_neg (by decide), if_neg (by decide)]; rfl
    rw [e2]; rfl
theorem run_fls : ∀ {ts : List Tr}, Nbs ts → ∀ (t : List Tr) (r : List (List Tr)), run (fls ts) (t :: r) = some ((t ++ ts) :: r)
  | [], _, t, r => by unfold fls; rw [List.append_nil]; rfl
  | τ :: ts, h, t, r => by
    unfold Nbs at h
    unfold fls
    rw [run_app, run_fl h.1]
    show run (fls ts) ((t ++ [τ]) :: r) = _
    rw [run_fls h.2, List.append_assoc]; rfl
end
theorem step_ne {S S' : List (List Tr)} {w : Str} (h : stepW S w = some S') : S' ≠ [] := by
  unfold stepW at h
  by_cases c1 : w = "("
  · rw [if_pos c1] at h; cases h; exact List.cons_ne_nil _ _
  rw [if_neg c1] at h
  by_cases c2 : w ≠ ")"
  · rw [if_pos c2] at h
    cases S with
    | nil => cases h
    | cons t r => cases h; exact List.cons_ne_nil _ _
  · rw [if_neg c2] at h
    match S, h with
    | t :: u :: r, h => cases h; exact List.cons_ne_nil _ _
theorem run_ne : ∀ {ws : List Str} {S S' : List (List Tr)}, S ≠ [] → run ws S = some S' → S' ≠ []
  | [], S, S', hS, h => by cases h; exact hS
  | w :: ws, S, S', hS, h => by
    have e : run (w :: ws) S = (stepW S w).bind (run ws) := rfl
    rw [e] at h
    cases hs : stepW S w with
    | none => rw [hs] at h; cases h
    | some S1 => rw [hs] at h; exact run_ne (step_ne hs) h
def trOf (ws : List Str) : Option Tr := match run ws [[]] with
  | some [[τ]] => some τ
  | _ => none
theorem trOf_fl {τ : Tr} (h : Nb τ) : trOf (fl τ) = some τ := by
  unfold trOf
  rw [run_fl h]; rfl
theorem trOf_cut {ws : List Str} {i : Nat} (h : run (ws.take i) [[]] = none) : trOf ws = none := by
  unfold trOf
  rw [← List.take_append_drop i ws, run_app, h]; rfl
end Rd
set_option Elab.async false
set_option linter.all false
set_option maxRecDepth 100000
set_option maxHeartbeats 400000
open PySem PySem.Spec PyProof.Rows L2 WL Rd
mutual
/-- as TrH, all lists at places of P -/
def TrP (P : Addr → Prop) (C : Hw) (v : T) : Tr → Prop
  | .w x => v = .str x
  | .n ts => ∃ a vs, v = .ref a ∧ P a ∧ C a = some (.lst vs) ∧ TrPs P C vs ts
def TrPs (P : Addr → Prop) (C : Hw) (vs : List T) : List Tr → Prop
  | [] => vs = []
  | t :: ts => ∃ v r, vs = v :: r ∧ TrP P C v t ∧ TrPs P C r ts
end
mutual
theorem TrP.mono {P P' : Addr → Prop} {C C' : Hw} (h : ∀ a o, P a → C a = some o → P' a ∧ C' a = some o) {v : T} : ∀ {t : Tr}, TrP P C v t → TrP P' C' v t
  | .w x, q => by unfold TrP at q ⊢; exact q
  | .n ts, q => by
    unfold TrP at q ⊢
    obtain ⟨a, vs, e, p, ha, q⟩ := q
    obtain ⟨p', ha'⟩ := h _ _ p ha
    exact ⟨a, vs, e, p', ha', TrPs.mono h q⟩
theorem TrPs.mono {P P' : Addr → Prop} {C C' : Hw} (h : ∀ a o, P a → C a = some o → P' a ∧ C' a = some o) {vs : List T} : ∀ {ts : List Tr}, TrPs P C vs ts → TrPs P' C' vs ts
  | [], q => by unfold TrPs at q ⊢; exact q
  | t :: ts, q => by
    unfold TrPs at q ⊢
    obtain ⟨v, r, e, q1, q2⟩ := q
    exact ⟨v, r, e, TrP.mono h q1, TrPs.mono h q2⟩
end
mutual
theorem TrP.h {P : Addr → Prop} {C : Hw} {v : T} : ∀ {t : Tr}, TrP P C v t → TrH C v t
  | .w x, q => by unfold TrP at q; unfold TrH; exact q
  | .n ts, q => by
    unfold TrP at q; unfold TrH
    obtain ⟨a, vs, e, p, ha, q⟩ := q
    exact ⟨a, vs, e, ha, TrPs.h q⟩
theorem TrPs.h {P : Addr → Prop} {C : Hw} {vs : List T} : ∀ {ts : List Tr}, TrPs P C vs ts → TrHs C vs ts
  | [], q => by unfold TrPs at q; unfold TrHs; exact q
  | t :: ts, q => by
    unfold TrPs at q; unfold TrHs
    obtain ⟨v, r, e, q1, q2⟩ := q
    exact ⟨v, r, e, TrP.h q1, TrPs.h q2⟩
end
theorem TrPs.snoc {P : Addr → Prop} {C : Hw} {v : T} {t : Tr} (h : TrP P C v t) : ∀ {ts : List Tr} {vs : List T}, TrPs P C vs ts → TrPs P C (vs ++ [v]) (ts ++ [t])
  | [], vs, q => by unfold TrPs at q; subst q; unfold TrPs; exact ⟨v, [], rfl, h, by unfold TrPs; rfl⟩
  | t' :: ts, vs, q => by
    unfold TrPs at q
    obtain ⟨v', r, rfl, q1, q2⟩ := q
    show TrPs P C (v' :: (r ++ [v])) (t' :: (ts ++ [t]))
    unfold TrPs
    exact ⟨v', r ++ [v], rfl, q1, TrPs.snoc h q2⟩
theorem TrPs.len {P : Addr → Prop} {C : Hw} {ts : List Tr} {vs : List T} (h : TrPs P C vs ts) : vs.length = ts.length := h.h.length
/-- the lists of the pile, the top first -/
def Ls (P : Addr → Prop) (C : Hw) : List Addr → List (List Tr) → Prop
  | [], [] => True
  | p :: ps, t :: S => (∃ vs, C p = some (.lst vs) ∧ TrPs P C vs t) ∧ Ls P C ps S
  | _, _ => False
theorem Ls.mono {P P' : Addr → Prop} {C C' : Hw} (h : ∀ a o, P a → C a = some o → P' a ∧ C' a = some o) : ∀ {ps : List Addr} {S : List (List Tr)}, (∀ p ∈ ps, ∀ o, C p = some o → C' p = some o) → Ls P C ps S → Ls P' C' ps S
  | [], [], _, q => trivial
  | p :: ps, t :: S, hp, q => by
    obtain ⟨⟨vs, h1, h2⟩, q⟩ := q
    exact ⟨⟨vs, hp p (by simp) _ h1, h2.mono h⟩, Ls.mono h (fun a ha => hp a (by simp [ha])) q⟩
  | [], _ :: _, _, q => q.elim
  | _ :: _, [], _, q => q.elim
theorem Ls.len {P : Addr → Prop} {C : Hw} : ∀ {ps : List Addr} {S : List (List Tr)}, Ls P C ps S → ps.length = S.length
  | [], [], _ => rfl
  | _ :: ps, _ :: S, h => by rw [List.length_cons, List.length_cons, Ls.len h.2]
  | [], _ :: _, q => q.elim
  | _ :: _, [], q => q.elim
structure Pl (C0 C : Hw) (a : Addr) (ps : List Addr) (S : List (List Tr)) (m : Nat) : Prop where
  ex : Ex C0 C
  fr : C0 a = none ∧ ∀ p ∈ ps, C0 p = none
  at_ : C a = some (.lst (ps.reverse.map T.ref))
  nd : (a :: ps).Nodup
  ls : Ls (fun b => b ∉ a :: ps) C ps S
  sz : S.length ≤ m + 1 ∧ ∀ t ∈ S, t.length ≤ m
section
variable {C : Hw} {Q : WK} {χ : WX} {n : Nat} {W : Nat → Calls} {r : Prop}
theorem pl_open {C0 C : Hw} {a p : Addr} {ps : List Addr} {S : List (List Tr)} {m : Nat} (h : Pl C0 C a ps S m) (hp : C p = none) : Pl C0 (up (up C p (.lst [])) a (.lst ((p :: ps).reverse.map T.ref))) a (p :: ps) ([] :: S) (m + 1) := by
  have hpa : p ≠ a := cne' h.at_ hp
  have hpps : p ∉ ps := fun hm => by
    obtain ⟨i, hi⟩ := List.mem_iff_getElem?.mp hm
    have : ∀ {ps : List Addr} {S : List (List Tr)} {P : Addr → Prop}, Ls P C ps S → ∀ q ∈ ps, ∃ o, C q = some o := by
      intro ps
      induction ps with
      | nil => intro S P _ q hq; cases hq
      | cons x ps ih =>
        intro S P hL q hq
        cases S with
        | nil => exact hL.elim
        | cons t S =>
          obtain ⟨⟨vs, h1, _⟩, h2⟩ := hL
          rcases List.mem_cons.mp hq with rfl | hq
          · exact ⟨_, h1⟩
          · exact ih h2 q hq
    obtain ⟨o, ho⟩ := this h.ls p hm
    rw [hp] at ho; cases ho
  have hps : ∀ q ∈ ps, q ≠ a := fun q hq e => by subst e; exact (List.nodup_cons.mp h.nd).1 hq
  refine ⟨fun b o e => ?_, ⟨h.fr.1, fun q hq => ?_⟩, up_same, ?_, ⟨⟨[], by rw [up_ne hpa]; exact up_same, by unfold TrPs; rfl⟩, ?_⟩, ?_⟩
  · have hb := h.ex b o e
    rw [up_ne (cne e h.fr.1), up_ne (cne hb hp)]
    exact hb
  · rcases List.mem_cons.mp hq with rfl | hq
    · exact h.ex.free hp
    · exact h.fr.2 q hq
  · rw [List.nodup_cons, List.nodup_cons]
    obtain ⟨h1, h2⟩ := List.nodup_cons.mp h.nd
    exact ⟨fun z => (List.mem_cons.mp z).elim (fun e => hpa e.symm) h1, hpps, h2⟩
  · refine Ls.mono (fun b o hb e => ?_) (fun q hq o e => ?_) h.ls
    · have hbp : b ≠ p := cne e hp
      have hba : b ≠ a := fun z => hb (by rw [z]; simp)
      refine ⟨fun z => ?_, by rw [up_ne hba, up_ne hbp]; exact e⟩
      simp only [List.mem_cons] at z hb
      rcases z with z | z | z
      · exact hba z
      · exact hbp z
      · exact hb (.inr z)
    · rw [up_ne (hps q hq), up_ne (cne e hp)]; exact e
  · refine ⟨by simp; exact h.sz.1, fun t ht => ?_⟩
    rcases List.mem_cons.mp ht with rfl | ht
    · simp
    · have := h.sz.2 t ht; omega
theorem pl_add {C0 C : Hw} {a p : Addr} {ps : List Addr} {t : List Tr} {S : List (List Tr)} {m : Nat} {v : T} {τ : Tr} {vs : List T} (h : Pl C0 C a (p :: ps) (t :: S) m) (hC : C p = some (.lst vs)) (hv : TrP (fun b => b ∉ a :: p :: ps) C v τ) :
    Pl C0 (up C p (.lst (vs ++ [v]))) a (p :: ps) ((t ++ [τ]) :: S) (m + 1) := by
  obtain ⟨⟨vs', h1, h2⟩, h3⟩ := h.ls
  rw [hC] at h1; cases h1
  obtain ⟨n1, n2⟩ := List.nodup_cons.mp h.nd
  obtain ⟨n3, n4⟩ := List.nodup_cons.mp n2
  have hap : a ≠ p := fun e => n1 (by rw [e]; simp)
  have keep : ∀ b o, b ∉ a :: p :: ps → C b = some o → b ∉ a :: p :: ps ∧ up C p (.lst (vs ++ [v])) b = some o := fun b o hb e => ⟨hb, by rw [up_ne (fun z => hb (by rw [z]; simp))]; exact e⟩
  refine ⟨fun b o e => ?_, h.fr, by rw [up_ne hap]; exact h.at_, h.nd, ⟨⟨vs ++ [v], up_same, (TrPs.snoc hv h2).mono keep⟩, ?_⟩, ?_⟩
  · rw [up_ne (cne e (h.fr.2 p (by simp)))]; exact h.ex b o e
  · refine Ls.mono keep (fun q hq o e => ?_) h3
    rw [up_ne (fun z => n3 (by rw [← z]; exact hq))]; exact e
  · refine ⟨by have := h.sz.1; simp at this ⊢; omega, fun u hu => ?_⟩
    rcases List.mem_cons.mp hu with rfl | hu
    · have := h.sz.2 t (by simp); simp; omega
    · have := h.sz.2 u (by simp [hu]); omega
theorem pl_pop {C0 C : Hw} {a p : Addr} {ps : List Addr} {t : List Tr} {S : List (List Tr)} {m : Nat} (h : Pl C0 C a (p :: ps) (t :: S) m) : Pl C0 (up C a (.lst (ps.reverse.map T.ref))) a ps S m ∧ TrP (fun b => b ∉ a :: ps) (up C a (.lst (ps.reverse.map T.ref))) (.ref p) (.n t) := by
  obtain ⟨⟨vs, h1, h2⟩, h3⟩ := h.ls
  obtain ⟨n1, n2⟩ := List.nodup_cons.mp h.nd
  obtain ⟨n3, n4⟩ := List.nodup_cons.mp n2
  have hap : p ≠ a := fun e => n1 (by rw [← e]; simp)
  have keep : ∀ b o, b ∉ a :: p :: ps → C b = some o → b ∉ a :: ps ∧ up C a (.lst (ps.reverse.map T.ref)) b = some o := fun b o hb e => ⟨fun z => hb (by simp only [List.mem_cons] at z ⊢; exact z.elim .inl fun z => .inr (.inr z)), by rw [up_ne (fun z => hb (by rw [z]; simp))]; exact e⟩
  refine ⟨⟨fun b o e => ?_, ⟨h.fr.1, fun q hq => h.fr.2 q (by simp [hq])⟩, up_same, ?_, ?_, ?_⟩, ?_⟩
  · rw [up_ne (cne e h.fr.1)]; exact h.ex b o e
  · exact List.nodup_cons.mpr ⟨fun z => n1 (by simp [z]), n4⟩
  · refine Ls.mono keep (fun q hq o e => ?_) h3
    rw [up_ne (fun z => n1 (by rw [← z]; simp [hq]))]; exact e
  · exact ⟨by have := h.sz.1; simp at this; omega, fun u hu => h.sz.2 u (by simp [hu])⟩
  · unfold TrP
    refine ⟨p, vs, rfl, fun z => ?_, by rw [up_ne hap]; exact h1, h2.mono keep⟩
    rcases List.mem_cons.mp z with z | z
    · exact hap z
    · exact n3 z
theorem s_tree_of {wl : Addr} {ws : List Str} (R : Rp W r) (hw : C wl = some (.lst (ws.map T.str))) (hl : ws.length ≤ 50000) (q : ∀ τ v C', trOf ws = some τ → Ex C C' → TrH C' v τ → Q v C') (qr : trOf ws = none → r) : W (n + 2) i_tree_of [.ref wl] C Q χ := by
  refine R.o_tree_of rfl ?_
  unfold w_tree_of D_tree_of
  walk_at "ws"
  intro p0 hp0 a ha
  obtain ⟨na, hna⟩ := fr1 ha
  have hwl0 : up (up C p0 (.lst [])) a (.lst [.ref p0]) wl = some (.lst (ws.map T.str)) := (Ex.new ha) _ _ ((Ex.new hp0) _ _ hw)
  refine ⟨_, hwl0, ?_⟩
  have P0 : Pl C (up (up C p0 (.lst [])) a (.lst [.ref p0])) a [p0] [[]] 0 := by
    refine ⟨(Ex.new hp0).trans (Ex.new ha), ⟨hna, fun p hp => by rw [List.mem_singleton.mp hp]; exact hp0⟩, up_same, by simp [na], ⟨⟨[], by rw [up_ne na.symm]; exact up_same, by unfold TrPs; rfl⟩, trivial⟩, by simp⟩
  refine for_inv (fun i σ C' => ∃ x2 x3 ps S, σ = [some (.ref wl), some (.ref a), x2, x3] ∧ run (ws.take i) [[]] = some S ∧ Pl C C' a ps S i) ⟨none, none, [p0], [[]], rfl, rfl, P0⟩ (fun i σ C' _ h => by obtain ⟨_, _, _, _, _, _, hP⟩ := h; exact hP.ex _ _ hw) ?_ ?_
  · rintro i x σ C' N hx ⟨x2, x3, ps, S, rfl, hrun, hP⟩ hN
    rw [List.getElem?_map] at hx
    cases hz : ws[i]? with
    | none => rw [hz] at hx; cases hx
    | some w =>
      rw [hz] at hx
      cases hx
      have hi : i < ws.length := (List.getElem?_eq_some_iff.mp hz).1
      have hsz := hP.sz
      have htk : ws.take (i + 1) = ws.take i ++ [w] := by rw [List.take_add_one, hz]; rfl
      have hst : run (ws.take (i + 1)) [[]] = stepW S w := by
        rw [htk, run_app, hrun]
        show (stepW S w).bind (run []) = _
        cases stepW S w <;> rfl
      have hne := run_ne (by simp) hrun
      have hlen := hP.ls.len
      have hat := hP.at_
      walk_at "ws"
      by_cases c1 : w = "("
      · rw [if_pos c1]
        have e : stepW S w = some ([] :: S) := by unfold stepW; rw [if_pos c1]
        refine ⟨⟨_, hat⟩, fun p hp => ?_⟩
        refine ⟨_, (Ex.new hp) _ _ hat, small63' (by rw [List.length_map, List.length_reverse]; omega), ?_⟩
        refine hN _ _ ⟨_, _, p :: ps, [] :: S, rfl, hst.trans e, ?_⟩
        have := pl_open hP hp
        simpa using this
      · rw [if_neg c1]
        obtain ⟨p, ps', t, S1, rfl, rfl⟩ : ∃ p ps' t S1, ps = p :: ps' ∧ S = t :: S1 := by
          cases S with
          | nil => exact absurd rfl hne
          | cons t S1 =>
            cases ps with
            | nil => cases hlen
            | cons p ps' => exact ⟨p, ps', t, S1, rfl, rfl⟩
        obtain ⟨⟨vs, h1, h2⟩, h3⟩ := id hP.ls
        have hlast : (p :: ps').reverse.map T.ref = ps'.reverse.map T.ref ++ [.ref p] := by simp
        rw [hlast] at hat
        have hvl := h2.len
        have htl := hsz.2 t (by simp)
        by_cases c2 : w = ")"
        · rw [if_neg (by simp [c2])]
          cases S1 with
          | nil =>
            obtain rfl : ps' = [] := by
              cases ps' with
              | nil => rfl
              | cons _ _ => simp at hlen
            have e : stepW [t] w = none := by unfold stepW; rw [if_neg c1, if_neg (by simpa using c2)]
            refine ⟨_, hat, ?_⟩
            rw [if_neg (by simp)]
            exact s_raise R (qr (trOf_cut (hst.trans e)))
          | cons u S2 =>
            have e : stepW (t :: u :: S2) w = some ((u ++ [.n t]) :: S2) := by unfold stepW; rw [if_neg c1, if_neg (by simpa using c2)]
            obtain ⟨p2, ps2, rfl⟩ : ∃ p2 ps2, ps' = p2 :: ps2 := by
              cases ps' with
              | nil => simp at hlen
              | cons p2 ps2 => exact ⟨p2, ps2, rfl⟩
            obtain ⟨hP2, hv⟩ := pl_pop hP
            have hdl : ((p2 :: ps2).reverse.map T.ref ++ [T.ref p]).dropLast = (p2 :: ps2).reverse.map T.ref := by simp
            have hla : ((p2 :: ps2).reverse.map T.ref ++ [T.ref p])[((p2 :: ps2).reverse.map T.ref ++ [T.ref p]).length - 1]? = some (.ref p) := by simp
            have hl2 : (p2 :: ps2).reverse.map T.ref = ps2.reverse.map T.ref ++ [T.ref p2] := by simp
            obtain ⟨⟨vs2, g1, g2⟩, g3⟩ := id hP2.ls
            have hvl2 := g2.len
            have htl2 := hsz.2 u (by simp)
            refine ⟨_, hat, ?_⟩
            rw [if_pos (by simp; omega)]
            refine ⟨⟨_, hat⟩, _, hat, _, hla, ?_⟩
            rw [hdl]
            refine ⟨_, up_same, _, by rw [hl2]; exact atI_last _ _, ⟨p2, rfl, _, g1⟩, p2, rfl, _, g1, small63' (by omega), ?_⟩
            exact hN _ _ ⟨_, _, p2 :: ps2, (u ++ [.n t]) :: S2, rfl, hst.trans e, pl_add hP2 g1 hv⟩
        · rw [if_pos (by simp [c2])]
          refine ⟨_, hat, _, atI_last _ _, ?_⟩
          have e : stepW (t :: S1) w = some ((t ++ [.w w]) :: S1) := by unfold stepW; rw [if_neg c1, if_pos c2]
          refine ⟨⟨p, rfl, _, h1⟩, p, rfl, _, h1, small63' (by omega), ?_⟩
          exact hN _ _ ⟨_, _, p :: ps', (t ++ [.w w]) :: S1, rfl, hst.trans e, pl_add hP h1 (by unfold TrP; rfl)⟩
  · rintro σ C' ⟨x2, x3, ps, S, rfl, hrun, hP⟩
    rw [List.length_map, List.take_length] at hrun
    have hlen := hP.ls.len
    have hat := hP.at_
    first | unfold w_tree_of_t3 D_tree_of_t3 | unfold D_tree_of_t3
    walk_at "ws"
    refine ⟨_, hat, ?_⟩
    have hne := run_ne (by simp) hrun
    match S, ps, hne, hlen with
    | [], _, hne, _ => exact absurd rfl hne
    | t :: u :: S2, p :: p2 :: ps2, _, _ =>
      rw [if_pos (by simp; omega)]
      exact s_raise R (qr (by unfold trOf; rw [hrun]; rcases t with _ | ⟨x, _ | ⟨y, l⟩⟩ <;> rfl))
    | [t], [p], _, _ =>
      rw [if_neg (by simp)]
      obtain ⟨⟨vs, h1, h2⟩, _⟩ := id hP.ls
      have hvl := h2.len
      first | unfold w_tree_of_t2 D_tree_of_t2 | unfold D_tree_of_t2
      walk_at "ws"
      refine ⟨_, hat, _, atI_0, ?_⟩
      walk_at "ws"
      refine ⟨_, h1, ?_⟩
      by_cases c : t.length = 1
      · rw [if_neg (by simp; omega)]
        obtain ⟨τ, rfl⟩ : ∃ τ, t = [τ] := by
          match t, c with
          | [τ], _ => exact ⟨τ, rfl⟩
        obtain ⟨v, rfl, hv⟩ : ∃ v, vs = [v] ∧ TrP (fun b => b ∉ [a, p]) C' v τ := by
          unfold TrPs at h2
          obtain ⟨v, r, rfl, h3, h4⟩ := h2
          unfold TrPs at h4
          subst h4
          exact ⟨v, rfl, h3⟩
        first | unfold w_tree_of_t1 D_tree_of_t1 | unfold D_tree_of_t1
        walk_at "ws"
        refine ⟨_, hat, _, atI_0, ?_⟩
        walk_at "ws"
        exact ⟨_, h1, _, atI_0, q τ v C' (by unfold trOf; rw [hrun]) hP.ex hv.h⟩
      · rw [if_pos (by simp; omega)]
        refine s_raise R (qr ?_)
        unfold trOf
        rw [hrun]
        match t, c with
        | [], _ => rfl
        | [_], c => exact absurd rfl c
        | _ :: _ :: _, _ => rfl
end
set_option Elab.async false
set_option linter.all false
set_option maxRecDepth 100000
set_option maxHeartbeats 400000
open PySem PySem.Spec PyProof.Rows L2 WL Rd
/-! ### words_of -/
def fT (l : List Nat) : List Nat := rep1 10 [32] (rep1 41 [32, 41, 32] (rep1 40 [32, 40, 32] l))
theorem rep1_app {a : Nat} {z l r : List Nat} : rep1 a z (l ++ r) = rep1 a z l ++ rep1 a z r := by unfold rep1; rw [List.flatMap_append]
theorem fT_app {l r : List Nat} : fT (l ++ r) = fT l ++ fT r := by unfold fT; rw [rep1_app, rep1_app, rep1_app]
theorem rep1_len {a : Nat} {z : List Nat} (hz : 1 ≤ z.length) : ∀ l : List Nat, (rep1 a z l).length ≤ z.length * l.length
  | [] => by simp [rep1]
  | c :: r => by
    have ih := rep1_len (a := a) hz r
    have e : rep1 a z (c :: r) = (if c = a then z else [c]) ++ rep1 a z r := by simp [rep1]
    rw [e, List.length_append, List.length_cons, Nat.mul_add, Nat.mul_one]
    have : (if c = a then z else [c]).length ≤ z.length := by split <;> simp <;> omega
    omega
/-- a word that is no bracket -/
def gd (w : Str) : Bool := decide (1 ≤ w.length) && decide (w.length ≤ 20) && w.cps.toList.all fun c => c != 32 && c != 40 && c != 41 && c != 10
theorem gd_cps {w : Str} (h : gd w = true) : w.cps.toList ≠ [] ∧ w.length ≤ 20 ∧ ∀ c ∈ w.cps.toList, c ≠ 32 ∧ c ≠ 40 ∧ c ≠ 41 ∧ c ≠ 10 := by
  unfold gd at h
  rw [Bool.and_eq_true, Bool.and_eq_true, decide_eq_true_eq, decide_eq_true_eq, List.all_eq_true] at h
  have e : w.cps.toList.length = w.length := by simp [Str.length]
  refine ⟨fun z => by rw [z] at e; simp at e; omega, h.1.2, fun c hc => ?_⟩
  have := h.2 c hc
  simp at this
  omega
theorem fT_word {w : Str} (h : gd w = true) : fT w.cps.toList = w.cps.toList := by
  obtain ⟨_, _, h⟩ := gd_cps h
  unfold fT
  rw [rep1_none fun c hc => (h c hc).2.1, rep1_none fun c hc => (h c hc).2.2.1, rep1_none fun c hc => (h c hc).2.2.2]
/-- a word of a text -/
def gb (w : Str) : Prop := w = "(" ∨ w = ")" ∨ gd w = true
def gaps : List Str := ["", " ", "\n", "  ", " \n "]
theorem gap_fT : ∀ g ∈ gaps, (∀ c ∈ fT g.cps.toList, c = 32) ∧ (g ≠ "" → ∃ q, fT g.cps.toList = q ++ [32]) := by
  intro g hg
  simp only [gaps, List.mem_cons, List.not_mem_nil, or_false] at hg
  rcases hg with rfl | rfl | rfl | rfl | rfl
  · exact ⟨by decide, fun h => absurd rfl h⟩
  · exact ⟨by decide, fun _ => ⟨[], by decide⟩⟩
  · exact ⟨by decide, fun _ => ⟨[], by decide⟩⟩
  · exact ⟨by decide, fun _ => ⟨[32], by decide⟩⟩
  · exact ⟨by decide, fun _ => ⟨[32, 32], by decide⟩⟩
theorem wds_blanksR : ∀ {b l : List Nat}, (∀ c ∈ b, c = 32) → wds (l ++ b) = wds l
  | [], l, _ => by rw [List.append_nil]
  | c :: b, l, h => by
    rw [h c (by simp), wds_app]
    have := wds_blanks (b := b) (l := []) fun d hd => h d (by simp [hd])
    rw [List.append_nil] at this
    rw [this, wds_nil, List.append_nil]
/-- what lies between two words -/
def Gp (ah w g : Str) : Prop := g ∈ gaps ∧ (g = "" → (ah = "" ∨ ah = "(" ∨ ah = ")") ∨ w = "" ∨ w = "(" ∨ w = ")")
structure Tx (t : List Nat) (ws : List Str) (ah : Str) : Prop where
  wd : wds (fT t) = ws.map (fun w => w.cps.toList)
  bk : Bk (fT t) ∨ ¬ (ah = "" ∨ ah = "(" ∨ ah = ")")
theorem tx_0 : Tx [] [] "" := ⟨rfl, .inl (.inl rfl)⟩
theorem tx_step {t : List Nat} {ws : List Str} {ah w g : Str} (h : Tx t ws ah) (hg : Gp ah w g) (hw : gb w) : Tx (t ++ g.cps.toList ++ w.cps.toList) (ws ++ [w]) w := by
  obtain ⟨b1, b2⟩ := gap_fT g hg.1
  have br : ∀ c : Nat, fT w.cps.toList = [32, c, 32] → w.cps.toList = [c] → c ≠ 32 → Tx (t ++ g.cps.toList ++ w.cps.toList) (ws ++ [w]) w := fun c e e1 h32 => by
    refine ⟨?_, .inl (.inr ⟨fT t ++ fT g.cps.toList ++ [32, c], by rw [fT_app, fT_app, e]; simp⟩)⟩
    rw [fT_app, fT_app, e, show [32, c, 32] = 32 :: ([c] ++ [32]) from rfl, wds_app, wds_blanksR b1, h.wd, wds_end, wds_one (by simp) (by simpa using h32), List.map_append]
    simp [e1]
  rcases hw with rfl | rfl | hw
  · exact br 40 (by decide) rfl (by decide)
  · exact br 41 (by decide) rfl (by decide)
  · obtain ⟨w0, _, w1⟩ := gd_cps hw
    have hno : ¬ (w = "" ∨ w = "(" ∨ w = ")") := fun z => by
      rcases z with rfl | rfl | rfl
      · exact w0 rfl
      · exact (w1 40 (by decide)).2.1 rfl
      · exact (w1 41 (by decide)).2.2.1 rfl
    refine ⟨?_, .inr hno⟩
    have hb : Bk (fT t ++ fT g.cps.toList) := by
      by_cases c : g = ""
      · subst c
        rcases hg.2 rfl with k | k
        · rcases h.bk with k' | k'
          · rw [show fT ("" : Str).cps.toList = [] by decide, List.append_nil]; exact k'
          · exact absurd k k'
        · exact absurd k hno
      · obtain ⟨q, e⟩ := b2 c
        exact .inr ⟨fT t ++ q, by rw [e, List.append_assoc]⟩
    rw [fT_app, fT_app, fT_word hw, wds_bk hb, wds_blanksR b1, h.wd, wds_one w0 fun c hc => (w1 c hc).1, List.map_append]
    rfl
theorem strs_inj : ∀ {xs ys : List Str}, xs.map (fun w => w.cps.toList) = ys.map (fun w => w.cps.toList) → xs = ys
  | [], [], _ => rfl
  | x :: xs, y :: ys, h => by
    rw [List.map_cons, List.map_cons] at h
    injection h with h1 h2
    rw [str_ext h1, strs_inj h2]
  | [], _ :: _, h => by simp at h
  | _ :: _, [], h => by simp at h
theorem spl_len : ∀ l : List Nat, (spl 32 l).length ≤ l.length + 1
  | [] => by simp [spl]
  | c :: r => by
    have ih := spl_len r
    obtain ⟨p, ps, e⟩ := spl_ne 32 r
    by_cases h : c = 32
    · simp [spl, h]; omega
    · rw [e] at ih
      simp [spl, h, e] at ih ⊢; omega
section
variable {C : Hw} {Q : WK} {χ : WX} {n : Nat} {W : Nat → Calls} {r : Prop}
theorem s_words_of {x : Str} {ws : List Str} (R : Rp W r) (hl : x.length ≤ 100000) (h : wds (fT x.cps.toList) = ws.map (fun w => w.cps.toList)) (q : ∀ p C', Ex C C' → C p = none → C' p = some (.lst (ws.map T.str)) → Q (.ref p) C') :
    W (n + 1) i_words_of [.str x] C Q χ := by
  have cl : ∀ z : Str, z.cps.toList.length = z.length := fun z => by simp [Str.length]
  have e1 : (Txt.replace x "(" " ( ").cps.toList = rep1 40 [32, 40, 32] x.cps.toList := replace_rep1 rfl
  have e2 : (Txt.replace (Txt.replace x "(" " ( ") ")" " ) ").cps.toList = rep1 41 [32, 41, 32] (rep1 40 [32, 40, 32] x.cps.toList) := by rw [replace_rep1 (a := 41) rfl, e1]; rfl
  have e3 : (Txt.replace (Txt.replace (Txt.replace x "(" " ( ") ")" " ) ") "\n" " ").cps.toList = fT x.cps.toList := by rw [replace_rep1 (a := 10) rfl, e2]; rfl
  have l1 : (Txt.replace x "(" " ( ").length ≤ 300000 := by
    rw [← cl, e1]; have := rep1_len (a := 40) (z := [32, 40, 32]) (by decide) x.cps.toList; rw [cl] at this; simp at this; omega
  have l2 : (Txt.replace (Txt.replace x "(" " ( ") ")" " ) ").length ≤ 900000 := by
    rw [← cl, replace_rep1 (a := 41) rfl]; have := rep1_len (a := 41) (z := [32, 41, 32]) (by decide) (Txt.replace x "(" " ( ").cps.toList; rw [cl] at this; simp at this; show (rep1 41 [32, 41, 32] _).length ≤ _; omega
  have l3 : (Txt.replace (Txt.replace (Txt.replace x "(" " ( ") ")" " ) ") "\n" " ").length ≤ 900000 := by
    rw [← cl, replace_rep1 (a := 10) rfl]; have := rep1_len (a := 10) (z := [32]) (by decide) (Txt.replace (Txt.replace x "(" " ( ") ")" " ) ").cps.toList; rw [cl] at this; simp at this; show (rep1 10 [32] _).length ≤ _; omega
  generalize hy : Txt.replace (Txt.replace (Txt.replace x "(" " ( ") ")" " ) ") "\n" " " = y at e3 l3
  have hk : ∀ z : Str, ¬ Builtin.Str.strKind z < Builtin.Str.strKind (" " : Str) := fun z => by
    have e : Builtin.Str.strKind (" " : Str) = 1 := by decide +kernel
    rw [e]
    unfold Builtin.Str.strKind
    split
    · decide
    · split <;> decide
  have sp : (Txt.split y " ").map (fun z => z.cps.toList) = spl 32 (fT x.cps.toList) := by rw [split_spl (a := 32) rfl hk, e3]
  have sl : (Txt.split y " ").length ≤ 1000000 := by
    have a := congrArg List.length sp
    rw [List.length_map] at a
    have b := spl_len (fT x.cps.toList)
    have c := cl y
    rw [e3] at c
    omega
  have hz : ∀ m : Nat, m ≤ 1000000 → m ≤ sizeLine := fun m h => Nat.le_trans h (by decide)
  refine R.o_words_of rfl ?_
  unfold w_words_of D_words_of
  dsimp only
  unfold eRepl
  walk_at "ws"
  refine ⟨by omega, by omega, by omega, ?_⟩
  rw [hy]
  unfold mSplit
  refine ⟨y, " ", rfl, rfl, by decide, hz _ (by omega), hz _ sl, fun p hp => ?_⟩
  walk_at "ws"
  refine ⟨_, up_same, ?_⟩
  refine comp_fm (fun t => match t with | .str z => if z = "" then none else some (.str z) | _ => none) up_same (by rw [List.length_map]; exact hz _ sl) (fun t ht R N h1 h2 => ?_) fun p2 hp2 => ?_
  · obtain ⟨z, _, rfl⟩ := List.mem_map.mp ht
    walk_at "ws"
    by_cases c : z = ""
    · rw [if_neg (by simp [c])]
      exact h2 (by simp [c])
    · rw [if_pos (by simp [c])]
      exact h1 _ (by simp [c])
  · have hf : ((Txt.split y " ").map T.str).filterMap (fun t => match t with | .str z => if z = "" then none else some (.str z) | _ => none) = ws.map T.str := by
      rw [List.filterMap_map]
      have e4 : ((Txt.split y " ").filter fun z : Str => decide (z ≠ ("" : Str))) = ws := by
        refine strs_inj ?_
        rw [← h]
        unfold wds
        rw [← sp, List.filter_map]
        congr 1
        refine List.filter_congr fun z _ => ?_
        by_cases c : z = ""
        · subst c; rfl
        · have : z.cps ≠ #[] := fun e => c (str_ext (by rw [e]; rfl))
          simp [c, Function.comp, this]
      rw [← e4]
      generalize Txt.split y " " = l
      induction l with
      | nil => rfl
      | cons z l ih =>
        by_cases c : z = ""
        · simp [List.filterMap_cons, List.filter_cons, c] at ih ⊢; exact ih
        · simp [List.filterMap_cons, List.filter_cons, c] at ih ⊢; exact ih
    rw [hf]
    obtain ⟨_, e5⟩ := fr1 hp2
    exact q p2 _ ((Ex.new hp).trans (Ex.new hp2)) e5 up_same
theorem s_read {x : Str} {ws : List Str} {f m : Nat} (R : Rp W r) (hm : 3 * f + 3 ≤ m) (hl : x.length ≤ 100000) (h : wds (fT x.cps.toList) = ws.map (fun w => w.cps.toList)) (hs : ws.length ≤ 50000) (hwt : ∀ τ, trOf ws = some τ → Wt f τ)
    (q : ∀ τ t C', trOf ws = some τ → rd f τ = some t → Ex C C' → Q t C') (qr0 : trOf ws = none → r) (qr : ∀ τ, trOf ws = some τ → rd f τ = none → r) : W (m + 1) i_read [.str x] C Q χ := by
  obtain ⟨m, rfl⟩ : ∃ k, m = k + 3 := ⟨m - 3, by omega⟩
  refine R.o_read rfl ⟨_, rfl, "str", rfl, true, rfl, ite_f ⟨_, rfl, s_words_of R hl h fun p C1 hE hp hp1 => ?_⟩⟩
  refine s_tree_of R hp1 hs (fun τ v C2 eτ hE2 hv => ?_) qr0
  exact GT.at (gt_all R f) hm (hwt τ eτ) hv (fun t C3 et hE3 => q τ t C3 eτ et (hE.trans (hE2.trans hE3))) (qr τ eτ)
end
set_option Elab.async false
set_option linter.all false
set_option maxRecDepth 100000
set_option maxHeartbeats 400000
/-! the forms of k19 (pure) -/
namespace Rd
open PySem PySem.Spec PyProof.Rows L2 WL
def goodF : List Str := ["( x y )", "( fun x y )", "( let ( x 5 ) y )", "( choose x ( Nil 5 ) ( Cons x y 5 ) )", "( rows x )", "( choose x ( Pair x y 5 ) )", "( rows x ( be x 5 ) )", "( Nil 5 )", "( stop x )", "( let ( x 5 ) ( y 5 ) ( c3 x ) ( d4 y ) ( e5 5 ) x )"]
def badF : List Str := (["( )", "( x )", "( 5 )", "( + x )", "( + x 5 x )", "( + )", "( fun x )", "( fun 5 x )", "( fun ( x ) x )", "( fun )", "( fun let x )", "( fun x Nil y )", "( let x )"] : List Str) ++ (["( let )", "( let ( x 5 ) )", "let", "( let ( x ) x )", "( let ( x 5 5 ) x )", "( let ( 5 x ) x )", "( let x 5 x )", "( let ( ) x )", "in", "( let ( x 5 ) ( y 5 ) ( x y ) x )", "( let ( y 5 ) ( c3 5 ) ( d4 5 ) ( e5 5 ) ( f6 5 ) ( x 5 ) x )", "( Cons x )", "( Cons )"] : List Str) ++ (["( Pair x 5 x )", "Cons", "Pair", "+", "( x Cons )", "( x = )", "be", "when", "( choose x )", "( choose )", "( choose x ( Nil 5 ) )", "( choose x ( Cons x y 5 ) ( Nil 5 ) )", "( choose x ( Nil 5 ) ( Cons x x 5 ) )"] : List Str) ++ (["( choose x ( Nil 5 ) ( Cons x 5 ) )", "( stop )", "( choose x ( Nil y 5 ) ( Cons x y 5 ) )", "( choose x ( No 5 ) ( Yes 5 ) ( Nil 5 ) )", "( stop 5 )", "( choose x ( No 5 ) ( Cons x y 5 ) )", "( choose x ( Pair x y 5 ) ( Pair x y 5 ) )", "( stop x y )", "( choose x ( Nil ) ( Cons x y 5 ) )", "( choose x Nil ( Cons x y 5 ) )", "( first x )", "( rows )", "( first x 5 x )"] : List Str) ++ (["( stop ( x ) )", "( stop rows )", "( rows x ( in x ) )", "( rows x ( in 5 x ) )", "( rows x ( when ) )", "( rows x ( when x x ) )", "( rows x ( be x ) )", "( rows x ( be x 5 5 ) )", "( rows x y )", "( rows x ( c3 x 5 ) )", "( rows x ( ( in x ) x 5 ) )", "( choose x ( Yes 5 ) ( No 5 ) )", "( Nil )"] : List Str) ++ (["( let ( K 5 ) x )", "( let ( x 5 ) ( K x ) y )", "( fun K x )", "( fun x K y )", "( choose x ( Nil 5 ) ( Cons x K 5 ) )", "( choose x ( Pair K y 5 ) )", "( rows x ( in K x ) )", "( rows x ( be K 5 ) )", "( stop K )", "( + x K )", "( x y K )", "( choose x ( Pair x x 5 ) )", "( rows x ( in y x x ) )"] : List Str) ++ (["( rows x ( be 5 x ) )", "( let ( y 5 ) ( 5 x ) x )", "( Yes )", "( rows x ( when x ) ( in y ) )", "( let ( x 5 ) ( y ) x )", "( + x ( 5 ) )", "( x y ( ) )", "( choose x ( Pair x 5 ) )", "( choose x ( No 5 ) ( Yes y 5 ) )", "( rows x in )", "( let ( x 5 ) y x )", "( rows x ( be y 5 ) ( when x y ) )", "( x y ( Cons x ) )"] : List Str)
def patW (k : Str) (f : Str) : List Str := (spl 32 f.cps.toList).map fun l => if (⟨l.toArray⟩ : Str) = "K" then k else ⟨l.toArray⟩
def six : List Str := ["c3", "d4", "e5", "f6", "a1", "b2"]
def Hw : List Str := (["x", "y", "5"] : List Str) ++ six ++ sp
def hw (b : Bool) : Str := if b = true then "7" else "H"
def Lw (b : Bool) : List Str := hw b :: Hw
def sb3 (x y n : Str) (h : Tr) (w : Str) : Tr := if w = "x" then .w x else if w = "y" then .w y else if w = "5" then .w n else if w = "7" ∨ w = "H" then h else .w w
theorem k_sp : ∀ w ∈ sp, isNo w = false ∧ isNm w = false := by decide +kernel
theorem k_fix : ∀ w ∈ six ++ sp, w ≠ "x" ∧ w ≠ "y" ∧ w ≠ "5" ∧ ¬ (w = "7" ∨ w = "H") := by decide +kernel
theorem k_hw : ∀ b : Bool, isNm (hw b) = false ∧ (rdWord (hw b)).isSome = b ∧ hw b ≠ "x" ∧ hw b ≠ "y" ∧ hw b ≠ "5" ∧ (hw b = "7" ∨ hw b = "H") := by decide +kernel
theorem k_x : isNm "x" = true ∧ isNm "y" = true ∧ isNm "5" = false ∧ (rdWord "5").isSome = true ∧ ("x" : Str) ∉ sp ∧ ("y" : Str) ∉ sp ∧ ("5" : Str) ∉ sp := by decide +kernel
section
variable {x y n : Str} {h : Tr} {b : Bool} {k : Nat}
theorem s_x : sb3 x y n h "x" = .w x := rfl
theorem s_y : sb3 x y n h "y" = .w y := rfl
theorem s_5 : sb3 x y n h "5" = .w n := rfl
theorem s_h : sb3 x y n h (hw b) = h := by
  obtain ⟨_, _, h1, h2, h3, h4⟩ := k_hw b
  unfold sb3; rw [if_neg h1, if_neg h2, if_neg h3, if_pos h4]
theorem s_f {w : Str} (hm : w ∈ six ++ sp) : sb3 x y n h w = .w w := by
  obtain ⟨h1, h2, h3, h4⟩ := k_fix w hm
  unfold sb3; rw [if_neg h1, if_neg h2, if_neg h3, if_neg h4]
theorem Lw_cases {w : Str} (hm : w ∈ Lw b) : w = hw b ∨ w = "x" ∨ w = "y" ∨ w = "5" ∨ w ∈ six ++ sp := by
  rcases List.mem_cons.mp hm with e | e
  · exact .inl e
  · unfold Hw at e
    rw [List.append_assoc] at e
    rcases List.mem_append.mp e with e | e
    · simp only [List.mem_cons, List.not_mem_nil, or_false] at e
      rcases e with e | e | e
      · exact .inr (.inl e)
      · exact .inr (.inr (.inl e))
      · exact .inr (.inr (.inr (.inl e)))
    · exact .inr (.inr (.inr (.inr e)))
theorem nm_some {x : Str} (h : isNm x = true) : (rdWord x).isSome = true := by unfold rdWord; rw [if_pos h]; rfl
theorem no_some {x : Str} (h0 : isNm x = false) (h : isNo x = true) (hv : ∃ v, intText? x = some v) : (rdWord x).isSome = true := by
  obtain ⟨v, e⟩ := hv
  unfold rdWord; rw [if_neg (by rw [h0]; decide), if_pos h, e]; rfl
theorem sb_mk (hx : isNm x = true) (hy : isNm y = true) (hxy : x ≠ y) (hxs : x ∉ six) (hys : y ∉ six) (hn0 : isNm n = false) (hn : isNo n = true) (hv : ∃ v, intText? n = some v)
    (hh : ∀ m, k ≤ m → (rd m h).isSome = b) (hh' : nmOf h = none) : Sb (sb3 x y n h) (Lw b) Hw k := by
  have xs : x ∉ sp := fun z => by have := (k_sp x z).2; rw [hx] at this; cases this
  have ys : y ∉ sp := fun z => by have := (k_sp y z).2; rw [hy] at this; cases this
  have ns : n ∉ sp := fun z => by have := (k_sp n z).1; rw [hn] at this; cases this
  obtain ⟨x1, x2, x3, x4, x5, x6, x7⟩ := k_x
  refine ⟨fun w hw' m hm => ?_, fun w hw' e => ?_, fun w hw' e => ?_, fun w hw' v hv' ew ev e => ?_, fun w hw' => ?_⟩
  · rcases Lw_cases hw' with rfl | rfl | rfl | rfl | e
    · rw [s_h, (k_hw b).2.1]; exact hh m hm
    · rw [s_x, rd_w, nm_some hx, nm_some x1]
    · rw [s_y, rd_w, nm_some hy, nm_some x2]
    · rw [s_5, rd_w, no_some hn0 hn hv, x4]
    · rw [s_f e, rd_w]
  · rcases Lw_cases hw' with rfl | rfl | rfl | rfl | e'
    · rw [(k_hw b).1] at e; cases e
    · exact ⟨x, s_x, hx⟩
    · exact ⟨y, s_y, hy⟩
    · rw [x3] at e; cases e
    · exact ⟨w, s_f e', e⟩
  · rcases Lw_cases hw' with rfl | rfl | rfl | rfl | e'
    · rw [s_h]; exact hh'
    · rw [x1] at e; cases e
    · rw [x2] at e; cases e
    · rw [s_5]; exact if_neg (by rw [hn0]; decide)
    · rw [s_f e']; exact if_neg (by rw [e]; decide)
  · have key : ∀ {w : Str}, w ∈ Lw b → isNm w = true → w = "x" ∨ w = "y" ∨ w ∈ six := fun {w} hm e => by
      rcases Lw_cases hm with rfl | rfl | rfl | rfl | e'
      · rw [(k_hw b).1] at e; cases e
      · exact .inl rfl
      · exact .inr (.inl rfl)
      · rw [x3] at e; cases e
      · rcases List.mem_append.mp e' with h | h
        · exact .inr (.inr h)
        · rw [(k_sp _ h).2] at e; cases e
    have inl : ∀ {w : Str}, w ∈ six → w ∈ six ++ sp := fun h => List.mem_append_left _ h
    rcases key hw' ew with rfl | rfl | a1 <;> rcases key hv' ev with rfl | rfl | a2
    · rfl
    · rw [s_x, s_y] at e; exact absurd (Tr.w.inj e) hxy
    · rw [s_x, s_f (inl a2)] at e; exact absurd (Tr.w.inj e ▸ a2) hxs
    · rw [s_x, s_y] at e; exact absurd (Tr.w.inj e).symm hxy
    · rfl
    · rw [s_y, s_f (inl a2)] at e; exact absurd (Tr.w.inj e ▸ a2) hys
    · rw [s_x, s_f (inl a1)] at e; exact absurd ((Tr.w.inj e).symm ▸ a1) hxs
    · rw [s_y, s_f (inl a1)] at e; exact absurd ((Tr.w.inj e).symm ▸ a1) hys
    · rw [s_f (inl a1), s_f (inl a2)] at e; exact Tr.w.inj e
  · rcases Lw_cases (b := b) (List.mem_cons_of_mem _ hw') with rfl | rfl | rfl | rfl | e
    · exact absurd hw' (by cases b <;> decide +kernel)
    · exact ⟨x, s_x, .inr ⟨x5, xs⟩⟩
    · exact ⟨y, s_y, .inr ⟨x6, ys⟩⟩
    · exact ⟨n, s_5, .inr ⟨x7, ns⟩⟩
    · exact ⟨w, s_f e, .inl rfl⟩
end
/-! ### what the law lays round -/
def ctx (op : Str) (x n h : Tr) : Nat → Tr
  | 0 => .n [.w op, n, h]
  | 1 => .n [.w "fun", x, h]
  | 2 => .n [x, h, n]
  | 3 => .n [.w "let", .n [x, h], .n [.w "a1", n], x]
  | 4 => .n [.w "choose", x, .n [.w "Nil", h], .n [.w "Cons", x, .w "b2", n]]
  | 5 => .n [.w "Pair", h, x]
  | 6 => .n [.w "first", x, h]
  | 7 => .n [.w "rows", h, .n [.w "when", .w "Yes"], .n [.w "be", x, n]]
  | _ => .n [.w "let", .n [x, n], h]
theorem ctx_chk : ∀ b : Bool, ∀ op ∈ ops, ∀ j ∈ List.range 9, okP (Lw b) Hw 2 (ctx op (.w "x") (.w "5") (.w (hw b)) j) = true ∧ (rd 2 (ctx op (.w "x") (.w "5") (.w (hw b)) j)).isSome = b := by decide +kernel
theorem ctx_mp {x y n op : Str} {h : Tr} {b : Bool} (ho : op ∈ ops) : ∀ j, mp (sb3 x y n h) (ctx op (.w "x") (.w "5") (.w (hw b)) j) = ctx op (.w x) (.w n) h j := by
  have f : ∀ w ∈ six ++ sp, sb3 x y n h w = .w w := fun w hw => s_f hw
  have fo := f op (List.mem_append_right _ (List.mem_append_left _ (List.mem_append_left _ ho)))
  have f1 := f "fun" (by decide)
  have f2 := f "let" (by decide)
  have f3 := f "a1" (by decide)
  have f4 := f "choose" (by decide)
  have f5 := f "Nil" (by decide)
  have f6 := f "Cons" (by decide)
  have f7 := f "b2" (by decide)
  have f8 := f "Pair" (by decide)
  have f9 := f "first" (by decide)
  have fa := f "rows" (by decide)
  have fb := f "when" (by decide)
  have fc := f "Yes" (by decide)
  have fd := f "be" (by decide)
  intro j
  match j with
  | 0 | 1 | 2 | 3 | 4 | 5 | 6 | 7 | _ + 8 => simp only [ctx, mp_n, mp_w, List.map_cons, List.map_nil, s_x, s_5, s_h, fo, f1, f2, f3, f4, f5, f6, f7, f8, f9, fa, fb, fc, fd]
/-! ### the forms -/
def chk (b : Bool) (ws : List Str) : Bool := match trOf ws with
  | some τ => okP (Lw false) Hw 3 τ && ((rd 3 τ).isSome == b) && decide (fl τ = ws) && (nmOf τ).isNone && (ws.all fun w => decide (w ∈ ("(" : Str) :: ")" :: Hw)) && decide (ws.length ≤ 40)
  | none => false
theorem good_chk : (goodF.all fun f => nine.all fun k => chk true (patW k f)) = true := by decide +kernel
theorem bad_chk : (badF.all fun f => nine.all fun k => chk false (patW k f)) = true := by decide +kernel
theorem chk_is {b : Bool} {ws : List Str} (h : chk b ws = true) : ∃ τ, okP (Lw false) Hw 3 τ = true ∧ (rd 3 τ).isSome = b ∧ fl τ = ws ∧ nmOf τ = none ∧ (∀ w ∈ ws, w ∈ ("(" : Str) :: ")" :: Hw) ∧ ws.length ≤ 40 := by
  unfold chk at h
  cases e : trOf ws with
  | none => rw [e] at h; cases h
  | some τ =>
    rw [e] at h
    simp only [Bool.and_eq_true, beq_iff_eq, decide_eq_true_eq, Option.isNone_iff_eq_none, List.all_eq_true] at h
    exact ⟨τ, h.1.1.1.1.1, h.1.1.1.1.2, h.1.1.1.2, h.1.1.2, h.1.2, h.2⟩
mutual
theorem fl_mp {s : Str → Tr} (h1 : s "(" = .w "(") (h2 : s ")" = .w ")") : ∀ t : Tr, fl (mp s t) = (fl t).flatMap fun w => fl (s w)
  | .w x => by rw [mp_w, fl_w, List.flatMap_singleton]
  | .n ts => by
    have e1 : fl (s "(") = [("(" : Str)] := by rw [h1, fl_w]
    have e2 : fl (s ")") = [(")" : Str)] := by rw [h2, fl_w]
    rw [mp, fl_n, fl_n, fls_mp h1 h2 ts, List.flatMap_cons, List.flatMap_append, List.flatMap_singleton, e1, e2]; rfl
theorem fls_mp {s : Str → Tr} (h1 : s "(" = .w "(") (h2 : s ")" = .w ")") : ∀ ts : List Tr, fls (mps s ts) = (fls ts).flatMap fun w => fl (s w)
  | [] => by rw [mps, fls_0]; rfl
  | t :: ts => by rw [mps, fls_c, fls_c, fl_mp h1 h2 t, fls_mp h1 h2 ts, List.flatMap_append]
end
end Rd
set_option Elab.async false
set_option linter.all false
set_option maxRecDepth 100000
set_option maxHeartbeats 400000
open PySem PySem.Spec PyProof.Rows L2 WL Rd
def figures : List Nat := (Str.ofString "0123456789").cps.toList
theorem occ_fig : ∀ c ∈ figures, occ "0123456789" c = true := by decide +kernel
theorem occ_fl : ∀ c ∈ figures, occ "abcdefghijklmnopqrstuvwxyz" c = false := by decide +kernel
def isfg (x : Str) : Prop := ∃ c r, x.cps.toList = c :: r ∧ (∀ d ∈ x.cps.toList, d ∈ figures) ∧ x.length ≤ 18 ∧ (c = 48 → r = [])
/-- the figures of a number -/
def figs (v : Int) : Str := Str.ofString (toString v)
theorem log_lt {i : Nat} (h : i < 10 ^ 18) : i.log2 < 1920 := by
  by_cases h0 : i = 0
  · subst h0; decide
  · exact (Nat.log2_lt h0).mpr (Nat.lt_of_lt_of_le h (Nat.le_trans (show 10 ^ 18 ≤ 2 ^ 60 by decide) (Nat.pow_le_pow_right (by decide) (by decide))))
theorem dig_mem : ∀ d : Nat, 48 ≤ d → d ≤ 57 → d ∈ figures := by
  intro d h1 h2
  have e : figures = [48, 49, 50, 51, 52, 53, 54, 55, 56, 57] := by decide +kernel
  rw [e]
  simp only [List.mem_cons, List.not_mem_nil, or_false]
  omega
open PySem.NumText PySem.W.KIN in
theorem figs_fg {v : Int} (h0 : 0 ≤ v) (h1 : v < 10 ^ 18) : isfg (figs v) ∧ intText? (figs v) = some v := by
  obtain ⟨m, rfl⟩ : ∃ m : Nat, v = (m : Int) := ⟨v.toNat, by omega⟩
  have hm : m < 10 ^ 18 := by omega
  have e : (figs (m : Int)).cps.toList = (Nat.toDigits 10 m).map Char.toNat := signs_num m
  have hl : (figs (m : Int)).length = (Nat.toDigits 10 m).length := by rw [← cps_len, e, List.length_map]
  have l1 := digits10_le (k := 18) (by decide) hm
  have l2 := tDigits_len_ge 10 m
  have hall : AllDigits (figs (m : Int)).cps.toList := fun c hc => by
    rw [e] at hc
    obtain ⟨ch, hch, rfl⟩ := List.mem_map.mp hc
    have hd := Nat.isDigit_of_mem_toDigits (b := 10) (by decide) (by decide) hch
    unfold Char.isDigit at hd
    rw [Bool.and_eq_true, decide_eq_true_eq, decide_eq_true_eq] at hd
    exact ⟨hd.1, hd.2⟩
  have hne : (figs (m : Int)).cps.toList ≠ [] := fun z => by
    rw [z] at e
    have := congrArg List.length e
    rw [List.length_map, List.length_nil] at this
    omega
  obtain ⟨c, r, hcr⟩ := List.exists_cons_of_ne_nil hne
  have hval : digitsVal (figs (m : Int)).cps.toList = m := by rw [e]; exact val_back m
  refine ⟨⟨c, r, hcr, fun d hd => dig_mem d (hall d hd).1 (hall d hd).2, by omega, fun hc => ?_⟩, ?_⟩
  · have k := toDigits_all (figs (m : Int)).cps.toList hall
    rw [hval] at k
    have hlen : (figs (m : Int)).cps.toList.length = (Nat.toDigits 10 m).length := by rw [e, List.length_map]
    rw [hcr, hc] at k hlen
    have hd : List.dropWhile (fun x => x == 48) (48 :: r) = r.dropWhile (fun x => x == 48) := by simp
    rw [hd] at k
    have hs : (r.dropWhile (fun x => x == 48)).length ≤ r.length := (List.dropWhile_suffix _).length_le
    cases hw : r.dropWhile (fun x => x == 48) with
    | nil =>
      rw [hw] at k
      rw [k] at hlen
      simp at hlen
      exact hlen
    | cons y ys =>
      rw [hw] at k hs
      rw [k] at hlen
      simp at hlen hs
      omega
  · rw [intText_digits hall hne (by omega), hval]
theorem fg_no {x : Str} (h : isfg x) : isNo x = true ∧ isNm x = false ∧ (∀ c ∈ x.cps.toList, c ∈ figures) ∧ 1 ≤ x.length ∧ x.length ≤ 18 := by
  obtain ⟨c, r, e, h1, h2, h3⟩ := h
  have hl : x.length = r.length + 1 := by rw [← cps_len, e, List.length_cons]
  refine ⟨?_, ?_, h1, by omega, h2⟩
  · unfold isNo
    rw [e]
    dsimp only
    rw [decide_eq_true h2, Bool.true_and, Bool.and_eq_true]
    refine ⟨?_, List.all_eq_true.mpr fun d hd => occ_fig d (h1 d (by rw [e]; exact hd))⟩
    by_cases hc : c = 48
    · have : x = "0" := str_ext (by rw [e, h3 hc, hc]; rfl)
      rw [this]; simp
    · have : ((⟨#[c]⟩ : Str) == "0") = false := by
        rw [beq_eq_false_iff_ne]
        intro z
        have := congrArg (fun s : Str => s.cps.toList) z
        have h0 : ("0" : Str).cps.toList = [48] := rfl
        dsimp only at this
        rw [h0] at this
        exact hc (by simpa using this)
      rw [this]; rfl
  · unfold isNm
    rw [e]
    dsimp only
    rw [occ_fl c (h1 c (by rw [e]; exact .head _)), Bool.and_false]; rfl
structure Gd (f : Nat) (τ : Tr) : Prop where
  wt : Wt f τ
  nb : Nb τ
  gb : ∀ w ∈ fl τ, gb w
theorem Wt.monoj {f : Nat} {t : Tr} (h : Wt f t) : ∀ j, Wt (f + j) t := by
  induction h with
  | w h => exact fun j => .w h
  | @n f ts hl h ih =>
    intro j
    have : Wt ((f + j) + 1) (.n ts) := .n hl fun t ht => ih t ht j
    rw [show f + 1 + j = f + j + 1 by omega]; exact this
theorem Nbs_of : ∀ {ts : List Tr}, (∀ t ∈ ts, Nb t) → Nbs ts
  | [], _ => by unfold Nbs; trivial
  | t :: ts, h => by unfold Nbs; exact ⟨h t (.head _), Nbs_of fun u hu => h u (.tail _ hu)⟩
theorem fls_mem {w : Str} : ∀ {ts : List Tr}, w ∈ fls ts → ∃ t ∈ ts, w ∈ fl t
  | [], h => by rw [fls_0] at h; cases h
  | t :: ts, h => by
    rw [fls_c] at h
    rcases List.mem_append.mp h with h | h
    · exact ⟨t, .head _, h⟩
    · obtain ⟨u, hu, e⟩ := fls_mem h
      exact ⟨u, .tail _ hu, e⟩
theorem gd_n {f : Nat} {ts : List Tr} (hl : ts.length ≤ 500) (h : ∀ t ∈ ts, Gd f t) : Gd (f + 1) (.n ts) := by
  refine ⟨.n hl fun t ht => (h t ht).wt, by unfold Nb; exact Nbs_of fun t ht => (h t ht).nb, fun w hw => ?_⟩
  rw [fl_n] at hw
  rcases List.mem_cons.mp hw with rfl | hw
  · exact .inl rfl
  rcases List.mem_append.mp hw with hw | hw
  · obtain ⟨t, ht, e⟩ := fls_mem hw
    exact (h t ht).gb w e
  · exact .inr (.inl (List.mem_singleton.mp hw))
theorem Gd.mono {f : Nat} {t : Tr} (h : Gd f t) (j : Nat) : Gd (f + j) t := ⟨h.wt.monoj j, h.nb, h.gb⟩
theorem gd_mp {s : Str → Tr} {L H : List Str} {k : Nat} (hs : ∀ w ∈ L, Gd k (s w)) : ∀ {n : Nat} {t : Tr}, okP L H n t = true → Gd (n + k) (mp s t)
  | n, .w x, h => by rw [mp_w, Nat.add_comm]; exact (hs x (ok_w h)).mono n
  | 0, .n ts, h => by cases h
  | n + 1, .n ts, h => by
    have ho : ∀ t ∈ ts, okP L H n t = true := by
      unfold okP at h
      rw [Bool.and_eq_true, List.all_eq_true] at h
      exact h.1
    rw [mp_n, show n + 1 + k = n + k + 1 by omega]
    refine gd_n (by rw [List.length_map]; exact ok_len h) fun t ht => ?_
    obtain ⟨u, hu, rfl⟩ := List.mem_map.mp ht
    exact gd_mp hs (ho u hu)
theorem gd_w {f : Nat} {w : Str} (h : gd w = true) (hc : ∀ c ∈ w.cps.toList, c < 1000) (hi : isNo w = true → ∃ v, intText? w = some v) : Gd f (.w w) := by
  obtain ⟨h0, h1, h2⟩ := gd_cps h
  have hr := PySem.StrLaws.reprText_len w fun c hm => Nat.lt_of_lt_of_le (hc c hm) (by decide)
  refine ⟨.w ⟨by omega, by omega, hi⟩, ?_, fun v hv => ?_⟩
  · unfold Nb
    constructor
    · rintro rfl; exact (h2 40 (by decide)).2.1 rfl
    · rintro rfl; exact (h2 41 (by decide)).2.2.1 rfl
  · rw [fl_w] at hv
    rw [List.mem_singleton.mp hv]; exact .inr (.inr h)
theorem gd_fig {f : Nat} {v : Int} (h0 : 0 ≤ v) (h1 : v < 10 ^ 18) : Gd f (.w (figs v)) := by
  obtain ⟨hf, hi⟩ := figs_fg h0 h1
  obtain ⟨a, b, c, d, e⟩ := fg_no hf
  have hs : ∀ d ∈ figures, (d != 32 && d != 40 && d != 41 && d != 10) = true ∧ d < 1000 := by decide +kernel
  refine gd_w ?_ (fun d hd => (hs d (c d hd)).2) fun _ => ⟨_, hi⟩
  unfold gd
  rw [Bool.and_eq_true, Bool.and_eq_true, decide_eq_true_eq, decide_eq_true_eq, List.all_eq_true]
  exact ⟨⟨d, by omega⟩, fun d hd => (hs d (c d hd)).1⟩
theorem gd_lits : ∀ w ∈ six ++ sp, gd w = true ∧ (w.cps.toList.all fun c => decide (c < 1000)) = true ∧ isNo w = false := by decide +kernel
theorem gd_lit {f : Nat} {w : Str} (h : w ∈ six ++ sp) : Gd f (.w w) := by
  obtain ⟨a, b, c⟩ := gd_lits w h
  exact gd_w a (fun d hd => by simpa using List.all_eq_true.mp b d hd) fun z => by rw [c] at z; cases z
theorem join_wds {t : List Nat} {ws0 : List Str} {ah : Str} : ∀ {ws : List Str} {t : List Nat} {ws0 : List Str} {ah g w : Str}, Tx t ws0 ah → (∀ v ∈ w :: ws, gb v) → Gp ah w g → wds (fT (t ++ g.cps.toList ++ J (w :: ws))) = (ws0 ++ w :: ws).map fun w => w.cps.toList
  | [], t, ws0, ah, g, w, h, hw, hg => (tx_step h hg (hw w (.head _))).wd
  | v :: r, t, ws0, ah, g, w, h, hw, hg => by
    have h1 := tx_step h hg (hw w (.head _))
    have h2 := join_wds (t := t) (ws0 := ws0) (ah := ah) (ws := r) (g := " ") (w := v) h1 (fun u hu => hw u (.tail _ hu)) ⟨by decide, fun z => absurd z (by decide)⟩
    have e : t ++ g.cps.toList ++ J (w :: v :: r) = t ++ g.cps.toList ++ w.cps.toList ++ (" " : Str).cps.toList ++ J (v :: r) := by
      show _ ++ (w.cps.toList ++ 32 :: J (v :: r)) = _
      rw [show (" " : Str).cps.toList = [32] from rfl]
      simp only [List.append_assoc, List.singleton_append]
    rw [e, h2, List.append_assoc]; rfl
theorem join_is {ws : List Str} (h : ∀ w ∈ ws, gb w) (hne : ws ≠ []) : wds (fT (Txt.join (" " : Str) ws).cps.toList) = ws.map fun w => w.cps.toList := by
  rw [join_J]
  cases ws with
  | nil => exact absurd rfl hne
  | cons w ws =>
    have := join_wds (t := []) (ws0 := []) (ah := "") (g := "") tx_0 h ⟨by decide, fun _ => .inl (.inl rfl)⟩
    exact this
theorem J_len : ∀ {ws : List Str}, (∀ w ∈ ws, w.length ≤ 20) → (J ws).length ≤ 21 * ws.length ∧ (ws.map (·.length)).sum + ws.length ≤ 21 * ws.length
  | [], _ => by simp [J]
  | [w], h => by
    have := h w (.head _)
    have e : (J [w]).length = w.length := cps_len w
    rw [e]; simp; omega
  | w :: v :: r, h => by
    have h1 := h w (.head _)
    obtain ⟨a, b⟩ := J_len (ws := v :: r) fun u hu => h u (.tail _ hu)
    have e : (J (w :: v :: r)).length = w.length + 1 + (J (v :: r)).length := by
      show (w.cps.toList ++ 32 :: J (v :: r)).length = _
      rw [List.length_append, List.length_cons, cps_len]; omega
    rw [e]
    simp only [List.map_cons, List.sum_cons, List.length_cons] at a b ⊢
    omega
theorem gb_len {w : Str} (h : gb w) : w.length ≤ 20 := by
  rcases h with rfl | rfl | h
  · decide
  · decide
  · exact (gd_cps h).2.1
set_option Elab.async false
set_option linter.all false
set_option maxRecDepth 100000
set_option maxHeartbeats 400000
open PySem PySem.Spec PyProof.Rows L2 WL Rd
def letters : List Nat := (Str.ofString "abcdefghijklmnopqrstuvwxyz").cps.toList
theorem let_1 : ∀ c ∈ letters, isNm ⟨#[c]⟩ = true ∧ (⟨#[c]⟩ : Str) ∉ six ∧ (⟨#[c]⟩ : Str) ≠ "q7" ∧ gd ⟨#[c]⟩ = true ∧ c < 1000 ∧ isNo ⟨#[c]⟩ = false := by decide +kernel
theorem q7 : isNm "q7" = true ∧ ("q7" : Str) ∉ six := by decide +kernel
/-- the words write a tree that is read, or isn't -/
def Wo (b : Bool) (j : Nat) (ws : List Str) : Prop := ∃ τ, ws = fl τ ∧ Gd (3 + 2 * j) τ ∧ (∀ m, 3 + 2 * j ≤ m → (rd m τ).isSome = b) ∧ nmOf τ = none ∧ ws.length ≤ 40 + 20 * j
theorem ctx_n {op : Str} {x n h : Tr} : ∀ i, ∃ ts, ctx op x n h i = .n ts
  | 0 | 1 | 2 | 3 | 4 | 5 | 6 | 7 | _ + 8 => ⟨_, rfl⟩
theorem ctx_len {op x n : Str} {h : Tr} (i : Nat) : (fl (ctx op (.w x) (.w n) h i)).length ≤ (fl h).length + 20 := by
  match i with
  | 0 | 1 | 2 | 3 | 4 | 5 | 6 | 7 | _ + 8 => simp only [ctx, fl_n, fls_c, fls_0, fl_w, List.length_append, List.length_cons, List.length_nil]; omega
theorem wo_ctx {b : Bool} {j i c : Nat} {op : Str} {v : Int} {τ : Tr} (hw : Gd (3 + 2 * j) τ ∧ (∀ m, 3 + 2 * j ≤ m → (rd m τ).isSome = b) ∧ nmOf τ = none ∧ (fl τ).length ≤ 40 + 20 * j) (ho : op ∈ ops) (hi : i < 9) (hc : c ∈ letters) (h0 : 0 ≤ v) (h1 : v < 10 ^ 18) : Wo b (j + 1) (fl (ctx op (.w ⟨#[c]⟩) (.w (figs v)) τ i)) := by
  obtain ⟨g, hr, hn, hl⟩ := hw
  obtain ⟨c1, c2, c3, c4, c5, c6⟩ := let_1 c hc
  obtain ⟨hf, hiv⟩ := figs_fg h0 h1
  obtain ⟨f1, f2, f3, f4, f5⟩ := fg_no hf
  have S : Sb (sb3 ⟨#[c]⟩ "q7" (figs v) τ) (Lw b) Hw (3 + 2 * j) := sb_mk c1 q7.1 c3 c2 q7.2 f2 f1 ⟨_, hiv⟩ hr hn
  obtain ⟨k1, k2⟩ := ctx_chk b op ho i (List.mem_range.mpr hi)
  have e := ctx_mp (x := ⟨#[c]⟩) (y := "q7") (n := figs v) (h := τ) (b := b) ho i
  have hg : ∀ w ∈ Lw b, Gd (3 + 2 * j) (sb3 ⟨#[c]⟩ "q7" (figs v) τ w) := fun w hw => by
    rcases Lw_cases hw with rfl | rfl | rfl | rfl | e'
    · rw [s_h]; exact g
    · rw [s_x]; exact gd_w c4 (fun d hd => by rw [List.mem_singleton.mp hd]; exact c5) fun z => by rw [c6] at z; cases z
    · rw [s_y]; exact gd_w (by decide +kernel) (by decide) fun z => absurd z (by decide +kernel)
    · rw [s_5]; exact gd_fig h0 h1
    · rw [s_f e']; exact gd_lit e'
  have G := gd_mp hg k1
  have R := fun m hm => (sim S k1 m hm).trans k2
  rw [e] at G R
  refine ⟨_, rfl, ?_, fun m hm => R m (by omega), ?_, ?_⟩
  · rw [show 3 + 2 * (j + 1) = 2 + (3 + 2 * j) by omega]; exact G
  · obtain ⟨ts, ec⟩ := ctx_n (op := op) (x := .w ⟨#[c]⟩) (n := .w (figs v)) (h := τ) i
    rw [ec]; rfl
  · have := ctx_len (op := op) (x := ⟨#[c]⟩) (n := figs v) (h := τ) i
    omega
/-! ### lists of words -/
def EV (e : WE) (v : T) (τ : Sw) (χ : WX) (C0 : Hw) : Prop := ∀ C' Q, Ex C0 C' → Q v C' → e τ C' Q χ
def EA (a : WA) (ws : List Str) (τ : Sw) (χ : WX) (C0 : Hw) : Prop := ∀ C' Q, Ex C0 C' → Q (ws.map T.str) C' → a τ C' Q χ
def EL (e : WE) (ws : List Str) (τ : Sw) (χ : WX) (C0 : Hw) : Prop := ∀ C' Q, Ex C0 C' → (∀ p C2, Ex C' C2 → C2 p = some (.lst (ws.map T.str)) → Q (.ref p) C2) → e τ C' Q χ
section
variable {C : Hw} {Q : WK} {χ : WX} {n i : Nat} {τ : Sw} {e e' : WE} {a : WA} {xs ys ws : List Str} {w : Str} {v : T} {D : We}
theorem ev_c : EV (eC v) v τ χ C := fun C' Q hE q => q
theorem ev_var (h : τ[i]? = some (some v)) : EV (eVar i) v τ χ C := fun C' Q hE q => ⟨_, h, q⟩
theorem ea_nil : EA aNil [] τ χ C := fun C' Q hE q => q
theorem ea_cons (h : EV e (.str w) τ χ C) (r : EA a ws τ χ C) : EA (aCons e a) (w :: ws) τ χ C := fun C' Q hE q => h C' _ hE (r C' _ hE q)
theorem el_lst (h : EA a ws τ χ C) (hl : ws.length ≤ 50000) : EL (eLst a) ws τ χ C := fun C' Q hE q => h C' _ hE ⟨by rw [List.length_map]; exact small63 (by omega), fun p hp => q p _ (Ex.new hp) up_same⟩
theorem el_add (ha : EL e xs τ χ C) (hb : EL e' ys τ χ C) (hl : xs.length + ys.length ≤ 50000) : EL (eBin wAdd e e') (xs ++ ys) τ χ C := fun C' Q hE q => by
  refine ha C' _ hE fun p1 C1 h1 e1 => hb C1 _ (hE.trans h1) fun p2 C2 h2 e2 => ?_
  refine ⟨_, _, h2 _ _ e1, e2, small63 (by rw [List.length_map, List.length_map]; omega), fun p hp => ?_⟩
  rw [← List.map_append]
  exact q p _ (h1.trans (h2.trans (Ex.new hp))) up_same
theorem el_var {p : Addr} (h : τ[i]? = some (some (.ref p))) (hp : C p = some (.lst (ws.map T.str))) : EL (eVar i) ws τ χ C := fun C' Q hE q => ⟨_, h, q p C' (Ex.refl _) (hE _ _ hp)⟩
theorem ret_el (h : EL e ws τ D.xc C) (q : ∀ p C', Ex C C' → C' p = some (.lst (ws.map T.str)) → D.rt (.ref p) C') : sRet e D τ C := h C _ (Ex.refl C) q
theorem ski {k z : Int} {x r : WS} (h : τ[i]? = some (some (.int z))) (y : z = k → x { D with nx := r D } τ C) (no : z ≠ k → r D τ C) : sSeq (sIf (tBl (eBin wEq (eVar i) (eC (.int k)))) x sPass) r D τ C := by
  refine ⟨_, h, eqIc rfl ⟨_, rfl, ?_⟩⟩
  by_cases c : z = k
  · exact ite_p (by simpa using c) (y c)
  · exact ite_n (by simpa using c) (no c)
theorem let_at {d : Int} : ∃ c, atI (Str.ofString "abcdefghijklmnopqrstuvwxyz").cps.toList (d % 26) = some c ∧ c ∈ letters := by
  have e : (Str.ofString "abcdefghijklmnopqrstuvwxyz").cps.toList.length = 26 := by decide +kernel
  exact atI_in (xs := (Str.ofString "abcdefghijklmnopqrstuvwxyz").cps.toList) (i := d % 26) (by omega) (by rw [e]; omega)
theorem op_at {d : Int} : ∃ c, atI (Str.ofString "+-*<=").cps.toList (d % 5) = some c ∧ (⟨#[c]⟩ : Str) ∈ ops := by
  have e : (Str.ofString "+-*<=").cps.toList.length = 5 := by decide +kernel
  obtain ⟨c, h, m⟩ := atI_in (xs := (Str.ofString "+-*<=").cps.toList) (i := d % 5) (by omega) (by rw [e]; omega)
  have key : ∀ c ∈ (Str.ofString "+-*<=").cps.toList, (⟨#[c]⟩ : Str) ∈ ops := by decide +kernel
  exact ⟨c, h, key c m⟩
theorem s_round {p : Addr} {ws : List Str} {j : Nat} {cell : Int} {b : Bool} (h0 : 0 ≤ cell) (hj : j ≤ 10) (hp : C p = some (.lst (ws.map T.str))) (hw : Wo b j ws) (q : ∀ p' C' ws', Ex C C' → C' p' = some (.lst (ws'.map T.str)) → Wo b (j + 1) ws' → Q (.ref p') C') : wpc pr (n + 1) i__law_round [.ref p, .int cell] C Q χ := by
  obtain ⟨τ, rfl, hT⟩ := hw
  have hl := hT.2.2.2
  obtain ⟨c, hc, mc⟩ := let_at (d := cell / 9)
  obtain ⟨o, hob, mo⟩ := op_at (d := cell / 9)
  have v0 : 0 ≤ cell / 234 * 982451653 % 10 ^ Int.toNat 18 := Int.emod_nonneg _ (by decide)
  have v1 : cell / 234 * 982451653 % 10 ^ Int.toNat 18 < 10 ^ 18 := Int.emod_lt_of_pos _ (by decide)
  refine u__law_round rfl ⟨_, rfl, by decide, _, rfl, ⟨by decide, by decide⟩, by decide, small63 (by decide +kernel), c, hc, _, rfl, ⟨by decide, by decide⟩, .inr ⟨by decide, by decide⟩, ⟨by decide, by decide, by decide⟩, by decide, .inl ⟨_, rfl, log_lt (by omega), ?_⟩⟩
  generalize hv : cell / 234 * 982451653 % 10 ^ Int.toNat 18 = v at v0 v1
  have lt := el_var (τ := [some (T.ref p), some (.int cell), some (.int (cell % 9)), some (.str ⟨#[c]⟩), some (.str (figs v))]) (i := 0) (χ := χ) rfl hp
  have Wc : ∀ i, i < 9 → ∀ o ∈ ops, Wo b (j + 1) (fl (ctx o (.w ⟨#[c]⟩) (.w (figs v)) τ i)) := fun i hi o ho => wo_ctx hT ho hi mc v0 v1
  have fin : ∀ (i : Nat) (o : Str) (ws : List Str) (e : WE), i < 9 → o ∈ ops → ws = fl (ctx o (.w ⟨#[c]⟩) (.w (figs v)) τ i) → EL e ws [some (T.ref p), some (.int cell), some (.int (cell % 9)), some (.str ⟨#[c]⟩), some (.str (figs v))] χ C → ∀ D : We, D.rt = Q → D.xc = χ → sRet e D [some (T.ref p), some (.int cell), some (.int (cell % 9)), some (.str ⟨#[c]⟩), some (.str (figs v))] C := by
    rintro i o ws e hi ho rfl hE D hD hX
    obtain ⟨nx, rt, bk, ct, xc⟩ := D
    cases hD
    cases hX
    exact ret_el hE fun p' C' hE' hp' => q p' C' _ hE' hp' (Wc i hi o ho)
  have m0 : ("+" : Str) ∈ ops := by decide
  have x3 : EV (eVar 3) (.str ⟨#[c]⟩) [some (T.ref p), some (.int cell), some (.int (cell % 9)), some (.str ⟨#[c]⟩), some (.str (figs v))] χ C := ev_var rfl
  have x4 : EV (eVar 4) (.str (figs v)) [some (T.ref p), some (.int cell), some (.int (cell % 9)), some (.str ⟨#[c]⟩), some (.str (figs v))] χ C := ev_var rfl
  have xo : EV (eBin wIdx (eC (.str "+-*<=")) (eBin wMod (eBin wDiv (eVar 1) (eC (.int 9))) (eC (.int 5)))) (.str ⟨#[o]⟩) [some (T.ref p), some (.int cell), some (.int (cell % 9)), some (.str ⟨#[c]⟩), some (.str (figs v))] χ C := fun C' Q hE q => ⟨_, rfl, ⟨by decide, by decide⟩, by decide, small63 (by decide +kernel), o, hob, q⟩
  have lh : (fl τ).length ≤ 300 := by omega
  refine ski rfl (fun _ => fin 0 ⟨#[o]⟩ _ _ (by decide) mo ?_ (el_add (el_add (el_lst (ea_cons ev_c (ea_cons xo (ea_cons x4 ea_nil))) (by simp)) lt (by simp; omega)) (el_lst (ea_cons ev_c ea_nil) (by simp)) (by simp; omega)) _ rfl rfl) fun _ => ?_
  · simp only [ctx, fl_n, fls_c, fls_0, fl_w]; simp
  refine ski rfl (fun _ => fin 1 "+" _ _ (by decide) m0 ?_ (el_add (el_add (el_lst (ea_cons ev_c (ea_cons ev_c (ea_cons x3 ea_nil))) (by simp)) lt (by simp; omega)) (el_lst (ea_cons ev_c ea_nil) (by simp)) (by simp; omega)) _ rfl rfl) fun _ => ?_
  · simp only [ctx, fl_n, fls_c, fls_0, fl_w]; simp
  refine ski rfl (fun _ => fin 2 "+" _ _ (by decide) m0 ?_ (el_add (el_add (el_lst (ea_cons ev_c (ea_cons x3 ea_nil)) (by simp)) lt (by simp; omega)) (el_lst (ea_cons x4 (ea_cons ev_c ea_nil)) (by simp)) (by simp; omega)) _ rfl rfl) fun _ => ?_
  · simp only [ctx, fl_n, fls_c, fls_0, fl_w]; simp
  refine ski rfl (fun _ => fin 3 "+" _ _ (by decide) m0 ?_ (el_add (el_add (el_lst (ea_cons ev_c (ea_cons ev_c (ea_cons ev_c (ea_cons x3 ea_nil)))) (by simp)) lt (by simp; omega)) (el_lst (ea_cons ev_c (ea_cons ev_c (ea_cons ev_c (ea_cons x4 (ea_cons ev_c (ea_cons x3 (ea_cons ev_c ea_nil))))))) (by simp)) (by simp; omega)) _ rfl rfl) fun _ => ?_
  · simp only [ctx, fl_n, fls_c, fls_0, fl_w]; simp
  refine ski rfl (fun _ => fin 4 "+" _ _ (by decide) m0 ?_ (el_add (el_add (el_lst (ea_cons ev_c (ea_cons ev_c (ea_cons x3 (ea_cons ev_c (ea_cons ev_c ea_nil))))) (by simp)) lt (by simp; omega)) (el_lst (ea_cons ev_c (ea_cons ev_c (ea_cons ev_c (ea_cons x3 (ea_cons ev_c (ea_cons x4 (ea_cons ev_c (ea_cons ev_c ea_nil)))))))) (by simp)) (by simp; omega)) _ rfl rfl) fun _ => ?_
  · simp only [ctx, fl_n, fls_c, fls_0, fl_w]; simp
  refine ski rfl (fun _ => fin 5 "+" _ _ (by decide) m0 ?_ (el_add (el_add (el_lst (ea_cons ev_c (ea_cons ev_c ea_nil)) (by simp)) lt (by simp; omega)) (el_lst (ea_cons x3 (ea_cons ev_c ea_nil)) (by simp)) (by simp; omega)) _ rfl rfl) fun _ => ?_
  · simp only [ctx, fl_n, fls_c, fls_0, fl_w]; simp
  refine ski rfl (fun _ => fin 6 "+" _ _ (by decide) m0 ?_ (el_add (el_add (el_lst (ea_cons ev_c (ea_cons ev_c (ea_cons x3 ea_nil))) (by simp)) lt (by simp; omega)) (el_lst (ea_cons ev_c ea_nil) (by simp)) (by simp; omega)) _ rfl rfl) fun _ => ?_
  · simp only [ctx, fl_n, fls_c, fls_0, fl_w]; simp
  refine ski rfl (fun _ => fin 7 "+" _ _ (by decide) m0 ?_ (el_add (el_add (el_lst (ea_cons ev_c (ea_cons ev_c ea_nil)) (by simp)) lt (by simp; omega)) (el_lst (ea_cons ev_c (ea_cons ev_c (ea_cons ev_c (ea_cons ev_c (ea_cons ev_c (ea_cons ev_c (ea_cons x3 (ea_cons x4 (ea_cons ev_c (ea_cons ev_c ea_nil)))))))))) (by simp)) (by simp; omega)) _ rfl rfl) fun _ => ?_
  · simp only [ctx, fl_n, fls_c, fls_0, fl_w]; simp
  refine fin 8 "+" _ _ (by decide) m0 ?_ (el_add (el_add (el_lst (ea_cons ev_c (ea_cons ev_c (ea_cons ev_c (ea_cons x3 (ea_cons x4 (ea_cons ev_c ea_nil)))))) (by simp)) lt (by simp; omega)) (el_lst (ea_cons ev_c ea_nil) (by simp)) (by simp; omega)) _ rfl rfl
  · simp only [ctx, fl_n, fls_c, fls_0, fl_w]; simp
end
set_option Elab.async false
set_option linter.all false
set_option maxRecDepth 100000
set_option maxHeartbeats 400000
open PySem PySem.Spec PyProof.Rows L2 WL Rd
section
variable {C : Hw} {Q : WK} {χ : WX} {n i : Nat} {τ : Sw} {e : WE} {ws : List Str} {D : We} {r : WS}
theorem st_el (h : EL e ws τ D.xc C) (q : ∀ p C', Ex C C' → C' p = some (.lst (ws.map T.str)) → r D (τ.set i (some (.ref p))) C') : sSeq (sAsg e (gNm i)) r D τ C := h C _ (Ex.refl C) q
theorem st_fst {c : Option T} {a : WA} (h : EA a ws [c, none] D.xc C) (hl : ws.length ≤ 50000) (q : ∀ p C', Ex C C' → C' p = some (.lst (ws.map T.str)) → r D [c, some (.ref p)] C') : sSeq (sAsg (eLst a) (gNm 1)) r D [c, none] C := st_el (el_lst h hl) fun p C' hE hp => q p C' hE hp
theorem st_cat {c : Option T} {a : WA} {p : Addr} {acc : List Str} {C0 : Hw} (h0 : Ex C0 C) (hp : C p = some (.lst (acc.map T.str))) (h : EA a ws [c, some (.ref p)] D.xc C) (hl : acc.length + ws.length ≤ 50000) (q : ∀ p C', Ex C0 C' → C' p = some (.lst ((acc ++ ws).map T.str)) → r D [c, some (.ref p)] C') : sSeq (sAsg (eBin wAdd (eVar 1) (eLst a)) (gNm 1)) r D [c, some (.ref p)] C :=
  st_el (el_add (el_var rfl hp) (el_lst h (by omega)) hl) fun p C' hE hp => q p C' (h0.trans hE) hp
theorem at_str {zs : List Str} {i : Int} (h0 : 0 ≤ i) (h1 : i < zs.length) : ∃ x, atI (zs.map T.str) i = some (.str x) ∧ x ∈ zs := by
  obtain ⟨t, e, m⟩ := atI_in (xs := zs.map T.str) h0 (by rw [List.length_map]; exact h1)
  obtain ⟨x, hx, rfl⟩ := List.mem_map.mp m
  exact ⟨x, e, hx⟩
theorem good_len : goodF.length = 10 := rfl
theorem bad_len : badF.length = 91 := rfl
theorem s_good {cell : Int} (q : ∀ f C', Ex C C' → f ∈ goodF → Q (.str f) C') : wpc pr (n + 1) i__law_good [.int cell] C Q χ := by
  refine u__law_good rfl ?_
  refine st_fst (ea_cons ev_c (ea_cons ev_c (ea_cons ev_c (ea_cons ev_c (ea_cons ev_c (ea_nil)))))) (Nat.le_of_ble_eq_true rfl) fun p C1 hE hp => ?_
  refine st_cat hE hp (ea_cons ev_c (ea_cons ev_c (ea_cons ev_c (ea_cons ev_c (ea_nil))))) (Nat.le_of_ble_eq_true rfl) fun p C1 hE hp => ?_
  refine st_cat hE hp (ea_cons ev_c (ea_nil)) (Nat.le_of_ble_eq_true rfl) fun p C1 hE hp => ?_
  obtain ⟨f, hf, mf⟩ := at_str (zs := goodF) (i := cell % 10) (by omega) (by rw [good_len]; omega)
  exact ⟨_, rfl, _, rfl, by decide, _, _, hp, hf, q f _ hE mf⟩
theorem s_bad {cell : Int} (q : ∀ f C', Ex C C' → f ∈ badF → Q (.str f) C') : wpc pr (n + 1) i__law_bad [.int cell] C Q χ := by
  refine u__law_bad rfl ?_
  refine st_fst (ea_cons ev_c (ea_cons ev_c (ea_cons ev_c (ea_cons ev_c (ea_cons ev_c (ea_cons ev_c (ea_cons ev_c (ea_cons ev_c (ea_nil))))))))) (Nat.le_of_ble_eq_true rfl) fun p C1 hE hp => ?_
  refine st_cat hE hp (ea_cons ev_c (ea_cons ev_c (ea_cons ev_c (ea_cons ev_c (ea_cons ev_c (ea_cons ev_c (ea_nil))))))) (Nat.le_of_ble_eq_true rfl) fun p C1 hE hp => ?_
  refine st_cat hE hp (ea_cons ev_c (ea_cons ev_c (ea_nil))) (Nat.le_of_ble_eq_true rfl) fun p C1 hE hp => ?_
  refine st_cat hE hp (ea_cons ev_c (ea_cons ev_c (ea_cons ev_c (ea_cons ev_c (ea_cons ev_c (ea_nil)))))) (Nat.le_of_ble_eq_true rfl) fun p C1 hE hp => ?_
  refine st_cat hE hp (ea_cons ev_c (ea_nil)) (Nat.le_of_ble_eq_true rfl) fun p C1 hE hp => ?_
  refine st_cat hE hp (ea_cons ev_c (ea_cons ev_c (ea_nil))) (Nat.le_of_ble_eq_true rfl) fun p C1 hE hp => ?_
  refine st_cat hE hp (ea_cons ev_c (ea_cons ev_c (ea_cons ev_c (ea_cons ev_c (ea_cons ev_c (ea_cons ev_c (ea_cons ev_c (ea_cons ev_c (ea_cons ev_c (ea_nil)))))))))) (Nat.le_of_ble_eq_true rfl) fun p C1 hE hp => ?_
  refine st_cat hE hp (ea_cons ev_c (ea_cons ev_c (ea_cons ev_c (ea_cons ev_c (ea_nil))))) (Nat.le_of_ble_eq_true rfl) fun p C1 hE hp => ?_
  refine st_cat hE hp (ea_cons ev_c (ea_nil)) (Nat.le_of_ble_eq_true rfl) fun p C1 hE hp => ?_
  refine st_cat hE hp (ea_cons ev_c (ea_cons ev_c (ea_cons ev_c (ea_nil)))) (Nat.le_of_ble_eq_true rfl) fun p C1 hE hp => ?_
  refine st_cat hE hp (ea_cons ev_c (ea_cons ev_c (ea_cons ev_c (ea_nil)))) (Nat.le_of_ble_eq_true rfl) fun p C1 hE hp => ?_
  refine st_cat hE hp (ea_cons ev_c (ea_cons ev_c (ea_cons ev_c (ea_nil)))) (Nat.le_of_ble_eq_true rfl) fun p C1 hE hp => ?_
  refine st_cat hE hp (ea_cons ev_c (ea_cons ev_c (ea_cons ev_c (ea_cons ev_c (ea_nil))))) (Nat.le_of_ble_eq_true rfl) fun p C1 hE hp => ?_
  refine st_cat hE hp (ea_cons ev_c (ea_cons ev_c (ea_cons ev_c (ea_cons ev_c (ea_cons ev_c (ea_nil)))))) (Nat.le_of_ble_eq_true rfl) fun p C1 hE hp => ?_
  refine st_cat hE hp (ea_cons ev_c (ea_cons ev_c (ea_cons ev_c (ea_cons ev_c (ea_nil))))) (Nat.le_of_ble_eq_true rfl) fun p C1 hE hp => ?_
  refine st_cat hE hp (ea_cons ev_c (ea_cons ev_c (ea_cons ev_c (ea_nil)))) (Nat.le_of_ble_eq_true rfl) fun p C1 hE hp => ?_
  refine st_cat hE hp (ea_cons ev_c (ea_nil)) (Nat.le_of_ble_eq_true rfl) fun p C1 hE hp => ?_
  refine st_cat hE hp (ea_cons ev_c (ea_cons ev_c (ea_cons ev_c (ea_cons ev_c (ea_cons ev_c (ea_nil)))))) (Nat.le_of_ble_eq_true rfl) fun p C1 hE hp => ?_
  refine st_cat hE hp (ea_cons ev_c (ea_cons ev_c (ea_cons ev_c (ea_nil)))) (Nat.le_of_ble_eq_true rfl) fun p C1 hE hp => ?_
  refine st_cat hE hp (ea_cons ev_c (ea_cons ev_c (ea_cons ev_c (ea_cons ev_c (ea_cons ev_c (ea_nil)))))) (Nat.le_of_ble_eq_true rfl) fun p C1 hE hp => ?_
  refine st_cat hE hp (ea_cons ev_c (ea_cons ev_c (ea_cons ev_c (ea_cons ev_c (ea_nil))))) (Nat.le_of_ble_eq_true rfl) fun p C1 hE hp => ?_
  refine st_cat hE hp (ea_cons ev_c (ea_cons ev_c (ea_cons ev_c (ea_cons ev_c (ea_nil))))) (Nat.le_of_ble_eq_true rfl) fun p C1 hE hp => ?_
  refine st_cat hE hp (ea_cons ev_c (ea_cons ev_c (ea_cons ev_c (ea_nil)))) (Nat.le_of_ble_eq_true rfl) fun p C1 hE hp => ?_
  refine st_cat hE hp (ea_cons ev_c (ea_cons ev_c (ea_cons ev_c (ea_nil)))) (Nat.le_of_ble_eq_true rfl) fun p C1 hE hp => ?_
  obtain ⟨f, hf, mf⟩ := at_str (zs := badF) (i := cell % 91) (by omega) (by rw [bad_len]; omega)
  have hp : C1 p = some (.lst (badF.map T.str)) := hp
  have hl : ((badF.map T.str).length : Int) = 91 := by rw [List.length_map, bad_len]; rfl
  exact ⟨_, rfl, _, rfl, _, rfl, _, rfl, _, hp, by rw [hl]; decide, _, _, hp, by rw [hl]; exact hf, q f _ hE mf⟩
end
set_option Elab.async false
set_option linter.all false
set_option maxRecDepth 100000
set_option maxHeartbeats 400000
open PySem PySem.Spec PyProof.Rows L2 WL Rd
/-- what the law puts for a word of a form -/
def sbK (x y n k w : Str) : Str := if w = "5" then n else if w = "x" then x else if w = "K" then k else if w = "y" then y else w
theorem sbK_fl {x y n k w : Str} {h : Tr} (hk : k ∈ nine) (hm : (if w = "K" then k else w) ∈ ("(" : Str) :: ")" :: Hw) : fl (sb3 x y n h (if w = "K" then k else w)) = [sbK x y n k w] := by
  by_cases c : w = "K"
  · rw [if_pos c, s_f (List.mem_append_right _ (List.mem_append_left _ (List.mem_append_right _ hk))), fl_w]
    subst c
    rfl
  rw [if_neg c] at hm ⊢
  rcases List.mem_cons.mp hm with rfl | hm
  · exact fl_w
  rcases List.mem_cons.mp hm with rfl | hm
  · exact fl_w
  rcases Lw_cases (b := true) (List.mem_cons_of_mem _ hm) with rfl | rfl | rfl | rfl | e
  · exact absurd hm (by decide +kernel)
  · exact fl_w
  · exact fl_w
  · exact fl_w
  · obtain ⟨h1, h2, h3, h4⟩ := k_fix w e
    rw [s_f e, fl_w]
    unfold sbK
    rw [if_neg h3, if_neg h1, if_neg c, if_neg h2]
theorem let_2 : ∀ c ∈ letters, isNm (⟨#[c]⟩ ++ "0") = true ∧ (⟨#[c]⟩ ++ "0" : Str) ∉ six ∧ gd (⟨#[c]⟩ ++ "0") = true ∧ isNo (⟨#[c]⟩ ++ "0") = false ∧ isNm (⟨#[c]⟩ ++ "7") = true ∧ (⟨#[c]⟩ ++ "7" : Str) ∉ six ∧ gd (⟨#[c]⟩ ++ "7") = true ∧ isNo (⟨#[c]⟩ ++ "7") = false ∧ c < 1000 := by decide +kernel
theorem app_ne {c d : Nat} : (⟨#[c]⟩ ++ "0" : Str) ≠ ⟨#[d]⟩ ++ "7" := fun e => by
  have : (⟨#[c]⟩ ++ "0" : Str).cps.toList = (⟨#[d]⟩ ++ "7" : Str).cps.toList := congrArg (fun s : Str => s.cps.toList) e
  rw [Str.cps_append, Str.cps_append, Array.toList_append, Array.toList_append] at this
  have h0 : ("0" : Str).cps.toList = [48] := rfl
  have h7 : ("7" : Str).cps.toList = [55] := rfl
  rw [h0, h7] at this
  simp at this
/-- the words of a form, with all put in -/
theorem wo_form {b : Bool} {f k : Str} {c d : Nat} {v : Int} (hk : k ∈ nine) (hf : chk b (patW k f) = true) (hc : c ∈ letters) (hd : d ∈ letters) (h0 : 0 ≤ v) (h1 : v < 10 ^ 18) : Wo b 0 ((spl 32 f.cps.toList).map fun l => sbK (⟨#[c]⟩ ++ "0") (⟨#[d]⟩ ++ "7") (figs v) k ⟨l.toArray⟩) := by
  obtain ⟨τ, t1, t2, t3, t4, t5, t6⟩ := chk_is hf
  obtain ⟨c1, c2, c3, c4, _, _, _, _, c5⟩ := let_2 c hc
  obtain ⟨_, _, _, _, d1, d2, d3, d4, d5⟩ := let_2 d hd
  obtain ⟨hfg, hiv⟩ := figs_fg h0 h1
  obtain ⟨f1, f2, f3, f4, f5⟩ := fg_no hfg
  have S : Sb (sb3 (⟨#[c]⟩ ++ "0") (⟨#[d]⟩ ++ "7") (figs v) (.w "+")) (Lw false) Hw 0 := sb_mk c1 d1 app_ne c2 d2 f2 f1 ⟨_, hiv⟩ (fun m _ => by rw [rd_w]; decide +kernel) (by decide +kernel)
  have e : fl (mp (sb3 (⟨#[c]⟩ ++ "0") (⟨#[d]⟩ ++ "7") (figs v) (.w "+")) τ) = (spl 32 f.cps.toList).map fun l => sbK (⟨#[c]⟩ ++ "0") (⟨#[d]⟩ ++ "7") (figs v) k ⟨l.toArray⟩ := by
    rw [fl_mp (s := sb3 (⟨#[c]⟩ ++ "0") (⟨#[d]⟩ ++ "7") (figs v) (.w "+")) rfl rfl, t3]
    unfold patW
    rw [List.flatMap_map]
    have : ∀ l ∈ spl 32 f.cps.toList, fl (sb3 (⟨#[c]⟩ ++ "0") (⟨#[d]⟩ ++ "7") (figs v) (.w "+") (if (⟨l.toArray⟩ : Str) = "K" then k else ⟨l.toArray⟩)) = [sbK (⟨#[c]⟩ ++ "0") (⟨#[d]⟩ ++ "7") (figs v) k ⟨l.toArray⟩] := fun l hl => sbK_fl hk (t5 _ (List.mem_map.mpr ⟨l, hl, rfl⟩))
    generalize spl 32 f.cps.toList = ls at this
    induction ls with
    | nil => rfl
    | cons l ls ih => rw [List.flatMap_cons, List.map_cons, this l (.head _), ih fun l' h => this l' (.tail _ h)]; rfl
  have hlt : ∀ {c : Nat} {z : Str}, c < 1000 → (∀ d ∈ z.cps.toList, d < 1000) → ∀ d ∈ ((⟨#[c]⟩ ++ z : Str)).cps.toList, d < 1000 := fun hc hz d hd => by
    rw [Str.cps_append, Array.toList_append] at hd
    rcases List.mem_append.mp hd with h | h
    · rw [List.mem_singleton.mp h]; exact hc
    · exact hz d h
  have hg : ∀ w ∈ Lw false, Gd 0 (sb3 (⟨#[c]⟩ ++ "0") (⟨#[d]⟩ ++ "7") (figs v) (.w "+") w) := fun w hw => by
    rcases Lw_cases hw with rfl | rfl | rfl | rfl | e'
    · rw [s_h]; exact gd_lit (by decide +kernel)
    · rw [s_x]; exact gd_w c3 (hlt c5 (by decide)) fun z => by rw [c4] at z; cases z
    · rw [s_y]; exact gd_w d3 (hlt d5 (by decide)) fun z => by rw [d4] at z; cases z
    · rw [s_5]; exact gd_fig h0 h1
    · rw [s_f e']; exact gd_lit e'
  refine ⟨_, e.symm, gd_mp hg t1, fun m hm => (sim S t1 m hm).trans t2, ?_, ?_⟩
  · cases τ with
    | n ts => rw [mp_n]; rfl
    | w x => rw [nm_sim S t1, t4]; rfl
  · rw [List.length_map]
    have : (patW k f).length = (spl 32 f.cps.toList).length := by unfold patW; rw [List.length_map]
    omega
theorem split_is {f : Str} : (Txt.split f " ") = (spl 32 f.cps.toList).map fun l => (⟨l.toArray⟩ : Str) := by
  have hk : ∀ z : Str, ¬ Builtin.Str.strKind z < Builtin.Str.strKind (" " : Str) := fun z => by
    have e : Builtin.Str.strKind (" " : Str) = 1 := by decide +kernel
    rw [e]
    unfold Builtin.Str.strKind
    split
    · decide
    · split <;> decide
  have sp : (Txt.split f " ").map (fun z => z.cps.toList) = spl 32 f.cps.toList := split_spl (a := 32) rfl hk
  rw [← sp, List.map_map]
  have : ((fun l : List Nat => (⟨l.toArray⟩ : Str)) ∘ fun z : Str => z.cps.toList) = id := by
    funext z
    exact str_ext rfl
  rw [this, List.map_id]
theorem form_len : (∀ f ∈ goodF, f.length ≤ 100) ∧ ∀ f ∈ badF, f.length ≤ 100 := by decide +kernel
def Fm (b : Bool) (f : Str) : Prop := (∀ k ∈ nine, chk b (patW k f) = true) ∧ f.length ≤ 100
theorem fm_good {f : Str} (h : f ∈ goodF) : Fm true f := ⟨fun k hk => List.all_eq_true.mp (List.all_eq_true.mp good_chk f h) k hk, form_len.1 f h⟩
theorem fm_bad {f : Str} (h : f ∈ badF) : Fm false f := ⟨fun k hk => List.all_eq_true.mp (List.all_eq_true.mp bad_chk f h) k hk, form_len.2 f h⟩
section
variable {C : Hw} {Q : WK} {χ : WX} {n : Nat}
theorem one_form {rest : WS} {D : We} {cell : Int} {v0 v2 : Option T} {b : Bool} {l : Sw} (q : ∀ f C1, Ex C C1 → Fm b f → rest D (v0 :: some (.int cell) :: v2 :: some (.bl b) :: some (.str f) :: l) C1) :
    sSeq (sAsg (eCall (wpc pr (n + 1)) 23 (aCons (eBin wDiv (eVar 1) (eC (.int 6))) aNil)) (gNm 4)) (sSeq (sIf (tTru (eVar 3)) (sAsg (eCall (wpc pr (n + 1)) 22 (aCons (eBin wDiv (eVar 1) (eC (.int 6))) aNil)) (gNm 4)) sPass) rest) D (v0 :: some (.int cell) :: v2 :: some (.bl b) :: none :: l) C := by
  refine ⟨_, rfl, ⟨by decide, by decide⟩, ?_⟩
  dsimp only [aNil]
  refine s_bad fun f C1 hE mf => ⟨_, rfl, b, rfl, ?_⟩
  cases b with
  | true =>
    refine ite_t ⟨_, rfl, ⟨by decide, by decide⟩, ?_⟩
    dsimp only [aNil]
    exact s_good fun f C2 hE2 mf => q f C2 (hE.trans hE2) (fm_good mf)
  | false => exact ite_f (q f C1 hE (fm_bad mf))
/-- all but one stays -/
def ExB (b : Addr) (C C' : Hw) : Prop := ∀ a o, a ≠ b → C a = some o → C' a = some o
theorem s_one {p : Addr} {ds : List Int} {cell : Int} {t : Nat} (hp : C p = some (.lst (ds.map T.int))) (hl : ds.length = 26) (hn : ∀ d ∈ ds, 0 ≤ d) (h0 : 0 ≤ cell) (ht : t < 5) (q : ∀ C', Ex C C' → Q (.bl true) C') : wpc pr 59 i__law_one [.ref p, .int cell, .int t] C Q χ := by
  have at_ : ∀ i : Int, 0 ≤ i → i < 26 → ∃ d, atI (ds.map T.int) i = some (.int d) ∧ 0 ≤ d := fun i h0 h1 => by
    obtain ⟨x, e, m⟩ := atI_in (xs := ds.map T.int) h0 (by rw [List.length_map, hl]; exact h1)
    obtain ⟨d, hd, rfl⟩ := List.mem_map.mp m
    exact ⟨d, e, hn d hd⟩
  refine u__law_one rfl ⟨_, rfl, _, rfl, by decide, eqIc rfl (one_form fun f C1 hE hF => ?_)⟩
  generalize ((cell + (t : Int)) % 6 == 5) = b at hF
  obtain ⟨e1, he1, _⟩ := at_ (1 + t) (by omega) (by omega)
  obtain ⟨c, hc, mc⟩ := let_at (d := e1)
  obtain ⟨d, hd, md⟩ := let_at (d := e1 / 26)
  have hp1 := hE _ _ hp
  refine ⟨_, rfl, _, rfl, _, rfl, _, _, hp1, he1, by decide, small63 (by decide +kernel), c, hc, small63 (Nat.le_of_ble_eq_true rfl), ?_⟩
  refine ⟨_, rfl, _, rfl, _, rfl, _, _, hp1, he1, ⟨by decide, by decide⟩, by decide, small63 (by decide +kernel), d, hd, small63 (Nat.le_of_ble_eq_true rfl), ?_⟩
  refine ⟨Nat.le_of_ble_eq_true rfl, fun a8 h8 => ⟨Nat.zero_le _, fun a9 h9 => ?_⟩⟩
  refine ⟨_, rfl, ⟨_, rfl⟩, f, " ", rfl, rfl, rfl, small63 (by have := hF.2; omega), ?_, fun ps hps => ?_⟩
  · have h1 := spl_len f.cps.toList
    rw [cps_len] at h1
    have h2 := hF.2
    rw [split_is, List.length_map]; exact small63 (by omega)
  have hp2 : (up (up (up C1 a8 (.lst [.str "fun", .str "let", .str "choose", .str "first", .str "stop", .str "rows", .str "in", .str "when", .str "be"])) a9 (.lst [])) ps (.lst ((Txt.split f " ").map T.str))) p = some (.lst (ds.map T.int)) := (Ex.new hps) _ _ ((Ex.new h9) _ _ ((Ex.new h8) _ _ hp1))
  have n98 : a9 ≠ a8 := (fr1 h9).1
  have nps : ps ≠ a9 ∧ ps ≠ a8 := ⟨(fr1 hps).1, (fr1 (fr1 hps).2).1⟩
  have n9p : p ≠ a9 := cne hp1 (fr1 h9).2
  generalize hX : up (up (up C1 a8 (.lst [.str "fun", .str "let", .str "choose", .str "first", .str "stop", .str "rows", .str "in", .str "when", .str "be"])) a9 (.lst [])) ps (.lst ((Txt.split f " ").map T.str)) = CX at hp2 ⊢
  have h8X : CX a8 = some (.lst (nine.map T.str)) := by rw [← hX, up_ne nps.2.symm, up_ne n98.symm]; exact up_same
  have h9X : CX a9 = some (.lst []) := by rw [← hX, up_ne nps.1.symm]; exact up_same
  have hpX : CX ps = some (.lst ((Txt.split f " ").map T.str)) := by rw [← hX]; exact up_same
  have hEX : Ex C1 CX := by rw [← hX]; exact ((Ex.new h8).trans (Ex.new h9)).trans (Ex.new hps)
  obtain ⟨e2, he2, g2⟩ := at_ 2 (by omega) (by omega)
  obtain ⟨e5, he5, _⟩ := at_ (5 + t) (by omega) (by omega)
  obtain ⟨k, hk, mk⟩ := at_str (zs := nine) (i := e5 % 9) (by omega) (by show _ < (9 : Int); omega)
  have v0 : 0 ≤ e2 * 982451653 % 10 ^ Int.toNat 18 := Int.emod_nonneg _ (by decide)
  have v1 : e2 * 982451653 % 10 ^ Int.toNat 18 < 10 ^ 18 := Int.emod_lt_of_pos _ (by decide)
  have lg := log_lt (i := (e2 * 982451653 % 10 ^ Int.toNat 18).natAbs) (by omega)
  have W0 := wo_form mk (hF.1 k mk) mc md v0 v1
  have sl : (Txt.split f " ").length ≤ 40 := by
    obtain ⟨_, _, _, _, _, l⟩ := W0
    rw [List.length_map] at l
    rw [split_is, List.length_map]; exact l
  have W1 : Wo b 0 ((Txt.split f " ").map (sbK (⟨#[c]⟩ ++ "0") (⟨#[d]⟩ ++ "7") (figs (e2 * 982451653 % 10 ^ Int.toNat 18)) k)) := by rw [split_is, List.map_map]; exact W0
  refine ⟨_, hpX, for_inv (fun i σ C' => ∃ x10, σ = [some (.ref p), some (.int cell), some (.int t), some (.bl b), some (.str f), some (.str "abcdefghijklmnopqrstuvwxyz"), some (.str (⟨#[c]⟩ ++ "0")), some (.str (⟨#[d]⟩ ++ "7")), some (.ref a8), some (.ref a9), x10, none] ∧ ExB a9 CX C' ∧ C' a9 = some (.lst ((((Txt.split f " ").take i).map (sbK (⟨#[c]⟩ ++ "0") (⟨#[d]⟩ ++ "7") (figs (e2 * 982451653 % 10 ^ Int.toNat 18)) k)).map T.str))) ⟨none, rfl, fun a o _ h => h, h9X⟩ (fun i σ C' _ h => by obtain ⟨_, _, h, _⟩ := h; exact h _ _ nps.1 hpX) ?_ ?_⟩
  · rintro i x σ C' N hx ⟨x10, rfl, hB, h9'⟩ hN
    rw [List.getElem?_map] at hx
    cases hz : (Txt.split f " ")[i]? with
    | none => rw [hz] at hx; cases hx
    | some w =>
      rw [hz] at hx
      cases hx
      have hi : i < (Txt.split f " ").length := (List.getElem?_eq_some_iff.mp hz).1
      have hpc := hB _ _ n9p hp2
      have h8c := hB _ _ n98.symm h8X
      have add : ∀ (z : Str) (D : We), z = sbK (⟨#[c]⟩ ++ "0") (⟨#[d]⟩ ++ "7") (figs (e2 * 982451653 % 10 ^ Int.toNat 18)) k w → D.nx = N → sExpr (eMt tyL' mAppend (eVar 9) (aCons (eVar 10) aNil)) D [some (.ref p), some (.int cell), some (.int t), some (.bl b), some (.str f), some (.str "abcdefghijklmnopqrstuvwxyz"), some (.str (⟨#[c]⟩ ++ "0")), some (.str (⟨#[d]⟩ ++ "7")), some (.ref a8), some (.ref a9), some (.str z), none] C' := by
        rintro z D rfl hD
        obtain ⟨nx, rt, bk, ct, xc⟩ := D
        cases hD
        refine ⟨_, rfl, ⟨a9, _, rfl, h9'⟩, _, rfl, a9, _, _, rfl, rfl, h9', small63' (by simp; omega), ?_⟩
        refine hN _ _ ⟨_, rfl, fun a o ha h => by rw [up_ne ha]; exact hB a o ha h, ?_⟩
        rw [up_same, List.take_add_one, hz]; simp
      refine ⟨_, rfl, eqSc rfl ⟨_, rfl, ?_⟩⟩
      have ee : ∀ s : Str, w = s → (w == s) = true := fun s h => by simpa using h
      have en : ∀ {s : Str}, w ≠ s → (w == s) = false := fun h => by simpa using h
      by_cases c1 : w = "5"
      · refine ite_p (ee _ c1) ⟨_, rfl, _, _, hpc, he2, .inr ⟨by decide, by decide⟩, ⟨by decide, by decide, by decide⟩, by decide, .inl ⟨_, rfl, lg, add _ _ ?_ rfl⟩⟩
        unfold sbK; rw [if_pos c1]; rfl
      refine ite_n (en c1) ⟨_, rfl, eqSc rfl ⟨_, rfl, ?_⟩⟩
      by_cases c2 : w = "x"
      · refine ite_p (ee _ c2) ⟨_, rfl, add _ _ ?_ rfl⟩
        unfold sbK; rw [if_neg c1, if_pos c2]
      refine ite_n (en c2) ⟨_, rfl, eqSc rfl ⟨_, rfl, ?_⟩⟩
      by_cases c3 : w = "K"
      · refine ite_p (ee _ c3) ⟨_, rfl, _, rfl, _, rfl, _, _, hpc, he5, by decide, _, _, h8c, hk, add _ _ ?_ rfl⟩
        unfold sbK; rw [if_neg c1, if_neg c2, if_pos c3]
      refine ite_n (en c3) ⟨_, rfl, eqSc rfl ⟨_, rfl, ?_⟩⟩
      by_cases c4 : w = "y"
      · refine ite_p (ee _ c4) ⟨_, rfl, add _ _ ?_ rfl⟩
        unfold sbK; rw [if_neg c1, if_neg c2, if_neg c3, if_pos c4]
      refine ite_n (en c4) (add _ _ ?_ rfl)
      unfold sbK; rw [if_neg c1, if_neg c2, if_neg c3, if_neg c4]
  · rintro σ C2 ⟨x10, rfl, hB, h9'⟩
    rw [List.length_map, List.take_length] at h9'
    have hpc := hB _ _ n9p hp2
    have hE2 : Ex C C2 := fun a o h => hB a o (cne (hE _ _ h) (fr1 h9).2) (hEX _ _ (hE _ _ h))
    obtain ⟨e3, he3, g3⟩ := at_ (3 + t) (by omega) (by omega)
    refine ⟨_, rfl, _, rfl, _, _, hpc, he3, by decide, _, rfl, by omega, by omega, ?_⟩
    refine for_rng (fun i σ C' => ∃ a9 ws x10 x11, σ = [some (.ref p), some (.int cell), some (.int t), some (.bl b), some (.str f), some (.str "abcdefghijklmnopqrstuvwxyz"), some (.str (⟨#[c]⟩ ++ "0")), some (.str (⟨#[d]⟩ ++ "7")), some (.ref a8), some (.ref a9), x10, x11] ∧ Ex C2 C' ∧ C' a9 = some (.lst (ws.map T.str)) ∧ Wo b i ws) ⟨a9, _, _, _, rfl, Ex.refl _, h9', W1⟩ (fun _ => trivial) ?_ ?_
    · rintro i σ C' N hi ⟨a9, ws, x10, x11, rfl, hE', h9', hW⟩ hN
      have hi7 : i ≤ 7 := by omega
      obtain ⟨e8, he8, g8⟩ := at_ (8 + ((0 + (i : Int)) + t) % 9) (by omega) (by omega)
      refine ⟨_, rfl, _, rfl, _, rfl, _, rfl, by decide, _, _, hE' _ _ hpc, he8, ?_⟩
      dsimp only [aNil]
      exact s_round (n := 57) g8 (by omega) h9' hW fun p' C3 ws' hE3 hp3 hW3 => hN _ _ ⟨p', ws', _, _, rfl, hE'.trans hE3, hp3, hW3⟩
    · rintro σ C' ⟨a9, ws, x10, x11, rfl, hE', h9', hW⟩
      obtain ⟨τ, rfl, G, hr, hnm, hlen⟩ := hW
      have hj : (e3 % 8).toNat ≤ 7 := by omega
      generalize (e3 % 8).toNat = j at hj G hr hlen
      have hb : ∀ w ∈ fl τ, w.length ≤ 20 := fun w hw => gb_len (G.gb w hw)
      obtain ⟨j1, j2⟩ := J_len hb
      have hne : fl τ ≠ [] := by
        cases τ with
        | w x => rw [fl_w]; simp
        | n ts => rw [fl_n]; simp
      have jl : (Txt.join (" " : Str) (fl τ)).length ≤ 100000 := by rw [← cps_len, join_J]; omega
      have tr := trOf_fl G.nb
      have hCC : Ex C C' := hE2.trans hE'
      refine ⟨⟨_, rfl⟩, _, rfl, " ", a9, fl τ, rfl, rfl, h9', Nat.le_of_ble_eq_true rfl, by omega, ?_⟩
      refine ⟨[.str (Txt.join " " (fl τ))], fun _ => none, .cons (.str _) .nil, fun a o e => (by cases e), ?_⟩
      have rq := fun (W : Nat → Calls) (r : Prop) (R : Rp W r) (Q' : WK) (χ' : WX) (q' : (rd (3 + 2 * j) τ).isSome = true → ∀ t C, Q' t C) (qr : (rd (3 + 2 * j) τ).isSome = false → r) =>
        s_read (C := fun _ => none) (Q := Q') (χ := χ') (f := 3 + 2 * j) (m := 57) R (by omega) jl (join_is (fun w hw => G.gb w hw) hne) (by omega) (fun σ e => by rw [tr] at e; cases e; exact G.wt) (fun σ t C' e et _ => by rw [tr] at e; cases e; exact q' (by rw [et]; rfl) t C') (fun e => by rw [tr] at e; cases e) (fun σ e et => by rw [tr] at e; cases e; exact qr (by rw [et]; rfl))
      have hrb := hr (3 + 2 * j) (Nat.le_refl _)
      cases b with
      | true => exact ⟨_, .head _, rq (wpc pr) False rp0 _ _ (fun _ _ _ => ⟨_, rfl, q _ hCC⟩) (fun e => by rw [hrb] at e; cases e), trivial⟩
      | false => exact ⟨_, .tail _ (.head _), rq (fun n j => wpc pr n (j + M)) True rp1 _ _ (fun e => by rw [hrb] at e; cases e) (fun _ => trivial), _, rfl, _, rfl, q _ hCC⟩
theorem law_true (ns : List Int) (h63 : ns.length ≤ 63) : wpc pr 60 i_law [.cl (ns.map T.int)] (fun _ => none) (fun v _ => v = .bl true) (fun _ _ => False) := by
  refine u_law rfl ⟨_, rfl, ?_⟩
  dsimp only [aNil, aCons, eC]
  refine s_draws (n := 58) (m := 26) h63 (by decide) fun p ds hp hl hn => ?_
  refine ⟨_, rfl, by decide, by decide, ?_⟩
  refine for_rng (fun i σ C' => ∃ x2, σ = [some (.cl (ns.map T.int)), some (.ref p), x2] ∧ C' p = some (.lst (ds.map T.int))) ⟨none, rfl, up_same⟩ (fun _ => trivial) ?_ ?_
  · rintro i σ C' N hi ⟨x2, rfl, hp'⟩ hN
    have hi5 : i < 5 := hi
    have at_ : ∀ i : Int, 0 ≤ i → i < 26 → ∃ d, atI (ds.map T.int) i = some (.int d) ∧ 0 ≤ d := fun i h0 h1 => by
      obtain ⟨x, e, m⟩ := atI_in (xs := ds.map T.int) h0 (by rw [List.length_map, hl]; exact h1)
      obtain ⟨d, hd, rfl⟩ := List.mem_map.mp m
      exact ⟨d, e, hn d hd⟩
    obtain ⟨a, ha, a0⟩ := at_ (17 + (0 + (i : Int))) (by omega) (by omega)
    obtain ⟨b, hb, b0⟩ := at_ (21 - (0 + (i : Int))) (by omega) (by omega)
    refine ⟨_, rfl, _, rfl, _, rfl, _, _, hp', ha, _, rfl, _, rfl, _, _, hp', hb, .inl ⟨by decide, by decide⟩, _, rfl, ?_⟩
    dsimp only [aNil]
    rw [show (0 : Int) + (i : Int) = ((i : Nat) : Int) by omega]
    refine s_one hp' hl hn (by omega) hi5 fun C2 hE => ⟨true, rfl, ite_f (hN _ _ ⟨_, rfl, hE _ _ hp'⟩)⟩
  · rintro σ C' _
    rfl
end
end K19
set_option Elab.async false
set_option linter.all false
set_option maxRecDepth 100000
set_option maxHeartbeats 4000000
open PySem PySem.W PyProof.Rows
def PySem.W.Fast.tw14476344519140214715 :=True
def PySem.W.Fast.tw9650938167654178070 :=True
def PySem.W.Fast.tw16218892470804221095 : PySem.Program := PySem.Challenge.pw_idlegraph_k19_bad_forms
theorem PySem.W.Fast.te16218892470804221095 : PySem.Challenge.pw_idlegraph_k19_bad_forms = PySem.W.Fast.tw16218892470804221095 := rfl
def PySem.W.Fast.tw1586331882247726581 :=True
def PySem.W.Fast.tw12462201883136700772 :=True
def PySem.W.Fast.tw2621656285645768728 :=True
def PySem.W.Fast.tw13992963102430355331 :=True
def PySem.W.Fast.tw5022989195711371897 :=True
def PySem.W.Fast.tw9120385426102622799 :=True
def PySem.W.Fast.tw1231895999250316756 :=True
def PySem.W.Fast.tw8199536663763004883 :=True
def PySem.W.Fast.tw7455150031995880165 :=True
def PySem.W.Fast.tw7405645917537491589 :=True
def PySem.W.Fast.tw11517330476051958781 :=True
def PySem.W.Fast.tw14626908858079140648 :=True
def PySem.W.Fast.tw11603567707254528797 :=True
def PySem.W.Fast.tw104983268527832139 :=True
def PySem.W.Fast.tw12000208619677022335 :=True
def PySem.W.Fast.tw6770829027927027539 :=True
def PySem.W.Fast.tw412992843422380646 :=True
def PySem.W.Fast.tw8249072681099730987 :=True
def PySem.W.Fast.tw3337226689701631832 :=True
def PySem.W.Fast.tw10066681984328737899 :=True
def PySem.W.Fast.tw11980918745254062553 :=True
def PySem.W.Fast.tw9588157879903449357 :=True
def PySem.W.Fast.tw17451450034623103098 :=True
def PySem.W.Fast.tw13032288263036385127 :=True
def PySem.W.Fast.tw3292438198395442542 :=True
def PySem.W.Fast.tw5703221136913571165 :=True
def PySem.W.Fast.tw2507362200730271048 :=True
def PySem.W.Fast.tw5411183198055647928 :=True
def PySem.W.Fast.tw10801213518374326619 :=True
def PySem.W.Fast.tw9244104882457032135 :=True
def PySem.W.Fast.tw14633092333922727051 :=True
def PySem.W.Fast.tw9262743453895768082 :=True
def PySem.W.Fast.tw6844673719742964902 :=True
def PySem.W.Fast.tw6981736564884211646 :=True
def PySem.W.Fast.tw12462076985432832435 :=True
def PySem.W.Fast.tw6505490945410729689 :=True
def PySem.W.Fast.tw16271446088705700574 :=True
def PySem.W.Fast.tw13190093518740217086 :=True
def PySem.W.Fast.tw6782900361642384840 :=True
def PySem.W.Fast.tw284564875484672061 :=True
def PySem.W.Fast.tw17067024697702278787 :=True
def PySem.W.Fast.tw1126652895215216651 :=True
def PySem.W.Fast.tw14109133099531100548 :=True
def PySem.W.Fast.tw5387804838628577181 :=True
def PySem.W.Fast.tw11106921540292817938 :=True
def PySem.W.Fast.tw14405985168190954558 :=True
def PySem.W.Fast.tw5133581984851184774 :=True
def PySem.W.Fast.tw4471818983520323201 :=True
def PySem.W.Fast.tw16992507271685030101 :=True
def PySem.W.Fast.tw5250669675060246806 :=True
def PySem.W.Fast.tw10141889074322248518 :=True
def PySem.W.Fast.tw9631105126611316301 :=True
def PySem.W.Fast.tw5596717008563488235 :=True
def PySem.W.Fast.tw15722194040912069449 :=True
def PySem.W.Fast.tw3995666686684312658 :=True
def PySem.W.Fast.tw4081569194019108190 :=True
def PySem.W.Fast.tw10234221563130740681 :=True
set_option maxRecDepth 100000 in
set_option maxHeartbeats 0 in
theorem PySem.Challenge.cw_idlegraph_k19_bad_forms_holds : PySem.Challenge.rw_idlegraph_k19_bad_forms.Holds := by
  w_on; o_law; k_head; (case hw => w_witness2)
  k_fill
  refine L2.walk_ofK (l := PySem.Challenge.rw_idlegraph_k19_bad_forms) (n := 63) (k := 60) (x := "_law_script") (CX := L2.CX0) (sp := fun K => WL.spW K K19.pr 60 25) rfl (by decide) rfl ⟨rfl, by decide, by decide⟩ (fun w h Y => PySem.W.kIn_of Y) ?F (fun K H a ns hl hO hS => WL.law_sp hO hS (K19.law_true ns hl)) (fun _ _ _ _ z => z)
  case F =>
    intro w mg fa h KX G hmg
    refine' K19.all_mk KX G hmg ?aCN ?xCN ?qCN ?gg0_l0 ?gg0_l1 ?gg0_l2 ?gg0_l3 ?gg0_l4 ?gg0_l5 ?gg0_l6 ?gg0_l7 ?gg0_l8 ?gg0_l9 ?gg0_l10 ?gg0_l11 ?gg0_l12 ?gg0_l13 ?gg0_l14 ?gg0_l15 ?gg0_l16 ?gg0_l17 ?gg0_l18 ?gg0_l19 ?gg0_l20 ?gg0_l21 ?gg0_l22 ?gg0_l23 ?gg0_l24 ?gg0_l25 ?z_all ?z_int ?z_isinstance ?z_len ?z_max ?z_range ?z_reversed ?z_set ?z_str ?z_tuple ?gg_FIGURES ?r_FIGURES ?gg_LETTERS ?r_LETTERS ?gk_WORDS ?gg_WORDS ?gk_OPS ?gg_OPS ?gg_SHAPES ?gk_SHAPES ?gl_SHAPES ?gg_MOST_FIGURES ?r_MOST_FIGURES ?gg_MOST_PAIRS ?r_MOST_PAIRS ?gk_FAMILIES_2 ?gk_FAMILIES_5 ?gk_FAMILIES_7 ?gk_FAMILIES ?gg_FAMILIES
    case aCN | z_all | z_int | z_isinstance | z_len | z_max | z_range | z_reversed | z_set | z_str | z_tuple => k_is
    (case xCN => k_exc)
    (case qCN => kts_exm)
    case gg0_l0 | gg0_l1 | gg0_l2 | gg0_l3 | gg0_l4 | gg0_l5 | gg0_l6 | gg0_l7 | gg0_l8 | gg0_l9 | gg0_l10 | gg0_l11 | gg0_l12 | gg0_l13 | gg0_l14 | gg0_l15 | gg0_l16 | gg0_l17 | gg0_l18 | gg0_l19 | gg0_l20 | gg0_l21 | gg0_l22 | gg0_l23 | gg0_l24 | gg0_l25 => exact ⟨_, _, by k_is, ⟨_, _, _, _, _, _, _, _, _, rfl, by k_is, by k_is⟩, by k_is⟩
    case gg_FIGURES | gg_LETTERS | gg_WORDS | gg_OPS | gg_SHAPES | gg_MOST_FIGURES | gg_MOST_PAIRS | gg_FAMILIES | gk_FAMILIES | gk_FAMILIES_7 | gk_FAMILIES_5 | gk_FAMILIES_2 | gk_SHAPES | gk_OPS | gk_WORDS => k_is
    (case gl_SHAPES => exact rfl)
    (case r_FIGURES => exact ⟨_, rfl⟩)
    (case r_LETTERS => exact ⟨_, rfl⟩)
    (case r_MOST_FIGURES => exact ⟨_, rfl⟩)
    (case r_MOST_PAIRS => exact ⟨_, rfl⟩)
#print axioms PySem.Challenge.cw_idlegraph_k19_bad_forms_holds