import PyProof.Rows.All
import Wide.All
import OpenK.AllK
import Wide.FinOn
import Lean
import PyProof.EqAt
import PyProof.EqKinds
import PyProof.TupleCall
import KE.KRevIter
import KE.KDictList
import PyProof.ZipIter
import PyProof.Draws
import PyProof.DictWalks
import PyProof.AttrMiss
import PyProof.FactsAll.zip_1
import KE.KDictOf
import PyProof.Rows.FStr
import PyProof.AutoSeq1
import PyProof.EnumMake
import PyProof.CallType
import PyProof.Rows.CallKwBuiltin
import PyProof.DictUpdate
import PyProof.NoPylong
import KE.KDictMeth
import PyProof.DictItemsLoops
import PyProof.SumWalk
import PyProof.SumWalkG
import PyProof.Rows.SumGenD
import PyProof.Rows.Range3
import PyProof.StrOps2
import KE.KLam
import KE.KSortKey
import KE.KNestM
import KE.KItemsList
import PyProof.FactsAll.tuple_2
import PySem.Challenge.RW_idlegraph_k51_reached
set_option Elab.async false
set_option linter.all false
set_option maxRecDepth 100000
/-! THE HAND LAYER, for ints, bools, texts, own classes, LISTS and tuples (index, slices, in, append, pop ..), calls, loops. Paste it whole ahead of your own text; what your proof does not reach may be deleted. -/
namespace L2
open PySem PySem.Spec PyProof.Rows
/-- a key: an int or a str -/
abbrev Key := Sum Int Str
def keyIs : Key → Value → Bool
  | .inl k, v => Value.isInt k v
  | .inr x, v => Value.isStrOf x v
def keyH (w : World) : Key → Int
  | .inl k => hashInt k
  | .inr x => hashStr w x
theorem keyIs_shape : ∀ {k : Key} {v : Value}, keyIs k v = true → (∃ i t, k = Sum.inl i ∧ v = Value.int i t) ∨ (∃ x t, k = Sum.inr x ∧ v = Value.str x t)
  | .inl i, v, h => by
    obtain ⟨t, e⟩ := Value.isInt_shape (k := i) (v := v) h
    exact .inl ⟨i, t, rfl, e⟩
  | .inr x, v, h => by
    obtain ⟨t, e⟩ := Value.isStrOf_shape (x := x) (v := v) h
    exact .inr ⟨x, t, rfl, e⟩
theorem keyIs_int (i : Int) (t : Tok) : keyIs (.inl i) (.int i t) = true := by simp [keyIs, Value.isInt]
theorem keyIs_str (x : Str) (t : Tok) : keyIs (.inr x) (.str x t) = true := by simp [keyIs, Value.isStrOf]
theorem key_ll (a b : Int) : decide ((Sum.inl a : Key) = Sum.inl b) = (a == b) := by
  by_cases e : a = b
  · subst e; simp
  · have h : ¬ (Sum.inl a : Key) = Sum.inl b := fun q => e (Sum.inl.inj q)
    rw [decide_eq_false h]
    exact (beq_eq_false_iff_ne.mpr e).symm
theorem key_rr (a b : Str) : decide ((Sum.inr a : Key) = Sum.inr b) = decide (a = b) := by
  by_cases e : a = b
  · subst e; simp
  · have h : ¬ (Sum.inr a : Key) = Sum.inr b := fun q => e (Sum.inr.inj q)
    rw [decide_eq_false h, decide_eq_false e]
theorem key_lr (a : Int) (b : Str) : decide ((Sum.inl a : Key) = Sum.inr b) = false := decide_eq_false (fun q => nomatch q)
theorem key_rl (a : Str) (b : Int) : decide ((Sum.inr a : Key) = Sum.inl b) = false := decide_eq_false (fun q => nomatch q)
def mixKind (prog : Program) (w : World) : PySem.KeyKind prog w Key where
  is := keyIs
  hash := keyH w
  inj := fun v a b ha hb => by
    rcases keyIs_shape ha with ⟨i, t, rfl, rfl⟩ | ⟨x, t, rfl, rfl⟩
    · rcases keyIs_shape hb with ⟨j, u, rfl, e⟩ | ⟨y, u, rfl, e⟩
      · injection e with e1 _; rw [e1]
      · exact nomatch e
    · rcases keyIs_shape hb with ⟨j, u, rfl, e⟩ | ⟨y, u, rfl, e⟩
      · exact nomatch e
      · injection e with e1 _; rw [e1]
  byValue := fun k v h => by
    rcases keyIs_shape h with ⟨i, t, rfl, rfl⟩ | ⟨x, t, rfl, rfl⟩ <;> rfl
  pyHash := fun hv h => by
    rcases keyIs_shape hv with ⟨i, t, rfl, rfl⟩ | ⟨x, t, rfl, rfl⟩
    · exact wpAny_pyHash_int h
    · exact wpAny_pyHash_str h
  eqBool := fun hu hv h => by
    rcases keyIs_shape hu with ⟨i, t, rfl, rfl⟩ | ⟨x, t, rfl, rfl⟩
    · rcases keyIs_shape hv with ⟨j, u, rfl, rfl⟩ | ⟨y, u, rfl, rfl⟩
      · rw [key_ll] at h; exact wpAny_eqBool_int h
      · rw [key_lr] at h; exact SeqAt.EqAt.int_str i t y u _ _ _ _ h
    · rcases keyIs_shape hv with ⟨j, u, rfl, rfl⟩ | ⟨y, u, rfl, rfl⟩
      · rw [key_rl] at h; exact SeqAt.EqAt.str_int x t j u _ _ _ _ h
      · rw [key_rr] at h; exact wpAny_eqBool_str h
  «strs» := fun k x t v h => by
    rcases keyIs_shape h with ⟨i, u, rfl, e⟩ | ⟨y, u, rfl, e⟩
    · exact nomatch e
    · injection e with e1 _
      subst e1
      cases v <;> rfl
theorem mixKind_int (prog : Program) (w : World) (i : Int) (t : Tok) : (mixKind prog w).is (.inl i) (.int i t) = true := keyIs_int i t
theorem mixKind_str (prog : Program) (w : World) (x : Str) (t : Tok) : (mixKind prog w).is (.inr x) (.str x t) = true := keyIs_str x t
end L2
namespace L2
open PySem PySem.Spec PyProof.Rows
/-- a value, without the heap -/
inductive V where
  | non | bl (b : Bool) | int (i : Int) | str (x : Str) | byt (b : Array UInt8) | flt (b : UInt64) | ref (a : Addr) | ty (n : String)
  deriving DecidableEq
def RelV : V → Value → Prop
  | .non, u => u = Value.none
  | .bl b, u => u = Value.bool b
  | .int i, u => ∃ t, u = Value.int i t
  | .str x, u => ∃ t, u = Value.str x t
  | .byt b, u => ∃ t, u = Value.bytes b t
  | .flt b, u => ∃ t, u = Value.float b t
  | .ref a, u => u = Value.ref a
  | .ty n, u => u = Value.type n
abbrev Vals : List V → List Value → Prop := Paired RelV
theorem Vals.length {xs : List V} {us : List Value} (r : Vals xs us) : xs.length = us.length := Paired.length r
theorem Vals.get : ∀ {xs : List V} {us : List Value} {i : Nat} {x : V}, Vals xs us → xs[i]? = some x → ∃ u, us[i]? = some u ∧ RelV x u
  | _, _, _, _, .nil, e => by simp at e
  | _, _, 0, _, .cons r _, e => by simp at e; subst e; exact ⟨_, rfl, r⟩
  | _, _, i + 1, x, .cons _ t, e => by
    obtain ⟨u, h1, h2⟩ := Vals.get (i := i) (x := x) t (by simpa using e)
    exact ⟨u, by simpa using h1, h2⟩
theorem Vals.append : ∀ {xs ys : List V} {us ws : List Value}, Vals xs us → Vals ys ws → Vals (xs ++ ys) (us ++ ws)
  | _, _, _, _, .nil, s => s
  | _, _, _, _, .cons r t, s => .cons r (Vals.append t s)
theorem Vals.take : ∀ {xs : List V} {us : List Value} (n : Nat), Vals xs us → Vals (xs.take n) (us.take n)
  | _, _, 0, _ => .nil
  | _, _, _ + 1, .nil => .nil
  | _, _, n + 1, .cons r t => .cons r (Vals.take n t)
theorem Vals.drop : ∀ {xs : List V} {us : List Value} (n : Nat), Vals xs us → Vals (xs.drop n) (us.drop n)
  | _, _, 0, r => r
  | _, _, _ + 1, .nil => .nil
  | _, _, n + 1, .cons _ t => Vals.drop n t
def RelO : Option V → Option Value → Prop
  | some v, some u => RelV v u
  | none, none => True
  | _, _ => False
def KV {κ : Type} : List (κ × V) → List (κ × Value) → Prop := Paired fun (p : κ × V) (q : κ × Value) => p.1 = q.1 ∧ RelV p.2 q.2
/-- a key of a dict (00_mix): an int or a text -/
def kV : Key → V
  | .inl i => .int i
  | .inr x => .str x
/-- what stands at a tracked address -/
inductive HO where
  /-- a list -/
  | lst (xs : List V)
  /-- a tuple (never changes) -/
  | tup (xs : List V)
  /-- a dict whose keys are ints and texts; one whose keys are tuples of ints and texts (the empty one is both) -/
  | dK (kvs : List (Key × V)) | dT (kvs : List (List Key × V))
  /-- a set of ints: its members, its size -/
  | set (S : Int → Bool) (n : Nat)
  /-- an instance of the class at C, its dict at dx, its attributes -/
  | ins (C dx : Addr) (fs : List (Str × V))
  /-- the dict of the instance at x -/
  | own (x : Addr)
  /-- the dict of an exception -/
  | xd (fs : List (Str × V))
  /-- a bound method, f of x -/
  | met (f x : Addr)
  /-- a range object lo, lo + 1, .. below hi -/
  | rng (lo hi : Int)
  /-- a thing that is known to the object (the script; a dict while a loop walks it): read, never written while it is so -/
  | frz (o : Obj) (u : HO)
  /-- a code object's table -/
  | tbl (ps : Array Value)
  /-- any other thing, by what is true of its one object (a def of one's own: SetO a S n := HO.ext fun h => ..) -/
  | ext (φ : Heap → Prop)
abbrev Hp := Addr → Option HO
def upd (H : Hp) (a : Addr) (o : HO) : Hp := fun b => if b = a then some o else H b
theorem upd_same {H : Hp} {a : Addr} {o : HO} : upd H a o a = some o := by unfold upd; rw [if_pos rfl]
theorem upd_ne {H : Hp} {a b : Addr} {o : HO} (h : b ≠ a) : upd H a o b = H b := by unfold upd; rw [if_neg h]
/-- two objects of different content stand apart -/
theorem ne_of {H : Hp} {a b : Addr} {o u : HO} (h : H a = some o) (h' : H b = some u) (d : o ≠ u) : a ≠ b := by
  intro e; subst e; rw [h] at h'; exact d (Option.some.inj h')
theorem ne_of_none {H : Hp} {a b : Addr} {o : HO} (h : H a = some o) (h' : H b = none) : a ≠ b := by
  intro e; subst e; rw [h] at h'; cases h'
section
variable (P : Program) (w : World)
def ObjOk (H : Hp) (h : Heap) (a : Addr) : HO → Prop
  | .lst xs => xs.length ≤ sizeLine ∧ ∃ (its : List Value) (n : Nat), Vals xs its ∧ h.get? a = some { cls := .type "list", data := .seq its.toArray n }
  | .tup xs => xs.length ≤ sizeLine ∧ ∃ its : List Value, Vals xs its ∧ IsTup h a its.toArray
  | .dK kvs => kvs.length ≤ sizeLine ∧ (a == sysModules) = false ∧ ∃ vs, KV kvs vs ∧ h.DictOf (mixKind P w) a vs
  | .dT kvs => kvs.length ≤ sizeLine ∧ (a == sysModules) = false ∧ ∃ xs : List (List Key × Addr × Value),
      Paired (fun (p : List Key × V) (q : List Key × Addr × Value) => p.1 = q.1 ∧ H q.2.1 = some (.tup (p.1.map kV)) ∧ RelV p.2 q.2.2) kvs xs ∧
      ∃ o es ep, h.get? a = some o ∧ o.ExactDict ∧ o.data = .dict es ep ∧ es.toList = xs.map (entryOfKey (tupleKind (mixKind P w))) ∧ (xs.map (·.1)).Nodup
  | .set S n => h.SetOf (intKind P w) a S n
  | .ins C dx fs => H dx = some (.own a) ∧ fs.length ≤ 1000 ∧ dx ≠ a ∧ h.get? a = some (PySem.W.instObj C dx) ∧
      ∃ mA, h.Ns1 dx mA ∧ (∀ f, RelO (fs.lookup f) (mA f)) ∧ PySem.Within mA (fs.map (·.1))
  | .own _ => ∃ o, h.get? a = some o
  | .xd fs => ∃ mA, h.Ns1 a mA ∧ ∀ f, RelO (fs.lookup f) (mA f)
  | .rng lo hi => ∃ t u v, h.get? a = some { cls := .type "range", data := .fields #[.int lo t, .int hi u, .int 1 v] }
  | .frz o u => h.get? a = some o ∧ ObjOk H h a u
  | .tbl ps => h.get? a = some { cls := .none, data := .fields ps }
  | .met f x => h.get? a = some (PySem.W.methodObj (.ref f) (.ref x))
  | .ext φ => φ h ∧ (∃ o, h.get? a = some o) ∧ ∀ h1 h2 : Heap, φ h1 → (∀ o, h1.get? a = some o → h2.get? a = some o) → φ h2
/-- the abstract heap is held -/
def HOk (H : Hp) (h : Heap) : Prop := ∀ a o, H a = some o → ObjOk P w H h a o
end
section
variable {P : Program} {w : World} {H H' : Hp} {h h' : Heap} {a : Addr} {o : HO}
theorem ObjOk.lt (x : ObjOk P w H h a o) : a < h.objs.size := by
  cases o with
  | lst xs => obtain ⟨_, _, _, _, e⟩ := x; exact Heap.lt_size e
  | tup xs => obtain ⟨_, _, _, p⟩ := x; exact p.lt
  | dK kvs => obtain ⟨_, _, _, _, o, _, _, e, _⟩ := x; exact Heap.lt_size e
  | dT kvs => obtain ⟨_, _, _, _, o, _, _, e, _⟩ := x; exact Heap.lt_size e
  | set S n => obtain ⟨o, _, _, _, e, _⟩ := x; exact Heap.lt_size e
  | ins C dx fs => obtain ⟨_, _, _, e, _⟩ := x; exact Heap.lt_size e
  | own y => obtain ⟨_, e⟩ := x; exact Heap.lt_size e
  | xd fs => obtain ⟨_, ⟨_, _, _, e, _⟩, _⟩ := x; exact Heap.lt_size e
  | rng lo hi => obtain ⟨_, _, _, e⟩ := x; exact Heap.lt_size e
  | frz ob u => obtain ⟨e, _⟩ := x; exact Heap.lt_size e
  | tbl ps => exact Heap.lt_size (show h.get? a = some _ from x)
  | met f y => exact Heap.lt_size (show h.get? a = some _ from x)
  | ext φ => obtain ⟨_, ⟨_, e⟩, _⟩ := x; exact Heap.lt_size e
theorem Paired.mapP {α β : Type} {F G : α → β → Prop} : ∀ {l₁ : List α} {l₂ : List β}, Paired F l₁ l₂ → (∀ a b, F a b → G a b) → Paired G l₁ l₂
  | _, _, .nil, _ => .nil
  | _, _, .cons r t, f => .cons (f _ _ r) (Paired.mapP t f)
/-- what an object's description leans on: its own object, its own dict, the tuples -/
theorem ObjOk.stay (x : ObjOk P w H h a o) (k : ∀ b u, (b = a ∨ H b = some (.own a)) → h.get? b = some u → h'.get? b = some u)
    (ho : ∀ b, H b = some (.own a) → H' b = some (.own a)) (ht : ∀ b xs, H b = some (.tup xs) → H' b = some (.tup xs)) : ObjOk P w H' h' a o := by
  induction o with
  | lst xs => obtain ⟨z, its, n, r, e⟩ := x; exact ⟨z, its, n, r, k _ _ (.inl rfl) e⟩
  | tup xs => obtain ⟨z, its, r, ob, e, c⟩ := x; exact ⟨z, its, r, ob, k _ _ (.inl rfl) e, c⟩
  | dK kvs => obtain ⟨z, y, vs, r, ob, es, ep, e, c⟩ := x; exact ⟨z, y, vs, r, ob, es, ep, k _ _ (.inl rfl) e, c⟩
  | dT kvs =>
    obtain ⟨z, y, xs, r, ob, es, ep, e, c⟩ := x
    exact ⟨z, y, xs, Paired.mapP r fun p q z => ⟨z.1, ht _ _ z.2.1, z.2.2⟩, ob, es, ep, k _ _ (.inl rfl) e, c⟩
  | set S n => obtain ⟨ob, es, ep, t, e, c⟩ := x; exact ⟨ob, es, ep, t, k _ _ (.inl rfl) e, c⟩
  | ins C dx fs =>
    obtain ⟨d, z, ne, e, mA, ⟨od, es, ep, e2, c⟩, r⟩ := x
    exact ⟨ho _ d, z, ne, k _ _ (.inl rfl) e, mA, ⟨od, es, ep, k _ _ (.inr d) e2, c⟩, r⟩
  | own y => obtain ⟨ob, e⟩ := x; exact ⟨ob, k _ _ (.inl rfl) e⟩
  | xd fs => obtain ⟨mA, ⟨od, es, ep, e, c⟩, r⟩ := x; exact ⟨mA, ⟨od, es, ep, k _ _ (.inl rfl) e, c⟩, r⟩
  | rng lo hi => obtain ⟨t, u, v, e⟩ := x; exact ⟨t, u, v, k _ _ (.inl rfl) e⟩
  | frz ob u ih => obtain ⟨e, q⟩ := x; exact ⟨k _ _ (.inl rfl) e, ih q⟩
  | tbl ps =>
    have e : h.get? a = some { cls := .none, data := .fields ps } := x
    show h'.get? a = some { cls := .none, data := .fields ps }
    exact k a _ (.inl rfl) e
  | met f y =>
    have e : h.get? a = some (PySem.W.methodObj (.ref f) (.ref y)) := x
    show h'.get? a = some (PySem.W.methodObj (.ref f) (.ref y))
    exact k a _ (.inl rfl) e
  | ext φ => obtain ⟨p, ⟨o, e⟩, st⟩ := x; exact ⟨st _ _ p fun o q => k _ _ (.inl rfl) q, ⟨o, k _ _ (.inl rfl) e⟩, st⟩
theorem HOk.lt (x : HOk P w H h) (e : H a = some o) : a < h.objs.size := (x a o e).lt
theorem HOk.fresh (x : HOk P w H h) (e : h.objs.size ≤ a) : H a = none := by
  cases q : H a with
  | none => rfl
  | some u => exact absurd (Nat.lt_of_lt_of_le (x.lt q) e) (Nat.lt_irrefl _)
/-- every object of the heap is kept -/
theorem HOk.kept (x : HOk P w H h) (k : ∀ b u, h.get? b = some u → h'.get? b = some u) : HOk P w H h' := fun a o e =>
  (x a o e).stay (fun b u _ q => k b u q) (fun _ q => q) fun _ _ q => q
/-- a new object is laid and tracked -/
theorem HOk.laid (x : HOk P w H h) (k : ∀ b u, h.get? b = some u → h'.get? b = some u) (hp : h.objs.size ≤ a) (new : ObjOk P w (upd H a o) h' a o) : HOk P w (upd H a o) h' := fun b u e => by
  have hn := x.fresh hp
  by_cases hb : b = a
  · subst hb; rw [upd_same] at e; cases e; exact new
  · rw [upd_ne hb] at e
    exact (x b u e).stay (fun c v _ q => k c v q) (fun c q => by rw [upd_ne (ne_of_none q hn)]; exact q) fun c xs q => by rw [upd_ne (ne_of_none q hn)]; exact q
end
/-- what may be read as u: it is u, or a known u -/
def Rd (H : Hp) (a : Addr) (u : HO) : Prop := H a = some u ∨ ∃ o, H a = some (.frz o u)
theorem Rd.of {H : Hp} {a : Addr} {u : HO} (h : H a = some u) : Rd H a u := .inl h
theorem Rd.ok {P : Program} {w : World} {H : Hp} {h : Heap} {a : Addr} {u : HO} (r : Rd H a u) (x : HOk P w H h) : ObjOk P w H h a u := by
  rcases r with r | ⟨o, r⟩
  · exact x a u r
  · obtain ⟨_, q⟩ := x a _ r
    exact q
/-- what may be written -/
def Mut : Option HO → Prop
  | some (.lst _) => True
  | some (.dK _) => True
  | some (.dT _) => True
  | some (.set _ _) => True
  | some (.ins _ _ _) => True
  | some (.ext _) => True
  | _ => False
section
variable {P : Program} {w : World} {H : Hp} {h h' : Heap} {x e : Addr} {o' : HO}
/-- the object at e is changed: x itself, or the dict of the instance x -/
theorem HOk.write (ok : HOk P w H h) (mu : Mut (H x)) (he : e = x ∨ H e = some (.own x)) (k : ∀ b u, b ≠ e → h.get? b = some u → h'.get? b = some u) (heo : ∃ u, h'.get? e = some u)
    (new : ObjOk P w (upd H x o') h' x o') : HOk P w (upd H x o') h' := fun b u q => by
  have nown : ∀ c y, H c = some (.own y) → c ≠ x := fun c y r z => by subst z; rw [r] at mu; exact mu
  have ntup : ∀ c xs, H c = some (.tup xs) → c ≠ x := fun c xs r z => by subst z; rw [r] at mu; exact mu
  by_cases hb : b = x
  · subst hb; rw [upd_same] at q; cases q; exact new
  · rw [upd_ne hb] at q
    by_cases hbe : b = e
    · have q' : H b = some (.own x) := by
        rcases he with z | z
        · exact absurd (hbe.trans z) hb
        · rw [hbe]; exact z
      rw [q] at q'; cases q'
      obtain ⟨v, hv⟩ := heo
      exact ⟨v, by rw [hbe]; exact hv⟩
    · refine (ok b u q).stay (fun c v hc r => k c v ?_ r) (fun c r => by rw [upd_ne (nown c b r)]; exact r) fun c xs r => by rw [upd_ne (ntup c xs r)]; exact r
      rcases hc with rfl | hc
      · exact hbe
      · rintro rfl
        rcases he with z | z
        · exact nown c b hc z
        · rw [hc] at z; cases z; exact hb rfl
end
/-! ### kept unless tracked; of the frames at fs (the callers') the slots may change (an exception that passes writes there); of the records at ex (iterators) nothing is said -/
structure Un (fs ex : List Addr) (H H' : Hp) (h h' : Heap) : Prop where
  keep : ∀ b o, h.get? b = some o → H b = none → b ∉ fs → b ∉ ex → h'.get? b = some o
  slot : ∀ b o, h.get? b = some o → H b = none → b ∈ fs → b ∉ ex → ∃ sl, h'.get? b = some { o with slots := sl }
  free : ∀ b o, h.get? b = some o → H b = none → b ∉ ex → H' b = none
  there : ∀ b o, h.get? b = some o → b ∉ ex → ∃ o', h'.get? b = some o'
  tups : ∀ b xs, H b = some (.tup xs) → H' b = some (.tup xs)
  frzs : ∀ b o u, H b = some (.frz o u) → H' b = some (.frz o u)
  tbls : ∀ b ps, H b = some (.tbl ps) → ∃ more, H' b = some (.tbl (ps ++ more))
section
variable {fs fs' ex ex' : List Addr} {H H1 H2 : Hp} {h h1 h2 h' : Heap} {a x e : Addr} {o : HO}
theorem Un.any (u : Un fs ex H H1 h h1) {b : Addr} {ob : Obj} (q : h.get? b = some ob) (n : H b = none) (hx : b ∉ ex) : ∃ sl, h1.get? b = some { ob with slots := sl } := by
  by_cases hb : b ∈ fs
  · exact u.slot b ob q n hb hx
  · exact ⟨ob.slots, u.keep b ob q n hb hx⟩
theorem Un.kept (k : ∀ b u, h.get? b = some u → h'.get? b = some u) : Un fs ex H H h h' :=
  ⟨fun b ob q _ _ _ => k b ob q, fun b ob q _ _ _ => ⟨ob.slots, k b ob q⟩, fun _ _ _ n _ => n, fun b ob q _ => ⟨ob, k b ob q⟩, fun _ _ q => q, fun _ _ _ q => q, fun _ ps q => ⟨#[], by rw [q]; simp⟩⟩
theorem Un.refl : Un fs ex H H h h := Un.kept fun _ _ q => q
theorem Un.laid (k : ∀ b u, h.get? b = some u → h'.get? b = some u) (hp : h.objs.size ≤ a) (hn : H a = none) : Un fs ex H (upd H a o) h h' where
  keep := fun b u q _ _ _ => k b u q
  slot := fun b u q _ _ _ => ⟨u.slots, k b u q⟩
  free := fun b u q n _ => by rw [upd_ne (Nat.ne_of_lt (Nat.lt_of_lt_of_le (Heap.lt_size q) hp))]; exact n
  there := fun b u q _ => ⟨u, k b u q⟩
  tups := fun b xs q => by rw [upd_ne (ne_of_none q hn)]; exact q
  frzs := fun b u xs q => by rw [upd_ne (ne_of_none q hn)]; exact q
  tbls := fun b ps q => ⟨#[], by rw [upd_ne (ne_of_none q hn), q]; simp⟩
theorem Un.write (mu : Mut (H x)) (he : e = x ∨ H e = some (.own x)) (k : ∀ b u, b ≠ e → h.get? b = some u → h'.get? b = some u) (heo : ∃ u, h'.get? e = some u) : Un fs ex H (upd H x o) h h' := by
  have hx : ∀ b, H b = none → b ≠ x := fun b n z => by subst z; rw [n] at mu; exact mu
  have hb : ∀ b, H b = none → b ≠ e := fun b n z => by
    subst z
    rcases he with r | r
    · exact hx b n r
    · rw [n] at r; cases r
  have hm : ∀ b u, H b = some u → ¬ Mut (some u) → b ≠ x := fun b u q nm z => by subst z; rw [q] at mu; exact nm mu
  refine ⟨fun b u q n _ _ => k b u (hb b n) q, fun b u q n _ _ => ⟨u.slots, k b u (hb b n) q⟩, fun b u q n _ => by rw [upd_ne (hx b n)]; exact n, fun b u q _ => ?_,
    fun b xs q => by rw [upd_ne (hm b _ q fun z => z)]; exact q, fun b u xs q => by rw [upd_ne (hm b _ q fun z => z)]; exact q, fun b ps q => ⟨#[], by rw [upd_ne (hm b _ q fun z => z), q]; simp⟩⟩
  by_cases hbe : b = e
  · subst hbe; exact heo
  · exact ⟨u, k b u hbe q⟩
end
/-! ### the heap without what is tracked -/
def trk (h : Heap) (H : Hp) : List Addr := (List.range h.objs.size).filter fun a => (H a).isSome
def hidT (h : Heap) (H : Hp) : Heap := PySem.W.hideAll h (trk h H)
theorem hidT_size (h : Heap) (H : Hp) : (hidT h H).objs.size = h.objs.size := PySem.W.hideAll_size _ _
theorem hidT_get {h : Heap} {H : Hp} {b : Addr} {o : Obj} (e : h.get? b = some o) (n : H b = none) : (hidT h H).get? b = some o :=
  PySem.W.hideAll_get _ e fun hm => by
    have q : (H b).isSome = true := (List.mem_filter.mp hm).2
    rw [n] at q; simp at q
theorem of_hidT {h : Heap} {H : Hp} {b : Addr} {o : Obj} (e : (hidT h H).get? b = some o) : h.get? b = some o ∧ H b = none := by
  have e' : h.get? b = some o := PySem.W.of_hideAll (trk h H) e
  refine ⟨e', ?_⟩
  cases q : H b with
  | none => rfl
  | some x =>
    have hm : b ∈ trk h H := List.mem_filter.mpr ⟨List.mem_range.mpr (Heap.lt_size e'), by simp [q]⟩
    have z : (hidT h H).get? b = none := PySem.W.hideAll_none (trk h H) hm
    rw [z] at e; cases e
/-! ### OpenK's ledger, filled with every new object but one -/
def allNews (g h : Heap) (L : Addr) : List (Addr × Obj) := (List.range h.objs.size).filterMap fun a => if a = L ∨ (g.get? a).isSome = true then none else (h.get? a).map fun o => (a, o)
def rest (g h : Heap) (L d : Addr) : List (Addr × Obj) := (allNews g h L).filter fun p => decide (p.1 ≠ d)
end L2
namespace L2
open PySem PySem.Spec PyProof.Rows
/-- the module's facts, over the base: the heap at the law's entry without what is tracked there -/
structure Mod (K : PySem.W.Frag) (mg : Str → Option Value) (base : Heap) : Prop where
  kin : K.In base
  glob : base.Ns mainGlobals mg
  blt : ∃ mb, base.Ns builtinsNs mb ∧ ∀ x : Str, x ≠ "__name__" → mb x = bootBuiltins x
  nolimit : base.NoLimit
/-- the context: a def's body (or a comprehension's block) running. base: fixed through the whole law; s₀, H₀: the entry; outer: the frames whose slots others may change (a def's callers); stack: all frames that run;
   ex: iterators that were made ahead of the entry and are walked here (a comprehension's); fn: the names whose cells were made at the entry (a def: all; a comprehension's block: its own); calm: not within an except suite; pn: pins that every state bears; xe: what is wanted of an exception that leaves the code -/
structure Cx where
  prog : Program
  w : World
  K : PySem.W.Frag
  mg : Str → Option Value
  base : Heap
  A : Around
  N : List Str
  s₀ : Shared
  H₀ : Hp
  env : Env
  outer : List Env
  stack : List Env
  ex : List Addr
  fn : Str → Bool
  calm : Bool
  pn : List (Addr × Obj)
  xe : Value → Shared → Prop
/-- the callers' frames -/
def frs (l : List Env) : List Addr := l.filterMap (·.frame)
abbrev Cx.fs (X : Cx) : List Addr := frs X.outer
def Vis (sc : Scope) (x : Str) : Prop := sc.names.lookup x = some .local ∨ sc.names.lookup x = some .cell ∨ sc.names.lookup x = some .free
def Loc (sc : Scope) (x : Str) : Prop := sc.names.lookup x = some .local ∨ sc.names.lookup x = some .cell
def Look (env : Env) (h : Heap) (m : Str → Option Value) (x : Str) (u : Value) : Prop :=
  (env.kindOf x = some .local ∧ m x = some u) ∨ ((env.kindOf x = some .cell ∨ env.kindOf x = some .free) ∧ ∃ c, env.cells.lookup x = some c ∧ h.IsCell c (some u))
structure Cx.Ok (X : Cx) : Prop where
  mod : Mod X.K X.mg X.base
  kind : X.env.scope.kind = .function
  glob : X.env.globals = mainGlobals
  blt : X.env.builtins = builtinsNs
  above : X.s₀.heap.objs.size ≤ X.env.locals
  inj : ∀ x y c, X.env.cells.lookup x = some c → X.env.cells.lookup y = some c → x = y
  has : ∀ x, (X.env.kindOf x = some .cell ∨ X.env.kindOf x = some .free) → ∃ c, X.env.cells.lookup x = some c
  cab : ∀ x c, X.fn x = true → X.env.cells.lookup x = some c → X.s₀.heap.objs.size ≤ c
  hd : X.calm = true → X.A.handled = none
  frames : X.A.frames = some X.stack
  stk : X.stack = X.outer ∨ (X.stack = X.env :: X.outer ∧ X.env.frame = some X.env.locals)
  exf : ∀ b ∈ X.ex, b ≠ X.env.locals ∧ ∀ x c, X.env.cells.lookup x = some c → c ≠ b
  bs : ∀ b o, X.base.get? b = some o → X.s₀.heap.get? b = some o ∧ X.H₀ b = none
  bsz : X.base.objs.size ≤ X.s₀.heap.objs.size
  noex : ∀ b o, X.base.get? b = some o → b ∉ X.ex
  exfs : ∀ b ∈ X.ex, b ∉ X.fs
  funs : X.s₀.heap.FunFrames X.base X.outer
  frf : ∀ b ∈ X.fs, X.H₀ b = none
structure Inv (X : Cx) (pins : List (Addr × Obj)) (σ : List (Option V)) (H : Hp) (s : Shared) : Prop where
  ok : X.Ok
  os : s.os = X.s₀.os
  bare : AllBare s.gens
  base : Un X.fs X.ex X.H₀ H X.s₀.heap s.heap
  loc : ∃ m, s.heap.Ns X.env.locals m ∧ ∀ (i : Nat) (x : Str) (v : V), X.N[i]? = some x → σ[i]? = some (some v) → Vis X.env.scope x → ∃ u, RelV v u ∧ Look X.env s.heap m x u
  cell : ∀ x c, X.env.cells.lookup x = some c → ∃ v, s.heap.IsCell c v
  free : H X.env.locals = none
  freeC : ∀ x c, X.env.cells.lookup x = some c → H c = none
  pin : ∀ p ∈ X.pn ++ pins, s.heap.get? p.1 = some p.2 ∧ H p.1 = none ∧ p.1 ≠ X.env.locals ∧ p.1 ∉ X.fs ∧ ∀ v, p.2.data ≠ .cell v
  hok : HOk X.prog X.w H s.heap
  len : σ.length = X.N.length
section
variable {X : Cx} {pins : List (Addr × Obj)} {σ : List (Option V)} {H H' : Hp} {s : Shared} {h' : Heap}
theorem Cx.Ok.nofr (ok : X.Ok) {b : Addr} {o : Obj} (e : X.base.get? b = some o) : b ∉ X.fs := fun hb => by
  have := (ok.funs.mem hb).1
  rw [e] at this; cases this
theorem Inv.bs (I : Inv X pins σ H s) : ∀ b o, X.base.get? b = some o → s.heap.get? b = some o ∧ H b = none := fun b o e =>
  ⟨I.base.keep b o (I.ok.bs b o e).1 (I.ok.bs b o e).2 (I.ok.nofr e) (I.ok.noex b o e), I.base.free b o (I.ok.bs b o e).1 (I.ok.bs b o e).2 (I.ok.noex b o e)⟩
theorem Inv.bk (I : Inv X pins σ H s) : ∀ b o, X.base.get? b = some o → s.heap.get? b = some o := fun b o e => (I.bs b o e).1
theorem Inv.mod (I : Inv X pins σ H s) : Mod X.K X.mg X.base := I.ok.mod
theorem Inv.kIn (I : Inv X pins σ H s) : X.K.In s.heap := I.ok.mod.kin.keeps I.bk
theorem Inv.lt (I : Inv X pins σ H s) : X.env.locals < s.heap.objs.size := let ⟨_, hn, _⟩ := I.loc; hn.lt
theorem Inv.sz (I : Inv X pins σ H s) : X.s₀.heap.objs.size ≤ s.heap.objs.size := Nat.le_trans I.ok.above (Nat.le_of_lt I.lt)
theorem Inv.nofs (I : Inv X pins σ H s) {a : Addr} (h : s.heap.objs.size ≤ a) : a ∉ X.fs := fun hb => by
  obtain ⟨_, o, ho, _⟩ := I.ok.funs.mem hb
  exact absurd (Nat.lt_of_lt_of_le (Heap.lt_size ho) (Nat.le_trans I.sz h)) (Nat.lt_irrefl _)
theorem Inv.cne (I : Inv X pins σ H s) : ∀ x c, X.env.cells.lookup x = some c → c ≠ X.env.locals := fun x c e z => by
  obtain ⟨v, o, ho, hd⟩ := I.cell x c e
  obtain ⟨m, ⟨o', es, ep, ho', hd', _⟩, _⟩ := I.loc
  rw [z, ho'] at ho; cases ho; rw [hd'] at hd; cases hd
theorem Inv.funs (I : Inv X pins σ H s) : s.heap.FunFrames X.base X.outer := by
  have all : ∀ (l : List Env), (∀ b ∈ frs l, b ∈ X.fs) → X.s₀.heap.FunFrames X.base l → s.heap.FunFrames X.base l := by
    intro l
    induction l with
    | nil => intro _ _; trivial
    | cons env r ih =>
      intro hs hl
      obtain ⟨hk, ⟨L, o, hf, hn, ho, hd⟩, hr⟩ := hl
      have hL : L ∈ X.fs := hs L (by unfold frs; rw [List.filterMap_cons, hf]; exact List.mem_cons_self)
      obtain ⟨sl, e⟩ := I.base.slot L o ho (I.ok.frf L hL) hL fun z => I.ok.exfs L z hL
      exact ⟨hk, ⟨L, _, hf, hn, e, hd⟩, ih (fun b hb => hs b (by unfold frs; rw [List.filterMap_cons, hf]; exact List.mem_cons_of_mem _ hb)) hr⟩
  exact all X.outer (fun _ hb => hb) I.ok.funs
/-- the frames that run, for a call -/
theorem Inv.stack (I : Inv X pins σ H s) : s.heap.FunFrames X.base X.stack := by
  rcases I.ok.stk with e | ⟨e, hf⟩
  · rw [e]; exact I.funs
  · rw [e]
    obtain ⟨m, hn, _⟩ := I.loc
    refine .cons (by rw [I.ok.kind]; decide) hf hn ?_ I.funs
    exact Heap.get?_none_of_le (Nat.le_trans I.ok.bsz I.ok.above)
theorem Inv.stkSub (I : Inv X pins σ H s) : ∀ b ∈ frs X.stack, b ∈ X.env.locals :: X.fs := fun b hb => by
  rcases I.ok.stk with e | ⟨e, hf⟩
  · rw [e] at hb; exact List.mem_cons_of_mem _ hb
  · rw [e] at hb
    unfold frs at hb
    rw [List.filterMap_cons, hf] at hb
    exact hb
theorem Inv.stkFree (I : Inv X pins σ H s) : ∀ b ∈ frs X.stack, H b = none := fun b hb => by
  rcases List.mem_cons.mp (I.stkSub b hb) with e | hb
  · rw [e]; exact I.free
  · obtain ⟨_, o, ho, _⟩ := I.ok.funs.mem hb
    exact I.base.free b o ho (I.ok.frf b hb) fun z => I.ok.exfs b z hb
/-- THE STEP: the untracked objects but the frame and the records at ch are kept (the callers' frames up to slots), the frame's map is kept, the new abstract heap is held -/
theorem Inv.step {g' : Array GenState} {t' : Nat} {d' : Drawn} {ch : List Addr} (I : Inv X pins σ H s)
    (hch : ∀ b ∈ ch, (b ∈ X.ex ∨ X.s₀.heap.objs.size ≤ b) ∧ b ≠ X.env.locals ∧ (∀ x c, X.env.cells.lookup x = some c → c ≠ b) ∧ ∀ p ∈ X.pn ++ pins, p.1 ≠ b)
    (keep : ∀ b o, b ≠ X.env.locals → b ∉ X.fs → b ∉ ch → s.heap.get? b = some o → H b = none → h'.get? b = some o)
    (slot : ∀ b o, b ≠ X.env.locals → b ∈ X.fs → b ∉ ch → s.heap.get? b = some o → H b = none → ∃ sl, h'.get? b = some { o with slots := sl }) (free : ∀ b o, b ∉ ch → s.heap.get? b = some o → H b = none → H' b = none)
    (there : ∀ b o, b ∉ ch → s.heap.get? b = some o → ∃ o', h'.get? b = some o')
    (tups : ∀ b xs, H b = some (.tup xs) → H' b = some (.tup xs)) (frzs : ∀ b o u, H b = some (.frz o u) → H' b = some (.frz o u)) (tbls : ∀ b ps, H b = some (.tbl ps) → ∃ more, H' b = some (.tbl (ps ++ more)))
    (ns : ∀ m, s.heap.Ns X.env.locals m → h'.Ns X.env.locals m) (hok : HOk X.prog X.w H' h') (hg : AllBare g') :
    Inv X pins σ H' { s with heap := h', gens := g', drawn := d', toks := t' } := by
  have neL : ∀ b o, X.s₀.heap.get? b = some o → b ≠ X.env.locals := fun b o e => Nat.ne_of_lt (Nat.lt_of_lt_of_le (Heap.lt_size e) I.ok.above)
  have neC : ∀ b o, X.s₀.heap.get? b = some o → b ∉ X.ex → b ∉ ch := fun b o e hx hb => by
    rcases (hch b hb).1 with z | z
    · exact hx z
    · exact absurd (Nat.lt_of_lt_of_le (Heap.lt_size e) z) (Nat.lt_irrefl _)
  have cellK : ∀ x c, X.env.cells.lookup x = some c → ∀ v, s.heap.IsCell c v → h'.IsCell c v := fun x c e v ⟨o, ho, hd⟩ => by
    have nch : c ∉ ch := fun z => (hch c z).2.2.1 x c e rfl
    by_cases hc : c ∈ X.fs
    · obtain ⟨sl, q⟩ := slot c o (I.cne x c e) hc nch ho (I.freeC x c e)
      exact ⟨_, q, hd⟩
    · exact ⟨o, keep c o (I.cne x c e) hc nch ho (I.freeC x c e), hd⟩
  refine ⟨I.ok, I.os, hg, ⟨fun b o e n hb hx => ?_, fun b o e n hb hx => ?_, fun b o e n hx => ?_, fun b o e hx => ?_, fun b xs e => tups b xs (I.base.tups b xs e), fun b o xs e => frzs b o xs (I.base.frzs b o xs e), fun b ps e => ?_⟩, ?_, fun x c e => ?_, ?_, fun x c e => ?_, fun p hp => ?_, hok, I.len⟩
  · exact keep b o (neL b o e) hb (neC b o e hx) (I.base.keep b o e n hb hx) (I.base.free b o e n hx)
  · obtain ⟨sl, e1⟩ := I.base.slot b o e n hb hx
    obtain ⟨sl', e2⟩ := slot b _ (neL b o e) hb (neC b o e hx) e1 (I.base.free b o e n hx)
    exact ⟨sl', e2⟩
  · obtain ⟨o', e1⟩ := I.base.there b o e hx
    exact free b o' (neC b o e hx) e1 (I.base.free b o e n hx)
  · obtain ⟨o', e1⟩ := I.base.there b o e hx
    exact there b o' (neC b o e hx) e1
  · obtain ⟨m1, e1⟩ := I.base.tbls b ps e
    obtain ⟨m2, e2⟩ := tbls b _ e1
    exact ⟨m1 ++ m2, by rw [e2, Array.append_assoc]⟩
  · obtain ⟨m, hn, hl⟩ := I.loc
    refine ⟨m, ns m hn, fun i x v e1 e2 e3 => ?_⟩
    obtain ⟨u, r, l⟩ := hl i x v e1 e2 e3
    refine ⟨u, r, ?_⟩
    rcases l with l | ⟨k, c, e, z⟩
    · exact .inl l
    · exact .inr ⟨k, c, e, cellK x c e _ z⟩
  · obtain ⟨v, z⟩ := I.cell x c e
    exact ⟨v, cellK x c e v z⟩
  · obtain ⟨m, ⟨o, _, _, ho, _⟩, _⟩ := I.loc
    exact free _ o (fun z => (hch _ z).2.1 rfl) ho I.free
  · obtain ⟨v, o, ho, hd⟩ := I.cell x c e
    exact free c o (fun z => (hch c z).2.2.1 x c e rfl) ho (I.freeC x c e)
  · obtain ⟨e, n, ne, nf, d⟩ := I.pin p hp
    have nch : p.1 ∉ ch := fun z => (hch p.1 z).2.2.2 p hp rfl
    exact ⟨keep p.1 p.2 ne nf nch e n, free p.1 p.2 nch e n, ne, nf, d⟩
/-- .. where the frame's own object is kept too -/
theorem Inv.un {t' : Nat} (I : Inv X pins σ H s) (u : Un X.fs [] H H' s.heap h') (hok : HOk X.prog X.w H' h') : Inv X pins σ H' { s with heap := h', toks := t' } := by
  obtain ⟨m, ⟨o, es, ep, ho, r⟩, _⟩ := id I.loc
  obtain ⟨sl, hL⟩ := u.any ho I.free (by simp)
  exact I.step (g' := s.gens) (d' := s.drawn) (ch := []) (fun _ z => nomatch z) (fun b o _ hb _ e n => u.keep b o e n hb (by simp)) (fun b o _ hb _ e n => u.slot b o e n hb (by simp)) (fun b o _ e n => u.free b o e n (by simp)) (fun b o _ e => u.there b o e (by simp)) u.tups u.frzs u.tbls (fun m' hm => by
    obtain ⟨o', es', ep', ho', r'⟩ := hm
    rw [ho] at ho'; cases ho'
    exact ⟨_, es', ep', hL, r'⟩) hok I.bare
/-- behind a call (or a comprehension's block): the slots of this frame may have changed too, the records at ch may have turned -/
theorem Inv.call {g' : Array GenState} {t' : Nat} {d' : Drawn} {ch : List Addr} (I : Inv X pins σ H s) (u : Un (frs X.stack) ch H H' s.heap h') (hok : HOk X.prog X.w H' h') (hg : AllBare g')
    (hch : ∀ b ∈ ch, (b ∈ X.ex ∨ X.s₀.heap.objs.size ≤ b) ∧ b ≠ X.env.locals ∧ (∀ x c, X.env.cells.lookup x = some c → c ≠ b) ∧ ∀ p ∈ X.pn ++ pins, p.1 ≠ b) :
    Inv X pins σ H' { s with heap := h', gens := g', drawn := d', toks := t' } := by
  obtain ⟨m, ⟨o, es, ep, ho, r⟩, _⟩ := id I.loc
  obtain ⟨sl, hL⟩ := u.any ho I.free fun z => (hch _ z).2.1 rfl
  exact I.step (ch := ch) hch (fun b o hL hb hc e n => u.keep b o e n (fun z => (List.mem_cons.mp (I.stkSub b z)).elim hL hb) hc) (fun b o _ _ hc e n => u.any e n hc) (fun b o hc e n => u.free b o e n hc) (fun b o hc e => u.there b o e hc) u.tups u.frzs u.tbls (fun m' hm => by
    obtain ⟨o', es', ep', ho', r'⟩ := hm
    rw [ho] at ho'; cases ho'
    exact ⟨_, es', ep', hL, r'⟩) hok hg
/-- an untracked record of ours (an iterator) has turned -/
theorem Inv.turned {t' : Nat} {it : Addr} (I : Inv X pins σ H s) (k : ∀ b o, b ≠ it → s.heap.get? b = some o → h'.get? b = some o) (hn : H it = none) (hL : it ≠ X.env.locals)
    (h1 : it ∈ X.ex ∨ X.s₀.heap.objs.size ≤ it) (h2 : ∀ x c, X.env.cells.lookup x = some c → c ≠ it) (h3 : ∀ p ∈ X.pn ++ pins, p.1 ≠ it) : Inv X pins σ H { s with heap := h', toks := t' } := by
  have nit : ∀ b u, H b = some u → b ≠ it := fun b u e z => by rw [z, hn] at e; cases e
  refine I.step (g' := s.gens) (d' := s.drawn) (ch := [it]) (fun b hb => ?_) (fun b o _ _ hc e _ => k b o (fun z => hc (by simp [z])) e) (fun b o _ _ hc e _ => ⟨o.slots, k b o (fun z => hc (by simp [z])) e⟩) (fun _ _ _ _ n => n)
    (fun b o hc e => ⟨o, k b o (fun z => hc (by simp [z])) e⟩) (fun _ _ e => e) (fun _ _ _ e => e) (fun b ps e => ⟨#[], by rw [e]; simp⟩) (fun m hm => ?_) (fun b u e => ?_) I.bare
  · have e : b = it := by simpa using hb
    subst e
    exact ⟨h1, hL, h2, h3⟩
  · obtain ⟨o, es, ep, ho, r⟩ := hm
    exact ⟨o, es, ep, k _ o (Ne.symm hL) ho, r⟩
  · refine (I.hok b u e).stay (fun c v hc q => k c v ?_ q) (fun _ q => q) fun _ _ q => q
    rcases hc with z | z
    · rw [z]; exact nit b u e
    · exact nit c _ z
theorem Inv.tok (I : Inv X pins σ H s) (t : Nat) : Inv X pins σ H { s with toks := t } := I.un (h' := s.heap) (t' := t) Un.refl I.hok
/-- all objects kept -/
theorem Inv.kept {t' : Nat} (I : Inv X pins σ H s) (k : ∀ b u, s.heap.get? b = some u → h'.get? b = some u) : Inv X pins σ H { s with heap := h', toks := t' } := I.un (Un.kept k) (I.hok.kept k)
/-- a new object laid and tracked -/
theorem Inv.laid {a : Addr} {o : HO} {t' : Nat} (I : Inv X pins σ H s) (k : ∀ b u, s.heap.get? b = some u → h'.get? b = some u) (hp : s.heap.objs.size ≤ a) (new : ObjOk X.prog X.w (upd H a o) h' a o) :
    Inv X pins σ (upd H a o) { s with heap := h', toks := t' } := I.un (Un.laid k hp (I.hok.fresh hp)) (I.hok.laid k hp new)
/-- an object written -/
theorem Inv.write {x e : Addr} {o : HO} {t' : Nat} (I : Inv X pins σ H s) (mu : Mut (H x)) (he : e = x ∨ H e = some (.own x)) (k : ∀ b u, b ≠ e → s.heap.get? b = some u → h'.get? b = some u) (heo : ∃ u, h'.get? e = some u)
    (new : ObjOk X.prog X.w (upd H x o) h' x o) : Inv X pins σ (upd H x o) { s with heap := h', toks := t' } := I.un (Un.write mu he k heo) (I.hok.write mu he k heo new)
/-- forgetting slots, pins -/
theorem Inv.weak {σ' : List (Option V)} (I : Inv X pins σ H s) (hl : σ'.length = σ.length) (w : ∀ (i : Nat) v, σ'[i]? = some (some v) → σ[i]? = some (some v)) : Inv X pins σ' H s :=
  ⟨I.ok, I.os, I.bare, I.base, let ⟨m, hn, hl'⟩ := I.loc; ⟨m, hn, fun i x v e1 e2 e3 => hl' i x v e1 (w i v e2) e3⟩, I.cell, I.free, I.freeC, I.pin, I.hok, hl.trans I.len⟩
theorem Inv.pins_of {pins' : List (Addr × Obj)} (I : Inv X pins σ H s) (h : ∀ p ∈ pins', s.heap.get? p.1 = some p.2 ∧ H p.1 = none ∧ p.1 ≠ X.env.locals ∧ p.1 ∉ X.fs ∧ ∀ v, p.2.data ≠ .cell v) : Inv X pins' σ H s :=
  ⟨I.ok, I.os, I.bare, I.base, I.loc, I.cell, I.free, I.freeC, fun p hp => (List.mem_append.mp hp).elim (fun z => I.pin p (List.mem_append_left _ z)) (h p), I.hok, I.len⟩
theorem nodup_ix {N : List Str} (hN : N.Nodup) {i j : Nat} {x : Str} (a : N[i]? = some x) (b : N[j]? = some x) : i = j := by
  obtain ⟨h1, e1⟩ := List.getElem?_eq_some_iff.mp a
  obtain ⟨h2, e2⟩ := List.getElem?_eq_some_iff.mp b
  exact (List.getElem_inj hN).mp (e1.trans e2.symm)
/-- a name is stored; what changed -/
theorem store_ok2 {M : Model} {A : Around} {E : Value → Shared → Prop} {i : Nat} {x : Str} {v : V} {u : Value} {Q : Unit → Shared → Prop} (I : Inv X pins σ H s) (hN : X.N.Nodup) (hi : X.N[i]? = some x) (hx : Loc X.env.scope x) (r : RelV v u)
    (h : ∀ s', Inv X pins (σ.set i (some v)) H s' → (∃ a, Heap.SameBut a s.heap s'.heap ∧ (a = X.env.locals ∨ X.env.cells.lookup x = some a)) → Q () s') (hf : X.fn x = true ∨ X.env.scope.names.lookup x = some .local := by first | exact .inl rfl | exact .inr rfl | assumption) : wpAny M A (storeName X.env x u) Q E s := by
  obtain ⟨m, hn, hl⟩ := id I.loc
  have hcls : (X.env.scope.kind == .class || (X.env.scope.kind == .module && X.env.locals != X.env.globals)) = false := by rw [I.ok.kind]; rfl
  have hiσ : i < σ.length := by rw [I.len]; exact (List.getElem?_eq_some_iff.mp hi).1
  have cne := I.cne
  have tracked : ∀ {a : Addr} {h' : Heap}, (∃ o, s.heap.get? a = some o ∧ H a = none) → Heap.SameBut a s.heap h' → HOk X.prog X.w H h' := fun {a h'} ha hs b ob e => by
    obtain ⟨_, _, hfree⟩ := ha
    refine (I.hok b ob e).stay (fun c w' hc q => (hs.2 c ?_).trans q) (fun _ q => q) fun _ _ q => q
    rintro rfl
    rcases hc with rfl | hc
    · rw [hfree] at e; cases e
    · rw [hfree] at hc; cases hc
  rcases hx with hk | hk
  · refine wpAny_storeName_local hk hn (fun h' hn' hs => ?_) hcls
    obtain ⟨oL, _, _, hoL, _⟩ := id hn
    refine h _ ⟨I.ok, I.os, I.bare, ⟨fun b o e n hb hx => ?_, fun b o e n hb hx => ?_, I.base.free, fun b o e hx => ?_, I.base.tups, I.base.frzs, I.base.tbls⟩, ⟨_, hn', fun j y v' e1 e2 e3 => ?_⟩, fun y c e => ?_, I.free, I.freeC, fun p hp => ?_, tracked ⟨oL, hoL, I.free⟩ hs, by simpa using I.len⟩ ⟨_, hs, .inl rfl⟩
    · exact (hs.2 b (Nat.ne_of_lt (Nat.lt_of_lt_of_le (Heap.lt_size e) I.ok.above))).trans (I.base.keep b o e n hb hx)
    · obtain ⟨sl, e1⟩ := I.base.slot b o e n hb hx
      exact ⟨sl, (hs.2 b (Nat.ne_of_lt (Nat.lt_of_lt_of_le (Heap.lt_size e) I.ok.above))).trans e1⟩
    · obtain ⟨o', e1⟩ := I.base.there b o e hx
      exact ⟨o', (hs.2 b (Nat.ne_of_lt (Nat.lt_of_lt_of_le (Heap.lt_size e) I.ok.above))).trans e1⟩
    · by_cases hj : j = i
      · subst hj
        rw [hi] at e1; cases e1
        rw [List.getElem?_set_self hiσ] at e2
        cases e2
        exact ⟨u, r, .inl ⟨hk, by simp⟩⟩
      · rw [List.getElem?_set_ne (Ne.symm hj)] at e2
        obtain ⟨u', r', q⟩ := hl j y v' e1 e2 e3
        refine ⟨u', r', ?_⟩
        rcases q with ⟨k, e⟩ | ⟨k, c, e, z⟩
        · refine .inl ⟨k, ?_⟩
          have : y ≠ x := fun e => hj (nodup_ix hN e1 (e ▸ hi))
          simp [this, e]
        · exact .inr ⟨k, c, e, z.sameBut hs (cne y c e)⟩
    · obtain ⟨w', z⟩ := I.cell y c e
      exact ⟨w', z.sameBut hs (cne y c e)⟩
    · obtain ⟨e, n, ne, nf, d⟩ := I.pin p hp
      exact ⟨(hs.2 p.1 ne).trans e, n, ne, nf, d⟩
  · have hfn : X.fn x = true := by
      rcases hf with z | z
      · exact z
      · rw [z] at hk; cases hk
    obtain ⟨c, hc⟩ := I.ok.has x (.inl hk)
    obtain ⟨w', z⟩ := I.cell x c hc
    refine wpAny_storeName_cell I.ok.kind hk hc z (fun h' hc' hs => ?_)
    obtain ⟨oc, hoc, hocd⟩ := id z
    refine h { s with heap := h' } ⟨I.ok, I.os, I.bare, ⟨fun b o e n hb hx => ?_, fun b o e n hb hx => ?_, I.base.free, fun b o e hx => ?_, I.base.tups, I.base.frzs, I.base.tbls⟩, ⟨m, hn.sameBut hs (Ne.symm (cne x c hc)), fun j y v' e1 e2 e3 => ?_⟩, fun y c' e => ?_, I.free, I.freeC, fun p hp => ?_, tracked ⟨oc, hoc, I.freeC x c hc⟩ hs, by simpa using I.len⟩ ⟨c, hs, .inr hc⟩
    · exact (hs.2 b (Nat.ne_of_lt (Nat.lt_of_lt_of_le (Heap.lt_size e) (I.ok.cab x c hfn hc)))).trans (I.base.keep b o e n hb hx)
    · obtain ⟨sl, e1⟩ := I.base.slot b o e n hb hx
      exact ⟨sl, (hs.2 b (Nat.ne_of_lt (Nat.lt_of_lt_of_le (Heap.lt_size e) (I.ok.cab x c hfn hc)))).trans e1⟩
    · obtain ⟨o', e1⟩ := I.base.there b o e hx
      exact ⟨o', (hs.2 b (Nat.ne_of_lt (Nat.lt_of_lt_of_le (Heap.lt_size e) (I.ok.cab x c hfn hc)))).trans e1⟩
    · by_cases hj : j = i
      · subst hj
        rw [hi] at e1; cases e1
        rw [List.getElem?_set_self hiσ] at e2
        cases e2
        exact ⟨u, r, .inr ⟨.inl hk, c, hc, hc'⟩⟩
      · rw [List.getElem?_set_ne (Ne.symm hj)] at e2
        obtain ⟨u', r', q⟩ := hl j y v' e1 e2 e3
        refine ⟨u', r', ?_⟩
        rcases q with q | ⟨k, c', e, z'⟩
        · exact .inl q
        · refine .inr ⟨k, c', e, z'.sameBut hs ?_⟩
          rintro rfl
          exact hj (nodup_ix hN e1 (I.ok.inj _ _ _ e hc ▸ hi))
    · by_cases hcc : c' = c
      · subst hcc; exact ⟨_, hc'⟩
      · obtain ⟨w2, z2⟩ := I.cell y c' e
        exact ⟨w2, z2.sameBut hs hcc⟩
    · obtain ⟨e, n, ne, nf, d⟩ := I.pin p hp
      refine ⟨(hs.2 p.1 ?_).trans e, n, ne, nf, d⟩
      intro q
      rw [q, hoc] at e
      have q' : oc = p.2 := Option.some.inj e
      exact d w' (by rw [← q']; exact hocd)
theorem store_ok {M : Model} {A : Around} {E : Value → Shared → Prop} {i : Nat} {x : Str} {v : V} {u : Value} {Q : Unit → Shared → Prop} (I : Inv X pins σ H s) (hN : X.N.Nodup) (hi : X.N[i]? = some x) (hx : Loc X.env.scope x) (r : RelV v u)
    (h : ∀ s', Inv X pins (σ.set i (some v)) H s' → Q () s') (hf : X.fn x = true ∨ X.env.scope.names.lookup x = some .local := by first | exact .inl rfl | exact .inr rfl | assumption) : wpAny M A (storeName X.env x u) Q E s :=
  store_ok2 I hN hi hx r (fun s' I' _ => h s' I') hf
/-- behind a call or a block, the state as it is -/
theorem Inv.call' {s' : Shared} {ch : List Addr} (I : Inv X pins σ H s) (ho : s'.os = s.os) (u : Un (frs X.stack) ch H H' s.heap s'.heap) (hok : HOk X.prog X.w H' s'.heap) (hg : AllBare s'.gens)
    (hch : ∀ b ∈ ch, (b ∈ X.ex ∨ X.s₀.heap.objs.size ≤ b) ∧ b ≠ X.env.locals ∧ (∀ x c, X.env.cells.lookup x = some c → c ≠ b) ∧ ∀ p ∈ X.pn ++ pins, p.1 ≠ b) : Inv X pins σ H' s' := by
  obtain ⟨h', g', d', t', o'⟩ := s'
  have e : o' = s.os := ho
  subst e
  exact I.call (g' := g') (t' := t') (d' := d') u hok hg hch
end
/-! ### the judgements -/
/-- an exception: its class, its own dict's address (where it has one), the abstract heap behind it -/
abbrev XK := Value → Option Addr → Hp → Prop
abbrev St := List (Option V)
abbrev VK := V → Hp → Prop
/-- an expression's reading; a test's; an argument list's -/
abbrev TE := St → Hp → VK → Prop
abbrev TT := St → Hp → (Bool → Hp → Prop) → Prop
abbrev TA := St → Hp → (List V → Hp → Prop) → Prop
/-- what is wanted behind a statement -/
structure Ends where
  nx : St → Hp → Prop
  rt : VK
  bk : St → Hp → Prop := fun _ _ => False
  ct : St → Hp → Prop := fun _ _ => False
abbrev TS := Ends → St → Hp → Prop
def EP (X : Cx) (pins : List (Addr × Obj)) (σ : St) (Q : VK) (u : Value) (s' : Shared) : Prop := ∃ v H', Inv X pins σ H' s' ∧ RelV v u ∧ Q v H'
def TP (X : Cx) (pins : List (Addr × Obj)) (σ : St) (Q : Bool → Hp → Prop) (b : Bool) (s' : Shared) : Prop := ∃ H', Inv X pins σ H' s' ∧ Q b H'
def AP (X : Cx) (pins : List (Addr × Obj)) (σ : St) (Q : List V → Hp → Prop) (us : List Value) (s' : Shared) : Prop := ∃ vs H', Inv X pins σ H' s' ∧ Vals vs us ∧ Q vs H'
def SP (X : Cx) (pins : List (Addr × Obj)) (D : Ends) (f : Flow) (s' : Shared) : Prop :=
  match f with
  | .next => ∃ σ' H', Inv X pins σ' H' s' ∧ D.nx σ' H'
  | .brk => ∃ σ' H', Inv X pins σ' H' s' ∧ D.bk σ' H'
  | .cont => ∃ σ' H', Inv X pins σ' H' s' ∧ D.ct σ' H'
  | .ret u => ∃ v σ' H', Inv X pins σ' H' s' ∧ RelV v u ∧ D.rt v H'
def PE (X : Cx) (e : Expr) (t : TE) : Prop :=
  ∀ (pins : List (Addr × Obj)) (s : Shared) (σ : St) (H : Hp) (Q : VK), Inv X pins σ H s → t σ H Q → wpAny (model X.prog X.w) X.A (eval e X.env) (EP X pins σ Q) X.xe s
def PT (X : Cx) (e : Expr) (t : TT) : Prop :=
  ∀ (pins : List (Addr × Obj)) (s : Shared) (σ : St) (H : Hp) (Q : Bool → Hp → Prop), Inv X pins σ H s → t σ H Q → wpAny (model X.prog X.w) X.A (isTrue e X.env (eval e X.env)) (TP X pins σ Q) X.xe s
/-- a test whatever its 'whole' is (and, or) -/
def PW (X : Cx) (e : Expr) (t : TT) : Prop :=
  ∀ (whole : Sem Value) (pins : List (Addr × Obj)) (s : Shared) (σ : St) (H : Hp) (Q : Bool → Hp → Prop), Inv X pins σ H s → t σ H Q → wpAny (model X.prog X.w) X.A (isTrue e X.env whole) (TP X pins σ Q) X.xe s
theorem PW.pt {X : Cx} {e : Expr} {t : TT} (h : PW X e t) : PT X e t := h _
/-- an argument list (no star), from the left -/
def PA (X : Cx) (es : List Expr) (t : TA) : Prop :=
  ∀ (pos : Pos) (pins : List (Addr × Obj)) (s : Shared) (σ : St) (H : Hp) (Q : List V → Hp → Prop), Inv X pins σ H s → t σ H Q → wpAny (model X.prog X.w) X.A (spliced (backTo pos (starEach es X.env))) (AP X pins σ Q) X.xe s
def PS (X : Cx) (st : Stmt) (t : TS) : Prop :=
  ∀ (pins : List (Addr × Obj)) (s : Shared) (σ : St) (H : Hp) (D : Ends), Inv X pins σ H s → t D σ H → wpAny (model X.prog X.w) X.A (exec st X.env) (SP X pins D) X.xe s
def PSs (X : Cx) (st : List Stmt) (t : TS) : Prop :=
  ∀ (pins : List (Addr × Obj)) (s : Shared) (σ : St) (H : Hp) (D : Ends), Inv X pins σ H s → t D σ H → wpAny (model X.prog X.w) X.A (execs st X.env) (SP X pins D) X.xe s
/-- weaken the end -/
theorem thn {α : Type} {t : Sem α} {Q Q' : α → Shared → Prop} {M : Model} {A : Around} {E : Value → Shared → Prop} {s : Shared} (h : wpAny M A t Q E s) (hQ : ∀ a s, Q a s → Q' a s) : wpAny M A t Q' E s := wpAny_mono h hQ fun _ _ x => x
end L2
namespace L2
open PySem PySem.Spec PyProof.Rows
section
variable {X : Cx}
/-! ### names and constants -/
def tVar (i : Nat) : TE := fun σ H Q => ∃ v, σ[i]? = some (some v) ∧ Q v H
def tC (v : V) : TE := fun _ H Q => Q v H
theorem pe_var {i : Nat} {x : Str} {pos : Pos} (hN : X.N[i]? = some x) (hv : Vis X.env.scope x) (hd : (x == ("__debug__" : Str)) = false := by decide) (hcd : (x == ("__classdict__" : Str)) = false := by decide) : PE X (.Name x pos) (tVar i) := by
  intro pins s σ H Q I h
  obtain ⟨v, e, h⟩ := h
  obtain ⟨m, hn, hl⟩ := I.loc
  obtain ⟨u, r, l⟩ := hl i x v hN e hv
  have fin : EP X pins σ Q u s := ⟨v, H, I, r, h⟩
  rcases l with ⟨hk, hm⟩ | ⟨hk, c, hc, hcell⟩
  · exact wpAny_Name (wpAny_loadName_local I.ok.kind hk hn hm fin) hd
  · rcases hk with hk | hk
    · exact wpAny_Name (wpAny_loadName_cell I.ok.kind hk hc hcell fin) hd
    · exact wpAny_Name (wpAny_loadName_free I.ok.kind hk hc hcell fin hcd) hd
theorem pe_int {i j pos} : PE X (.Constant (.int i) j pos) (tC (.int i)) := fun _ _ _ H _ I h => wpAny_Constant_int ⟨.int i, H, I.tok _, ⟨_, rfl⟩, h⟩
theorem pe_bl {b j pos} : PE X (.Constant (.bool b) j pos) (tC (.bl b)) := fun _ _ _ H _ I h => Constant_bool ⟨.bl b, H, I, rfl, h⟩
theorem pe_non {j pos} : PE X (.Constant .none j pos) (tC .non) := fun _ _ _ H _ I h => Constant_none ⟨.non, H, I, rfl, h⟩
/-- a global name of the def -/
def Gl (X : Cx) (x : Str) : Prop := X.env.kindOf x = some .globalImplicit
theorem ld_glob {E : Value → Shared → Prop} {pins : List (Addr × Obj)} {s : Shared} {σ : St} {H : Hp} {x : Str} {u : Value} {pos : Pos} {Q : Value → Shared → Prop} (I : Inv X pins σ H s) (hg : Gl X x) (hm : X.mg x = some u) (h : Q u s)
    (hd : (x == ("__debug__" : Str)) = false := by decide) : wpAny (model X.prog X.w) X.A (eval (.Name x pos) X.env) Q E s :=
  Calls.Name_function_global I.ok.kind hg (Calls.loadGlobal_global (by rw [I.ok.glob]; exact I.mod.glob.keeps I.bk) hm h) hd
theorem ld_blt {E : Value → Shared → Prop} {pins : List (Addr × Obj)} {s : Shared} {σ : St} {H : Hp} {x : Str} {u : Value} {pos : Pos} {Q : Value → Shared → Prop} (I : Inv X pins σ H s) (hg : Gl X x) (hm : X.mg x = none) (hv : bootBuiltins x = some u) (h : Q u s)
    (hn : x ≠ "__name__" := by decide) (hd : (x == ("__debug__" : Str)) = false := by decide) : wpAny (model X.prog X.w) X.A (eval (.Name x pos) X.env) Q E s := by
  obtain ⟨mb, h1, h2⟩ := I.mod.blt
  exact Calls.Name_function_global I.ok.kind hg (Calls.loadGlobal_builtin (by rw [I.ok.glob]; exact I.mod.glob.keeps I.bk) hm (by rw [I.ok.blt]; exact h1.keeps I.bk) ((h2 x hn).trans hv) h) hd
theorem pe_bltn {x : Str} {v : V} {u : Value} {pos : Pos} (hg : Gl X x) (hm : X.mg x = none) (hv : bootBuiltins x = some u) (r : RelV v u) (hn : x ≠ "__name__" := by decide) (hd : (x == ("__debug__" : Str)) = false := by decide) : PE X (.Name x pos) (tC v) :=
  fun _ _ _ H _ I h => ld_blt I hg hm hv ⟨v, H, I, r, h⟩ hn hd
/-! ### arithmetic -/
/-- two ints -/
def t2I (ta tb : TE) (k : Int → Int → Hp → Prop) : St → Hp → Prop := fun σ H => ta σ H fun x H1 => tb σ H1 fun y H2 => ∃ i j, x = .int i ∧ y = .int j ∧ k i j H2
/-- the left factor below 2^64 -/
def tMul (ta tb : TE) : TE := fun σ H Q => t2I ta tb (fun i j H2 => (-(2 ^ 64) < i ∧ i < 2 ^ 64) ∧ Q (.int (i * j)) H2) σ H
variable {a b : Expr} {ta tb : TE} {pos : Pos}
/-! ### comparisons -/
/-- is None -/
def tIsN (ta : TE) : TE := fun σ H Q => ta σ H fun x H1 => Q (.bl (decide (x = .non))) H1
/-- a comparison as a value, as a test -/
def tB (t : TE) : TT := fun σ H Q => t σ H fun x H1 => ∃ c, x = .bl c ∧ Q c H1
/-! ### and, or, not -/
variable {tA tB' : TT} {rest : List Expr}
def tAnd (t u : TT) : TT := fun σ H Q => t σ H fun c H1 => if c = true then u σ H1 Q else Q false H1
def tOr (t u : TT) : TT := fun σ H Q => t σ H fun c H1 => if c = true then Q true H1 else u σ H1 Q
def tNot (t : TT) : TT := fun σ H Q => t σ H fun c H1 => Q (!c) H1
theorem pw_and1 (ha : PT X a tA) : PW X (.BoolOp .And [a] pos) tA := by
  intro wh pins s σ H Q I h
  refine isTrue_and (thn (ha pins s σ H Q I h) fun c s1 e => ?_)
  cases c with
  | true => exact isTrue_and_nil e
  | false => exact e
theorem pw_or1 (ha : PT X a tA) : PW X (.BoolOp .Or [a] pos) tA := by
  intro wh pins s σ H Q I h
  refine isTrue_or (thn (ha pins s σ H Q I h) fun c s1 e => ?_)
  cases c with
  | false => exact isTrue_or_nil e
  | true => exact e
theorem pw_and (ha : PT X a tA) (hb : PW X (.BoolOp .And (b :: rest) pos) tB') : PW X (.BoolOp .And (a :: b :: rest) pos) (tAnd tA tB') := by
  intro wh pins s σ H Q I h
  refine isTrue_and (thn (ha pins s σ H _ I h) fun c s1 ⟨H1, I1, q1⟩ => ?_)
  cases c with
  | true => exact hb wh pins s1 σ H1 Q I1 q1
  | false => exact ⟨H1, I1, q1⟩
theorem pw_or (ha : PT X a tA) (hb : PW X (.BoolOp .Or (b :: rest) pos) tB') : PW X (.BoolOp .Or (a :: b :: rest) pos) (tOr tA tB') := by
  intro wh pins s σ H Q I h
  refine isTrue_or (thn (ha pins s σ H _ I h) fun c s1 ⟨H1, I1, q1⟩ => ?_)
  cases c with
  | true => exact ⟨H1, I1, q1⟩
  | false => exact hb wh pins s1 σ H1 Q I1 q1
theorem pt_not (ha : PT X a tA) : PT X (.UnaryOp .Not a pos) (tNot tA) := by
  intro pins s σ H Q I h
  exact isTrue_not (ha pins s σ H (fun c H1 => Q (!c) H1) I h)
/-- .. as values (bools) -/
def tAndV (ta tb : TE) : TE := fun σ H Q => ta σ H fun x H1 => ∃ c, x = .bl c ∧ if c = true then tb σ H1 Q else Q (.bl false) H1
def tOrV (ta tb : TE) : TE := fun σ H Q => ta σ H fun x H1 => ∃ c, x = .bl c ∧ if c = true then Q (.bl true) H1 else tb σ H1 Q
theorem pe_one {op} {t : TE} (h : PE X a t) : PE X (.BoolOp op [a] pos) t := fun pins s σ H Q I hw => BoolOp_one (h pins s σ H Q I hw)
theorem pe_or (ha : PE X a ta) (hb : PE X (.BoolOp .Or (b :: rest) pos) tb) : PE X (.BoolOp .Or (a :: b :: rest) pos) (tOrV ta tb) := by
  intro pins s σ H Q I h
  refine BoolOp_or (thn (ha pins s σ H _ I h) fun v s1 ⟨x, H1, I1, r1, q1⟩ => ?_)
  obtain ⟨c, rfl, q1⟩ := q1
  cases r1
  refine wpAny_truthy_bool ?_
  cases c with
  | false => exact hb pins s1 σ H1 Q I1 q1
  | true => exact ⟨.bl true, H1, I1, rfl, q1⟩
/-- a if t else b -/
def tIf (t : TT) (ta tb : TE) : TE := fun σ H Q => t σ H fun c H1 => if c = true then ta σ H1 Q else tb σ H1 Q
end
end L2
namespace L2
open PySem PySem.Spec PyProof.Rows
/-! ### a list, a tuple that is read: tracked, frozen, or an object of the module -/
def SqL (K : PySem.W.Frag) (H : Hp) (a : Addr) (xs : List V) : Prop :=
  Rd H a (.lst xs) ∨
    ∃ (o : Obj) (its : Array Value) (n : Nat), K.lookup a = some o ∧ o.cls = .type "list" ∧ o.dict = none ∧ o.data = .seq its n ∧ its.size ≤ sizeLine ∧ Vals xs its.toList
def SqT (K : PySem.W.Frag) (H : Hp) (a : Addr) (xs : List V) : Prop :=
  Rd H a (.tup xs) ∨
    ∃ (o : Obj) (its : Array Value) (n : Nat), K.lookup a = some o ∧ o.cls = .type "tuple" ∧ o.data = .seq its n ∧ its.size ≤ sizeLine ∧ Vals xs its.toList
def absV : Value → Option V
  | .none => some .non
  | .bool b => some (.bl b)
  | .int i _ => some (.int i)
  | .str x _ => some (.str x)
  | .bytes b _ => some (.byt b)
  | .float b _ => some (.flt b)
  | .ref a => some (.ref a)
  | .type n => some (.ty n)
  | _ => none
theorem RelV.abs {x : V} {u : Value} (r : RelV x u) : absV u = some x := by
  cases x with
  | non => cases r; rfl
  | bl _ => cases r; rfl
  | int _ => obtain ⟨t, rfl⟩ := r; rfl
  | str _ => obtain ⟨t, rfl⟩ := r; rfl
  | byt _ => obtain ⟨t, rfl⟩ := r; rfl
  | flt _ => obtain ⟨t, rfl⟩ := r; rfl
  | ref _ => cases r; rfl
  | ty _ => cases r; rfl
theorem RelV.inj {x y : V} {u : Value} (r : RelV x u) (q : RelV y u) : x = y := Option.some.inj (r.abs.symm.trans q.abs)
theorem Vals.inj : ∀ {xs ys : List V} {us : List Value}, Vals xs us → Vals ys us → xs = ys
  | _, _, _, .nil, .nil => rfl
  | _, _, _, .cons r t, .cons r' t' => by rw [r.inj r', Vals.inj t t']
section
variable {X : Cx} {pins : List (Addr × Obj)} {σ : St} {H : Hp} {s : Shared} {a : Addr} {xs ys : List V}
theorem SqL.of {K : PySem.W.Frag} (h : H a = some (.lst xs)) : SqL K H a xs := .inl (.inl h)
theorem SqT.of {K : PySem.W.Frag} (h : H a = some (.tup xs)) : SqT K H a xs := .inl (.inl h)
theorem Inv.list (I : Inv X pins σ H s) (h : SqL X.K H a xs) : ∃ its : List Value, Vals xs its ∧ PlainL s.heap a its.toArray ∧ xs.length ≤ sizeLine := by
  rcases h with h | ⟨o, its, n, hk, hc, hd, hs, hz, r⟩
  · obtain ⟨z, its, n, r, e⟩ := h.ok I.hok
    exact ⟨its, r, ⟨_, n, e, rfl, rfl, rfl⟩, z⟩
  · refine ⟨its.toList, r, ⟨o, n, I.kIn a o hk, hc, hd, by simpa using hs⟩, ?_⟩
    have e := r.length
    simp only [Array.length_toList] at e
    omega
theorem Inv.tuple (I : Inv X pins σ H s) (h : SqT X.K H a xs) : ∃ its : List Value, Vals xs its ∧ IsTup s.heap a its.toArray ∧ xs.length ≤ sizeLine := by
  rcases h with h | ⟨o, its, n, hk, hc, hs, hz, r⟩
  · obtain ⟨z, its, r, p⟩ := h.ok I.hok
    exact ⟨its, r, p, z⟩
  · refine ⟨its.toList, r, ⟨o, I.kIn a o hk, hc, n, by simpa using hs⟩, ?_⟩
    have e := r.length
    simp only [Array.length_toList] at e
    omega
theorem Inv.list_inj (I : Inv X pins σ H s) (h : SqL X.K H a xs) (h' : SqL X.K H a ys) : xs = ys := by
  obtain ⟨its, r, ⟨o, n, e, _, _, d⟩, _⟩ := I.list h
  obtain ⟨its', r', ⟨o', n', e', _, _, d'⟩, _⟩ := I.list h'
  rw [e] at e'; cases e'
  rw [d] at d'
  injection d' with d1 _
  have : its = its' := by simpa using congrArg Array.toList d1
  subst this
  exact r.inj r'
theorem Inv.tuple_inj (I : Inv X pins σ H s) (h : SqT X.K H a xs) (h' : SqT X.K H a ys) : xs = ys := by
  obtain ⟨its, r, ⟨o, e, _, n, d⟩, _⟩ := I.tuple h
  obtain ⟨its', r', ⟨o', e', _, n', d'⟩, _⟩ := I.tuple h'
  rw [e] at e'; cases e'
  rw [d] at d'
  injection d' with d1 _
  have : its = its' := by simpa using congrArg Array.toList d1
  subst this
  exact r.inj r'
end
/-! ### another wish about exceptions -/
abbrev Cx.wish (X : Cx) (E : Value → Shared → Prop) : Cx := { X with xe := E }
/-- no exception leaves -/
abbrev Cx.nox (X : Cx) : Cx := X.wish fun _ _ => False
theorem Cx.Ok.wish {X : Cx} (ok : X.Ok) (E : Value → Shared → Prop) : (X.wish E).Ok :=
  ⟨ok.mod, ok.kind, ok.glob, ok.blt, ok.above, ok.inj, ok.has, ok.cab, ok.hd, ok.frames, ok.stk, ok.exf, ok.bs, ok.bsz, ok.noex, ok.exfs, ok.funs, ok.frf⟩
theorem Cx.Ok.unwish {X : Cx} {E : Value → Shared → Prop} (ok : (X.wish E).Ok) : X.Ok :=
  ⟨ok.mod, ok.kind, ok.glob, ok.blt, ok.above, ok.inj, ok.has, ok.cab, ok.hd, ok.frames, ok.stk, ok.exf, ok.bs, ok.bsz, ok.noex, ok.exfs, ok.funs, ok.frf⟩
section
variable {X : Cx} {pins : List (Addr × Obj)} {σ : St} {H : Hp} {s : Shared} {E : Value → Shared → Prop}
theorem Inv.wish (I : Inv X pins σ H s) (E : Value → Shared → Prop) : Inv (X.wish E) pins σ H s := ⟨I.ok.wish E, I.os, I.bare, I.base, I.loc, I.cell, I.free, I.freeC, I.pin, I.hok, I.len⟩
theorem Inv.unwish (I : Inv (X.wish E) pins σ H s) : Inv X pins σ H s := ⟨I.ok.unwish, I.os, I.bare, I.base, I.loc, I.cell, I.free, I.freeC, I.pin, I.hok, I.len⟩
theorem SP.unwish {D : Ends} {f : Flow} {s' : Shared} (h : SP (X.wish E) pins D f s') : SP X pins D f s' := by
  cases f with
  | next => obtain ⟨σ', H', I, q⟩ := h; exact ⟨σ', H', I.unwish, q⟩
  | brk => obtain ⟨σ', H', I, q⟩ := h; exact ⟨σ', H', I.unwish, q⟩
  | cont => obtain ⟨σ', H', I, q⟩ := h; exact ⟨σ', H', I.unwish, q⟩
  | ret u => obtain ⟨v, σ', H', I, r, q⟩ := h; exact ⟨v, σ', H', I.unwish, r, q⟩
theorem PSs.nox {st : List Stmt} {t : TS} (h : PSs X.nox st t) : PSs X st t := fun pins s σ H D I hw =>
  wpAny_mono (h pins s σ H D (I.wish _) hw) (fun _ _ q => q.unwish) fun _ _ z => False.elim z
end
/-! ### blocks and small statements -/
section
variable {X : Cx} {st : Stmt} {rest : List Stmt} {t u : TS} {e : Expr} {te : TE} {pos : Pos}
def tNext : TS := fun D σ H => D.nx σ H
def tSeq (t u : TS) : TS := fun D σ H => t { D with nx := u D } σ H
theorem pss_nil : PSs X [] tNext := fun _ _ σ H _ I h => wpAny_execs_nil ⟨σ, H, I, h⟩
theorem pss_cons (h1 : PS X st t) (h2 : PSs X rest u) : PSs X (st :: rest) (tSeq t u) := by
  intro pins s σ H D I h
  refine wpAny_execs_cons (thn (h1 pins s σ H { D with nx := u D } I h) fun f s1 q => ?_)
  cases f with
  | next =>
    obtain ⟨σ', H', I', q⟩ := q
    exact h2 pins s1 σ' H' D I' q
  | ret v => exact q
  | brk => exact q
  | cont => exact q
theorem pss_one (h1 : PS X st t) : PSs X [st] t := by
  intro pins s σ H D I h
  refine wpAny_execs_cons (thn (h1 pins s σ H D I h) fun f s1 q => ?_)
  cases f with
  | next => exact wpAny_execs_nil q
  | ret v => exact q
  | brk => exact q
  | cont => exact q
/-- in a def's body nothing is shown -/
theorem Inv.quiet {pins : List (Addr × Obj)} {σ : St} {H : Hp} {s : Shared} (I : Inv X pins σ H s) : interactive X.env = false := by simp [interactive, I.ok.kind]
/-- an expression whose value is dropped -/
def tDrop (te : TE) : TS := fun D σ H => te σ H fun _ H1 => D.nx σ H1
theorem ps_expr (he : PE X e te) (hs : swapsWith e none pos.line X.env = pure false := by rfl) : PS X (.Expr e pos) (tDrop te) := by
  intro pins s σ H D I h
  exact wpAny_Expr_any (thn (he pins s σ H _ I h) fun v s1 ⟨x, H1, I1, r1, q1⟩ => ⟨σ, H1, I1, q1⟩) I.quiet hs
def tRet (te : TE) : TS := fun D σ H => te σ H D.rt
theorem ps_ret (he : PE X e te) : PS X (.Return (some e) pos) (tRet te) := by
  intro pins s σ H D I h
  exact wpAny_Return_some (thn (he pins s σ H _ I h) fun v s1 ⟨x, H1, I1, r1, q1⟩ => ⟨x, σ, H1, I1, r1, q1⟩)
def tIfS (c : TT) (t u : TS) : TS := fun D σ H => c σ H fun b H1 => if b = true then t D σ H1 else u D σ H1
theorem ps_if {c : Expr} {a b : List Stmt} {tc : TT} (hc : PT X c tc) (ha : PSs X a t) (hb : PSs X b u) : PS X (.If c a b pos) (tIfS tc t u) := by
  intro pins s σ H D I h
  refine wpAny_If (thn (hc pins s σ H _ I h) fun d s1 ⟨H1, I1, q1⟩ => ?_)
  cases d with
  | true => exact ha pins s1 σ H1 D I1 q1
  | false => exact hb pins s1 σ H1 D I1 q1
/-- code that the proof never comes to -/
def tNever : TS := fun _ _ _ => False
end
/-! ### targets -/
abbrev TG := V → St → Hp → (St → Hp → Prop) → Prop
abbrev TGs := List V → St → Hp → (St → Hp → Prop) → Prop
def PG (X : Cx) (target : Expr) (t : TG) : Prop :=
  ∀ (pins : List (Addr × Obj)) (s : Shared) (σ : St) (H : Hp) (v : V) (u : Value) (Q : St → Hp → Prop), Inv X pins σ H s → RelV v u → t v σ H Q →
    wpAny (model X.prog X.w) X.A (assign target X.env u) (fun _ s' => ∃ σ' H', Inv X pins σ' H' s' ∧ Q σ' H') X.xe s
/-- several targets, one after another -/
def PGs (X : Cx) (ts : List Expr) (t : TGs) : Prop :=
  ∀ (pins : List (Addr × Obj)) (s : Shared) (σ : St) (H : Hp) (vs : List V) (us : List Value) (Q : St → Hp → Prop), Inv X pins σ H s → Vals vs us → t vs σ H Q →
    wpAny (model X.prog X.w) X.A (assignInOrder ((assignEach ts X.env).map (·.2)) us) (fun _ s' => ∃ σ' H', Inv X pins σ' H' s' ∧ Q σ' H') X.xe s
/-- o[i] = v, by values -/
abbrev TSet := V → V → V → Hp → (Hp → Prop) → Prop
def PSet (X : Cx) (t : TSet) : Prop :=
  ∀ (pins : List (Addr × Obj)) (s : Shared) (σ : St) (H : Hp) (o i v : V) (ov iv u : Value) (Q : Hp → Prop), Inv X pins σ H s → RelV o ov → RelV i iv → RelV v u → t o i v H Q →
    wpAny (model X.prog X.w) X.A (setItem ov iv u) (fun _ s' => ∃ H', Inv X pins σ H' s' ∧ Q H') X.xe s
/-- a op= b, by values -/
abbrev TIp := V → V → Hp → VK → Prop
section
variable {X : Cx} {pos : Pos}
def gName (i : Nat) : TG := fun v σ H Q => Q (σ.set i (some v)) H
theorem pg_name {i : Nat} {x : Str} (hN : X.N.Nodup) (hi : X.N[i]? = some x) (hx : Loc X.env.scope x) (hf : X.fn x = true ∨ X.env.scope.names.lookup x = some .local := by first | exact .inl rfl | exact .inr rfl | assumption) : PG X (.Name x pos) (gName i) := by
  intro pins s σ H v u Q I r h
  exact wpAny_assign_Name (store_ok I hN hi hx r (fun s' I' => ⟨_, H, I', h⟩) hf)
def gNil : TGs := fun vs σ H Q => vs = [] ∧ Q σ H
def gCons (t : TG) (u : TGs) : TGs := fun vs σ H Q => ∃ v r, vs = v :: r ∧ t v σ H fun σ' H' => u r σ' H' Q
theorem pgs_nil : PGs X [] gNil := by
  intro pins s σ H vs us Q I r h
  obtain ⟨e, h⟩ := h
  subst e
  cases r
  exact assignInOrder_nil ⟨σ, H, I, h⟩
theorem pgs_cons {e : Expr} {es : List Expr} {t : TG} {u : TGs} (h1 : PG X e t) (h2 : PGs X es u)
    (hs : (assignEach (e :: es) X.env).map (·.2) = assign e X.env :: (assignEach es X.env).map (·.2) := by rfl) : PGs X (e :: es) (gCons t u) := by
  intro pins s σ H vs us Q I r h
  obtain ⟨v, vr, e1, h⟩ := h
  subst e1
  cases r with
  | cons r rr =>
    rw [hs]
    refine assignInOrder_cons (thn (h1 pins s σ H _ _ _ I r h) fun _ s1 ⟨σ1, H1, I1, q1⟩ => ?_)
    exact h2 pins s1 σ1 H1 _ _ Q I1 rr q1
/-- (a, b, ..) = a tuple of that length -/
def gTup (K : PySem.W.Frag) (n : Nat) (t : TGs) : TG := fun v σ H Q => ∃ a xs, v = .ref a ∧ SqT K H a xs ∧ xs.length = n ∧ t xs σ H Q
theorem pg_tup {es : List Expr} {k : Nat} {t : TGs} {n : Nat} (hc : X.calm = true) (h : PGs X es t)
    (hn : (assignEach es X.env).length = n := by rfl) (hst : (assignEach es X.env).findIdx? (·.1) = none := by rfl) : PG X (.Tuple es k pos) (gTup X.K n t) := by
  intro pins s σ H v u Q I r hw
  obtain ⟨a, xs, e1, hq, hl, hw⟩ := hw
  subst e1
  cases r
  obtain ⟨its, rv, ht, hz⟩ := I.tuple hq
  refine assign_Tuple_tuple (I.ok.hd hc) ht (by simp [hn, ← hl, rv.length]) hst fun h' hx => ?_
  have I1 : Inv X pins σ H { s with heap := h' } := I.kept (t' := s.toks) fun b o e => hx b o (Nat.ne_of_lt (Heap.lt_size e)) e
  exact h pins _ σ H xs _ Q I1 (by simpa using rv) hw
/-- o[i] = .. -/
def gSub (to ti : TE) (t : TSet) : TG := fun v σ H Q => to σ H fun o H1 => ti σ H1 fun i H2 => t o i v H2 fun H3 => Q σ H3
theorem pg_sub {o i : Expr} {to ti : TE} {t : TSet} (ho : PE X o to) (hi : PE X i ti) (hs : PSet X t)
    (ha : ∀ v, assign (.Subscript o i pos) X.env v = (do
      let ov ← holding [v] (eval o X.env)
      let iv ← holding [v, ov] (eval i X.env)
      standAt pos
      holding [v, ov, iv] (setItem ov iv v)
      release [v, ov, iv] []) := by intro _; rfl) : PG X (.Subscript o i pos) (gSub to ti t) := by
  intro pins s σ H v u Q I r h
  rw [ha]
  refine wpAny_bind (wpAny_holding (thn (ho pins s σ H _ I h) fun ov s1 ⟨x, H1, I1, r1, q1⟩ => ?_))
  refine wpAny_bind (wpAny_holding (thn (hi pins s1 σ H1 _ I1 q1) fun iv s2 ⟨y, H2, I2, r2, q2⟩ => ?_))
  refine wpAny_bind (wpAny_standAt (wpAny_bind (wpAny_holding (thn (hs pins s2 σ H2 x y v ov iv u _ I2 r1 r2 r q2) fun _ s3 ⟨H3, I3, q3⟩ => ?_))))
  exact wpAny_release ⟨σ, H3, I3, q3⟩
/-- target = value -/
def tAsg (te : TE) (g : TG) : TS := fun D σ H => te σ H fun x H1 => g x σ H1 D.nx
theorem ps_asg {tg e : Expr} {te : TE} {g : TG} (he : PE X e te) (hg : PG X tg g) (hs : swapsWithSole [tg] e pos.line X.env = pure false := by rfl) (hw : swappedStores [tg] e X.env = pure none := by rfl)
    (h1 : (assignEach [tg] X.env).map (·.2) = [assign tg X.env] := by rfl) : PS X (.Assign [tg] e pos) (tAsg te g) := by
  intro pins s σ H D I h
  refine wpAny_Assign_stores (thn (he pins s σ H _ I h) fun v s1 ⟨x, H1, I1, r1, q1⟩ => ?_) hs hw
  rw [h1]
  exact thn (hg pins s1 σ H1 x v _ I1 r1 q1) fun _ s2 q => q
/-- name = value -/
theorem ps_set {i : Nat} {x : Str} {e : Expr} {te : TE} {pos' : Pos} (hN : X.N.Nodup) (hi : X.N[i]? = some x) (hx : Loc X.env.scope x) (he : PE X e te) (hs : swapsWith e (some (.Name x pos')) pos.line X.env = pure false := by rfl) (hf : X.fn x = true ∨ X.env.scope.names.lookup x = some .local := by first | exact .inl rfl | exact .inr rfl | assumption) :
    PS X (.Assign [.Name x pos'] e pos) (tAsg te (gName i)) := by
  intro pins s σ H D I h
  refine wpAny_Assign_Name (thn (he pins s σ H _ I h) fun v s1 ⟨y, H1, I1, r1, q1⟩ => ?_) hs
  exact store_ok I1 hN hi hx r1 (fun s2 I2 => ⟨_, H1, I2, q1⟩) hf
/-- a, b = x, y with plain local names: stored from the right; the pair itself is not tracked (the opening rows as in PyProof/Rows/TupAssign.lean:23) -/
def tPar (i j : Nat) (ta : TA) : TS := fun D σ H => ta σ H fun vs H1 => ∃ v w, vs = [v, w] ∧ D.nx ((σ.set i (some v)).set j (some w)) H1
/-- name op= e -/
def tAug (i : Nat) (te : TE) (ti : TIp) : TS := fun D σ H => ∃ x, σ[i]? = some (some x) ∧ te σ H fun y H1 => ti x y H1 fun z H2 => D.nx (σ.set i (some z)) H2
/-- o[i] op= e -/
def tAugS (to ti te : TE) (tget : V → V → Hp → VK → Prop) (tip : TIp) (tset : TSet) : TS := fun D σ H => to σ H fun o H1 => ti σ H1 fun i H2 => tget o i H2 fun x H3 => te σ H3 fun y H4 => tip x y H4 fun z H5 => tset o i z H5 fun H6 => D.nx σ H6
/-- o[i], by values -/
def PGet (X : Cx) (t : V → V → Hp → VK → Prop) : Prop :=
  ∀ (pins : List (Addr × Obj)) (s : Shared) (σ : St) (H : Hp) (o i : V) (ov iv : Value) (Q : VK), Inv X pins σ H s → RelV o ov → RelV i iv → t o i H Q →
    wpAny (model X.prog X.w) X.A (getItem ov iv) (EP X pins σ Q) X.xe s
/-- ints -/
def ipI (f : Int → Int → Int) : TIp := fun x y H Q => ∃ i j, x = .int i ∧ y = .int j ∧ Q (.int (f i j)) H
end
/-! ### while -/
section
variable {X : Cx} {pos : Pos}
/-- the invariant W with its measure -/
def tWhile (c : TT) (tb : TS) : TS := fun D σ H => ∃ W : Nat → St → Hp → Prop, (∃ m, W m σ H) ∧ ∀ m σ H, W m σ H →
  c σ H fun b H1 => if b = true then ∃ N : St → Hp → Prop, (∀ σ' H', N σ' H' → ∃ m', m' < m ∧ W m' σ' H') ∧ tb { D with nx := N, ct := N, bk := D.nx } σ H1 else D.nx σ H1
theorem ps_while {c : Expr} {body : List Stmt} {tc : TT} {tb : TS} (hp : PassesOwn (model X.prog X.w) X.A X.env X.xe) (hc : PT X c tc) (hb : PSs X body tb) : PS X (.While c body [] pos) (tWhile tc tb) := by
  intro pins s σ H D I h
  obtain ⟨W, ⟨m0, w0⟩, turn⟩ := h
  refine wpAny_While (codeAny_whileLoop (fun n s' => ∃ σ' H', Inv X pins σ' H' s' ∧ W n σ' H') ?_ m0 ⟨σ, H, I, w0⟩)
  rintro n s1 ⟨σ1, H1, I1, w1⟩
  refine wpAny_passesOwn hp (thn (hc pins s1 σ1 H1 _ I1 (turn n σ1 H1 w1)) fun b s2 ⟨H2, I2, q2⟩ => ?_)
  cases b with
  | true =>
    obtain ⟨N, hN, q2⟩ := q2
    rw [if_pos rfl]
    refine wpAny_passesOwn hp (thn (hb pins s2 σ1 H2 _ I2 q2) fun f s3 q3 => ?_)
    cases f with
    | next =>
      obtain ⟨σ3, H3, I3, n3⟩ := q3
      obtain ⟨m', hm, w3⟩ := hN σ3 H3 n3
      exact ⟨m', hm, σ3, H3, I3, w3⟩
    | cont =>
      obtain ⟨σ3, H3, I3, n3⟩ := q3
      obtain ⟨m', hm, w3⟩ := hN σ3 H3 n3
      exact ⟨m', hm, σ3, H3, I3, w3⟩
    | brk => exact q3
    | ret v => exact q3
  | false =>
    rw [if_neg Bool.false_ne_true]
    exact wpAny_execs_nil ⟨σ1, H2, I2, q2⟩
end
/-! ### what a loop or a comprehension walks -/
/-- at turn i: it yields x (the heap may grow), or it stops -/
structure It where
  go : Nat → Hp → Prop
  yld : Nat → Hp → V → Hp → Prop
  stop : Nat → Hp → Prop
/-- the iterator's own objects may turn: they are not the frame's, not pinned, younger than the entry (or a comprehension's own) -/
def FpOk (X : Cx) (pins : List (Addr × Obj)) (H : Hp) (b : Addr) : Prop :=
  H b = none ∧ b ≠ X.env.locals ∧ b ∉ X.fs ∧ (b ∈ X.ex ∨ X.s₀.heap.objs.size ≤ b) ∧ (∀ x c, X.env.cells.lookup x = some c → c ≠ b) ∧ ∀ p ∈ X.pn ++ pins, p.1 ≠ b
theorem Inv.fpOk {X : Cx} {pins : List (Addr × Obj)} {σ : St} {H H' : Hp} {s : Shared} {b : Addr} (I : Inv X pins σ H s) (hb : s.heap.objs.size ≤ b) (hn : H' b = none) : FpOk X pins H' b := by
  refine ⟨hn, Nat.ne_of_gt (Nat.lt_of_lt_of_le I.lt hb), I.nofs hb, .inr (Nat.le_trans I.sz hb), fun x c e z => ?_, fun p hp z => ?_⟩
  · obtain ⟨v, q⟩ := I.cell x c e
    exact absurd (Nat.lt_of_lt_of_le q.lt (by rw [z]; exact hb)) (Nat.lt_irrefl _)
  · exact absurd (Nat.lt_of_lt_of_le (Heap.lt_size (I.pin p hp).1) (by rw [z]; exact hb)) (Nat.lt_irrefl _)
structure Turn (P : Program) (w : World) (K : PySem.W.Frag) (tg : Expr) (J : It) (fp : List Addr) (it : Addr) (tn : Nat → Heap → Prop) : Prop where
  mem : it ∈ fp
  obj : ∀ i h, tn i h → ∀ b ∈ fp, ∃ o, h.get? b = some o ∧ ∀ v, o.data ≠ .cell v
  keep : ∀ i h h', tn i h → (∀ b ∈ fp, ∀ o, h.get? b = some o → h'.get? b = some o) → tn i h'
  item : ∀ (X : Cx), X.prog = P → X.w = w → X.K = K → X.calm = true → ∀ (i : Nat) (pins : List (Addr × Obj)) (s : Shared) (σ : St) (H : Hp) (E : Value → Shared → Prop), Inv X pins σ H s → (∀ b ∈ fp, FpOk X pins H b) → tn i s.heap → J.go i H →
    wpAny (model P w) X.A (pyNext (.ref it)) (fun r s1 => ∃ u, r = some u ∧
      wpAny (model P w) X.A (letOwnedTupleGo tg (.ref it) u) (fun _ s2 => ∃ x H', Inv X pins σ H' s2 ∧ RelV x u ∧ J.yld i H x H' ∧ tn (i + 1) s2.heap ∧ ∀ b ∈ fp, H' b = none) E s1) E s
  done : ∀ (X : Cx), X.prog = P → X.w = w → X.K = K → X.calm = true → ∀ (i : Nat) (pins : List (Addr × Obj)) (s : Shared) (σ : St) (H : Hp) (E : Value → Shared → Prop), Inv X pins σ H s → (∀ b ∈ fp, FpOk X pins H b) → tn i s.heap → J.stop i H →
    wpAny (model P w) X.A (pyNext (.ref it)) (fun r s1 => r = none ∧ Inv X pins σ H s1) E s
  self : ∀ (A : Around) (i : Nat) (s : Shared) (Q : Value → Shared → Prop) (E : Value → Shared → Prop), tn i s.heap → Q (.ref it) s → wpAny (model P w) A (pyIter (.ref it)) Q E s
abbrev TI := St → Hp → (It → Hp → Prop) → Prop
/-- an iterator has come -/
def PIE (X : Cx) (pins : List (Addr × Obj)) (σ : St) (tg : Expr) (R : It → Hp → Prop) (itv : Value) (s2 : Shared) : Prop :=
  ∃ (it : Addr) (fp : List Addr) (tn : Nat → Heap → Prop) (J : It) (H' : Hp), itv = .ref it ∧ Inv X pins σ H' s2 ∧ Turn X.prog X.w X.K tg J fp it tn ∧ tn 0 s2.heap ∧ (∀ b ∈ fp, FpOk X pins H' b) ∧ R J H'
def PI (X : Cx) (tg iter : Expr) (wi : TI) : Prop :=
  ∀ (pins : List (Addr × Obj)) (s : Shared) (σ : St) (H : Hp) (R : It → Hp → Prop), Inv X pins σ H s → wi σ H R →
    wpAny (model X.prog X.w) X.A (eval iter X.env) (fun v s1 => wpAny (model X.prog X.w) X.A (pyIter v) (PIE X pins σ tg R) X.xe s1) X.xe s
/-- the step ahead of the store is nothing for an iterator that keeps no tuple -/
theorem go_of {M : Model} {A : Around} {E : Value → Shared → Prop} {s : Shared} {tg : Expr} {it : Addr} {u : Value} {o : Obj} {n : String} {vs : Array Value} {Q : Unit → Shared → Prop} (ho : s.heap.get? it = some o) (hc : o.cls = .type n) (hd : o.data = .fields vs)
    (hn : ["enumerate", "zip", "dict_itemiterator", "dict_reverseitemiterator", "odict_iterator", "itertools.zip_longest", "itertools.pairwise"].contains n = false) (hQ : Q () s) : wpAny M A (letOwnedTupleGo tg (.ref it) u) Q E s := by
  unfold letOwnedTupleGo
  cases tg <;> first
    | exact wpAny_pure hQ
    | (cases u <;> first
        | exact wpAny_pure hQ
        | (refine wpAny_bind (wpAny_load ho ?_)
           rw [hc, hd]
           show wpAny M A (if (["enumerate", "zip", "dict_itemiterator", "dict_reverseitemiterator", "odict_iterator", "itertools.zip_longest", "itertools.pairwise"].contains n && vs[0]? == some (rawInt _)) = true then _ else _) Q E s
           rw [if_neg (by intro h; rw [hn, Bool.false_and] at h; cases h)]
           exact wpAny_pure hQ))
/-- the list at a, as it stands at each turn (a loop may append to it) -/
def Itl (K : PySem.W.Frag) (a : Addr) : It :=
  ⟨fun i H => ∃ xs x, SqL K H a xs ∧ xs[i]? = some x, fun i H x H' => H' = H ∧ ∀ xs, SqL K H a xs → xs[i]? = some x, fun i H => ∃ xs, SqL K H a xs ∧ xs.length ≤ i⟩
def Itt (K : PySem.W.Frag) (a : Addr) : It :=
  ⟨fun i H => ∃ xs x, SqT K H a xs ∧ xs[i]? = some x, fun i H x H' => H' = H ∧ ∀ xs, SqT K H a xs → xs[i]? = some x, fun i H => ∃ xs, SqT K H a xs ∧ xs.length ≤ i⟩
/-- lo, lo + 1, .. (n of them) -/
def Itr (lo : Int) (n : Nat) : It := ⟨fun i _ => i < n, fun i H x H' => H' = H ∧ x = .int (lo + i), fun i _ => n ≤ i⟩
theorem turn_list {P : Program} {w : World} {K : PySem.W.Frag} {tg : Expr} (a it : Addr) : Turn P w K tg (Itl K a) [it] it (fun i h => h.IsListIter it a i) where
  mem := by simp
  obj := fun i h st b hb => by
    have e : b = it := by simpa using hb
    subst e
    obtain ⟨o, e, c, d⟩ := st
    exact ⟨o, e, fun v z => by rw [d] at z; cases z⟩
  keep := fun i h h' st k => st.at fun o e => k it (by simp) o e
  item := by
    intro X hP hw hK hc i pins s σ H E I hf st hg
    subst hP hw hK
    obtain ⟨xs, x, hq, hx⟩ := hg
    obtain ⟨its, rv, p, hz⟩ := I.list hq
    obtain ⟨u, hu, ru⟩ := rv.get hx
    obtain ⟨f0, f1, f2, f3, f4, f5⟩ := hf it (by simp)
    refine wpAny_pyNext_list_item st p.isList (x := u) (by simpa using hu) fun h' st' sb => ?_
    have I1 : Inv X pins σ H { s with heap := h' } := I.turned (t' := s.toks) (fun b o hb e => (sb.2 b hb).trans e) f0 f1 f3 f4 f5
    obtain ⟨o, e, c, d⟩ := id st'
    exact ⟨u, rfl, go_of (s := { s with heap := h' }) e c d (by decide) ⟨x, H, I1, ru, ⟨rfl, fun ys hy => by rw [I.list_inj hy hq]; exact hx⟩, st', fun b hb => (hf b hb).1⟩⟩
  done := by
    intro X hP hw hK hc i pins s σ H E I hf st hg
    subst hP hw hK
    obtain ⟨xs, hq, hx⟩ := hg
    obtain ⟨its, rv, p, hz⟩ := I.list hq
    obtain ⟨f0, f1, f2, f3, f4, f5⟩ := hf it (by simp)
    have hl := rv.length
    exact wpAny_pyNext_list_end (I.ok.hd hc) st p.isList (by simp; omega) fun h' eb => ⟨rfl, I.turned (t' := s.toks) (fun b o hb e => eb b o hb e) f0 f1 f3 f4 f5⟩
  self := fun _ _ _ _ _ st h => wpAny_pyIter_listiter st h
theorem turn_tuple {P : Program} {w : World} {K : PySem.W.Frag} {tg : Expr} (a it : Addr) : Turn P w K tg (Itt K a) [it] it (fun i h => h.IsTupleIter it a i) where
  mem := by simp
  obj := fun i h st b hb => by
    have e : b = it := by simpa using hb
    subst e
    obtain ⟨o, e, c, d⟩ := st
    exact ⟨o, e, fun v z => by rw [d] at z; cases z⟩
  keep := fun i h h' st k => st.at fun o e => k it (by simp) o e
  item := by
    intro X hP hw hK hc i pins s σ H E I hf st hg
    subst hP hw hK
    obtain ⟨xs, x, hq, hx⟩ := hg
    obtain ⟨its, rv, p, hz⟩ := I.tuple hq
    obtain ⟨u, hu, ru⟩ := rv.get hx
    obtain ⟨f0, f1, f2, f3, f4, f5⟩ := hf it (by simp)
    refine wpAny_pyNext_tuple_item st (show s.heap.IsTuple a its.toArray from p) (x := u) (by simpa using hu) fun h' st' sb => ?_
    have I1 : Inv X pins σ H { s with heap := h' } := I.turned (t' := s.toks) (fun b o hb e => (sb.2 b hb).trans e) f0 f1 f3 f4 f5
    obtain ⟨o, e, c, d⟩ := id st'
    exact ⟨u, rfl, go_of (s := { s with heap := h' }) e c d (by decide) ⟨x, H, I1, ru, ⟨rfl, fun ys hy => by rw [I.tuple_inj hy hq]; exact hx⟩, st', fun b hb => (hf b hb).1⟩⟩
  done := by
    intro X hP hw hK hc i pins s σ H E I hf st hg
    subst hP hw hK
    obtain ⟨xs, hq, hx⟩ := hg
    obtain ⟨its, rv, p, hz⟩ := I.tuple hq
    obtain ⟨f0, f1, f2, f3, f4, f5⟩ := hf it (by simp)
    have hl := rv.length
    exact wpAny_pyNext_tuple_end (I.ok.hd hc) st (show s.heap.IsTuple a its.toArray from p) (by simp; omega) fun h' eb => ⟨rfl, I.turned (t' := s.toks) (fun b o hb e => eb b o hb e) f0 f1 f3 f4 f5⟩
  self := fun _ _ _ _ _ st h => wpAny_pyIter_tupleiter st h
theorem turn_range {P : Program} {w : World} {K : PySem.W.Frag} {tg : Expr} (it : Addr) (lo : Int) (n : Nat) : Turn P w K tg (Itr lo n) [it] it (fun i h => IsRangeIter h it (lo + (i : Nat) * 1) ((n : Int) - (i : Nat)) 1) where
  mem := by simp
  obj := fun i h st b hb => by
    have e : b = it := by simpa using hb
    subst e
    exact ⟨_, st, fun v z => by
      have z' : Data.fields _ = Data.cell v := z
      cases z'⟩
  keep := fun i h h' st k => k it (by simp) _ st
  item := by
    intro X hP hw hK hc i pins s σ H E I hf st hg
    subst hP hw hK
    obtain ⟨f0, f1, f2, f3, f4, f5⟩ := hf it (by simp)
    have W := Walks.range (prog := X.prog) (w := X.w) (I.ok.hd hc) it lo 1 n
    refine W.item i s _ _ hg st fun v h' tk hv st' kk => ?_
    obtain ⟨t, rfl⟩ := hv
    have I1 : Inv X pins σ H { s with heap := h', toks := tk } := I.turned (fun b o hb e => kk b o (by simpa using hb) e) f0 f1 f3 f4 f5
    refine ⟨_, rfl, go_of (s := { s with heap := h', toks := tk }) (n := "range_iterator") st' rfl rfl (by decide) ⟨.int (lo + i), H, I1, ⟨t, ?_⟩, ⟨rfl, rfl⟩, st', fun b hb => (hf b hb).1⟩⟩
    rw [Int.mul_one]
  done := by
    intro X hP hw hK hc i pins s σ H E I hf st hg
    subst hP hw hK
    obtain ⟨f0, f1, f2, f3, f4, f5⟩ := hf it (by simp)
    exact wpAny_pyNext_range_end (I.ok.hd hc) st (by have : n ≤ i := hg; omega) fun h' eb => ⟨rfl, I.turned (t' := s.toks) (fun b o hb e => eb b o hb e) f0 f1 f3 f4 f5⟩
  self := fun _ _ _ _ _ st h => wpAny_pyIter_rangeiter st h
end L2
namespace L2
open PySem PySem.Spec PyProof.Rows
section
variable {X : Cx} {tg : Expr}
/-- a range object just made, walked -/
theorem range_it {pins : List (Addr × Obj)} {σ : St} {H : Hp} {s : Shared} {R : It → Hp → Prop} {E : Value → Shared → Prop} {lo hi : Int} {t u v : Tok} {tk : Nat} (I : Inv X pins σ H s) (h1 : -(2 ^ 62) ≤ lo) (h2 : lo < 2 ^ 62) (h3 : -(2 ^ 62) ≤ hi) (h4 : hi < 2 ^ 62)
    (q : R (Itr lo (hi - lo).toNat) H) : wpAny (model X.prog X.w) X.A (pyIter (.ref s.heap.objs.size)) (PIE X pins σ tg R) E { s with heap := s.heap.push { cls := .type "range", data := .fields #[.int lo t, .int hi u, .int 1 v] }, toks := tk } := by
  refine wpAny_pyIter_range (IsRange.new ..) (small_one h1 h2 h3 h4) ?_
  have I1 : Inv X pins σ H { s with heap := s.heap.push { cls := .type "range", data := .fields #[.int lo t, .int hi u, .int 1 v] }, toks := tk } := I.kept fun b o e => Heap.get?_push_of_some _ e
  refine ⟨(s.heap.push { cls := .type "range", data := .fields #[.int lo t, .int hi u, .int 1 v] }).objs.size, [(s.heap.push { cls := .type "range", data := .fields #[.int lo t, .int hi u, .int 1 v] }).objs.size], _, _, H, rfl,
    I1.kept (t' := tk) fun b o e => Heap.get?_push_of_some _ e, turn_range _ lo (hi - lo).toNat, ?_, fun b hb => ?_, q⟩
  · have e1 : lo + ((0 : Nat) : Int) * 1 = lo := by simp
    have e2 : (((hi - lo).toNat : Nat) : Int) - ((0 : Nat) : Int) = Builtin.Range.rangeSize lo hi 1 := by rw [rangeSize_one]; split <;> omega
    show IsRangeIter _ _ (lo + ((0 : Nat) : Int) * 1) ((((hi - lo).toNat : Nat) : Int) - ((0 : Nat) : Int)) 1
    rw [e1, e2]
    exact Heap.get?_push_size _ rfl
  · have e : b = (s.heap.push { cls := .type "range", data := .fields #[.int lo t, .int hi u, .int 1 v] }).objs.size := by simpa using hb
    subst e
    exact I1.fpOk (Nat.le_refl _) (I1.hok.fresh (Nat.le_refl _))
def iRng1 (ta : TA) : TI := fun σ H R => ta σ H fun vs H1 => ∃ j : Int, vs = [.int j] ∧ -(2 ^ 62) ≤ j ∧ j < 2 ^ 62 ∧ R (Itr 0 j.toNat) H1
def iRng2 (ta : TA) : TI := fun σ H R => ta σ H fun vs H1 => ∃ i j : Int, vs = [.int i, .int j] ∧ (-(2 ^ 62) ≤ i ∧ i < 2 ^ 62 ∧ -(2 ^ 62) ≤ j ∧ j < 2 ^ 62) ∧ R (Itr i (j - i).toNat) H1
theorem pi_range1 {a : Expr} {ta : TA} {p pos : Pos} (hg : Gl X "range") (hm : X.mg "range" = none) (ha : PA X [a] ta) (hs : starEach [a] X.env = [(false, eval a X.env)] := by rfl) : PI X tg (.Call (.Name "range" p) [a] [] pos) (iRng1 ta) := by
  intro pins s σ H R I h
  refine Call_ (ld_blt I hg hm boot_range (PyProof.Rows.callWith_type1 (thn (ha pos pins s σ H _ I h) fun us s1 ⟨vs, H1, I1, r1, q1⟩ => ?_) hs rfl))
  obtain ⟨j, e, q1, q2, q⟩ := q1
  subst e
  cases r1 with
  | cons r rr =>
    cases rr
    obtain ⟨t, rfl⟩ := r
    exact call_range_1 (range_it I1 (by omega) (by omega) q1 q2 (by simpa using q))
theorem pi_range2 {a b : Expr} {ta : TA} {p pos : Pos} (hg : Gl X "range") (hm : X.mg "range" = none) (ha : PA X [a, b] ta) (hs : starEach [a, b] X.env = [(false, eval a X.env), (false, eval b X.env)] := by rfl) (hs2 : starEach [b] X.env = [(false, eval b X.env)] := by rfl) :
    PI X tg (.Call (.Name "range" p) [a, b] [] pos) (iRng2 ta) := by
  intro pins s σ H R I h
  refine Call_ (ld_blt I hg hm boot_range (PyProof.Rows.callWith_type1 (thn (ha pos pins s σ H _ I h) fun us s1 ⟨vs, H1, I1, r1, q1⟩ => ?_) (by rw [hs, hs2]) (by rw [hs2]; rfl)))
  obtain ⟨i, j, e, ⟨q1, q2, q3, q4⟩, q⟩ := q1
  subst e
  cases r1 with
  | cons r rr =>
    cases rr with
    | cons r' rr =>
      cases rr
      obtain ⟨t, rfl⟩ := r
      obtain ⟨t', rfl⟩ := r'
      exact call_range_2 (range_it I1 q1 q2 q3 q4 q)
/-! ### for -/
/-- W: the invariant by the turn and a measure; N: what the body is to reach -/
def tFor (wi : TI) (g : TG) (tb : TS) : TS := fun D σ H => wi σ H fun J H1 => ∃ W : Nat → Nat → St → Hp → Prop, (∃ m, W 0 m σ H1) ∧ ∀ i m σ H, W i m σ H →
  (J.stop i H ∧ D.nx σ H) ∨ (J.go i H ∧ ∃ N : St → Hp → Prop, (∀ σ' H', N σ' H' → ∃ m', m' < m ∧ W (i + 1) m' σ' H') ∧ ∀ x H', J.yld i H x H' → g x σ H' fun σ2 H2 => tb { D with nx := N, ct := N, bk := D.nx } σ2 H2)
/-- the records at fp as they stand -/
def pinsAt (fp : List Addr) (h : Heap) : List (Addr × Obj) := fp.filterMap fun b => (h.get? b).map fun o => (b, o)
theorem mem_pinsAt {fp : List Addr} {h : Heap} {b : Addr} {o : Obj} (hb : b ∈ fp) (e : h.get? b = some o) : (b, o) ∈ pinsAt fp h := List.mem_filterMap.mpr ⟨b, hb, by rw [e]; rfl⟩
theorem of_pinsAt {fp : List Addr} {h : Heap} {p : Addr × Obj} (hp : p ∈ pinsAt fp h) : p.1 ∈ fp ∧ h.get? p.1 = some p.2 := by
  obtain ⟨b, hb, e⟩ := List.mem_filterMap.mp hp
  cases q : h.get? b with
  | none => rw [q] at e; cases e
  | some o =>
    rw [q] at e
    have e' : (b, o) = p := Option.some.inj e
    subst e'
    exact ⟨hb, q⟩
theorem Inv.pinned {pins : List (Addr × Obj)} {σ : St} {H : Hp} {s : Shared} {fp : List Addr} (I : Inv X pins σ H s) (hf : ∀ b ∈ fp, FpOk X pins H b) (ho : ∀ b ∈ fp, ∃ o, s.heap.get? b = some o ∧ ∀ v, o.data ≠ .cell v) : Inv X (pins ++ pinsAt fp s.heap) σ H s :=
  I.pins_of fun p hp => (List.mem_append.mp hp).elim (fun z => I.pin p (List.mem_append_right _ z)) fun z => by
    obtain ⟨hb, e⟩ := of_pinsAt z
    obtain ⟨f0, f1, f2, _⟩ := hf p.1 hb
    obtain ⟨o, e', d⟩ := ho p.1 hb
    rw [e] at e'; cases e'
    exact ⟨e, f0, f1, f2, d⟩
theorem Inv.unpinned {pins pl : List (Addr × Obj)} {σ : St} {H : Hp} {s : Shared} (I : Inv X (pins ++ pl) σ H s) : Inv X pins σ H s := I.pins_of fun p hp => I.pin p (List.mem_append_right _ (List.mem_append_left _ hp))
theorem ps_for {iter : Expr} {body : List Stmt} {wi : TI} {g : TG} {tb : TS} {pos : Pos} (hp : PassesOwn (model X.prog X.w) X.A X.env X.xe) (hc : X.calm = true) (hi : PI X tg iter wi) (hg : PG X tg g) (hb : PSs X body tb)
    (hs : ∀ x, foldedSetIterable iter X.env x = pure x := by intro _; rfl) : PS X (.For tg iter body [] pos) (tFor wi g tb) := by
  intro pins s σ H D I h
  refine wpAny_For (thn (hi pins s σ H _ I h) fun v s1 h1 => thn h1 fun itv s2 h2 => ?_) hs
  obtain ⟨it, fp, tn, J, H2, e, I2, T, st2, f2, W, ⟨m0, w0⟩, turn⟩ := h2
  subst e
  -- what stays true of the iterator's objects through the loop
  have stat : ∀ {H' : Hp}, (∀ b ∈ fp, H' b = none) → ∀ b ∈ fp, FpOk X pins H' b := fun hn b hb => ⟨hn b hb, (f2 b hb).2⟩
  refine codeAny_forLoop_any (fun n s' => ∃ i σ' H', Inv X pins σ' H' s' ∧ tn i s'.heap ∧ (∀ b ∈ fp, H' b = none) ∧ W i n σ' H') ?_ m0 ⟨0, σ, H2, I2, st2, fun b hb => (f2 b hb).1, w0⟩
  rintro n s3 ⟨i, σ3, H3, I3, st3, fr3, w3⟩
  rcases turn i n σ3 H3 w3 with ⟨stop, qn⟩ | ⟨go, N, hN, step⟩
  · refine wpAny_passesOwn hp (thn (T.done X rfl rfl rfl hc i pins s3 σ3 H3 X.xe I3 (stat fr3) st3 stop) fun r s4 ⟨hr, I4⟩ => ?_)
    subst hr
    exact wpAny_execs_nil ⟨σ3, H3, I4, qn⟩
  · refine wpAny_passesOwn hp (thn (T.item X rfl rfl rfl hc i pins s3 σ3 H3 X.xe I3 (stat fr3) st3 go) fun r s4 ⟨u, hr, h4⟩ => ?_)
    subst hr
    refine wpAny_passesOwn hp (thn h4 fun _ s5 ⟨x, H5, I5, r5, y5, st5, fr5⟩ => ?_)
    have I5' := I5.pinned (stat fr5) (T.obj _ _ st5)
    refine wpAny_passesOwn hp (thn (hg _ s5 σ3 H5 x u _ I5' r5 (step x H5 y5)) fun _ s6 ⟨σ6, H6, I6, q6⟩ => ?_)
    refine wpAny_passesOwn hp (thn (hb _ s6 σ6 H6 _ I6 q6) fun f s7 q7 => ?_)
    have again : ∀ {σ7 : St} {H7 : Hp}, Inv X (pins ++ pinsAt fp s5.heap) σ7 H7 s7 → N σ7 H7 → ∃ m, m < n ∧ ∃ i σ' H', Inv X pins σ' H' s7 ∧ tn i s7.heap ∧ (∀ b ∈ fp, H' b = none) ∧ W i m σ' H' := fun {σ7 H7} I7 n7 => by
      obtain ⟨m', hm, w7⟩ := hN σ7 H7 n7
      refine ⟨m', hm, i + 1, σ7, H7, I7.unpinned, T.keep _ _ _ st5 fun b hb o e => (I7.pin (b, o) (List.mem_append_right _ (List.mem_append_right _ (mem_pinsAt hb e)))).1, fun b hb => ?_, w7⟩
      obtain ⟨o, e, d⟩ := T.obj _ _ st5 b hb
      exact (I7.pin (b, o) (List.mem_append_right _ (List.mem_append_right _ (mem_pinsAt hb e)))).2.1
    cases f with
    | next => obtain ⟨σ7, H7, I7, n7⟩ := q7; exact again I7 n7
    | cont => obtain ⟨σ7, H7, I7, n7⟩ := q7; exact again I7 n7
    | brk => obtain ⟨σ7, H7, I7, q7⟩ := q7; exact ⟨σ7, H7, I7.unpinned, q7⟩
    | ret v => obtain ⟨x7, σ7, H7, I7, r7, q7⟩ := q7; exact ⟨x7, σ7, H7, I7.unpinned, r7, q7⟩
end
/-! ### the forms one uses -/
end L2
namespace L2
open PySem PySem.Spec PyProof.Rows
abbrev R2 := V → V → Hp → VK → Prop
/-- a two-place operation on values: f is binaryOp op, inplaceOp op or compareOp op -/
def OpR (X : Cx) (f : Value → Value → Sem Value) (r : R2) : Prop :=
  ∀ (pins : List (Addr × Obj)) (s : Shared) (σ : St) (H : Hp) (x y : V) (v u : Value) (Q : VK), Inv X pins σ H s → RelV x v → RelV y u → r x y H Q →
    wpAny (model X.prog X.w) X.A (f v u) (EP X pins σ Q) X.xe s
/-- a one-place operation -/
def UnR (X : Cx) (f : Value → Sem Value) (r : V → Hp → VK → Prop) : Prop :=
  ∀ (pins : List (Addr × Obj)) (s : Shared) (σ : St) (H : Hp) (x : V) (v : Value) (Q : VK), Inv X pins σ H s → RelV x v → r x H Q →
    wpAny (model X.prog X.w) X.A (f v) (EP X pins σ Q) X.xe s
/-- a call of a value that is known (a builtin, a type) with values -/
def CallR (X : Cx) (f : Value) (r : List V → Hp → VK → Prop) : Prop :=
  ∀ (pins : List (Addr × Obj)) (s : Shared) (σ : St) (H : Hp) (xs : List V) (us : List Value) (Q : VK), Inv X pins σ H s → Vals xs us → r xs H Q →
    wpAny (model X.prog X.w) X.A (call f us) (EP X pins σ Q) X.xe s
/-- a value's truth -/
def TruR (X : Cx) (r : V → Hp → (Bool → Hp → Prop) → Prop) : Prop :=
  ∀ (pins : List (Addr × Obj)) (s : Shared) (σ : St) (H : Hp) (x : V) (v : Value) (Q : Bool → Hp → Prop), Inv X pins σ H s → RelV x v → r x H Q →
    wpAny (model X.prog X.w) X.A (truthy v) (TP X pins σ Q) X.xe s
def tOp (r : R2) (ta tb : TE) : TE := fun σ H Q => ta σ H fun x H1 => tb σ H1 fun y H2 => r x y H2 Q
def tUn (r : V → Hp → VK → Prop) (ta : TE) : TE := fun σ H Q => ta σ H fun x H1 => r x H1 Q
/-- ints in, under C, and a value out -/
def rI (C : Int → Int → Prop) (g : Int → Int → V) : R2 := fun x y H Q => ∃ i j, x = .int i ∧ y = .int j ∧ C i j ∧ Q (g i j) H
def rI0 (g : Int → Int → V) : R2 := fun x y H Q => ∃ i j, x = .int i ∧ y = .int j ∧ Q (g i j) H
def rU (g : Int → V) : V → Hp → VK → Prop := fun x H Q => ∃ i, x = .int i ∧ Q (g i) H
section
variable {X : Cx} {a b c : Expr} {ta tb tc : TE} {pos : Pos}
theorem binT (ha : PE X a ta) (hb : PE X b tb) {pins : List (Addr × Obj)} {s : Shared} {σ : St} {H : Hp} {R : V → V → Hp → Prop} (I : Inv X pins σ H s)
    (h : ta σ H fun x H1 => tb σ H1 fun y H2 => R x y H2) {Q : Value → Shared → Prop} {f : Value → Value → Sem Value}
    (hf : ∀ v u s2 x y H2, Inv X pins σ H2 s2 → RelV x v → RelV y u → R x y H2 → wpAny (model X.prog X.w) X.A (f v u) Q X.xe s2) :
    wpAny (model X.prog X.w) X.A (eval a X.env) (fun v s₁ => wpAny (model X.prog X.w) X.A (eval b X.env) (fun u s₂ => wpAny (model X.prog X.w) X.A (f v u) Q X.xe s₂) X.xe s₁) X.xe s := by
  refine thn (ha pins s σ H _ I h) fun v s1 ⟨x, H1, I1, r1, q1⟩ => ?_
  refine thn (hb pins s1 σ H1 _ I1 q1) fun u s2 ⟨y, H2, I2, r2, q2⟩ => ?_
  exact hf v u s2 x y H2 I2 r1 r2 q2
theorem pe_op {op : Operator} {r : R2} (ho : OpR X (binaryOp op) r) (ha : PE X a ta) (hb : PE X b tb) : PE X (.BinOp a op b pos) (tOp r ta tb) := by
  intro pins s σ H Q I h
  exact wpAny_BinOp (binT ha hb I h fun v u s2 x y H2 I2 rx ry q => ho pins s2 σ H2 x y v u Q I2 rx ry q)
theorem pe_un {op : UnaryOp} {r : V → Hp → VK → Prop} (ho : UnR X (unaryOp op) r) (ha : PE X a ta) : PE X (.UnaryOp op a pos) (tUn r ta) := by
  intro pins s σ H Q I h
  exact UnaryOp_ (thn (ha pins s σ H _ I h) fun v s1 ⟨x, H1, I1, r1, q1⟩ => ho pins s1 σ H1 x v Q I1 r1 q1)
/-! ### ints -/
theorem opI {f : Value → Value → Sem Value} {C : Int → Int → Prop} {g : Int → Int → Int}
    (rule : ∀ (i j : Int) (t u : Tok) (s : Shared) (Q : Value → Shared → Prop) (E : Value → Shared → Prop), C i j → Q (.int (g i j) s.toks) { s with toks := s.toks + 1 } → wpAny (model X.prog X.w) X.A (f (.int i t) (.int j u)) Q E s) :
    OpR X f (rI C fun i j => .int (g i j)) := by
  intro pins s σ H x y v u Q I rx ry h
  obtain ⟨i, j, rfl, rfl, hc, q⟩ := h
  obtain ⟨t, rfl⟩ := rx
  obtain ⟨t', rfl⟩ := ry
  exact rule i j t t' s _ _ hc ⟨.int (g i j), H, I.tok _, ⟨_, rfl⟩, q⟩
theorem opI0 {f : Value → Value → Sem Value} {g : Int → Int → Int}
    (rule : ∀ (i j : Int) (t u : Tok) (s : Shared) (Q : Value → Shared → Prop) (E : Value → Shared → Prop), Q (.int (g i j) s.toks) { s with toks := s.toks + 1 } → wpAny (model X.prog X.w) X.A (f (.int i t) (.int j u)) Q E s) :
    OpR X f (rI0 fun i j => .int (g i j)) := by
  intro pins s σ H x y v u Q I rx ry h
  obtain ⟨i, j, rfl, rfl, q⟩ := h
  obtain ⟨t, rfl⟩ := rx
  obtain ⟨t', rfl⟩ := ry
  exact rule i j t t' s _ _ ⟨.int (g i j), H, I.tok _, ⟨_, rfl⟩, q⟩
theorem opB0 {f : Value → Value → Sem Value} {g : Int → Int → Bool}
    (rule : ∀ (i j : Int) (t u : Tok) (s : Shared) (Q : Value → Shared → Prop) (E : Value → Shared → Prop), Q (.bool (g i j)) s → wpAny (model X.prog X.w) X.A (f (.int i t) (.int j u)) Q E s) :
    OpR X f (rI0 fun i j => .bl (g i j)) := by
  intro pins s σ H x y v u Q I rx ry h
  obtain ⟨i, j, rfl, rfl, q⟩ := h
  obtain ⟨t, rfl⟩ := rx
  obtain ⟨t', rfl⟩ := ry
  exact rule i j t t' s _ _ ⟨.bl (g i j), H, I, rfl, q⟩
def CDiv (i j : Int) : Prop := 0 < j ∧ j < 1073741824
def CPow (i j : Int) : Prop := 0 ≤ j ∧ j ≤ 1000000 ∧ i.natAbs < 2 ^ 64
def CMul (i j : Int) : Prop := (-(2 ^ 64) < i ∧ i < 2 ^ 64) ∨ (-(2 ^ 64) < j ∧ j < 2 ^ 64)
theorem CMul.ok {i j : Int} (h : CMul i j) : IntMulOk i j := by
  rcases h with ⟨h1, h2⟩ | ⟨h1, h2⟩
  · exact .of_left (intBits_le_64 h1 h2)
  · exact .of_right (intBits_le_64 h1 h2)
theorem op_add : OpR X (binaryOp .Add) (rI0 fun i j => .int (i + j)) := opI0 fun _ _ _ _ _ _ _ q => add_int q
theorem op_sub : OpR X (binaryOp .Sub) (rI0 fun i j => .int (i - j)) := opI0 fun _ _ _ _ _ _ _ q => sub_int q
theorem op_mul : OpR X (binaryOp .Mult) (rI CMul fun i j => .int (i * j)) := opI fun _ _ _ _ _ _ _ hc q => mul_int q hc.ok
/-- // by a positive divisor -/
theorem op_fdiv : OpR X (binaryOp .FloorDiv) (rI CDiv fun i j => .int (i / j)) := opI fun i j _ _ _ _ _ hc q => by
  have h1 : (0 : Int) < j := hc.1
  have h2 : j < 1073741824 := hc.2
  exact floordiv_int (by omega) (by rw [Int.fdiv_eq_ediv_of_nonneg i (by omega)]; exact q) (.inl (PyProof.noPylong_small (by omega)))
/-- % by a positive divisor of any size -/
theorem op_mod : OpR X (binaryOp .Mod) (rI (fun _ j => 0 < j) fun i j => .int (i % j)) := opI fun i j _ _ _ _ _ hc q => by
  have h1 : (0 : Int) < j := hc
  exact mod_int' (by omega) (by rw [Int.fmod_eq_emod_of_nonneg i (by omega)]; exact q)
theorem op_pow : OpR X (binaryOp .Pow) (rI CPow fun i j => .int (i ^ j.toNat)) := opI fun _ _ _ _ _ _ _ hc q => pow_int_small hc.1 hc.2.1 hc.2.2 q
theorem unI {f : Value → Sem Value} {g : Int → Int}
    (rule : ∀ (i : Int) (t : Tok) (s : Shared) (Q : Value → Shared → Prop) (E : Value → Shared → Prop), Q (.int (g i) s.toks) { s with toks := s.toks + 1 } → wpAny (model X.prog X.w) X.A (f (.int i t)) Q E s) :
    UnR X f (rU fun i => .int (g i)) := by
  intro pins s σ H x v Q I rx h
  obtain ⟨i, rfl, q⟩ := h
  obtain ⟨t, rfl⟩ := rx
  exact rule i t s _ _ ⟨.int (g i), H, I.tok _, ⟨_, rfl⟩, q⟩
theorem un_neg : UnR X (unaryOp .USub) (rU fun i => .int (-i)) := unI fun _ _ _ _ _ q => neg_int q
/-! ### bools among ints: n += (a < b) -/
end
/-! ### comparisons -/
/-- the scalars that == tells apart as data does -/
def scal : V → V → Bool
  | .non, .non => true | .non, .int _ => true | .int _, .non => true | .non, .bl _ => true | .bl _, .non => true | .non, .str _ => true | .str _, .non => true
  | .int _, .int _ => true | .bl _, .bl _ => true | .str _, .str _ => true | .byt _, .byt _ => true
  | .int _, .str _ => true | .str _, .int _ => true | .bl _, .str _ => true | .str _, .bl _ => true
  | _, _ => false
section
variable {X : Cx} {a b c : Expr} {ta tb tc : TE} {pos : Pos}
theorem fin_bl {pins : List (Addr × Obj)} {σ : St} {H : Hp} {s : Shared} {Q : VK} {k k' : Bool} (I : Inv X pins σ H s) (q : Q (.bl k) H) (e : k = k') : EP X pins σ Q (.bool k') s := by
  subst e
  exact ⟨.bl k, H, I, rfl, q⟩
theorem op_lt : OpR X (compareOp .Lt) (rI0 fun i j => .bl (decide (i < j))) := opB0 fun _ _ _ _ _ _ _ q => lt_int q
theorem op_gt : OpR X (compareOp .Gt) (rI0 fun i j => .bl (decide (j < i))) := opB0 fun _ _ _ _ _ _ _ q => gt_int q
theorem op_lt_str : OpR X (compareOp .Lt) (fun x y H Q => ∃ i j, x = .str i ∧ y = .str j ∧ Q (.bl (decide (i.cps.toList < j.cps.toList))) H) := by
  intro pins s σ H x y v u Q I rx ry h
  obtain ⟨i, j, rfl, rfl, q⟩ := h
  obtain ⟨t, rfl⟩ := rx
  obtain ⟨t', rfl⟩ := ry
  exact lt_str (fin_bl I q rfl)
/-- is None, is not None: the right side a value none -/
theorem op_isN : OpR X (compareOp .Is) (fun x y H Q => y = .non ∧ Q (.bl (decide (x = .non))) H) := by
  intro pins s σ H x y v u Q I rx ry h
  obtain ⟨rfl, q⟩ := h
  cases ry
  refine is_none_gen (fin_bl I q ?_)
  cases x <;> first
    | (cases rx; rfl)
    | (obtain ⟨t, rfl⟩ := rx; rfl)
/-- is, is not of two objects that are tracked lists or instances -/
def isObj : HO → Bool
  | .lst _ => true
  | .ins _ _ _ => true
  | _ => false
/-- two rules for one operation: by cases -/
theorem OpR.or {f : Value → Value → Sem Value} {r r' : R2} (h : OpR X f r) (h' : OpR X f r') : OpR X f (fun x y H Q => r x y H Q ∨ r' x y H Q) := by
  intro pins s σ H x y v u Q I rx ry q
  rcases q with q | q
  · exact h pins s σ H x y v u Q I rx ry q
  · exact h' pins s σ H x y v u Q I rx ry q
theorem nomark (b : Expr) {op : CmpOp} (h : op ≠ .In := by decide) (h2 : op ≠ .NotIn := by decide) : behindInMarks op b = false := by
  have e1 : (op == CmpOp.In) = false := by cases op <;> first | rfl | exact absurd rfl h
  have e2 : (op == CmpOp.NotIn) = false := by cases op <;> first | rfl | exact absurd rfl h2
  cases b <;> simp [behindInMarks, e1, e2]
/-- a comparison as a value; hm: nomark b, or (for in, not in) by with_unfolding_all rfl -/
theorem pe_cmpR {op : CmpOp} {r : R2} (ho : OpR X (compareOp op) r) (ha : PE X a ta) (hb : PE X b tb) (hm : behindInMarks op b = false) : PE X (.Compare a [op] [b] pos) (tOp r ta tb) := by
  intro pins s σ H Q I h
  exact wpAny_Compare1 (binT ha hb I h fun v u s2 x y H2 I2 rx ry q => ho pins s2 σ H2 x y v u Q I2 rx ry q) hm
/-- a reading of a value as a test -/
def tTest (t : TE) : TT := fun σ H Q => t σ H fun x H' => ∃ k, x = .bl k ∧ Q k H'
theorem pt_cmpR {op : CmpOp} {r : R2} (ho : OpR X (compareOp op) r) (ha : PE X a ta) (hb : PE X b tb) (hm : behindInMarks op b = false) : PT X (.Compare a [op] [b] pos) (tTest (tOp r ta tb)) := by
  intro pins s σ H Q I h
  refine wpAny_isTrue_Compare1 (thn (ha pins s σ H _ I h) fun v s1 ⟨x, H1, I1, r1, q1⟩ => thn (hb pins s1 σ H1 _ I1 q1) fun u s2 ⟨y, H2, I2, r2, q2⟩ =>
    thn (ho pins s2 σ H2 x y v u _ I2 r1 r2 q2) fun c s3 ⟨z, H3, I3, r3, k, e, q3⟩ => ?_) hm
  subst e
  cases r3
  exact wpAny_truthy_bool ⟨H3, I3, q3⟩
/-- a op1 b op2 c -/
def tChain (r r' : R2) (ta tb tc : TE) : TE := fun σ H Q => ta σ H fun x H1 => tb σ H1 fun y H2 => r x y H2 fun z H3 => ∃ k, z = .bl k ∧
  (if k = true then tc σ H3 fun w' H4 => r' y w' H4 Q else Q (.bl false) H3)
/-! ### truth -/
/-- a value's truth by the abstract heap -/
def TruV (K : PySem.W.Frag) (x : V) (H : Hp) (k : Bool) : Prop :=
  match x with
  | .non => k = false
  | .bl b => k = b
  | .int i => k = (i != 0)
  | .str y => y.length ≤ sizeLine ∧ k = ((y.length : Int) != 0)
  | .byt y => y.size ≤ sizeLine ∧ k = ((y.size : Int) != 0)
  | .ref p => (∃ xs, SqL K H p xs ∧ k = !xs.isEmpty) ∨ (∃ xs, SqT K H p xs ∧ k = !xs.isEmpty) ∨ ∃ kvs, H p = some (.dK kvs) ∧ k = !kvs.isEmpty
  | _ => False
theorem isEmpty_kv {κ : Type} {kvs : List (κ × V)} {vs : List (κ × Value)} (r : KV kvs vs) : (!vs.isEmpty) = !kvs.isEmpty := by
  cases r <;> rfl
theorem isEmpty_of {xs : List V} {its : List Value} (r : Vals xs its) : (!its.toArray.isEmpty) = !xs.isEmpty := by
  cases r <;> simp
theorem line63 : (sizeLine : Nat) < 2 ^ 63 := by rw [sizeLine_eq]; decide
theorem tru_ok : TruR X (fun x H Q => ∃ k, TruV X.K x H k ∧ Q k H) := by
  intro pins s σ H x v Q I rx h
  obtain ⟨k, e, q⟩ := h
  have hl := line63
  have hs : sizeLine = 16777216 := sizeLine_eq
  cases x with
  | non =>
    cases rx
    have e' : k = false := e
    subst e'
    exact truthy_none ⟨H, I, q⟩
  | bl b =>
    cases rx
    have e' : k = b := e
    subst e'
    exact wpAny_truthy_bool ⟨H, I, q⟩
  | int i =>
    obtain ⟨t, rfl⟩ := rx
    have e' : k = (i != 0) := e
    subst e'
    exact PySem.P.truthy_int ⟨H, I, q⟩
  | str y =>
    obtain ⟨t, rfl⟩ := rx
    obtain ⟨hy, e'⟩ : y.length ≤ sizeLine ∧ k = ((y.length : Int) != 0) := e
    subst e'
    exact PySem.P.truthy_str (by omega) ⟨H, I.tok _, q⟩
  | byt y =>
    obtain ⟨t, rfl⟩ := rx
    obtain ⟨hy, e'⟩ : y.size ≤ sizeLine ∧ k = ((y.size : Int) != 0) := e
    subst e'
    exact PySem.W.truthy_bytes (by omega) ⟨H, I.tok _, q⟩
  | ref p =>
    cases rx
    have e' : (∃ xs, SqL X.K H p xs ∧ k = !xs.isEmpty) ∨ (∃ xs, SqT X.K H p xs ∧ k = !xs.isEmpty) ∨ ∃ kvs, H p = some (.dK kvs) ∧ k = !kvs.isEmpty := e
    rcases e' with ⟨xs, hx, e'⟩ | ⟨xs, hx, e'⟩ | ⟨kvs, hx, e'⟩
    · subst e'
      obtain ⟨its, r, pl, hz⟩ := I.list hx
      have hlen := r.length
      exact wpAny_truthy_list pl.isList (by simp only [List.size_toArray]; omega) ⟨H, I.tok _, by rw [isEmpty_of r]; exact q⟩
    · subst e'
      obtain ⟨its, r, pl, hz⟩ := I.tuple hx
      have hlen := r.length
      exact truthy_tuple pl (by simp only [List.size_toArray]; omega) ⟨H, I.tok _, by rw [isEmpty_of r]; exact q⟩
    · subst e'
      obtain ⟨hz, hS, vs, r, m⟩ : kvs.length ≤ sizeLine ∧ (p == sysModules) = false ∧ ∃ vs, KV kvs vs ∧ s.heap.DictOf (mixKind X.prog X.w) p vs := I.hok p _ hx
      have hlen : kvs.length = vs.length := Paired.length r
      exact wpAny_truthy_dict hS m (by omega) ⟨H, I.tok _, by rw [isEmpty_kv r]; exact q⟩
  | _ => exact (show False from e).elim
/-- any expression whose test is its value's truth (a name, a call, a subscript, a field ..: he by fun _ => rfl) -/
theorem pt_truth (ha : PE X a ta) (he : ∀ whole, isTrue a X.env whole = (do let v ← whole; standAt a.pos; holding [v] (truthy v))) :
    PT X a (fun σ H Q => ta σ H fun x H' => ∃ k, TruV X.K x H' k ∧ Q k H') := by
  intro pins s σ H Q I h
  exact isTrue_plain (thn (ha pins s σ H _ I h) fun v s1 ⟨x, H1, I1, r1, q1⟩ => tru_ok pins s1 σ H1 x v Q I1 r1 q1) (he _)
/-! ### strs and bytes -/
theorem op_add_str : OpR X (binaryOp .Add) (fun x y H Q => ∃ i j, x = .str i ∧ y = .str j ∧ i.length + j.length ≤ sizeLine ∧ Q (.str (i ++ j)) H) := by
  intro pins s σ H x y v u Q I rx ry h
  obtain ⟨i, j, rfl, rfl, hz, q⟩ := h
  obtain ⟨t, rfl⟩ := rx
  obtain ⟨t', rfl⟩ := ry
  exact add_str (fun t' tk => ⟨.str (i ++ j), H, I.tok _, ⟨_, rfl⟩, q⟩) hz
/-! ### scalar builtins, by CallR -/
theorem vals1 {x : V} {us : List Value} (r : Vals [x] us) : ∃ u, us = [u] ∧ RelV x u := by
  cases r with
  | cons r1 r2 => cases r2; exact ⟨_, rfl, r1⟩
theorem vals2 {x y : V} {us : List Value} (r : Vals [x, y] us) : ∃ u w', us = [u, w'] ∧ RelV x u ∧ RelV y w' := by
  cases r with
  | cons r1 r2 =>
    cases r2 with
    | cons r3 r4 => cases r4; exact ⟨_, _, rfl, r1, r3⟩
theorem call_max2 (hc : X.calm = true) : CallR X (.builtin "max") (fun xs H Q => ∃ i j, xs = [.int i, .int j] ∧ Q (.int (if j > i then j else i)) H) := by
  intro pins s σ H xs us Q I r h
  obtain ⟨i, j, rfl, q⟩ := h
  obtain ⟨u, w', rfl, ⟨t, rfl⟩, ⟨t', rfl⟩⟩ := vals2 r
  refine max_two_ints (I.ok.hd hc) fun h' tk k => ⟨_, H, I.kept k, ?_, q⟩
  by_cases hj : j > i
  · rw [if_pos hj, if_pos hj]; exact ⟨_, rfl⟩
  · rw [if_neg hj, if_neg hj]; exact ⟨_, rfl⟩
theorem call_min2 (hc : X.calm = true) : CallR X (.builtin "min") (fun xs H Q => ∃ i j, xs = [.int i, .int j] ∧ Q (.int (if j < i then j else i)) H) := by
  intro pins s σ H xs us Q I r h
  obtain ⟨i, j, rfl, q⟩ := h
  obtain ⟨u, w', rfl, ⟨t, rfl⟩, ⟨t', rfl⟩⟩ := vals2 r
  refine min_two_ints (I.ok.hd hc) fun h' tk k => ⟨_, H, I.kept k, ?_, q⟩
  by_cases hj : j < i
  · rw [if_pos hj, if_pos hj]; exact ⟨_, rfl⟩
  · rw [if_neg hj, if_neg hj]; exact ⟨_, rfl⟩
/-- len of a str, a bytes, a list, a tuple -/
def LenV (K : PySem.W.Frag) (x : V) (H : Hp) (n : Nat) : Prop :=
  match x with
  | .str y => y.length ≤ sizeLine ∧ n = y.length
  | .byt y => y.size ≤ sizeLine ∧ n = y.size
  | .ref p => (∃ xs, SqL K H p xs ∧ n = xs.length) ∨ ∃ xs, SqT K H p xs ∧ n = xs.length
  | _ => False
end
end L2
namespace L2
open PySem PySem.Spec PyProof.Rows
/-! ### an instance, its attributes a map -/
structure ObjM (h : Heap) (x dx C : Addr) (mA : Str → Option Value) : Prop where
  obj : h.get? x = some (PySem.W.instObj C dx)
  ns : h.Ns1 dx mA
  ne : dx ≠ x
theorem lookIn_ns {h : Heap} {dx : Addr} {mA : Str → Option Value} (n : h.Ns1 dx mA) : ∃ od, h.get? dx = some od ∧ ∀ name, PySem.W.lookIn name od = some (mA name) := by
  obtain ⟨o, es, ep, ho, hd, hk, _, hm⟩ := n
  refine ⟨o, ho, fun name => ?_⟩
  have e := hm name
  unfold nsFind findBy at e
  rw [← Array.find?_toList] at e
  unfold PySem.W.lookIn
  rw [hd]
  dsimp only
  split
  · rename_i y q
    rw [q] at e
    exact congrArg some e
  · rename_i q
    rw [q] at e
    have a : es.toList.any (·.refKey) = false := by
      rw [List.any_eq_false]
      intro y hy
      obtain ⟨z, t, hkey⟩ := hk y (Array.mem_toList_iff.mp hy)
      simp [DictEntry.refKey, hkey]
    have a' : ¬ es.toList.any (·.refKey) = true := by rw [a]; exact Bool.false_ne_true
    rw [if_neg a']
    exact congrArg some e
theorem ObjM.look {h : Heap} {x dx C : Addr} {mA : Str → Option Value} (I : ObjM h x dx C mA) : ∃ od, PySem.W.InstAt h x (PySem.W.instObj C dx) C (some od) ∧ ∀ name, PySem.W.lookIn name od = some (mA name) :=
  let ⟨od, ho, hl⟩ := lookIn_ns I.ns
  ⟨od, ⟨I.obj, rfl, rfl, ho⟩, hl⟩
section
variable {prog : Program} {w : World} {A : Around} {E : Value → Shared → Prop} {s : Shared} {K : PySem.W.Frag} {x dx C f : Addr} {mA : Str → Option Value} {name : Str} {v : Value}
end
/-! ### the attributes as a list of pairs -/
def putF (f : Str) (v : V) : List (Str × V) → List (Str × V)
  | [] => [(f, v)]
  | (g, x) :: r => if g = f then (g, v) :: r else (g, x) :: putF f v r
theorem RelO.some_of {v : V} {o : Option Value} (r : RelO (some v) o) : ∃ u, o = some u ∧ RelV v u := by
  cases o with
  | none => exact (show False from r).elim
  | some u => exact ⟨u, rfl, r⟩
section
variable {P : Program} {w : World} {H H' : Hp} {h h' : Heap} {a C dx : Addr} {fs fs' : List (Str × V)}
theorem ins_get (hok : HOk P w H h) (e : H a = some (.ins C dx fs)) : ∃ mA, ObjM h a dx C mA ∧ (∀ f, RelO (fs.lookup f) (mA f)) ∧ PySem.Within mA (fs.map (·.1)) ∧ fs.length ≤ 1000 ∧ H dx = some (.own a) := by
  obtain ⟨d, z, ne, ob, mA, n, r, q⟩ := (show ObjOk P w H h a (.ins C dx fs) from hok a _ e)
  exact ⟨mA, ⟨ob, n, ne⟩, r, q, z, d⟩
end
/-! ### what of the text a class must have -/
structure Cls (K : PySem.W.Frag) (C : Addr) : Prop where
  pg : PySem.W.plainGet K C Str.empty = true
  hd : PySem.W.hasDictIn K C = true
  po : PySem.W.plainOver K C = true
  sa : PySem.W.findIn K (.ref C) "__setattr__" = some (some (.builtin "object.__setattr__"))
theorem Cls.get {K : PySem.W.Frag} {C : Addr} (c : Cls K C) (f : Str) : PySem.W.plainGet K C f = true := c.pg
/-- no class of it has the name -/
def NoAttr (K : PySem.W.Frag) (C : Addr) (f : Str) : Prop := PySem.W.findIn K (.ref C) f = some none
/-- a constant of the class -/
structure Con (K : PySem.W.Frag) (C : Addr) (f : Str) (v : V) (u : Value) : Prop where
  at_ : PySem.W.findIn K (.ref C) f = some (some u)
  rel : RelV v u
  get : PySem.W.specialIn K u "__get__" = some none
  cp : PySem.W.copiedNames.contains f = false
/-- a method: a plain def of the class or of one above it -/
structure Meth (K : PySem.W.Frag) (C : Addr) (m : Str) (f : Addr) : Prop where
  at_ : PySem.W.findIn K (.ref C) m = some (some (.ref f))
  fn : PySem.W.isFn K (.ref f) = true
  kp : PySem.W.keepIn K (.ref f) = true
section
variable {X : Cx} {pins : List (Addr × Obj)} {σ : St} {H : Hp} {s : Shared} {a C dx : Addr} {fs : List (Str × V)} {f : Str} {v : V} {A : Around} {E : Value → Shared → Prop}
end
/-! ### readings and rules -/
/-- e.f, an attribute of the instance -/
def tFld (K : PySem.W.Frag) (ta : TE) (f : Str) : TE := fun σ H Q => ta σ H fun x H1 => ∃ a C dx fs v, x = .ref a ∧ H1 a = some (.ins C dx fs) ∧ Cls K C ∧ NoAttr K C f ∧ fs.lookup f = some v ∧ Q v H1
/-- e.f, a constant of the class -/
def tCon (K : PySem.W.Frag) (ta : TE) (f : Str) : TE := fun σ H Q => ta σ H fun x H1 => ∃ a C dx fs v u, x = .ref a ∧ H1 a = some (.ins C dx fs) ∧ Cls K C ∧ Con K C f v u ∧ fs.lookup f = none ∧ Q v H1
/-- e.f = value -/
def sFld (K : PySem.W.Frag) (ta tv : TE) (f : Str) : TS := fun D σ H => tv σ H fun y H1 => ta σ H1 fun x H2 => ∃ a C dx fs, x = .ref a ∧ H2 a = some (.ins C dx fs) ∧ Cls K C ∧ NoAttr K C f ∧ fs.length < 1000 ∧
  D.nx σ (upd H2 a (.ins C dx (putF f y fs)))
/-- an augmented operator on two values -/
def InOp (X : Cx) (op : Operator) (rd : V → V → Hp → VK → Prop) : Prop :=
  ∀ (pins : List (Addr × Obj)) (s : Shared) (σ : St) (H : Hp) (x y : V) (u v : Value) (Q : VK), Inv X pins σ H s → RelV x u → RelV y v → rd x y H Q → wpAny (model X.prog X.w) X.A (inplaceOp op u v) (EP X pins σ Q) X.xe s
/-- e.f op= value -/
def sFldAug (K : PySem.W.Frag) (ta tv : TE) (rd : V → V → Hp → VK → Prop) (f : Str) : TS := fun D σ H => ta σ H fun x H1 => ∃ a C dx fs v, x = .ref a ∧ H1 a = some (.ins C dx fs) ∧ Cls K C ∧ NoAttr K C f ∧ fs.lookup f = some v ∧
  tv σ H1 fun y H2 => rd v y H2 fun z H3 => ∃ dx' fs', H3 a = some (.ins C dx' fs') ∧ fs'.length < 1000 ∧ D.nx σ (upd H3 a (.ins C dx' (putF f z fs')))
section
variable {X : Cx} {o e value : Expr} {f : Str} {pos pos' tpos : Pos} {ta tv : TE}
end
/-! ### isinstance -/
section
variable {X : Cx} {pins : List (Addr × Obj)} {σ : St} {H : Hp} {s : Shared} {A : Around} {E : Value → Shared → Prop} {Q : Value → Shared → Prop} {c : Value} {b : Bool}
/-- the type of a value, as the fragment's deciders take it; for an instance its class -/
inductive TyOf (K : PySem.W.Frag) (H : Hp) : V → Value → Prop where
  | non : TyOf K H .non (.type "NoneType")
  | bl (x : Bool) : TyOf K H (.bl x) (.type "bool")
  | int (i : Int) : TyOf K H (.int i) (.type "int")
  | str (x : Str) : TyOf K H (.str x) (.type "str")
  | flt (x : UInt64) : TyOf K H (.flt x) (.type "float")
  | lst {a : Addr} {xs : List V} (e : H a = some (.lst xs)) : TyOf K H (.ref a) (.type "list")
  | frz {a : Addr} {o : Obj} {xs : List V} (e : H a = some (.frz o (.lst xs))) : TyOf K H (.ref a) (.type "list")
  | tup {a : Addr} {xs : List V} (e : H a = some (.tup xs)) : TyOf K H (.ref a) (.type "tuple")
  | dK {a : Addr} {kvs : List (Key × V)} (e : H a = some (.dK kvs)) : TyOf K H (.ref a) (.type "dict")
  | dT {a : Addr} {kvs : List (List Key × V)} (e : H a = some (.dT kvs)) : TyOf K H (.ref a) (.type "dict")
  | ins {a C dx : Addr} {fs : List (Str × V)} (e : H a = some (.ins C dx fs)) (cl : Cls K C) (ha : PySem.W.findIn K (.ref C) "__class__" = some (some (.builtin "object.__class__")))
      (hn : PySem.W.specialIn K (.builtin "object.__class__") "__get__" = some (some (.builtin "getset_descriptor.__get__"))) (htk : PySem.W.takesIn K (.builtin "object.__class__") = some true)
      (hm : PySem.W.mroIn K C (.type "object") = some true) : TyOf K H (.ref a) (.ref C)
/-- isinstance(x, c) for one class c, a built-in or an own one: kitOne's answer -/
theorem isinst_ok {x : V} {u t : Value} (I : Inv X pins σ H s) (rx : RelV x u) (ty : TyOf X.K H x t) (e : PySem.W.kitOne X.K t c = some b) (h : ∀ tk, Q (.bool b) { s with toks := tk }) :
    wpAny (model X.prog X.w) A (call (.builtin "isinstance") [u, c]) Q E s := by
  cases ty with
  | non => cases (show u = Value.none from rx); exact PySem.W.kia_one PySem.W.kitx_none I.kIn True.intro e (fun z => nomatch z) h
  | bl y => cases (show u = Value.bool y from rx); exact PySem.W.kia_one PySem.W.kitx_bool I.kIn True.intro e (fun z => nomatch z) h
  | int i => obtain ⟨t, q⟩ := (show ∃ t, u = Value.int i t from rx); cases q; exact PySem.W.kia_one PySem.W.kitx_int I.kIn True.intro e (fun z => nomatch z) h
  | str y => obtain ⟨t, q⟩ := (show ∃ t, u = Value.str y t from rx); cases q; exact PySem.W.kia_one PySem.W.kitx_str I.kIn True.intro e (fun z => nomatch z) h
  | flt y => obtain ⟨t, q⟩ := (show ∃ t, u = Value.float y t from rx); cases q; exact PySem.W.kia_one PySem.W.kitx_float I.kIn True.intro e (fun z => nomatch z) h
  | @lst a xs ea =>
    cases (show u = Value.ref a from rx)
    obtain ⟨_, _, n, _, h1⟩ := (show ObjOk X.prog X.w H s.heap a (.lst xs) from I.hok a _ ea)
    exact PySem.W.kia_one PySem.W.kitx_list I.kIn ⟨_, h1, rfl⟩ e (fun z => nomatch z) h
  | @frz a ob xs ea =>
    cases (show u = Value.ref a from rx)
    obtain ⟨_, _, _, n, _, h1⟩ := (show ObjOk X.prog X.w H s.heap a (.frz ob (.lst xs)) from I.hok a _ ea)
    exact PySem.W.kia_one PySem.W.kitx_list I.kIn ⟨_, h1, rfl⟩ e (fun z => nomatch z) h
  | @tup a xs ea =>
    cases (show u = Value.ref a from rx)
    obtain ⟨_, _, _, p⟩ := (show ObjOk X.prog X.w H s.heap a (.tup xs) from I.hok a _ ea)
    obtain ⟨o, h1, h2, _⟩ := p
    exact PySem.W.kia_one PySem.W.kitx_tuple I.kIn ⟨o, h1, h2⟩ e (fun z => nomatch z) h
  | @dK a kvs ea =>
    cases (show u = Value.ref a from rx)
    obtain ⟨_, _, vs, _, p⟩ := (show ObjOk X.prog X.w H s.heap a (.dK kvs) from I.hok a _ ea)
    obtain ⟨o, es, ep, h1, h2, _⟩ := p
    exact PySem.W.kia_one PySem.W.kitx_dict I.kIn ⟨o, h1, h2.1⟩ e (fun z => nomatch z) h
  | @dT a kvs ea =>
    cases (show u = Value.ref a from rx)
    obtain ⟨_, _, xs, _, o, es, ep, h1, h2, _⟩ := (show ObjOk X.prog X.w H s.heap a (.dT kvs) from I.hok a _ ea)
    exact PySem.W.kia_one PySem.W.kitx_dict I.kIn ⟨o, h1, h2.1⟩ e (fun z => nomatch z) h
  | @ins a C dx fs ea cl ha hn htk hm =>
    cases (show u = Value.ref a from rx)
    obtain ⟨mA, O, _⟩ := ins_get I.hok ea
    obtain ⟨od, J, _⟩ := O.look
    exact PySem.W.kia_one (PySem.W.kitx_own (cl.get _) cl.hd ha hn htk hm) I.kIn J e (fun z => nomatch z) h
end
end L2
namespace L2
open PySem PySem.Spec PyProof.Rows
/-! ### room -/
structure Room (k : Nat) (A : Around) : Prop where
  hd : A.handled = none
  dp : A.depth + 3 * k + 5 < recursionLimit
  un : A.units + 16 * k + 200 < cLine
theorem Room.deeper {k : Nat} {A : Around} (r : Room (k + 1) A) (env : Env) : Room k (A.deeper env) :=
  ⟨r.hd, by have := r.dp; show A.depth + 1 + 3 * k + 5 < _; omega, by have := r.un; show A.units + 3 + 16 * k + 200 < _; omega⟩
theorem Room.depth {k : Nat} {A : Around} (r : Room k A) : A.depth < recursionLimit := by have := r.dp; omega
/-! ### argument lists and displays -/
def tNil : TA := fun _ H Q => Q [] H
def tCons (ta : TE) (tr : TA) : TA := fun σ H Q => ta σ H fun x H1 => tr σ H1 fun xs H2 => Q (x :: xs) H2
section
variable {X : Cx} {e : Expr} {es : List Expr} {te : TE} {t : TA} {pos : Pos}
theorem pa_nil : PA X [] tNil := fun _ _ _ _ H Q I h => Calls.spliced_nil ⟨[], H, I, .nil, h⟩
theorem pa_cons (ha : PE X e te) (hr : PA X es t) (hs : starEach (e :: es) X.env = (false, eval e X.env) :: starEach es X.env := by rfl) : PA X (e :: es) (tCons te t) := by
  intro pos pins s σ H Q I h
  rw [hs]
  show wpAny _ _ (spliced ((false, eval e X.env) :: backTo pos (starEach es X.env))) _ _ s
  refine Calls.spliced_cons (thn (ha pins s σ H _ I h) fun u s1 ⟨x, H1, I1, r1, q1⟩ => ?_)
  exact thn (hr pos pins s1 σ H1 _ I1 q1) fun us s2 ⟨xs, H2, I2, r2, q2⟩ => ⟨x :: xs, H2, I2, .cons r1 r2, q2⟩
/-- a tuple, a list of written items -/
def tTup (t : TA) : TE := fun σ H Q => t σ H fun xs H1 => xs.length ≤ sizeLine ∧ ∀ p, H1 p = none → Q (.ref p) (upd H1 p (.tup xs))
def tLst (t : TA) : TE := fun σ H Q => t σ H fun xs H1 => xs.length ≤ sizeLine ∧ ∀ p, H1 p = none → Q (.ref p) (upd H1 p (.lst xs))
theorem pe_tup {x1} (h : PA X es t) : PE X (.Tuple es x1 pos) (tTup t) := by
  intro pins s σ H Q I hq
  refine wpAny_Tuple_spliced (thn (h pos pins s σ H _ I hq) fun us s1 ⟨xs, H1, I1, r, z, q⟩ => ⟨by rw [← r.length]; exact z, ?_⟩)
  have hf : H1 s1.heap.objs.size = none := I1.hok.fresh (Nat.le_refl _)
  refine ⟨.ref s1.heap.objs.size, upd H1 s1.heap.objs.size (.tup xs), I1.laid (t' := s1.toks) (fun b u e => Heap.get?_push_of_some _ e) (Nat.le_refl _) ?_, rfl, q _ hf⟩
  exact ⟨z, us, r, ⟨_, Heap.get?_push_size _ rfl, rfl, _, rfl⟩⟩
theorem pe_lst (h : PA X es t) : PE X (.List es pos) (tLst t) := by
  intro pins s σ H Q I hq
  refine wpAny_List_spliced (thn (h pos pins s σ H _ I hq) fun us s1 ⟨xs, H1, I1, r, z, q⟩ => ⟨by rw [← r.length]; exact z, ?_⟩)
  have hf : H1 s1.heap.objs.size = none := I1.hok.fresh (Nat.le_refl _)
  refine ⟨.ref s1.heap.objs.size, upd H1 s1.heap.objs.size (.lst xs), I1.laid (t' := s1.toks) (fun b u e => Heap.get?_push_of_some _ e) (Nat.le_refl _) ?_, rfl, q _ hf⟩
  exact ⟨z, us, 0, r, Heap.get?_push_size _ rfl⟩
end
/-! ### what a def promises -/
/-- a def's promise: the bound arguments in the parameters' order, the heap, the wanted end, the wanted exception -/
abbrev Sp := List V → Hp → VK → XK → Prop
/-- how an exception lies behind a call (file 08 gives it): the callers' frames, abstract heap and state ahead of the call, the wish, the exception, the state -/
abbrev CXT := List Env → Hp → Shared → XK → Value → Shared → Prop
/-- the state at a call -/
structure Env0 (P : Program) (w : World) (K : PySem.W.Frag) (mg : Str → Option Value) (base : Heap) (A : Around) (outer : List Env) (s : Shared) (H : Hp) : Prop where
  frames : A.frames = some outer
  mod : Mod K mg base
  bs : ∀ b o, base.get? b = some o → s.heap.get? b = some o ∧ H b = none
  bsz : base.objs.size ≤ s.heap.objs.size
  funs : s.heap.FunFrames base outer
  frf : ∀ b ∈ frs outer, H b = none
  hok : HOk P w H s.heap
  bare : AllBare s.gens
/-- a call's end -/
def CE (outer : List Env) (P : Program) (w : World) (H : Hp) (s : Shared) (Q : VK) (u : Value) (s' : Shared) : Prop :=
  ∃ v H', s'.os = s.os ∧ AllBare s'.gens ∧ Un (frs outer) [] H H' s.heap s'.heap ∧ HOk P w H' s'.heap ∧ RelV v u ∧ Q v H'
def CR (CX : CXT) (outer : List Env) (P : Program) (w : World) (H : Hp) (s : Shared) (Q : VK) (E : XK) (r : Result) (s' : Shared) : Prop :=
  match r with
  | .ok (.ret u) => CE outer P w H s Q u s'
  | .ok _ => False
  | .error e => CX outer H s E e s'
structure FnOk (P : Program) (w : World) (K : PySem.W.Frag) (mg : Str → Option Value) (base : Heap) (CX : CXT) (k : Nat) (f : Addr) (fd : FuncData) (ps : List Str) (sp : Sp) : Prop where
  len : ∀ vs H Q E, sp vs H Q E → vs.length = ps.length
  run : ∀ (A : Around) (outer : List Env) (s : Shared) (H : Hp) (args : Args) (us : List Value) (vs : List V) (Q : VK) (E : XK), Room k A → Env0 P w K mg base A outer s H → BindsTo s fd args (ps.zip us) → Vals vs us → sp vs H Q E →
    codeAny (model P w) A (.call (.ref f) args) (CR CX outer P w H s Q E) s
section
variable {X : Cx} {pins : List (Addr × Obj)} {σ : St} {H : Hp} {s s' : Shared}
/-- from a body: what a callee wants -/
theorem Inv.env0 (I : Inv X pins σ H s) : Env0 X.prog X.w X.K X.mg X.base X.A X.stack s H :=
  ⟨I.ok.frames, I.ok.mod, I.bs, Nat.le_trans I.ok.bsz I.sz, I.stack, I.stkFree, I.hok, I.bare⟩
/-- behind a call -/
theorem Inv.after {Q : VK} {u : Value} (I : Inv X pins σ H s) (h : CE X.stack X.prog X.w H s Q u s') : EP X pins σ Q u s' := by
  obtain ⟨v, H', os, bare, un, hok, r, q⟩ := h
  obtain ⟨hh, g, d, t, os'⟩ := s'
  obtain rfl : os' = s.os := os
  exact ⟨v, H', I.call (h' := hh) (g' := g) (d' := d) (t' := t) (ch := []) un hok bare (fun b z => absurd z (by simp)), r, q⟩
end
/-! ### calls -/
/-- f(..): the written arguments, then the defaults dvs; E: what is wanted of an exception -/
def tCall (sp : Sp) (dvs : List V) (E : XK) (t : TA) : TE := fun σ H Q => t σ H fun vs H1 => sp (vs ++ dvs) H1 Q E
/-- o.m(..) of an instance of the class at C -/
def tMeth (C : Addr) (m : Str) (sp : Sp) (dvs : List V) (E : XK) (ta : TE) (t : TA) : TE := fun σ H Q => ta σ H fun x H1 => ∃ a dx fs, x = .ref a ∧ H1 a = some (.ins C dx fs) ∧ fs.lookup m = none ∧
  t σ H1 fun vs H2 => sp (x :: (vs ++ dvs)) H2 Q E
/-- C(..): a new instance and its dict, then __init__ -/
def tMake (C : Addr) (sp : Sp) (dvs : List V) (E : XK) (t : TA) : TE := fun σ H Q => t σ H fun vs H1 => ∀ x dx, H1 x = none → H1 dx = none → dx ≠ x →
  sp (.ref x :: (vs ++ dvs)) (upd (upd H1 dx (.own x)) x (.ins C dx [])) (fun v H2 => v = .non ∧ Q (.ref x) H2) E
/-- how the parameters are bound: us the positional arguments, kw the keywords' values by name, ds the defaults that fill up -/
def Binds (K : PySem.W.Frag) (fd : FuncData) (ps : List Str) (ds : List Value) : Prop :=
  ∀ (s : Shared) (us : List Value), K.In s.heap → (us ++ ds).length = ps.length → BindsTo s fd ⟨us, []⟩ (ps.zip (us ++ ds))
/-- every parameter is given -/
theorem Binds.all {K : PySem.W.Frag} {fd : FuncData} {ps : List Str} (h : ∀ us : List Value, us.length = ps.length → bindArgs fd ⟨us, []⟩ = pure (ps.zip us)) : Binds K fd ps [] := fun s us _ hl => by
  rw [List.append_nil] at hl ⊢
  exact .of_eq (h us hl)
/-- an exception of a callee reaches what this body wants of exceptions -/
def Passes (CX : CXT) (X : Cx) (E : XK) : Prop := ∀ (pins : List (Addr × Obj)) (σ : St) (H : Hp) (s : Shared) (e : Value) (s' : Shared), Inv X pins σ H s → CX X.stack H s E e s' → X.xe e s'
section
variable {X : Cx} {CX : CXT} {k : Nat} {f C : Addr} {fd : FuncData} {ps : List Str} {sp : Sp} {dvs : List V} {ds : List Value} {E : XK} {x m : Str} {p pos apos : Pos} {e o : Expr} {es : List Expr} {ta : TE} {t : TA}
/-- the callee runs -/
theorem run_fn {pins : List (Addr × Obj)} {σ : St} {H : Hp} {s : Shared} {Q : VK} {us : List Value} {vs : List V} (F : FnOk X.prog X.w X.K X.mg X.base CX k f fd ps sp) (hr : Room k X.A) (hb : Binds X.K fd ps ds) (hd : Vals dvs ds) (hx : Passes CX X E)
    (I : Inv X pins σ H s) (r : Vals vs us) (h : sp (vs ++ dvs) H Q E) : wpAny (model X.prog X.w) X.A (call (.ref f) us) (EP X pins σ Q) X.xe s := by
  have r2 : Vals (vs ++ dvs) (us ++ ds) := r.append hd
  have hl : (us ++ ds).length = ps.length := by rw [← r2.length]; exact F.len _ _ _ _ h
  refine wpAny_call (codeAny_mono (F.run X.A X.stack s H ⟨us, []⟩ (us ++ ds) (vs ++ dvs) Q E hr I.env0 (hb s us I.kIn hl) r2 h) fun r s' hq => ?_)
  cases r with
  | error e => exact hx pins σ H s e s' I hq
  | ok fl =>
    cases fl with
    | ret u => exact I.after hq
    | next => exact False.elim hq
    | brk => exact False.elim hq
    | cont => exact False.elim hq
theorem pe_call (F : FnOk X.prog X.w X.K X.mg X.base CX k f fd ps sp) (hr : Room k X.A) (hg : Gl X x) (hm : X.mg x = some (.ref f)) (hk : PySem.W.keepIn X.K (.ref f) = true) (hb : Binds X.K fd ps ds) (hd : Vals dvs ds) (hx : Passes CX X E)
    (ha : PA X (e :: es) t) (hdb : (x == ("__debug__" : Str)) = false := by decide) (he : starEach (e :: es) X.env = (false, eval e X.env) :: starEach es X.env := by rfl) (hpl : (backTo pos (starEach es X.env)).any (·.1) = false := by rfl) :
    PE X (.Call (.Name x p) (e :: es) [] pos) (tCall sp dvs E t) := by
  intro pins s σ H Q I h
  refine wpAny_Call_Name_kw (ld_glob I hg hm ?_ hdb)
  refine PySem.W.callWith_K (h₀ := X.base) I.ok.mod.kin hk (thn (ha pos pins s σ H _ I h) fun us s1 ⟨vs, H1, I1, r, q⟩ => ⟨I1.kIn, ?_⟩) he hpl
  exact run_fn F hr hb hd hx I1 r q
/-- what a class must have to be made -/
structure Mk (K : PySem.W.Frag) (C f : Addr) : Prop where
  makes : PySem.W.makesIn K C = true
  init : PySem.W.findIn K (.ref C) "__init__" = some (some (.ref f))
  fn : PySem.W.isFn K (.ref f) = true
  kp : PySem.W.keepIn K (.ref C) = true
end
/-! ### keywords -/
/-- the values of the keywords, from the left -/
def PK (X : Cx) (kws : List Keyword) (t : TA) : Prop :=
  ∀ (pos : Pos) (pins : List (Addr × Obj)) (s : Shared) (σ : St) (H : Hp) (Q : List V → Hp → Prop), Inv X pins σ H s → t σ H Q → wpAny (model X.prog X.w) X.A (evalAll ((backToKw pos (keywordEach kws X.env)).map (·.2))) (AP X pins σ Q) X.xe s
section
variable {X : Cx} {CX : CXT} {k : Nat} {f C : Addr} {fd : FuncData} {ps ks : List Str} {sp : Sp} {E : XK} {x m : Str} {p pos apos kpos : Pos} {e o : Expr} {es : List Expr} {kws : List Keyword} {te ta : TE} {t tk : TA} {nm : Option Str}
/-- how a call with keywords binds: g puts the positional values us and the keywords' values ws (names ks) in the parameters' order, defaults among them -/
structure KBinds (K : PySem.W.Frag) (fd : FuncData) (ps ks : List Str) (g : List Value → List Value → List Value) (gV : List V → List V → List V) : Prop where
  to : ∀ (s : Shared) (us ws : List Value), K.In s.heap → (g us ws).length = ps.length → BindsTo s fd ⟨us, ks.zip ws⟩ (ps.zip (g us ws))
  rel : ∀ {vs : List V} {us : List Value} {zs : List V} {ws : List Value}, Vals vs us → Vals zs ws → Vals (gV vs zs) (g us ws)
variable {g : List Value → List Value → List Value} {gV : List V → List V → List V}
end
/-! ### a def's body keeps its promise -/
/-- names: the parameters first -/
structure FnScope (N P : List Str) (sc : Scope) : Prop where
  kind : sc.kind = .function
  co : sc.isCoroutine = false
  gen : sc.isGenerator = false
  nd : N.Nodup
  pre : N.take P.length = P
  par : ∀ x ∈ P, sc.names.lookup x = some .local ∨ sc.names.lookup x = some .cell
  nofree : ∀ y ∈ sc.names, y.2 ≠ .free
theorem bindL_out {kindOf : Str → Option NameKind} {x : Str} : ∀ {binds : List (Str × Value)} {m : Str → Option Value}, (∀ v, (x, v) ∉ binds) → bindL kindOf binds m x = m x
  | [], _, _ => rfl
  | (n, v) :: r, m, h => by
    unfold bindL
    rw [bindL_out fun w hw => h w (List.mem_cons_of_mem _ hw)]
    split
    · have : x ≠ n := by rintro rfl; exact h v List.mem_cons_self
      simp [this]
    · rfl
theorem bindC_out {kindOf : Str → Option NameKind} {x : Str} : ∀ {binds : List (Str × Value)} {m : Str → Option Value}, (∀ v, (x, v) ∉ binds) → bindC kindOf binds m x = m x
  | [], _, _ => rfl
  | (n, v) :: r, m, h => by
    unfold bindC
    rw [bindC_out fun w hw => h w (List.mem_cons_of_mem _ hw)]
    split
    · rfl
    · have : x ≠ n := by rintro rfl; exact h v List.mem_cons_self
      simp [this]
theorem bindL_get {kindOf : Str → Option NameKind} {x : Str} {v : Value} : ∀ {P : List Str} {vs : List Value} {i : Nat} {m : Str → Option Value}, P.Nodup → P[i]? = some x → vs[i]? = some v → kindOf x = some .local →
    bindL kindOf (P.zip vs) m x = some v
  | [], _, _, _, _, h, _, _ => by simp at h
  | _ :: _, [], _, _, _, _, h, _ => by simp at h
  | p :: P, w :: vs, 0, m, nd, h1, h2, hk => by
    simp at h1 h2; subst h1; subst h2
    show bindL kindOf ((p, w) :: P.zip vs) m p = _
    unfold bindL
    rw [bindL_out fun v hv => (List.nodup_cons.mp nd).1 (List.of_mem_zip hv).1, if_pos hk]
    simp
  | p :: P, w :: vs, i + 1, m, nd, h1, h2, hk => by
    show bindL kindOf ((p, w) :: P.zip vs) m x = _
    unfold bindL
    exact bindL_get (i := i) (List.nodup_cons.mp nd).2 (by simpa using h1) (by simpa using h2) hk
theorem bindC_get {kindOf : Str → Option NameKind} {x : Str} {v : Value} : ∀ {P : List Str} {vs : List Value} {i : Nat} {m : Str → Option Value}, P.Nodup → P[i]? = some x → vs[i]? = some v → kindOf x ≠ some .local →
    bindC kindOf (P.zip vs) m x = some v
  | [], _, _, _, _, h, _, _ => by simp at h
  | _ :: _, [], _, _, _, _, h, _ => by simp at h
  | p :: P, w :: vs, 0, m, nd, h1, h2, hk => by
    simp at h1 h2; subst h1; subst h2
    show bindC kindOf ((p, w) :: P.zip vs) m p = _
    unfold bindC
    rw [bindC_out fun v hv => (List.nodup_cons.mp nd).1 (List.of_mem_zip hv).1, if_neg hk]
    simp
  | p :: P, w :: vs, i + 1, m, nd, h1, h2, hk => by
    show bindC kindOf ((p, w) :: P.zip vs) m x = _
    unfold bindC
    exact bindC_get (i := i) (List.nodup_cons.mp nd).2 (by simpa using h1) (by simpa using h2) hk
/-- the names' values at the entry -/
def start (N : List Str) (vs : List V) : St := vs.map some ++ List.replicate (N.length - vs.length) none
/-- the context of a def's body, at its entry; an exception leaves the frame, then lies as CX says -/
def cxOf (CX : CXT) (P : Program) (w : World) (K : PySem.W.Frag) (mg : Str → Option Value) (base : Heap) (N : List Str) (qual : Str) (scope : Scope) (f : Addr) (cd : Value) (A : Around) (outer : List Env) (s : Shared) (H : Hp) (E : XK) : Cx where
  prog := P
  w := w
  K := K
  mg := mg
  base := base
  A := A.deeper (envOfC qual scope s.heap.objs.size f cd)
  N := N
  s₀ := s
  H₀ := H
  env := envOfC qual scope s.heap.objs.size f cd
  outer := outer
  stack := envOfC qual scope s.heap.objs.size f cd :: outer
  ex := []
  calm := true
  fn := fun _ => true
  pn := []
  xe := fun e s' => wpAny (model P w) (A.deeper (envOfC qual scope s.heap.objs.size f cd)) (leaving (envOfC qual scope s.heap.objs.size f cd) e) (fun _ s'' => CX outer H s E e s'') (fun e' s'' => CX outer H s E e' s'') s'
theorem cell_has {sc : Scope} {n : Nat} {x : Str} (h : sc.names.lookup x = some .cell) : ∃ c, (cellsFrom n sc.names []).lookup x = some c := by
  have q := PySem.W.cellsFrom_some sc.names n [] (.inl h)
  exact Option.isSome_iff_exists.mp q
theorem inv_start {CX : CXT} {P : Program} {w : World} {K : PySem.W.Frag} {mg : Str → Option Value} {base : Heap} {N ps : List Str} {qual : Str} {scope : Scope} {f : Addr} {cd : Value} {A : Around} {outer : List Env} {s s1 : Shared} {H : Hp} {E : XK} {us : List Value} {vs : List V}
    (S : FnScope N ps scope) (hd : A.handled = none) (e0 : Env0 P w K mg base A outer s H) (hl : vs.length = ps.length) (r : Vals vs us)
    (x : InCallC s s.heap.objs.size (bindL (envOfC qual scope s.heap.objs.size f cd).kindOf (ps.zip us) fun _ => none) (cellsFrom (s.heap.objs.size + 1) scope.names []) (bindC (envOfC qual scope s.heap.objs.size f cd).kindOf (ps.zip us) fun _ => none) s1) :
    Inv (cxOf CX P w K mg base N qual scope f cd A outer s H E) [] (start N vs) H s1 := by
  have hpl : ps.length ≤ N.length := by have := congrArg List.length S.pre; rw [List.length_take] at this; omega
  obtain ⟨h1, tk, rfl, hk⟩ := x.done
  have noA : ∀ b : Addr, b ∉ (cxOf CX P w K mg base N qual scope f cd A outer s H E).ex := fun b z => absurd (show b ∈ ([] : List Addr) from z) (by simp)
  refine ⟨⟨e0.mod, S.kind, rfl, rfl, Nat.le_refl _, fun y z c h1 h2 => ?_, fun y hy => ?_, fun y c _ h => ?_, fun _ => hd, Around.frames_deeper e0.frames, .inr ⟨rfl, rfl⟩, fun b z => absurd z (noA b), e0.bs, e0.bsz, fun b _ _ => noA b, fun b z => absurd z (noA b), e0.funs, e0.frf⟩,
    rfl, e0.bare, Un.kept hk, ⟨_, x.toInCall.ns, fun i y v h1 h2 h3 => ?_⟩, fun y c h => ⟨_, x.cell y c h⟩, e0.hok.fresh (Nat.le_refl _), fun y c h => ?_, fun p hp => absurd (show p ∈ ([] : List (Addr × Obj)) from hp) (by simp), e0.hok.kept hk, ?_⟩
  · exact name_of_addr x.apart (PySem.mem_of_lookup h1) (PySem.mem_of_lookup h2)
  · have hy : scope.names.lookup y = some .cell ∨ scope.names.lookup y = some .free := hy
    rcases hy with hy | hy
    · exact cell_has hy
    · exact absurd rfl (S.nofree _ (PySem.mem_of_lookup hy))
  · exact Nat.le_of_lt (x.above y c (PySem.mem_of_lookup h))
  · have hi : i < vs.length := by
      unfold start at h2
      by_cases hi : i < vs.length
      · exact hi
      · rw [List.getElem?_append_right (by simpa using hi)] at h2
        rw [List.getElem?_replicate] at h2
        split at h2 <;> cases h2
    have ha : vs[i]? = some v := by
      unfold start at h2
      rw [List.getElem?_append_left (by simpa using hi), List.getElem?_map] at h2
      cases e : vs[i]? with
      | none => rw [e] at h2; cases h2
      | some a => rw [e] at h2; cases h2; rfl
    obtain ⟨u, hu, rv⟩ := r.get ha
    have hp : ps[i]? = some y := by
      rw [← S.pre, List.getElem?_take_of_lt (by omega)]; exact h1
    have ndP : ps.Nodup := by rw [← S.pre]; exact S.nd.sublist (List.take_sublist _ _)
    refine ⟨u, rv, ?_⟩
    rcases S.par y (List.mem_of_getElem? hp) with k | k
    · exact .inl ⟨k, bindL_get ndP hp hu k⟩
    · obtain ⟨c, e⟩ := cell_has (n := s.heap.objs.size + 1) k
      refine .inr ⟨.inl k, c, e, ?_⟩
      have q := x.cell y c e
      rw [bindC_get ndP hp hu (by show scope.names.lookup y ≠ _; rw [k]; decide)] at q
      exact q
  · exact e0.hok.fresh (Nat.le_of_lt (x.above y c (PySem.mem_of_lookup h)))
  · unfold start
    show _ = N.length
    rw [List.length_append, List.length_map, List.length_replicate]
    omega
/-- THE RULE: a def (or a method) of the text, by its body. The body's reading t is chosen for each entry; it is run at the parameters' values -/
theorem fn_of {CX : CXT} {P : Program} {w : World} {K : PySem.W.Frag} {mg : Str → Option Value} {base : Heap} {k : Nat} {f : Addr} {name qual : Str} {params : Arguments} {body : List Stmt} {scope : Scope} {dV kV doc pm cdv ct oc : Value} {an od : Option Addr}
    {osl : Array (Option Value)} {N ps : List Str} {sp : Sp} (lk : K.lookup f = some ⟨oc, od, .func (PySem.W.fnOf name qual params body scope dV kV doc pm an cdv ct), osl⟩) (hcd : PySem.W.codeIn K cdv qual = true) (S : FnScope N ps scope)
    (len : ∀ vs H Q E, sp vs H Q E → vs.length = ps.length)
    (hbody : ∀ (A : Around) (outer : List Env) (s : Shared) (H : Hp) (vs : List V) (Q : VK) (E : XK), Room k (A.deeper (envOfC qual scope s.heap.objs.size f cdv)) → sp vs H Q E →
      ∃ t, PSs (cxOf CX P w K mg base N qual scope f cdv A outer s H E) body t ∧ t { nx := fun _ H' => Q .non H', rt := Q } (start N vs) H) :
    FnOk P w K mg base CX (k + 1) f (PySem.W.fnOf name qual params body scope dV kV doc pm an cdv ct) ps sp := by
  refine ⟨len, fun A outer s H args us vs Q E hr e0 hb r hsp => ?_⟩
  have hl := len _ _ _ _ hsp
  have KX : K.In s.heap := e0.mod.kin.keeps fun b o e => (e0.bs b o e).1
  have lim : s.heap.NoLimit := e0.mod.nolimit.keeps fun b o e => (e0.bs b o e).1
  have hkind : ∀ y ∈ ps.zip us, scope.names.lookup y.1 = some .local ∨ (scope.names.lookup y.1 = some .cell ∧ ((cellsFrom (s.heap.objs.size + 1) scope.names []).lookup y.1).isSome = true) := fun ⟨n, v⟩ hy => by
    rcases S.par n (List.of_mem_zip hy).1 with q | q
    · exact .inl q
    · exact .inr ⟨q, PySem.W.cellsFrom_some _ _ _ (.inl q)⟩
  refine codeAny_call_function hr.depth (KX _ _ lk) rfl S.co S.gen rfl (PySem.W.codeRec_of KX hcd) (hb _ _ _ _ ?_)
  refine wpAny_newFunctionEnv_cells S.kind hkind fun env he s1 x => ?_
  subst he
  refine ⟨lim.keeps x.toInCall.keep, codeAny_func ?_⟩
  obtain ⟨t, ht, hq⟩ := hbody A outer s H vs Q E (hr.deeper _) hsp
  have I : Inv (cxOf CX P w K mg base N qual scope f cdv A outer s H E) [] (start N vs) H s1 := inv_start S hr.hd e0 hl r x
  refine wpAny_mono (ht [] s1 (start N vs) H _ I hq) (fun fl s' hs => ?_) fun e s' hs => hs
  have fin : ∀ {σ' : St} {H' : Hp} {v : V} {u : Value}, Inv (cxOf CX P w K mg base N qual scope f cdv A outer s H E) [] σ' H' s' → RelV v u → Q v H' → CE outer P w H s Q u s' :=
    fun {σ' H' v u} J rv q => ⟨v, H', J.os, J.bare, J.base, J.hok, rv, q⟩
  cases fl with
  | ret u =>
    obtain ⟨v, σ', H', J, rv, q⟩ := hs
    exact fin J rv q
  | next =>
    obtain ⟨σ', H', J, q⟩ := hs
    exact fin (v := V.non) (u := Value.none) J rfl q
  | brk =>
    obtain ⟨_, _, _, q⟩ := hs
    exact False.elim q
  | cont =>
    obtain ⟨_, _, _, q⟩ := hs
    exact False.elim q
end L2
namespace L2
open PySem PySem.Spec PyProof.Rows
section
variable {X : Cx} {x : Str} {p pos : Pos} {e : Expr} {es : List Expr} {t : TA} {id T : String} {r : List V → Hp → VK → Prop}
def tCB (r : List V → Hp → VK → Prop) (t : TA) : TE := fun σ H Q => t σ H fun vs H1 => r vs H1 Q
/-- f(e, ..), f a built-in function -/
theorem pe_callB (hc : CallR X (.builtin id) r) (hg : Gl X x) (hm : X.mg x = none) (hv : bootBuiltins x = some (.builtin id)) (ha : PA X (e :: es) t) (hn : x ≠ "__name__" := by decide) (hdb : (x == ("__debug__" : Str)) = false := by decide)
    (he : starEach (e :: es) X.env = (false, eval e X.env) :: starEach es X.env := by rfl) (hpl : (backTo pos (starEach es X.env)).any (·.1) = false := by rfl) : PE X (.Call (.Name x p) (e :: es) [] pos) (tCB r t) := by
  intro pins s σ H Q I h
  refine wpAny_Call_Name_kw (ld_blt I hg hm hv ?_ hn hdb)
  exact PyProof.Rows.callWith_builtin1 (thn (ha pos pins s σ H _ I h) fun us s1 ⟨vs, H1, I1, r1, q1⟩ => hc pins s1 σ H1 vs us Q I1 r1 q1) he hpl
/-- T(e, ..), T a built-in type -/
theorem pe_callTy (hc : CallR X (.type T) r) (hg : Gl X x) (hm : X.mg x = none) (hv : bootBuiltins x = some (.type T)) (ha : PA X (e :: es) t) (hn : x ≠ "__name__" := by decide) (hdb : (x == ("__debug__" : Str)) = false := by decide)
    (he : starEach (e :: es) X.env = (false, eval e X.env) :: starEach es X.env := by rfl) (hpl : (backTo pos (starEach es X.env)).any (·.1) = false := by rfl) : PE X (.Call (.Name x p) (e :: es) [] pos) (tCB r t) := by
  intro pins s σ H Q I h
  refine wpAny_Call_Name_kw (ld_blt I hg hm hv ?_ hn hdb)
  exact PyProof.Rows.callWith_type1 (thn (ha pos pins s σ H _ I h) fun us s1 ⟨vs, H1, I1, r1, q1⟩ => hc pins s1 σ H1 vs us Q I1 r1 q1) he hpl
end
end L2
namespace HT
open PySem PyProof.Rows
/-- t < u of tuples of ints -/
def lexLt : List Int → List Int → Bool
  | [], [] => false
  | [], _ :: _ => true
  | _ :: _, [] => false
  | x :: xs, y :: ys => if x = y then lexLt xs ys else decide (x < y)
theorem eqAt_int (A : Around) (s : Shared) (a : Int) (t : Tok) (c : Int) (u : Tok) : ∃ e, SeqAt.EqAt A s (.int a t) (.int c u) e ∧ (e = true ↔ a = c) :=
  ⟨(a == c), SeqAt.EqAt.int_int a t c u, by simp⟩
section
open PySem.SeqAt
open PySem.AutoSeq1 (wpAny_loadPart')
open PySem.MeetsSeq PySem.MeetsSeq2 PySem.MeetsSeq3
end
section
variable {prog : Program} {w : World} {A : Around} {E : Value → Shared → Prop} {s : Shared}
/-- t + u, t not empty -/
theorem cat_tup {t b : Addr} {vs ws : List Value} {Q : Value → Shared → Prop} (ht : IsTup s.heap t vs.toArray) (hb : IsTup s.heap b ws.toArray) (hv : vs ≠ [])
    (h1 : ws = [] → Q (.ref t) s) (h2 : ws ≠ [] → Q (.ref s.heap.objs.size) { s with heap := s.heap.push { cls := .type "tuple", data := .seq (vs ++ ws).toArray } })
    (hsz : vs.length + ws.length ≤ sizeLine) : wpAny (model prog w) A (binaryOp .Add (.ref t) (.ref b)) Q E s := by
  obtain ⟨⟨cls, dd, data, sl⟩, ho, hc, n, hd⟩ := id ht
  obtain ⟨⟨cls2, dd2, data2, sl2⟩, ho2, hc2, n2, hd2⟩ := id hb
  simp only at hc hd hc2 hd2
  subst hc hd hc2 hd2
  have e : vs.toArray ++ ws.toArray = (vs ++ ws).toArray := by simp
  by_cases hw : ws = []
  · exact concat_meets ⟨_, ho, rfl⟩ ⟨_, ho2, rfl⟩ noFill_tuple_add seq_tuple_add PySem.F.slot_tuple_add PySem.F.entry_tuple_add (PySem.F.args_tuple_add_2 _ _)
      (tuple_addW1 t b vs.toArray ws.toArray n n2 dd dd2 sl sl2 (by simpa using hv) (by simp [hw])) ⟨ho, ho2, h1 hw⟩
  · refine concat_meets ⟨_, ho, rfl⟩ ⟨_, ho2, rfl⟩ noFill_tuple_add seq_tuple_add PySem.F.slot_tuple_add PySem.F.entry_tuple_add (PySem.F.args_tuple_add_2 _ _)
      (tuple_addW2 t b vs.toArray ws.toArray n n2 dd dd2 sl sl2 (by simpa using hv) (by simpa using hw) (by rw [List.size_toArray, List.size_toArray]; exact hsz)) ⟨ho, ho2, ?_⟩
    rw [e]
    exact h2 hw
/-! ### t[a:b], not the whole -/
/-- a slice's bound as a place among n (d where it is left out) -/
def sIx (n d : Nat) : Option Int → Nat
  | none => d
  | some v => if v < 0 then (v + (n : Int)).toNat else min v.toNat n
theorem sIx_le (n d : Nat) (hd : d ≤ n) (o : Option Int) : sIx n d o ≤ n := by
  cases o with
  | none => exact hd
  | some v =>
    show (if v < 0 then (v + (n : Int)).toNat else min v.toNat n) ≤ n
    by_cases hv : v < 0
    · rw [if_pos hv]; omega
    · rw [if_neg hv]; exact Nat.min_le_right _ _
theorem clip_eq (v : Int) (n d : Nat) : (if v < 0 then max (v + (n : Int)) 0 else min v (n : Int)) = ((sIx n d (some v) : Nat) : Int) := by
  show (if v < 0 then max (v + (n : Int)) 0 else min v (n : Int)) = (((if v < 0 then (v + (n : Int)).toNat else min v.toNat n) : Nat) : Int)
  by_cases hv : v < 0
  · simp only [if_pos hv]; omega
  · simp only [if_neg hv]; omega
theorem adjust_gen (lo hi : Option Int) (n : Nat) : Builtin.Slice.sliceAdjust lo hi 1 (n : Int) = (((sIx n 0 lo : Nat) : Int), ((sIx n n hi : Nat) : Int)) := by
  have h1 : ¬ ((1 : Int) < 0) := by omega
  unfold Builtin.Slice.sliceAdjust
  simp only [h1, if_false]
  refine Prod.ext ?_ ?_
  · cases lo with
    | none => rfl
    | some v => exact clip_eq v n 0
  · cases hi with
    | none => rfl
    | some v => exact clip_eq v n n
theorem places_gen (i j : Nat) : Builtin.Slice.slicePlaces (i : Int) (j : Int) 1 = j - i := by
  unfold Builtin.Slice.slicePlaces
  have h1 : (1 : Int) > 0 := by omega
  simp only [h1, if_true, Int.ediv_one]
  split <;> omega
theorem slicePart_ {v : Value} {o : Option Int} {Q : Option Int → Shared → Prop} (p : IsPart v o) (h : Q o s) : wpAny (model prog w) A (Builtin.Slice.slicePartIndex v) Q E s := by
  cases p with
  | none => exact slicePart_none h
  | int i t => exact slicePart_int h
theorem sliceApplied_gen {sl : Addr} {vl vu : Value} {lo hi : Option Int} {n : Nat} {Q : Int × Int × Nat → Shared → Prop} (hs : s.heap.IsSliceOf sl vl vu .none) (pl : IsPart vl lo) (pu : IsPart vu hi)
    (h : Q (((sIx n 0 lo : Nat) : Int), 1, sIx n n hi - sIx n 0 lo) s) : wpAny (model prog w) A (Builtin.Slice.sliceApplied (.ref sl) (pure (n : Int))) Q E s := by
  obtain ⟨os, hos, hcs, hds⟩ := id hs
  unfold Builtin.Slice.sliceApplied Builtin.Slice.sliceFields
  refine wpAny_bind (wpAny_bind (wpAny_field hos hds (x := vl) rfl (wpAny_bind (wpAny_field hos hds (x := vu) rfl (wpAny_bind (wpAny_field hos hds (x := .none) rfl (wpAny_pure ?_)))))))
  refine wpAny_bind (slicePart_none ?_)
  show wpAny _ _ (if ((1 : Int) == 0) = true then _ else _) _ _ s
  rw [if_neg (by decide)]
  refine wpAny_bind (slicePart_ pl (wpAny_bind (slicePart_ pu (wpAny_bind (wpAny_pure ?_)))))
  show wpAny _ _ (match Builtin.Slice.sliceAdjust lo hi 1 (n : Int) with | (lo, hi) => pure (lo, (1 : Int), Builtin.Slice.slicePlaces lo hi 1)) _ _ s
  rw [adjust_gen lo hi n]
  show wpAny _ _ (pure (((sIx n 0 lo : Nat) : Int), (1 : Int), Builtin.Slice.slicePlaces ((sIx n 0 lo : Nat) : Int) ((sIx n n hi : Nat) : Int) 1)) _ _ s
  rw [places_gen]
  exact wpAny_pure h
theorem pick_gen (xs : Array Value) (i k : Nat) : ((List.range k).filterMap fun (m : Nat) => xs[((i : Int) + (m : Int) * 1).toNat]?).toArray = ((xs.toList.drop i).take k).toArray := by
  have e : (fun (m : Nat) => xs[((i : Int) + (m : Int) * 1).toNat]?) = fun m => xs[i + m]? := by
    funext m
    have : ((i : Int) + (m : Int) * 1).toNat = i + m := by omega
    rw [this]
  rw [e]
  have := pick_run xs i k
  rw [List.filterMap_map] at this
  have e2 : ((fun x => xs[x]?) ∘ fun x => i + x) = fun m => xs[i + m]? := rfl
  rw [e2] at this
  rw [this]
theorem getItem_tuple_cut {t sl : Addr} {items : Array Value} {vl vu : Value} {lo hi : Option Int} {Q : Value → Shared → Prop} (ht : IsTup s.heap t items) (hs : s.heap.IsSliceOf sl vl vu .none) (pl : IsPart vl lo) (pu : IsPart vu hi)
    (hw : ¬ (sIx items.size 0 lo = 0 ∧ sIx items.size items.size hi = items.size))
    (h : Q (.ref s.heap.objs.size) { s with heap := s.heap.push { cls := .type "tuple", data := .seq ((items.toList.drop (sIx items.size 0 lo)).take (sIx items.size items.size hi - sIx items.size 0 lo)).toArray } })
    (hsz : items.size ≤ sizeLine) : wpAny (model prog w) A (getItem (.ref t) (.ref sl)) Q E s := by
  have htake : sizeOk (.seq ((items.toList.drop (sIx items.size 0 lo)).take (sIx items.size items.size hi - sIx items.size 0 lo)).toArray) := by
    show ((items.toList.drop (sIx items.size 0 lo)).take (sIx items.size items.size hi - sIx items.size 0 lo)).toArray.size ≤ sizeLine
    rw [List.size_toArray, List.length_take, List.length_drop, Array.length_toList]
    omega
  have hj : sIx items.size items.size hi ≤ items.size := sIx_le _ _ (Nat.le_refl _) hi
  obtain ⟨os, hos, hcs, hds⟩ := id hs
  have hTs : s.TypeIs (.ref sl) "slice" := ⟨os, hos, hcs⟩
  unfold getItem
  try with_reducible refine wpAny_holding ?_
  first | refine wpAny_bind (wpAny_pure ?_) | skip
  refine wpAny_bind (wpAny_sequenceKey ht.typeIs (by decide) ?_)
  refine wpAny_bind (wpAny_callSpecial?_slot (name := Str.ofString "__getitem__") ht.typeIs PyProof.Rows.slot_tuple_getitem
    (wpAny_call_entry PyProof.Rows.slot_tuple_getitem ht.typeIs entry_tuple_getitem ?_ (args_tuple_getitem _ _)))
  show wpAny _ _ (Builtin.Tuple.tupleItemsOf (.ref t) >>= _) _ _ s
  refine wpAny_bind (tupleItemsOf_ ht ?_)
  refine wpAny_bind (wpAny_typeOf hTs ?_)
  rw [if_pos (by decide)]
  refine wpAny_bind (sliceApplied_gen hs pl pu ?_)
  have hno : ¬ ((((sIx items.size 0 lo : Nat) : Int) == 0 && (1 : Int) == 1 && (sIx items.size items.size hi - sIx items.size 0 lo) == items.size) = true) := by
    intro q
    rw [Bool.and_eq_true, Bool.and_eq_true] at q
    have q1 : ((sIx items.size 0 lo : Nat) : Int) = 0 := eq_of_beq q.1.1
    have q2 : sIx items.size items.size hi - sIx items.size 0 lo = items.size := eq_of_beq q.2
    exact hw ⟨by omega, by omega⟩
  show wpAny _ _ (if (((sIx items.size 0 lo : Nat) : Int) == 0 && (1 : Int) == 1 && (sIx items.size items.size hi - sIx items.size 0 lo) == items.size) = true then _ else _) _ _ s
  rw [if_neg hno, pick_gen]
  first
    | exact wpAny_bind (m := Builtin.Tuple.tupleExact _) (wpAny_newObj_type (wpAny_pure ⟨_, rfl, wpAny_pure h⟩) htake)
    | exact wpAny_bind (m := Builtin.Tuple.tupleExact _) (wpAny_newObj_type (wpAny_bind (wpAny_pure (wpAny_pure ⟨_, rfl, wpAny_pure h⟩))) htake)
    | exact wpAny_bind (wpAny_bind (m := Builtin.Tuple.tupleExact _) (wpAny_newObj_type (wpAny_pure (wpAny_pure ⟨_, rfl, wpAny_pure h⟩)) htake))
    | exact wpAny_bind (wpAny_bind (m := Builtin.Tuple.tupleExact _) (wpAny_newObj_type (wpAny_pure ⟨_, rfl, wpAny_pure h⟩) htake))
end
end HT
namespace L2
open PySem PySem.Spec PyProof.Rows
/-! ### the parts of a slice -/
abbrev TO := St → Hp → (Option Int → Hp → Prop) → Prop
/-- a slice's part (left out, or an int) -/
def PO (X : Cx) (e : Option Expr) (t : TO) : Prop :=
  ∀ (pins : List (Addr × Obj)) (s : Shared) (σ : St) (H : Hp) (Q : Option Int → Hp → Prop), Inv X pins σ H s → t σ H Q →
    wpAny (model X.prog X.w) X.A (evalPart e X.env) (fun u s' => ∃ o H', Inv X pins σ H' s' ∧ IsPart u o ∧ Q o H') X.xe s
def tNoPart : TO := fun _ H Q => Q none H
def tPart (t : TE) : TO := fun σ H Q => t σ H fun x H1 => ∃ i, x = .int i ∧ Q (some i) H1
theorem intsAre_of {ns : List Int} : ∀ {us : List Value}, Vals (ns.map V.int) us → IntsAre us ns := by
  induction ns with
  | nil => intro us r; rw [List.map_nil] at r; cases r; exact .nil
  | cons n ns ih =>
    intro us r
    rw [List.map_cons] at r
    cases r with
    | cons r1 r2 =>
      obtain ⟨t, e⟩ := r1
      subst e
      exact .cons n t (ih r2)
section
variable {X : Cx} {e : Expr} {te : TE} {lo hi : Option Expr} {tl th : TO} {pos p2 : Pos}
theorem po_none : PO X none tNoPart := by
  intro pins s σ H Q I h
  rw [evalPart_none]
  exact wpAny_pure ⟨none, H, I, .none, h⟩
theorem po_some (h : PE X e te) : PO X (some e) (tPart te) := by
  intro pins s σ H Q I hw
  rw [evalPart_some]
  refine thn (h pins s σ H _ I hw) fun u s1 ⟨x, H1, I1, r1, q1⟩ => ?_
  obtain ⟨i, rfl, q⟩ := q1
  obtain ⟨t, rfl⟩ := r1
  exact ⟨some i, H1, I1, .int i t, q⟩
/-- what a slice of a value is, by values: the slice object stands at sl -/
def SlR (X : Cx) (r : V → Option Int → Option Int → Hp → VK → Prop) : Prop :=
  ∀ (pins : List (Addr × Obj)) (s : Shared) (σ : St) (H : Hp) (x : V) (v vl vu : Value) (lo hi : Option Int) (sl : Addr) (Q : VK), Inv X pins σ H s → RelV x v → s.heap.IsSliceOf sl vl vu .none → IsPart vl lo → IsPart vu hi → r x lo hi H Q →
    ∃ T id, typeLookup (.type T) "__getitem__" = pure (some (.builtin id)) ∧ s.TypeIs v T ∧ wpAny (model X.prog X.w) X.A (getItem v (.ref sl)) (EP X pins σ Q) X.xe s
theorem SlR.or {r r' : V → Option Int → Option Int → Hp → VK → Prop} (h : SlR X r) (h' : SlR X r') : SlR X (fun x lo hi H Q => r x lo hi H Q ∨ r' x lo hi H Q) := by
  intro pins s σ H x v vl vu lo hi sl Q I rx hs pl pu q
  rcases q with q | q
  · exact h pins s σ H x v vl vu lo hi sl Q I rx hs pl pu q
  · exact h' pins s σ H x v vl vu lo hi sl Q I rx hs pl pu q
def tSl (r : V → Option Int → Option Int → Hp → VK → Prop) (te : TE) (tl th : TO) : TE := fun σ H Q => te σ H fun x H1 => tl σ H1 fun l H2 => th σ H2 fun u H3 => r x l u H3 Q
/-- a[lo:hi], any a -/
theorem pe_slice {r : V → Option Int → Option Int → Hp → VK → Prop} (hr : SlR X r) (he : PE X e te) (hl : PO X lo tl) (hu : PO X hi th) : PE X (.Subscript e (.Slice lo hi none p2) pos) (tSl r te tl th) := by
  intro pins s σ H Q I h
  refine Subscript_ (thn (he pins s σ H _ I h) fun v s1 ⟨x, H1, I1, r1, q1⟩ => ?_)
  refine wpAny_Slice (thn (hl pins s1 σ H1 _ I1 q1) fun vl s2 ⟨l, H2, I2, pl, q2⟩ => thn (hu pins s2 σ H2 _ I2 q2) fun vu s3 ⟨u, H3, I3, pu, q3⟩ => ?_)
  rw [evalPart_none]
  refine wpAny_pure ?_
  have I4 : Inv X pins σ H3 { s3 with heap := s3.heap.push { cls := .type "slice", data := .fields #[vl, vu, .none] } } := I3.kept (t' := s3.toks) fun b ob q => Heap.get?_push_of_some _ q
  obtain ⟨T, id, hT, ht, hg⟩ := hr pins { s3 with heap := s3.heap.push { cls := .type "slice", data := .fields #[vl, vu, .none] } } σ H3 x v vl vu l u s3.heap.objs.size Q I4 r1 (Heap.IsSliceOf.new ..) pl pu q3
  show wpAny (model X.prog X.w) X.A (subscriptTail e (.Slice lo hi none p2) v (.ref s3.heap.objs.size)) (EP X pins σ Q) X.xe { s3 with heap := s3.heap.push { cls := .type "slice", data := .fields #[vl, vu, .none] } }
  exact tail_any (ops := [.ref s3.heap.objs.size, v]) ht hT hg (by with_unfolding_all rfl)
/-- the items of xs[lo:hi] -/
def cutV (xs : List V) (lo hi : Option Int) : List V := (xs.drop (HT.sIx xs.length 0 lo)).take (HT.sIx xs.length xs.length hi - HT.sIx xs.length 0 lo)
theorem cutV_length (xs : List V) (lo hi : Option Int) : (cutV xs lo hi).length ≤ xs.length := by
  unfold cutV
  rw [List.length_take, List.length_drop]
  omega
/-- t[lo:hi], not the whole of it (the whole would be t itself) -/
def rSlT (K : PySem.W.Frag) : V → Option Int → Option Int → Hp → VK → Prop := fun x lo hi H Q => ∃ a xs, x = .ref a ∧ SqT K H a xs ∧
  ¬ (HT.sIx xs.length 0 lo = 0 ∧ HT.sIx xs.length xs.length hi = xs.length) ∧ ∀ p, H p = none → Q (.ref p) (upd H p (.tup (cutV xs lo hi)))
theorem sl_tup : SlR X (rSlT X.K) := by
  intro pins s σ H x v vl vu lo hi sl Q I rx hs pl pu h
  obtain ⟨a, xs, rfl, hx, hw, q⟩ := h
  cases rx
  obtain ⟨its, r, ht, hz⟩ := I.tuple hx
  have hlen : its.toArray.size = xs.length := by rw [List.size_toArray]; exact r.length.symm
  refine ⟨"tuple", _, PyProof.Rows.slot_tuple_getitem.lookup, ht.typeIs, ?_⟩
  refine HT.getItem_tuple_cut ht hs pl pu (by rw [hlen]; exact hw) ?_ (by rw [hlen]; exact hz)
  rw [hlen]
  refine ⟨.ref s.heap.objs.size, _, I.laid (t' := s.toks) (o := .tup (cutV xs lo hi)) (fun b ob q => Heap.get?_push_of_some _ q) (Nat.le_refl _) ?_, rfl, q _ (I.hok.fresh (Nat.le_refl _))⟩
  exact ⟨Nat.le_trans (cutV_length xs lo hi) hz, _, (r.drop (HT.sIx xs.length 0 lo)).take (HT.sIx xs.length xs.length hi - HT.sIx xs.length 0 lo), IsTup.new _ _⟩
/-! ### t < u, t + u -/
/-- t + u, t not empty: u empty gives t itself -/
def rCatT (K : PySem.W.Frag) : R2 := fun x y H Q => ∃ a b xs ys, x = .ref a ∧ y = .ref b ∧ SqT K H a xs ∧ SqT K H b ys ∧ xs ≠ [] ∧ xs.length + ys.length ≤ sizeLine ∧
  (ys = [] → Q (.ref a) H) ∧ (ys ≠ [] → ∀ p, H p = none → Q (.ref p) (upd H p (.tup (xs ++ ys))))
theorem Vals.nil_iff {xs : List V} {us : List Value} (r : Vals xs us) : us = [] ↔ xs = [] := by
  cases r with
  | nil => simp
  | cons _ _ => simp
theorem op_catT : OpR X (binaryOp .Add) (rCatT X.K) := by
  intro pins s σ H x y v u Q I rx ry h
  obtain ⟨a, b, xs, ys, rfl, rfl, ha, hb, hx, hz, q1, q2⟩ := h
  cases rx
  cases ry
  obtain ⟨its, r1, p1, _⟩ := I.tuple ha
  obtain ⟨its2, r2, p2, _⟩ := I.tuple hb
  refine HT.cat_tup p1 p2 (fun z => hx (r1.nil_iff.mp z)) (fun z => ⟨.ref a, H, I, rfl, q1 (r2.nil_iff.mp z)⟩) (fun z => ?_) (by rw [← r1.length, ← r2.length]; exact hz)
  refine ⟨.ref s.heap.objs.size, _, I.laid (t' := s.toks) (o := .tup (xs ++ ys)) (fun b ob q => Heap.get?_push_of_some _ q) (Nat.le_refl _) ?_, rfl, q2 (fun w => z (r2.nil_iff.mpr w)) _ (I.hok.fresh (Nat.le_refl _))⟩
  exact ⟨by rw [List.length_append]; exact hz, _, r1.append r2, IsTup.new _ _⟩
end
end L2
namespace L2
open PySem PySem.Spec PyProof.Rows
/-! ### places -/
/-- the place that an index of any sign means -/
def ixN (n : Nat) (i : Int) : Option Nat := if 0 ≤ i then (if i < n then some i.toNat else none) else if -(n : Int) ≤ i then some (i + n).toNat else none
def atI {α : Type} (xs : List α) (i : Int) : Option α := (ixN xs.length i).bind fun j => xs[j]?
theorem ixN_seq {n : Nat} {i : Int} {j : Nat} (h : ixN n i = some j) : seqIndex? i n = some j ∧ j < n ∧ -(n : Int) ≤ i ∧ i < n := by
  unfold ixN at h
  by_cases h0 : 0 ≤ i
  · rw [if_pos h0] at h
    by_cases h1 : i < n
    · rw [if_pos h1] at h
      have e : i.toNat = j := Option.some.inj h
      exact ⟨by rw [seqIndex_of h0 h1, e], by omega, by omega, h1⟩
    · rw [if_neg h1] at h; cases h
  · rw [if_neg h0] at h
    by_cases h1 : -(n : Int) ≤ i
    · rw [if_pos h1] at h
      have e : (i + n).toNat = j := Option.some.inj h
      exact ⟨by rw [seqIndex_neg (by omega) h1, e], by omega, h1, by omega⟩
    · rw [if_neg h1] at h; cases h
theorem atI_get {α : Type} {xs : List α} {i : Int} {v : α} (h : atI xs i = some v) : ∃ j, seqIndex? i xs.length = some j ∧ xs[j]? = some v ∧ j < xs.length ∧ -(xs.length : Int) ≤ i ∧ i < xs.length := by
  unfold atI at h
  cases e : ixN xs.length i with
  | none => rw [e] at h; cases h
  | some j =>
    rw [e] at h
    obtain ⟨h1, h2, h3, h4⟩ := ixN_seq e
    exact ⟨j, h1, h, h2, h3, h4⟩
theorem atI_nat {α : Type} {xs : List α} {j : Nat} {v : α} (h : xs[j]? = some v) : atI xs (j : Int) = some v := by
  have hj : j < xs.length := (List.getElem?_eq_some_iff.mp h).1
  have e : ixN xs.length (j : Int) = some j := by
    unfold ixN
    rw [if_pos (by omega), if_pos (by omega)]; simp
  unfold atI; rw [e]; exact h
/-! ### what may be subscripted -/
/-- what stands as an index of a plain subscript -/
def PlainIx (b : Expr) : Prop := ∀ o i, subscripted b false o i = operate [o, i] (getItem o i)
/-- a subscript by values -/
def IxR (X : Cx) (r : R2) : Prop :=
  ∀ (value slice : Expr) (pins : List (Addr × Obj)) (s : Shared) (σ : St) (H : Hp) (x y : V) (v u : Value) (Q : VK), Inv X pins σ H s → RelV x v → RelV y u → r x y H Q →
    subscripted slice false v u = operate [v, u] (getItem v u) → wpAny (model X.prog X.w) X.A (subscriptTail value slice v u) (EP X pins σ Q) X.xe s
/-- a call of a builtin's method by values: the receiver, the arguments -/
def MtR (X : Cx) (id : String) (r : V → List V → Hp → VK → Prop) : Prop :=
  ∀ (pins : List (Addr × Obj)) (s : Shared) (σ : St) (H : Hp) (x : V) (xs : List V) (v : Value) (us : List Value) (Q : VK), Inv X pins σ H s → RelV x v → Vals xs us → r x xs H Q →
    wpAny (model X.prog X.w) X.A (call (.builtin id) (v :: us)) (EP X pins σ Q) X.xe s
section
variable {X : Cx} {a b : Expr} {ta tb : TE} {pos : Pos}
theorem IxR.or {r r' : R2} (h : IxR X r) (h' : IxR X r') : IxR X (fun x y H Q => r x y H Q ∨ r' x y H Q) := by
  intro value slice pins s σ H x y v u Q I rx ry q hs
  rcases q with q | q
  · exact h value slice pins s σ H x y v u Q I rx ry q hs
  · exact h' value slice pins s σ H x y v u Q I rx ry q hs
/-- a[b] -/
theorem pe_ix {r : R2} (hr : IxR X r) (ha : PE X a ta) (hb : PE X b tb) (hs : PlainIx b) : PE X (.Subscript a b pos) (tOp r ta tb) := by
  intro pins s σ H Q I h
  exact Subscript_ (binT ha hb I h fun v u s2 x y H2 I2 rx ry q => hr a b pins s2 σ H2 x y v u Q I2 rx ry q (hs _ _))
def rIxL (K : PySem.W.Frag) : R2 := fun x y H Q => ∃ p xs i v, x = .ref p ∧ y = .int i ∧ SqL K H p xs ∧ atI xs i = some v ∧ Q v H
def rIxT (K : PySem.W.Frag) : R2 := fun x y H Q => ∃ p xs i v, x = .ref p ∧ y = .int i ∧ SqT K H p xs ∧ atI xs i = some v ∧ Q v H
def rIxS : R2 := fun x y H Q => ∃ z i c, x = .str z ∧ y = .int i ∧ z.length ≤ sizeLine ∧ atI z.cps.toList i = some c ∧ Q (.str ⟨#[c]⟩) H
theorem ix_list : IxR X (rIxL X.K) := by
  intro value slice pins s σ H x y v u Q I rx ry h hs
  obtain ⟨p, xs, i, z, rfl, rfl, hq, he, q⟩ := h
  cases rx
  obtain ⟨t, rfl⟩ := ry
  obtain ⟨its, r, pl, hz⟩ := I.list hq
  obtain ⟨j, h1, h2, h3, h4, h5⟩ := atI_get he
  obtain ⟨w, ew, rw'⟩ := r.get h2
  have hl := r.length
  have hn := line63
  have fin : EP X pins σ Q w s := ⟨z, H, I, rw', q⟩
  by_cases h0 : 0 ≤ i
  · have hj : i.toNat = j := by
      rw [seqIndex_of h0 h5] at h1
      exact Option.some.inj h1
    exact item_listR pl.isList h0 (by omega) (by rw [hj]; simpa using ew) fin hs
  · have hj : (i + (its.toArray.size : Int)).toNat = j := by
      rw [seqIndex_neg (by omega) h4] at h1
      rw [List.size_toArray, ← hl]
      exact Option.some.inj h1
    exact subscriptTail_builtinR (x := w) pl.isList.typeIs slot_list_getitem.lookup
      (wpAny_getItem_list_neg (Q := fun r s' => r = w ∧ EP X pins σ Q r s') pl.isList (by omega) (by rw [List.size_toArray] <;> omega) (by omega) (by rw [hj]; simpa using ew) ⟨rfl, fin⟩) hs
theorem ix_tup : IxR X (rIxT X.K) := by
  intro value slice pins s σ H x y v u Q I rx ry h hs
  obtain ⟨p, xs, i, z, rfl, rfl, hq, he, q⟩ := h
  cases rx
  obtain ⟨t, rfl⟩ := ry
  obtain ⟨its, r, pl, hz⟩ := I.tuple hq
  obtain ⟨j, h1, h2, h3, h4, h5⟩ := atI_get he
  obtain ⟨w, ew, rw'⟩ := r.get h2
  have hl := r.length
  have hn := line63
  have fin : EP X pins σ Q w s := ⟨z, H, I, rw', q⟩
  exact subscriptTail_builtinR (x := w) pl.typeIs slot_tuple_getitem.lookup
    (getItem_tuple (j := j) (Q := fun r s' => r = w ∧ EP X pins σ Q r s') pl (by omega) (by omega) (by rw [List.size_toArray, ← hl]; exact h1) (by simpa using ew) ⟨rfl, fin⟩) hs
theorem ix_str : IxR X rIxS := by
  intro value slice pins s σ H x y v u Q I rx ry h hs
  obtain ⟨z, i, c, rfl, rfl, hz, he, q⟩ := h
  obtain ⟨t, rfl⟩ := rx
  obtain ⟨t', rfl⟩ := ry
  obtain ⟨j, h1, h2, h3, h4, h5⟩ := atI_get he
  have hl : z.cps.toList.length = z.length := by simp [Str.length]
  rw [hl] at h1 h4 h5
  have hn := line63
  exact tail_any (typeIs_str s z t) slot_str_getitem.lookup (getItem_str (c := c) (by
    have e1 : decide (i < -(2 ^ 63 : Int)) = false := decide_eq_false (by omega)
    have e2 : decide (i ≥ 2 ^ 63) = false := decide_eq_false (by omega)
    rw [e1, e2, Bool.or_false]) (by rw [h1]; simpa using h2) ⟨.str ⟨#[c]⟩, H, I.tok _, ⟨_, rfl⟩, q⟩) hs
/-- list, tuple or str -/
def rIx (K : PySem.W.Frag) : R2 := fun x y H Q => rIxL K x y H Q ∨ rIxT K x y H Q ∨ rIxS x y H Q
theorem ix_seq : IxR X (rIx X.K) := ix_list.or (ix_tup.or ix_str)
/-! ### xs[i] = v, any sign -/
theorem Inv.lst {pins : List (Addr × Obj)} {σ : St} {H : Hp} {s : Shared} {p : Addr} {xs : List V} (I : Inv X pins σ H s) (h : H p = some (.lst xs)) :
    ∃ (its : List Value) (n : Nat), Vals xs its ∧ s.heap.get? p = some { cls := .type "list", data := .seq its.toArray n } ∧ xs.length ≤ sizeLine := by
  obtain ⟨z, its, n, r, e⟩ := I.hok p _ h
  exact ⟨its, n, r, e, z⟩
/-! ### slices -/
theorem slice_bounds (lo hi : Option Int) (n : Nat) : (sliceBounds lo hi none n).1 = ((HT.sIx n 0 lo : Nat) : Int) ∧ (sliceBounds lo hi none n).2.1 = ((HT.sIx n n hi : Nat) : Int) ∧ (sliceBounds lo hi none n).2.2 = 1 := by
  refine ⟨?_, ?_, rfl⟩
  · cases lo with
    | none => simp [sliceBounds, HT.sIx]
    | some i =>
      simp only [sliceBounds, HT.sIx, Option.getD_none, show (1 : Int) > 0 by decide, if_true]
      by_cases h : i < 0
      · simp only [h, if_true] <;> omega
      · simp only [h, if_false] <;> omega
  · cases hi with
    | none => simp [sliceBounds, HT.sIx]
    | some i =>
      simp only [sliceBounds, HT.sIx, Option.getD_none, show (1 : Int) > 0 by decide, if_true]
      by_cases h : i < 0
      · simp only [h, if_true] <;> omega
      · simp only [h, if_false] <;> omega
theorem slicePick_cut (its : List Value) (lo hi : Option Int) : slicePick its.toArray lo hi none = ((its.drop (HT.sIx its.length 0 lo)).take (HT.sIx its.length its.length hi - HT.sIx its.length 0 lo)).toArray := by
  obtain ⟨h1, h2, h3⟩ := slice_bounds lo hi its.toArray.size
  unfold slicePick
  rw [h1, h2, h3]
  simp only [sliceRange_one, pick_run, List.size_toArray] <;> rfl
/-- xs[lo:hi] of a list: a new list -/
def rSlL (K : PySem.W.Frag) : V → Option Int → Option Int → Hp → VK → Prop := fun x lo hi H Q => ∃ a xs, x = .ref a ∧ SqL K H a xs ∧ ∀ p, H p = none → Q (.ref p) (upd H p (.lst (cutV xs lo hi)))
theorem sl_list : SlR X (rSlL X.K) := by
  intro pins s σ H x v vl vu lo hi sl Q I rx hs pl pu h
  obtain ⟨a, xs, rfl, hx, q⟩ := h
  cases rx
  obtain ⟨its, r, ht, hz⟩ := I.list hx
  have hlen := r.length
  refine ⟨"list", _, slot_list_getitem.lookup, ht.isList.typeIs, ?_⟩
  refine wpAny_getItem_list_slice ht.isList hs pl pu .none (by simp) ?_ (by rw [List.size_toArray] <;> omega)
  rw [slicePick_cut, ← hlen]
  refine ⟨.ref s.heap.objs.size, _, I.laid (t' := s.toks) (o := .lst (cutV xs lo hi)) (fun b ob q => Heap.get?_push_of_some _ q) (Nat.le_refl _) ?_, rfl, q _ (I.hok.fresh (Nat.le_refl _))⟩
  exact ⟨Nat.le_trans (cutV_length xs lo hi) hz, _, 0, (r.drop (HT.sIx xs.length 0 lo)).take (HT.sIx xs.length xs.length hi - HT.sIx xs.length 0 lo), Heap.get?_push_size _ rfl⟩
/-! ### in, not in: flat items -/
def flatV : V → Bool
  | .non => true
  | .bl _ => true
  | .int _ => true
  | .str _ => true
  | _ => false
/-- == of flat values -/
def eqV : V → V → Bool
  | .non, .non => true
  | .bl a, .bl b => a == b
  | .bl a, .int b => (if a then 1 else 0) == b
  | .int a, .bl b => a == (if b then 1 else 0)
  | .int a, .int b => a == b
  | .str a, .str b => a == b
  | _, _ => false
theorem eqAt_V {A : Around} {s : Shared} {y x : V} {u v : Value} (ry : RelV y u) (rx : RelV x v) (fy : flatV y = true) (fx : flatV x = true) : SeqAt.EqAt A s u v (eqV y x) := by
  cases y with
  | non =>
    cases ry
    cases x with
    | non => cases rx; exact SeqAt.EqAt.same _
    | bl b => cases rx; exact SeqAt.EqAt.none_bool b
    | int b => obtain ⟨t, rfl⟩ := rx; exact SeqAt.EqAt.none_int b t
    | str b => obtain ⟨t, rfl⟩ := rx; exact SeqAt.EqAt.none_str b t
    | _ => exact absurd (show false = true from fx) Bool.false_ne_true
  | bl a =>
    cases ry
    cases x with
    | non => cases rx; exact SeqAt.EqAt.bool_none a
    | bl b => cases rx; exact SeqAt.EqAt.bool_bool a b
    | int b => obtain ⟨t, rfl⟩ := rx; exact SeqAt.EqAt.bool_int a b t
    | str b => obtain ⟨t, rfl⟩ := rx; exact SeqAt.EqAt.bool_str a b t
    | _ => exact absurd (show false = true from fx) Bool.false_ne_true
  | int a =>
    obtain ⟨t', rfl⟩ := ry
    cases x with
    | non => cases rx; exact SeqAt.EqAt.int_none a t'
    | bl b => cases rx; exact SeqAt.EqAt.int_bool a t' b
    | int b => obtain ⟨t, rfl⟩ := rx; exact SeqAt.EqAt.int_int a t' b t
    | str b => obtain ⟨t, rfl⟩ := rx; exact SeqAt.EqAt.int_str a t' b t
    | _ => exact absurd (show false = true from fx) Bool.false_ne_true
  | str a =>
    obtain ⟨t', rfl⟩ := ry
    cases x with
    | non => cases rx; exact SeqAt.EqAt.str_none a t'
    | bl b => cases rx; exact SeqAt.EqAt.str_bool a t' b
    | int b => obtain ⟨t, rfl⟩ := rx; exact SeqAt.EqAt.str_int a t' b t
    | str b => obtain ⟨t, rfl⟩ := rx; exact SeqAt.EqAt.str_str a t' b t
    | _ => exact absurd (show false = true from fx) Bool.false_ne_true
  | _ => exact absurd (show false = true from fy) Bool.false_ne_true
/-- the items' answers, read off the values (a value's own answer does not lean on its token) -/
def eqU (x : V) (u : Value) : Bool := match u with
  | .none => eqV .non x
  | .bool b => eqV (.bl b) x
  | .int i _ => eqV (.int i) x
  | .str z _ => eqV (.str z) x
  | _ => false
def inV (x : V) (xs : List V) : Bool := xs.any fun y => eqV y x
/-- x in a list or tuple of flat items -/
def rIn (K : PySem.W.Frag) (neg : Bool) : R2 := fun x y H Q => ∃ p xs, y = .ref p ∧ (SqL K H p xs ∨ SqT K H p xs) ∧ flatV x = true ∧ xs.all flatV = true ∧ Q (.bl (if neg then !inV x xs else inV x xs)) H
/-! ### len, list(x), tuple(x) of any list or tuple that is read -/
theorem call_len_seq : CallR X (.builtin "len") (fun xs H Q => ∃ p ys, xs = [.ref p] ∧ (SqL X.K H p ys ∨ SqT X.K H p ys) ∧ Q (.int ys.length) H) := by
  intro pins s σ H xs us Q I r h
  obtain ⟨p, ys, rfl, hq, q⟩ := h
  obtain ⟨u, rfl, rx⟩ := vals1 r
  cases rx
  have hn := line63
  rcases hq with hq | hq
  · obtain ⟨its, r', pl, hz⟩ := I.list hq
    have hlen := r'.length
    exact Calls.call_len_list pl.isList (by simp only [List.size_toArray] <;> omega) ⟨.int ys.length, H, I.tok _, ⟨s.toks + 1, by rw [List.size_toArray, hlen]⟩, q⟩
  · obtain ⟨its, r', pl, hz⟩ := I.tuple hq
    have hlen := r'.length
    exact len_tuple pl (by simp only [List.size_toArray] <;> omega) ⟨.int ys.length, H, I.tok _, ⟨s.toks + 1, by rw [List.size_toArray, hlen]⟩, q⟩
theorem call_len_str : CallR X (.builtin "len") (fun xs H Q => ∃ z, xs = [.str z] ∧ z.length ≤ sizeLine ∧ Q (.int z.length) H) := by
  intro pins s σ H xs us Q I r h
  obtain ⟨z, rfl, hz, q⟩ := h
  obtain ⟨u, rfl, t, rfl⟩ := vals1 r
  have hn := line63
  exact len_str (by omega) ⟨.int z.length, H, I.tok _, ⟨_, rfl⟩, q⟩
theorem CallR.or {f : Value} {r r' : List V → Hp → VK → Prop} (h : CallR X f r) (h' : CallR X f r') : CallR X f (fun xs H Q => r xs H Q ∨ r' xs H Q) := by
  intro pins s σ H xs us Q I rs q
  rcases q with q | q
  · exact h pins s σ H xs us Q I rs q
  · exact h' pins s σ H xs us Q I rs q
theorem call_list_of : CallR X (.type "list") (fun xs H Q => ∃ p ys, xs = [.ref p] ∧ (SqL X.K H p ys ∨ SqT X.K H p ys) ∧ ∀ l, H l = none → Q (.ref l) (upd H l (.lst ys))) := by
  intro pins s σ H xs us Q I r h
  obtain ⟨p, ys, rfl, hq, q⟩ := h
  obtain ⟨u, rfl, rx⟩ := vals1 r
  cases rx
  have fin : ∀ (its : List Value), Vals ys its → ys.length ≤ sizeLine → ∀ (h' : Heap) (c' : Nat), (∀ b o', s.heap.get? b = some o' → h'.get? b = some o') →
      h'.get? s.heap.objs.size = some { cls := .type "list", dict := none, data := .seq its.toArray c', slots := #[] } → EP X pins σ Q (.ref s.heap.objs.size) { s with heap := h' } := fun its r' hz h' c' kp e =>
    ⟨.ref s.heap.objs.size, _, I.laid (t' := s.toks) kp (Nat.le_refl _) (show ObjOk X.prog X.w _ h' _ (.lst ys) from ⟨hz, its, c', r', e⟩), rfl, q _ (I.hok.fresh (Nat.le_refl _))⟩
  rcases hq with hq | hq
  · obtain ⟨its, r', pl, hz⟩ := I.list hq
    have hlen := r'.length
    obtain ⟨o, ho, hc, n, hd⟩ := pl.isList
    exact call_list_seq p (.inl rfl) ho hc hd (fun h' c' kp e => fin its r' hz h' c' kp e) (by simp only [List.size_toArray] <;> omega)
  · obtain ⟨its, r', pl, hz⟩ := I.tuple hq
    have hlen := r'.length
    obtain ⟨o, ho, hc, n, hd⟩ := pl
    exact call_list_seq p (.inr rfl) ho hc hd (fun h' c' kp e => fin its r' hz h' c' kp e) (by simp only [List.size_toArray] <;> omega)
/-! ### the call of a builtin's method: o.m(..) -/
/-- the value is of that builtin type -/
def tyV (K : PySem.W.Frag) (T : String) (x : V) (H : Hp) : Prop := match x with
  | .str _ => T = "str"
  | .int _ => T = "int"
  | .ref p => (T = "list" ∧ ∃ xs, SqL K H p xs) ∨ (T = "tuple" ∧ ∃ o, K.lookup p = some o ∧ o.cls = .type "tuple" ∧ o.dict = none) ∨
      (T = "dict" ∧ ((∃ kvs, H p = some (.dK kvs)) ∨ ∃ kvs, H p = some (.dT kvs))) ∨ (T = "set" ∧ ∃ S n, H p = some (.set S n))
  | _ => False
theorem tyV_is {pins : List (Addr × Obj)} {σ : St} {H : Hp} {s : Shared} {T : String} {x : V} {v : Value} (I : Inv X pins σ H s) (r : RelV x v) (ty : tyV X.K T x H) :
    s.TypeIs v T ∧ ∀ a, v = .ref a → ∃ ob, s.heap.get? a = some ob ∧ ob.dict = none := by
  cases x with
  | str z =>
    obtain ⟨t, rfl⟩ := r
    cases (show T = "str" from ty)
    exact ⟨typeIs_str s z t, fun _ e => nomatch e⟩
  | int i =>
    obtain ⟨t, rfl⟩ := r
    cases (show T = "int" from ty)
    exact ⟨typeIs_int s i t, fun _ e => nomatch e⟩
  | ref p =>
    cases r
    rcases ty with ⟨rfl, xs, hq⟩ | ⟨rfl, o, hk, hc, hd⟩ | ⟨rfl, hk⟩ | ⟨rfl, S, n, hk⟩
    · obtain ⟨its, _, pl, _⟩ := I.list hq
      refine ⟨pl.isList.typeIs, fun a e => ?_⟩
      cases e
      obtain ⟨o, n, e, c, hd, _⟩ := pl
      exact ⟨o, e, hd⟩
    · refine ⟨⟨o, I.kIn p o hk, hc⟩, fun a e => ?_⟩
      cases e
      exact ⟨o, I.kIn _ o hk, hd⟩
    · have z : ∃ o, s.heap.get? p = some o ∧ o.ExactDict := by
        rcases hk with ⟨kvs, hk⟩ | ⟨kvs, hk⟩
        · obtain ⟨_, _, _, _, o, _, _, e, ex, _⟩ := I.hok p _ hk
          exact ⟨o, e, ex⟩
        · obtain ⟨_, _, _, _, o, _, _, e, ex, _⟩ := I.hok p _ hk
          exact ⟨o, e, ex⟩
      obtain ⟨o, e, ex⟩ := z
      refine ⟨⟨o, e, ex.1⟩, fun a e2 => ?_⟩
      cases e2
      exact ⟨o, e, ex.2.1⟩
    · obtain ⟨o, _, _, _, e, ex, _⟩ := I.hok p _ hk
      refine ⟨⟨o, e, ex.1⟩, fun a e2 => ?_⟩
      cases e2
      exact ⟨o, e, ex.2.1⟩
  | _ => exact False.elim ty
def tBM0 (K : PySem.W.Frag) (T : String) (r : V → List V → Hp → VK → Prop) (to : TE) : TE := fun σ H Q => to σ H fun x H1 => tyV K T x H1 ∧ r x [] H1 Q
def tBM (K : PySem.W.Frag) (T : String) (r : V → List V → Hp → VK → Prop) (to : TE) (t : TA) : TE := fun σ H Q => to σ H fun x H1 => tyV K T x H1 ∧ t σ H1 fun xs H2 => r x xs H2 Q
variable {o e : Expr} {es : List Expr} {to : TE} {t : TA} {name : Str} {apos cpos : Pos} {T id : String} {r : V → List V → Hp → VK → Prop}
theorem pe_bm0 (pa : PlainAttrs T) (slot : Slot T name id) (hty : typeOf (.builtin id) = pure (.type "method_descriptor")) (hm : MtR X id r) (ho : PE X o to)
    (hbase : attributeBase o name X.env (eval o X.env) = eval o X.env := by rfl) (hline : (apos.endLine == cpos.line) = true := by rfl) : PE X (.Call (.Attribute o name apos) [] [] cpos) (tBM0 X.K T r to) := by
  intro pins s σ H Q I h
  refine wpAny_Call_method0_late hbase hline (thn (ho pins s σ H _ I h) fun v s1 ⟨x, H1, I1, r1, ty, q1⟩ => ?_)
  obtain ⟨h1, h2⟩ := tyV_is I1 r1 ty
  exact ⟨T, id, pa, slot, hty, h1, h2, Calls.callWith_builtin rfl (PySem.evalArgs_none (hm pins s1 σ H1 x [] v [] Q I1 r1 .nil q1))⟩
theorem pe_bm (pa : PlainAttrs T) (slot : Slot T name id) (hty : typeOf (.builtin id) = pure (.type "method_descriptor")) (hm : MtR X id r) (ho : PE X o to) (ha : PA X (e :: es) t)
    (hbase : attributeBase o name X.env (eval o X.env) = eval o X.env := by rfl)
    (hfew : ((backTo cpos (starEach (e :: es) X.env)).all (fun x => !x.1) && (backToKw cpos (keywordEach [] X.env)).all (fun x => x.1.isSome)
      && decide ((e :: es).length + ([] : List Keyword).length + (if ([] : List Keyword).isEmpty then 0 else 1) < 30)) = true := by rfl)
    (hline : (apos.endLine == cpos.line) = true := by rfl) (hs : starEach (e :: es) X.env = (false, eval e X.env) :: starEach es X.env := by rfl) (hplain : (backTo cpos (starEach es X.env)).any (·.1) = false := by rfl) :
    PE X (.Call (.Attribute o name apos) (e :: es) [] cpos) (tBM X.K T r to t) := by
  intro pins s σ H Q I h
  refine wpAny_Call_method_late hbase hfew hline rfl (thn (ho pins s σ H _ I h) fun v s1 ⟨x, H1, I1, r1, ty, q1⟩ => ?_)
  obtain ⟨h1, h2⟩ := tyV_is I1 r1 ty
  refine ⟨T, id, pa, slot, hty, h1, h2, ?_⟩
  have hA := ha cpos pins s1 σ H1 _ I1 q1
  rw [hs] at hA ⊢
  refine Calls.callWith_builtin (by show (false || (backTo cpos (starEach es X.env)).any (·.1)) = false; rw [hplain] <;> rfl) (Calls.evalArgs_plain ?_)
  exact thn hA fun us s2 ⟨vs, H2, I2, r2, q2⟩ => hm pins s2 σ H2 x vs v us Q I2 r1 r2 q2
/- xs.append(e), list.index on a module's tuple .. are MtR facts of 06m -/
end
end L2
namespace L2
open PySem PySem.Spec PyProof.Rows
def MtM (X : Cx) (id : String) (r : V → List V → Hp → VK → Prop) : Prop :=
  ∀ (pins : List (Addr × Obj)) (s : Shared) (σ : St) (H : Hp) (x : V) (xs : List V) (v : Value) (us : List Value) (Q : VK), Inv X pins σ H s → RelV x v → Vals xs us → r x xs H Q →
    wpAny (model X.prog X.w) X.A (call (.builtin id) (v :: us)) (EP X pins σ Q) X.xe s
/-! ### lists of values -/
theorem Vals.one : ∀ {x : V} {us : List Value}, Vals [x] us → ∃ u, us = [u] ∧ RelV x u
  | _, _, .cons r .nil => ⟨_, rfl, r⟩
theorem Vals.two : ∀ {x y : V} {us : List Value}, Vals [x, y] us → ∃ u v, us = [u, v] ∧ RelV x u ∧ RelV y v
  | _, _, _, .cons r (.cons q .nil) => ⟨_, _, rfl, r, q⟩
theorem Vals.zero : ∀ {us : List Value}, Vals [] us → us = []
  | _, .nil => rfl
section
variable {X : Cx} {pins : List (Addr × Obj)} {σ : St} {H : Hp} {s : Shared} {l b : Addr} {xs ys zs : List V}
/-! ### the two steps: a tracked list is rewritten, a new list is laid -/
theorem Inv.lset {its its' : List Value} {n : Nat} {f : Array Value → Array Value} {t' : Nat} (I : Inv X pins σ H s) (hH : H l = some (.lst xs))
    (e : s.heap.get? l = some { cls := .type "list", data := .seq its.toArray n }) (hf : f its.toArray = its'.toArray) (hv : Vals ys its') (hz : ys.length ≤ sizeLine) :
    Inv X pins σ (upd H l (.lst ys)) { s with heap := s.heap.update l (Obj.mapSeq f), toks := t' } := by
  have q := PySem.IsL.update e f
  rw [hf] at q
  refine I.write (x := l) (e := l) (by rw [hH]; exact trivial) (.inl rfl) (fun b' u hb hu => (Heap.get?_update_other s.heap (Obj.mapSeq f) (Ne.symm hb)).trans hu) ⟨_, q⟩ ?_
  exact ⟨hz, its', _, hv, q⟩
theorem Inv.lnew {its : List Value} {t' : Nat} (I : Inv X pins σ H s) (hv : Vals ys its) (hz : ys.length ≤ sizeLine) :
    Inv X pins σ (upd H s.heap.objs.size (.lst ys)) { s with heap := s.heap.push { cls := .type "list", data := .seq its.toArray }, toks := t' } :=
  I.laid (fun _ _ q => Heap.get?_push_of_some _ q) (Nat.le_refl _) ⟨hz, its, 0, hv, Heap.get?_push_size _ rfl⟩
theorem Inv.fresh (I : Inv X pins σ H s) : H s.heap.objs.size = none := I.hok.fresh (Nat.le_refl _)
theorem Inv.lstM (I : Inv X pins σ H s) (hH : H l = some (.lst xs)) : xs.length ≤ sizeLine ∧ ∃ (its : List Value) (n : Nat), Vals xs its ∧ xs.length = its.length ∧ s.heap.get? l = some { cls := .type "list", data := .seq its.toArray n } := by
  obtain ⟨z, its, n, r, e⟩ := I.hok l _ hH
  exact ⟨z, its, n, r, r.length, e⟩
end
section
variable {X : Cx}
/-! ### methods -/
def rAppend : V → List V → Hp → VK → Prop := fun x vs H Q => ∃ l xs y, x = .ref l ∧ vs = [y] ∧ H l = some (.lst xs) ∧ xs.length < sizeLine ∧ Q .non (upd H l (.lst (xs ++ [y])))
theorem mt_append : MtM X "list.append" rAppend := by
  intro pins s σ H x vs v us Q I rx rv h
  obtain ⟨l, xs, y, rfl, rfl, hH, hz, q⟩ := h
  cases rx
  obtain ⟨u, rfl, ru⟩ := rv.one
  obtain ⟨z, its, n, r, hl, e⟩ := I.lstM hH
  refine call_meets F.slot_list_append ⟨_, e, rfl⟩ F.entry_list_append (F.args_list_append_2 _ _) (PySem.list_append l its.toArray n u (by rw [List.size_toArray]; omega)) ⟨e, ?_⟩
  refine ⟨.non, _, I.lset (its' := its ++ [u]) hH e (by simp) (r.append (.cons ru .nil)) ?_, rfl, q⟩
  rw [List.length_append, List.length_singleton]
  omega
def rClear : V → List V → Hp → VK → Prop := fun x vs H Q => ∃ l xs, x = .ref l ∧ vs = [] ∧ H l = some (.lst xs) ∧ Q .non (upd H l (.lst []))
theorem mt_clear : MtM X "list.clear" rClear := by
  intro pins s σ H x vs v us Q I rx rv h
  obtain ⟨l, xs, rfl, rfl, hH, q⟩ := h
  cases rx
  have hus := rv.zero
  subst hus
  obtain ⟨z, its, n, r, hl, e⟩ := I.lstM hH
  refine call_meets F.slot_list_clear ⟨_, e, rfl⟩ F.entry_list_clear (F.args_list_clear_1 _) (AutoSeq1.list_clear_list_0 l its.toArray n (by rw [List.size_toArray]; omega)) ⟨e, ?_⟩
  exact ⟨.non, _, I.lset (its' := []) (ys := []) hH e rfl .nil (Nat.zero_le _), rfl, q⟩
/-! ### list + list, list += list, list * int -/
def rCat : R2 := fun x y H Q => ∃ l b xs zs, x = .ref l ∧ y = .ref b ∧ H l = some (.lst xs) ∧ H b = some (.lst zs) ∧ xs.length + zs.length ≤ sizeLine ∧ ∀ p, H p = none → Q (.ref p) (upd H p (.lst (xs ++ zs)))
theorem op_cat : OpR X (binaryOp .Add) rCat := by
  intro pins s σ H x y v u Q I rx ry h
  obtain ⟨l, b, xs, zs, rfl, rfl, hH, hB, hz, q⟩ := h
  cases rx
  cases ry
  obtain ⟨z, its, n, r, hl, e⟩ := I.lstM hH
  obtain ⟨z2, its2, n2, r2, hl2, e2⟩ := I.lstM hB
  refine PySem.P.add_list e e2 ?_ (by rw [List.size_toArray, List.size_toArray]; omega)
  have ea : its.toArray ++ its2.toArray = (its ++ its2).toArray := by simp
  rw [ea]
  exact ⟨.ref _, _, I.lnew (t' := s.toks) (r.append r2) (by rw [List.length_append]; omega), rfl, q _ I.fresh⟩
/-- a list times an int (a negative one is nothing) -/
def rRep : R2 := fun x y H Q => ∃ l k xs, x = .ref l ∧ y = .int k ∧ H l = some (.lst xs) ∧ -(2 ^ 63) ≤ k ∧ k < 2 ^ 63 ∧ xs.length * k.toNat ≤ sizeLine ∧
  ∀ p, H p = none → Q (.ref p) (upd H p (.lst (List.replicate k.toNat xs).flatten))
/-! ### del xs[i] -/
end
/-! ### xs[a:b] = ys -/
section
variable {prog : Program} {w : World} {A : Around} {E : Value → Shared → Prop} {s : Shared}
end
section
variable {X : Cx}
end
end L2
namespace Att
open PySem PySem.W PySem.Calls PyProof.Rows
/-! ### the script -/
theorem ints_of_wellAll {P : Params} {h : Heap} : ∀ (ns : List Int) (vs : List Value), WellAll P h vs (ns.map WData.int) → IntsAre vs ns := by
  intro ns
  induction ns with
  | nil =>
    intro vs w
    rw [List.map_nil] at w
    cases w
    exact .nil
  | cons n ns ih =>
    intro vs w
    rw [List.map_cons] at w
    cases w with
    | cons a b =>
      cases a
      exact .cons _ _ (ih _ b)
theorem script_of {l : OpenLaw} {n : Nat} (hn : l.most = some n) {P : Params} {h : Heap} {args : List WData} {vals : List Value}
    (hpre : l.row.toRowW.claim.pre args = true) (hwl : WellAll P h vals args) :
    ∃ a vs ns, vals = [Value.ref a] ∧ args = [WData.list (ns.map WData.int)] ∧ h.get? a = some { cls := .type "list", data := .seq vs.toArray } ∧ IntsAre vs ns ∧ ns.length ≤ n := by
  have hsh : WShape.hasAll [] args [.list .int] = true := (pre_splitW hpre).1
  have hc : l.pre.holds [] { args := args } = true := (pre_splitW hpre).2
  obtain ⟨d, r, rfl, h1, h2⟩ := hasAllW_cons hsh
  obtain rfl := hasAllW_nil h2
  obtain ⟨xs, rfl, h3⟩ := hasW_list h1
  obtain ⟨ns, rfl⟩ := items_int h3
  have hlen : ns.length ≤ n := by
    unfold OpenLaw.pre at hc
    have h4 : (WTm.not (.lt (.lit (.int (n : Int))) (.len (.arg 0)))).holds [] { args := [.list (ns.map .int)] } = true := by
      have h4 := (holds_andW hc).1
      rw [hn] at h4
      exact h4
    have h5 := condW_of h4 (w_not (w_lt w_lit (w_len_list (w_arg rfl))))
    rw [List.length_map] at h5
    refine Nat.le_of_not_lt fun q => ?_
    have q' : (n : Int) < ((ns.length : Nat) : Int) := by omega
    first
      | (rw [decide_eq_true q'] at h5; exact absurd h5 (by decide))
      | (simp at h5; omega)
  cases hwl with
  | cons w1 w2 =>
    cases w2
    cases w1 with
    | list ho hall => exact ⟨_, _, ns, rfl, rfl, ho, ints_of_wellAll ns _ hall, hlen⟩
theorem post_true (l : OpenLaw) (args : List WData) : l.row.toRowW.claim.post args (.bool true) args = true :=
  postW_of (r := l.row.toRowW) (X := (true == true))
    (show WShape.has [] (.bool true) .bool = true by first | rfl | decide | simp [WShape.has, WShape.arms, WShape.armsAll])
    (show (WTm.eq .res (.lit (.bool true))).value [] { args := args, res := some (.bool true), after := args } = some (.bool (true == true)) from w_eq_bool (w_res rfl) w_lit) rfl
/-! ### the attachment: holds_open's last premise (the goal 'hc' behind k_head) from a wpAny of the law's body -/
/-- the same from a codeAny of the CALL (for a layer whose function contracts speak of calls) -/
theorem attach_call {l : OpenLaw} {n : Nat} {q : Program} {loose : List Str} {XP : (Str → Option Value) → Heap → Prop} {YP : World → Heap → Prop} {d : DefRec}
    (hn : l.most = some n) (hdf : d.params.defaults = [])
    (call : ∀ (w : World) (s₀ s₁ : Shared) (mg mb : Str → Option Value) (fa : Addr) (o : Obj) (pm cd doc : Value) (a : Addr) (vs : List Value) (ns : List Int),
      Ground q loose [] XP w s₀ mg mb s₁.heap → YP w s₁.heap →
      s₁.heap.get? fa = some o → o.data = .func (docDef d.name d.params d.body d.scope pm cd doc) → s₁.heap.CodeRec cd d.name → mg d.name = some (.ref fa) →
      s₁.heap.get? a = some { cls := .type "list", data := .seq vs.toArray } → IntsAre vs ns → ns.length ≤ n → s₁.gens = #[] →
      codeAny (model l.prog w) callerA (.call (.ref fa) ⟨[.ref a], []⟩) (fun r s' => r = .ok (.ret (.bool true)) ∧ OldK s₁.heap s'.heap ∧ s'.os = s₁.os ∧ AllBare s'.gens) s₁) :
    WalkO q loose XP YP l.row.toRowW d [] (fun f vs => PySem.call f vs) := by
  intro w s₀ s₁ mg mb G Y fa o pm cd doc dV kV ho hd hcd hD hmg hg args vals as hpre hlay hrd hwl hlo
  obtain rfl : dV = .none := Dflts.none hD hdf
  obtain rfl : kV = .none := Dflts.noKw hD
  obtain ⟨a, vs, ns, rfl, rfl, hobj, hints, hlen⟩ := script_of hn hpre hwl
  refine enter_call (codeAny_mono (call w s₀ s₁ mg mb fa o pm cd doc a vs ns G Y ho (fd_plain hd) hcd hmg hobj hints hlen hg) fun r s' hq => ?_)
  obtain ⟨rfl, h2, h3, h4⟩ := hq
  exact ⟨.inl ⟨.bool true, .bool true, [], rfl, fun _ => rfl, .bool true, post_true l _, fun _ => ⟨List.Pairwise.nil, fun _ hm => (nomatch hm)⟩⟩, h2, h3, h4⟩
/-! ### rules over ANY heap (no ledger) from facts about the written part K: the library's own take a ledger (News) for what they write -/
section
variable {prog : Program} {w : World} {A : Around} {E : Value → Shared → Prop} {s : Shared} {K : Frag}
/-! the whole heap as the ledger: makes every rule that writes through a ledger a rule over any heap -/
def ledger (h : Heap) (L d : Addr) : List (Addr × Obj) := (List.range h.objs.size).filterMap fun a => if a = L ∨ a = d then none else (h.get? a).map fun o => (a, o)
end
end Att
namespace L2
open PySem PySem.Spec PyProof.Rows
theorem vals_ints : ∀ {vs : List Value} {ns : List Int}, IntsAre vs ns → Vals (ns.map V.int) vs
  | _, _, .nil => .nil
  | _, _, .cons n t h => .cons ⟨t, rfl⟩ (vals_ints h)
/-- nothing is tracked but the script, known to the object (or it is an object of the module) -/
def Only (H : Hp) : Prop := ∀ b, H b = none ∨ ∃ o xs, H b = some (.frz o (.lst xs))
end L2
namespace L2
open PySem PySem.Spec PyProof.Rows
abbrev KOf {K : PySem.W.Frag} {h : Heap} (_ : K.In h) : PySem.W.Frag := K
end L2
/- THE LAST THEOREM (shape; LID, My.* are yours):
   My.Adr: a structure of the addresses that your layer names (classes, functions); My.Txt K t: a structure (Prop) of the equations over K;
   My.txt_mk : {K} {implicit addresses ..} (e1 : nsIn K mainGlobals "law" = some (some (.ref f))) (e2 : K.lookup f = some ⟨oc, od, .func (fnOf "law" "law" params body scope dV kV doc pm an cdv ct), sl⟩) (e3 : codeIn K cdv "law" = true) .. : ∃ t, My.Txt K t
set_option maxRecDepth 100000 in
set_option maxHeartbeats 0 in
theorem PySem.Challenge.cw_LID_holds : PySem.Challenge.rw_LID.Holds := by
  w_on; o_law; k_head; (case hw => w_witness2)
  k_fill
  refine L2.walk_of (l := PySem.Challenge.rw_LID) (n := 63) (k := 40) (x := "script") (CX := fun w => ..) (sp := fun _ => My.sp_law) rfl (by decide) rfl ⟨rfl, by decide, by decide⟩ (fun w h Y => PySem.W.kIn_of Y) ?F ?S ?C
  case F =>
    intro w mg fa h KX G hmg
    have T : ∃ t, My.Txt (L2.KOf KX) t := by
      dsimp only [L2.KOf]                          -- K must stand as «<heap const> w.params» for k_is
      refine' My.txt_mk ?e1 ?e2 ?e3 ..
      (case e1 => PySem.W.k_is)                    -- in the order: a name -> its address -> its object -> its parts
      (case e2 => PySem.W.k_is)
      ..
    obtain ⟨t, T⟩ := T
    have e0 := hmg.symm.trans (PySem.W.mg_of KX G T.law)
    cases e0                                       -- fa is the law's own address
    exact ⟨_, fun s u => .of_eq rfl, fun base kb nb => My.law_fn T kb nb⟩     -- if «.of_eq rfl» comes too early: refine' ⟨_, ?b, fun base kb nb => My.law_fn T kb nb⟩; exact fun s u => .of_eq rfl
  case S => exact fun w H a ns hl hO hS => ..
  case C => exact ..
(the tactic k_is has no namespace: write k_is) -/
/-! SHORT WORDS over the layer: a def of the text, its body, what a loop and a test want. -/
namespace L2
open PySem PySem.Spec PyProof.Rows
/-! ### the text by places -/
/-- the j-th statement of a class's body -/
def inClass (s : Stmt) (j : Nat) : Stmt := match s with
  | .ClassDef _ _ _ body _ _ _ _ _ _ _ => body.getD j (.Pass ⟨0, 0, 0, 0⟩)
  | _ => .Pass ⟨0, 0, 0, 0⟩
def defArgs (s : Stmt) : Arguments := match s with
  | .FunctionDef _ a _ _ _ _ _ _ _ _ => a
  | _ => { posonlyargs := [], args := [], vararg := none, kwonlyargs := [], kw_defaults := [], kwarg := none, defaults := [] }
def defBody (s : Stmt) : List Stmt := match s with
  | .FunctionDef _ _ b _ _ _ _ _ _ _ => b
  | _ => []
def defScope (s : Stmt) : Scope := match s with
  | .FunctionDef _ _ _ _ _ _ sc _ _ _ => sc
  | _ => { kind := .function, names := [], isGenerator := false, isCoroutine := false }
/-! ### no exception leaves a def -/
abbrev CX0 : CXT := fun _ _ _ _ _ _ => False
abbrev E0 : XK := fun _ _ _ => False
theorem pass0 {X : Cx} : Passes CX0 X E0 := fun _ _ _ _ _ _ _ h => h.elim
/-! ### a def (or method) of the text as it stands behind the top -/
structure Fun (K : PySem.W.Frag) (x qual : Str) (st : Stmt) (f : Addr) (fd : FuncData) : Prop where
  ex : ∃ (oc : Value) (od : Option Addr) (kV doc pm : Value) (an : Option Addr) (cdv ct : Value) (osl : Array (Option Value)),
    fd = PySem.W.fnOf x qual (defArgs st) (defBody st) (defScope st) .none kV doc pm an cdv ct ∧ K.lookup f = some ⟨oc, od, .func fd, osl⟩ ∧ PySem.W.codeIn K cdv qual = true
  kp : PySem.W.keepIn K (.ref f) = true
section
variable {P : Program} {w : World} {K : PySem.W.Frag} {mg : Str → Option Value} {base : Heap}
/-- THE RULE for a def: its body as a term of rules, and the reading of that term -/
theorem Fun.ok {x qual : Str} {st : Stmt} {f : Addr} {fd : FuncData} {N ps : List Str} {k : Nat} {sp : Sp} (F : Fun K x qual st f fd) (S : FnScope N ps (defScope st)) (len : ∀ vs H Q E, sp vs H Q E → vs.length = ps.length)
    (hbody : ∀ (cdv : Value) (A : Around) (outer : List Env) (s : Shared) (H : Hp) (vs : List V) (Q : VK) (E : XK), Room k (A.deeper (envOfC qual (defScope st) s.heap.objs.size f cdv)) → sp vs H Q E →
      ∃ t, PSs (cxOf CX0 P w K mg base N qual (defScope st) f cdv A outer s H E).nox (defBody st) t ∧ t { nx := fun _ H' => Q .non H', rt := Q } (start N vs) H) : FnOk P w K mg base CX0 (k + 1) f fd ps sp := by
  obtain ⟨oc, od, kV, doc, pm, an, cdv, ct, osl, rfl, lk, hcd⟩ := F.ex
  refine fn_of lk hcd S len fun A outer s H vs Q E hr hsp => ?_
  obtain ⟨t, h, q⟩ := hbody cdv A outer s H vs Q E hr hsp
  exact ⟨t, h.nox, q⟩
/-- how its arguments bind (no defaults): h is «fun _ _ _ _ _ _ us hl => match us, hl with | [_, _], _ => rfl», one _ a parameter -/
theorem Fun.binds {x qual : Str} {st : Stmt} {f : Addr} {fd : FuncData} {ps : List Str} (F : Fun K x qual st f fd)
    (h : ∀ (kV doc pm : Value) (an : Option Addr) (cdv ct : Value) (us : List Value), us.length = ps.length → bindArgs (PySem.W.fnOf x qual (defArgs st) (defBody st) (defScope st) .none kV doc pm an cdv ct) ⟨us, []⟩ = pure (ps.zip us)) : Binds K fd ps [] := by
  obtain ⟨oc, od, kV, doc, pm, an, cdv, ct, osl, rfl, lk, hcd⟩ := F.ex
  exact .all (h kV doc pm an cdv ct)
theorem fun_mk {x qual : Str} {st : Stmt} {f : Addr} {oc : Value} {od an : Option Addr} {osl : Array (Option Value)} {kV doc pm cdv ct : Value} (l : K.lookup f = some ⟨oc, od, .func (PySem.W.fnOf x qual (defArgs st) (defBody st) (defScope st) .none kV doc pm an cdv ct), osl⟩)
    (c : PySem.W.codeIn K cdv qual = true) (k : PySem.W.keepIn K (.ref f) = true) : Fun K x qual st f (PySem.W.fnOf x qual (defArgs st) (defBody st) (defScope st) .none kV doc pm an cdv ct) := ⟨⟨oc, od, kV, doc, pm, an, cdv, ct, osl, rfl, l, c⟩, k⟩
end
theorem small1000 {n : Nat} (h : n ≤ 1000) : n < sizeLine := Nat.lt_of_le_of_lt h (by decide)
/-! ### expressions in short: the name that stands in the i-th slot -/
section
variable {X : Cx}
end
/-! ### tests -/
/-! ### heaps -/
/-- all that was tracked is as it was -/
def Same (H H' : Hp) : Prop := ∀ b o, H b = some o → H' b = some o
end L2
set_option Elab.async false
set_option linter.all false
set_option maxRecDepth 100000
set_option maxHeartbeats 4000000
/-! list comprehensions over the layer -/
namespace L2
open PySem PySem.Spec PyProof.Rows
section
variable {X : Cx}
/-- the block's slots: those that stand in the frame around, by their places there -/
def capS (cap : List (Option Nat)) (σ : St) : St := cap.map fun o => o.bind fun i => (σ[i]?).join
/-- the block's context -/
def cxComp (X : Cx) (cN : List Str) (scope : Scope) (cl : List (Str × Addr)) (fp : List Addr) (s : Shared) (H : Hp) : Cx :=
  { X with N := cN, s₀ := s, H₀ := H, env := compEnvC scope cl s.heap.objs.size X.env, outer := X.stack, ex := fp, fn := fun _ => false, pn := [], xe := fun _ _ => False }
/-- the tests of a clause -/
def PIfs (X : Cx) (ifs : List Expr) (c : TT) : Prop :=
  ∀ (pins : List (Addr × Obj)) (s : Shared) (σ : St) (H : Hp) (Q : Bool → Hp → Prop), Inv X pins σ H s → c σ H Q →
    wpAny (model X.prog X.w) X.A (forIn ifs true fun c r => if r = true then do let ok ← isTrue c X.env (eval c X.env); pure (ForInStep.yield ok) else pure (ForInStep.yield r)) (TP X pins σ Q) X.xe s
def tNoIf : TT := fun _ H Q => Q true H
theorem pif_nil : PIfs X [] tNoIf := fun _ _ _ H _ I h => wpAny_tests_nil ⟨H, I, h⟩
/-- a target stores nowhere but at js -/
def GKeep (js : List Nat) (g : TG) : Prop := ∀ x σ H Q, g x σ H Q → g x σ H fun σ' H' => Q σ' H' ∧ σ'.length = σ.length ∧ ∀ i, i ∉ js → σ'[i]? = σ[i]?
theorem gk_name {i : Nat} : GKeep [i] (gName i) := fun x σ H Q h => ⟨h, by simp, fun j hj => by
  rw [List.getElem?_set_ne]
  intro e; exact hj (by simp [e])⟩
def TGmono (g : TG) : Prop := ∀ x σ H (Q Q' : St → Hp → Prop), (∀ σ' H', Q σ' H' → Q' σ' H') → g x σ H Q → g x σ H Q'
theorem gm_name {i : Nat} : TGmono (gName i) := fun x σ H Q Q' h q => h _ _ q
/-- a comprehension's turns: p is the new list -/
def tGo (cap : List (Option Nat)) (g : TG) (c : TT) (te : TE) (σ : St) (Q : Addr → Hp → Prop) (J : It) (H1 : Hp) : Prop := ∀ p, H1 p = none → ∃ W : Nat → Nat → Hp → Prop, (∃ m, W 0 m (upd H1 p (.lst []))) ∧ ∀ i m H, W i m H →
  (J.stop i H ∧ Q p H) ∨ (J.go i H ∧ ∃ N : Hp → Prop, (∀ H', N H' → ∃ m', m' < m ∧ W (i + 1) m' H') ∧ ∀ x H', J.yld i H x H' → g x (capS cap σ) H' fun σ2 H2 => c σ2 H2 fun b H3 =>
    if b = true then te σ2 H3 fun v H4 => ∃ xs, H4 p = some (.lst xs) ∧ xs.length < sizeLine ∧ N (upd H4 p (.lst (xs ++ [v]))) else N H3)
/-- a comprehension's reading -/
def tCompL (cap : List (Option Nat)) (wi : TI) (g : TG) (c : TT) (te : TE) : St → Hp → (Addr → Hp → Prop) → Prop := fun σ H Q => wi σ H fun J H1 => tGo cap g c te σ Q J H1
structure CompOk (X : Cx) (cN : List Str) (cap : List (Option Nat)) (scope : Scope) (cl : List (Str × Addr)) : Prop where
  clos : closureFor scope X.env = pure cl
  sub : ∀ n a, cl.lookup n = some a → X.env.cells.lookup n = some a
  cell : ∀ y ∈ scope.names, y.2 ≠ .cell
  kind : scope.kind = .function
  names : ∀ x ∈ scope.names, x.2 = .local → scope.names.lookup x.1 = some .local
  len : cap.length = cN.length
  has : ∀ x, ((relabel scope X.env).names.lookup x = some .cell ∨ (relabel scope X.env).names.lookup x = some .free) → ∃ a, cl.lookup x = some a
  capd : ∀ (i j : Nat) (x : Str), cap[i]? = some (some j) → cN[i]? = some x → X.N[j]? = some x ∧ Vis X.env.scope x ∧ X.env.scope.names.lookup x ≠ some .local ∧ ((relabel scope X.env).names.lookup x = some .cell ∨ (relabel scope X.env).names.lookup x = some .free)
theorem capS_len {cap : List (Option Nat)} {σ : St} : (capS cap σ).length = cap.length := List.length_map _
theorem capS_get {cap : List (Option Nat)} {σ : St} {i : Nat} {v : V} (h : (capS cap σ)[i]? = some (some v)) : ∃ j, cap[i]? = some (some j) ∧ σ[j]? = some (some v) := by
  unfold capS at h
  rw [List.getElem?_map] at h
  cases e : cap[i]? with
  | none => rw [e] at h; cases h
  | some o =>
    rw [e] at h
    cases o with
    | none => cases h
    | some j =>
      refine ⟨j, rfl, ?_⟩
      simp only [Option.map_some, Option.bind_some, Option.some.injEq] at h
      cases q : σ[j]? with
      | none => rw [q] at h; cases h
      | some u => rw [q] at h; simp only [Option.join_some] at h; rw [h]
/-- the block begins -/
theorem comp_start {cN : List Str} {cap : List (Option Nat)} {scope : Scope} {cl : List (Str × Addr)} {fp : List Addr} {pins : List (Addr × Obj)} {σ : St} {H : Hp} {s : Shared} {h' : Heap} {m : Str → Option Value} {tk : Nat}
    (C : CompOk X cN cap scope cl) (I : Inv X pins σ H s) (f : ∀ b ∈ fp, FpOk X pins H b) (fl : ∀ b ∈ fp, b < s.heap.objs.size) (hn : h'.Ns s.heap.objs.size m) (k : ∀ b o, s.heap.get? b = some o → h'.get? b = some o) :
    Inv (cxComp X cN scope cl fp s H) [] (capS cap σ) H { s with heap := h', toks := tk } := by
  have hfs : ∀ b ∈ fp, b ∉ frs X.stack := fun b hb z => by
    rcases List.mem_cons.mp (I.stkSub b z) with e | z
    · exact (f b hb).2.1 e
    · exact (f b hb).2.2.1 z
  have hcl : ∀ x c, cl.lookup x = some c → ∃ v, s.heap.IsCell c v := fun x c e => I.cell x c (C.sub x c e)
  refine ⟨⟨I.ok.mod, ?_, I.ok.glob, I.ok.blt, Nat.le_refl _, fun x y c e1 e2 => I.ok.inj x y c (C.sub x c e1) (C.sub y c e2), C.has, fun _ _ z => (nomatch z), I.ok.hd, I.ok.frames, .inl rfl, fun b hb => ⟨Nat.ne_of_lt (fl b hb), fun x c e => (f b hb).2.2.2.2.1 x c (C.sub x c e)⟩,
      I.bs, Nat.le_trans I.ok.bsz I.sz, fun b o e z => ?_, hfs, I.stack, I.stkFree⟩, rfl, I.bare, Un.kept k, ⟨m, hn, fun i x v h1 h2 h3 => ?_⟩, fun x c e => ?_, I.fresh, fun x c e => I.freeC x c (C.sub x c e), fun p hp => absurd hp (by simp [cxComp]), I.hok.kept k, ?_⟩
  · exact C.kind
  · rcases (f b z).2.2.2.1 with q | q
    · exact I.ok.noex b o e q
    · exact absurd (Nat.lt_of_lt_of_le (Heap.lt_size (I.ok.bs b o e).1) q) (Nat.lt_irrefl _)
  · obtain ⟨j, hj, hσ⟩ := capS_get h2
    obtain ⟨n1, n2, n3, n4⟩ := C.capd i j x hj h1
    obtain ⟨mo, hno, hlo⟩ := I.loc
    obtain ⟨u, ru, lk⟩ := hlo j x v n1 hσ n2
    refine ⟨u, ru, ?_⟩
    rcases lk with ⟨k1, _⟩ | ⟨_, c, e, z⟩
    · exact absurd k1 n3
    · obtain ⟨a, ha⟩ := C.has x n4
      have ea := C.sub x a ha
      rw [e] at ea; cases ea
      obtain ⟨o, ho, hd⟩ := z
      exact .inr ⟨n4, c, ha, ⟨o, k _ _ ho, hd⟩⟩
  · obtain ⟨v, o, ho, hd⟩ := hcl x c e
    exact ⟨v, o, k _ _ ho, hd⟩
  · show (capS cap σ).length = cN.length
    rw [capS_len, C.len]
/-- the block is left -/
theorem comp_end {cN : List Str} {scope : Scope} {cl : List (Str × Addr)} {fp : List Addr} {pins pins' : List (Addr × Obj)} {σ σ' : St} {H H' : Hp} {s s' : Shared} {h' : Heap}
    (I : Inv X pins σ H s) (f : ∀ b ∈ fp, FpOk X pins H b) (J : Inv (cxComp X cN scope cl fp s H) pins' σ' H' s') (sb : Heap.SameBut s.heap.objs.size s'.heap h') : Inv X pins σ H' { s' with heap := h' } := by
  have ne : ∀ b o, s.heap.get? b = some o → b ≠ s.heap.objs.size := fun b o e => Nat.ne_of_lt (Heap.lt_size e)
  have B : Un (frs X.stack) fp H H' s.heap s'.heap := J.base
  refine I.call' (s' := { s' with heap := h' }) (ch := fp) J.os ⟨fun b o e n hb hx => ?_, fun b o e n hb hx => ?_, B.free, fun b o e hx => ?_, B.tups, B.frzs, B.tbls⟩ (fun b o e => ?_) J.bare fun b hb => ?_
  · exact (sb.2 b (ne b o e)).trans (B.keep b o e n hb hx)
  · obtain ⟨sl, q⟩ := B.slot b o e n hb hx
    exact ⟨sl, (sb.2 b (ne b o e)).trans q⟩
  · obtain ⟨o', q⟩ := B.there b o e hx
    exact ⟨o', (sb.2 b (ne b o e)).trans q⟩
  · have hf : H' s.heap.objs.size = none := J.free
    refine (J.hok b o e).stay (fun c w' hc q => (sb.2 c ?_).trans q) (fun _ q => q) fun _ _ q => q
    rintro rfl
    rcases hc with rfl | hc
    · rw [hf] at e; cases e
    · rw [hf] at hc; cases hc
  · obtain ⟨f0, f1, f2, f3, f4, f5⟩ := f b hb
    exact ⟨f3, f1, f4, f5⟩
theorem wpAny_falseE {α : Type} {t : Sem α} {Q : α → Shared → Prop} {M : Model} {A : Around} {E : Value → Shared → Prop} {s : Shared} (h : wpAny M A t Q (fun _ _ => False) s) : wpAny M A t Q E s := wpAny_mono h (fun _ _ q => q) fun _ _ f => f.elim
/-- the loop of the block -/
theorem comp_loop {tg iter elt : Expr} {ifs : List Expr} {scope : Scope} {pos : Pos} {cN : List Str} {cap : List (Option Nat)} {cl : List (Str × Addr)} {js : List Nat} {g : TG} {c : TT} {te : TE} {fp : List Addr} {it D : Addr} {tn : Nat → Heap → Prop} {J : It}
    {σ : St} {H : Hp} {s s' : Shared} {Q : Addr → Hp → Prop} {R : Result → Shared → Prop} {H₀ : Hp} (X : Cx)
    (hc : X.calm = true) (hg : PG (cxComp X cN scope cl fp s H₀) tg g) (gm : TGmono g) (gk : GKeep js g) (hjs : ∀ j ∈ js, (cap[j]?).join = none) (ht : PIfs (cxComp X cN scope cl fp s H₀) ifs c) (tm : ∀ σ H (Q Q' : Bool → Hp → Prop), (∀ b H', Q b H' → Q' b H') → c σ H Q → c σ H Q') (he : PE (cxComp X cN scope cl fp s H₀) elt te)
    (T : Turn X.prog X.w X.K tg J fp it tn) (W : Nat → Nat → Hp → Prop)
    (turn : ∀ i m H, W i m H → (J.stop i H ∧ Q D H) ∨ (J.go i H ∧ ∃ N : Hp → Prop, (∀ H', N H' → ∃ m', m' < m ∧ W (i + 1) m' H') ∧ ∀ x H', J.yld i H x H' → g x (capS cap σ) H' fun σ2 H2 => c σ2 H2 fun b H3 =>
      if b = true then te σ2 H3 fun v H4 => ∃ xs, H4 D = some (.lst xs) ∧ xs.length < sizeLine ∧ N (upd H4 D (.lst (xs ++ [v]))) else N H3))
    (m : Nat) (w0 : W 0 m H) (I : Inv (cxComp X cN scope cl fp s H₀) [] (capS cap σ) H s') (st : tn 0 s'.heap) (f : ∀ b ∈ fp, FpOk (cxComp X cN scope cl fp s H₀) [] H b)
    (hR : ∀ σ' H' s', Inv (cxComp X cN scope cl fp s H₀) [] σ' H' s' → Q D H' → R (.ok .next) s') :
    codeAny (model X.prog X.w) X.A (.compLoop (.ListComp elt [⟨tg, iter, ifs, 0⟩] scope pos) 0 (.ref it) (.ref D) (cxComp X cN scope cl fp s H₀).env) R s' := by
  have stat : ∀ {H' : Hp}, (∀ b ∈ fp, H' b = none) → ∀ b ∈ fp, FpOk (cxComp X cN scope cl fp s H₀) [] H' b := fun hn b hb => ⟨hn b hb, (f b hb).2⟩
  refine codeAny_loop rfl (fun n s' => ∃ i H', Inv (cxComp X cN scope cl fp s H₀) [] (capS cap σ) H' s' ∧ tn i s'.heap ∧ (∀ b ∈ fp, H' b = none) ∧ W i n H') ?_ m ⟨0, H, I, st, fun b hb => (f b hb).1, w0⟩
  rintro n s3 ⟨i, H3, I3, st3, fr3, w3⟩
  show wpAny _ X.A ((compTurn (.ListComp elt [⟨tg, iter, ifs, 0⟩] scope pos) 0 (.ref it) (.ref D) (cxComp X cN scope cl fp s H₀).env).onRaise (fun x => do noteFrame x (cxComp X cN scope cl fp s H₀).env; theTreesLotGoes x)) _ _ s3
  refine wpAny_noted (wpAny_falseE ?_)
  rw [compTurn_list]
  refine wpAny_bind (wpAny_standAt (wpAny_bind ?_))
  rcases turn i n H3 w3 with ⟨stop, qn⟩ | ⟨go, N, hN, step⟩
  · refine thn (T.done (cxComp X cN scope cl fp s H₀) rfl rfl rfl hc i [] s3 _ H3 _ I3 (stat fr3) st3 stop) fun r s4 ⟨hr, I4⟩ => ?_
    subst hr
    exact wpAny_pure (hR _ _ _ I4 qn)
  · refine thn (T.item (cxComp X cN scope cl fp s H₀) rfl rfl rfl hc i [] s3 _ H3 _ I3 (stat fr3) st3 go) fun r s4 ⟨u, hr, h4⟩ => ?_
    subst hr
    refine wpAny_bind (thn h4 fun _ s5 ⟨x, H5, I5, r5, y5, st5, fr5⟩ => ?_)
    have I5' := I5.pinned (stat fr5) (T.obj _ _ st5)
    refine wpAny_bind (thn (hg _ s5 _ H5 x u _ I5' r5 (gk _ _ _ _ (step x H5 y5))) fun _ s6 ⟨σ6, H6, I6, q6, l6, k6⟩ => ?_)
    have back : ∀ {H7 : Hp} {s7 : Shared}, Inv (cxComp X cN scope cl fp s H₀) ([] ++ pinsAt fp s5.heap) σ6 H7 s7 → N H7 → ∃ m, m < n ∧ ∃ i H', Inv (cxComp X cN scope cl fp s H₀) [] (capS cap σ) H' s7 ∧ tn i s7.heap ∧ (∀ b ∈ fp, H' b = none) ∧ W i m H' := fun {H7 s7} I7 n7 => by
      obtain ⟨m', hm, w7⟩ := hN H7 n7
      refine ⟨m', hm, i + 1, H7, I7.unpinned.weak l6.symm fun j v hj => ?_, T.keep _ _ _ st5 fun b hb o e => (I7.pin (b, o) (List.mem_append_right _ (List.mem_append_right _ (mem_pinsAt hb e)))).1, fun b hb => ?_, w7⟩
      · by_cases hjj : j ∈ js
        · obtain ⟨z, hz, _⟩ := capS_get hj
          have := hjs j hjj
          rw [hz] at this; cases this
        · rw [k6 j hjj]; exact hj
      · obtain ⟨o, e, d⟩ := T.obj _ _ st5 b hb
        exact (I7.pin (b, o) (List.mem_append_right _ (List.mem_append_right _ (mem_pinsAt hb e)))).2.1
    refine wpAny_bind (thn (ht _ s6 σ6 H6 _ I6 q6) fun b s7 ⟨H7, I7, q7⟩ => ?_)
    cases b with
    | false =>
      rw [if_neg Bool.false_ne_true] at q7
      exact wpAny_pure ⟨rfl, back I7 q7⟩
    | true =>
      rw [if_pos rfl] at q7
      refine wpAny_bind (wpAny_bind (thn (he _ s7 σ6 H7 _ I7 q7) fun y s8 ⟨v, H8, I8, r8, xs, e8, z8, n8⟩ => ?_))
      refine wpAny_bind (thn (mt_append _ s8 σ6 H8 (.ref D) [v] (.ref D) [y] (fun _ H9 => N H9) I8 rfl (.cons r8 .nil) ⟨D, xs, v, rfl, rfl, e8, z8, n8⟩) fun _ s9 ⟨_, H9, I9, _, q9⟩ => ?_)
      exact wpAny_pure (wpAny_pure ⟨rfl, back I9 q9⟩)
section
variable {X : Cx} {tg iter elt : Expr} {ifs : List Expr} {scope : Scope} {pos : Pos} {cN : List Str} {cap : List (Option Nat)} {cl : List (Str × Addr)} {js : List Nat} {wi : TI} {g : TG} {c : TT} {te : TE}
/-- what a comprehension's parts must be -/
structure CompP (X : Cx) (tg iter elt : Expr) (ifs : List Expr) (scope : Scope) (cN : List Str) (cap : List (Option Nat)) (cl : List (Str × Addr)) (js : List Nat) (wi : TI) (g : TG) (c : TT) (te : TE) : Prop where
  calm : X.calm = true
  ok : X.Ok → CompOk X cN cap scope cl
  it : PI X tg iter wi
  tgt : ∀ fp s H, PG (cxComp X cN scope cl fp s H) tg g
  gm : TGmono g
  gk : GKeep js g
  js0 : ∀ j ∈ js, (cap[j]?).join = none
  ts : ∀ fp s H, PIfs (cxComp X cN scope cl fp s H) ifs c
  tm : ∀ σ H (Q Q' : Bool → Hp → Prop), (∀ b H', Q b H' → Q' b H') → c σ H Q → c σ H Q'
  el : ∀ fp s H, PE (cxComp X cN scope cl fp s H) elt te
  fold : ∀ x, foldedSetIterable iter X.env x = pure x
theorem comp_block {pins : List (Addr × Obj)} {σ : St} {H : Hp} {s : Shared} {Q : Addr → Hp → Prop} {RR : Value → Addr → Result → Shared → Prop} (C : CompP X tg iter elt ifs scope cN cap cl js wi g c te) (I : Inv X pins σ H s) (h : tCompL cap wi g c te σ H Q)
    (hRR : ∀ (D : Addr) (fp : List Addr) (s3 : Shared) (H3 : Hp) (σ' : St) (H' : Hp) (s' : Shared), Inv X pins σ H3 s3 → (∀ b ∈ fp, FpOk X pins H3 b) → Inv (cxComp X cN scope cl fp s3 H3) [] σ' H' s' → Q D H' → RR (.ref D) s3.heap.objs.size (.ok .next) s') :
    wpAny (model X.prog X.w) X.A (eval iter X.env) (fun x s₁ => wpAny (model X.prog X.w) X.A (pyIter x) (fun it s₂ => wpAny (model X.prog X.w) X.A (newList []) (fun acc s₃ =>
      wpAny (model X.prog X.w) X.A (newFunctionEnv scope X.env.globals cl [] X.env.qual none .none (some X.env)) (fun cenv s₄ =>
        codeAny (model X.prog X.w) X.A (.compStart (.ListComp elt [⟨tg, iter, ifs, 0⟩] scope pos) 0 it acc { cenv with scope := relabel scope X.env }) (RR acc cenv.locals) s₄) X.xe s₃) X.xe s₂) X.xe s₁) X.xe s := by
  refine thn (C.it pins s σ H _ I h) fun v s1 h1 => thn h1 fun itv s2 h2 => ?_
  obtain ⟨it, fp, tn, J, H2, e, I2, T, st2, f2, R2⟩ := h2
  subst e
  obtain ⟨W, ⟨m, w0⟩, turn⟩ := R2 s2.heap.objs.size I2.fresh
  have I3 : Inv X pins σ (upd H2 s2.heap.objs.size (.lst [])) { s2 with heap := s2.heap.push { cls := .type "list", data := .seq ([] : List Value).toArray }, toks := s2.toks } := I2.lnew (ys := []) (its := []) .nil (Nat.zero_le _)
  have fl : ∀ b ∈ fp, b < s2.heap.objs.size := fun b hb => by
    obtain ⟨o, e, _⟩ := T.obj _ _ st2 b hb
    exact Heap.lt_size e
  have f3 : ∀ b ∈ fp, FpOk X pins (upd H2 s2.heap.objs.size (.lst [])) b := fun b hb => ⟨by rw [upd_ne (Nat.ne_of_lt (fl b hb))]; exact (f2 b hb).1, (f2 b hb).2⟩
  refine wpAny_newObj_type (wpAny_newFunctionEnv (C.ok I.ok).cell (by intro y hy; simp at hy) (fun h₁ hns₁ hsb₁ => ?_) (C.ok I.ok).kind)
  dsimp only at hns₁ hsb₁ ⊢
  generalize hs3 : ({ s2 with heap := s2.heap.push { cls := .type "list", data := .seq ([] : List Value).toArray }, toks := s2.toks } : Shared) = s3 at I3
  have hh3 : s3.heap = s2.heap.push { cls := .type "list", data := .seq ([] : List Value).toArray } := by rw [← hs3]
  rw [← hh3] at hns₁ hsb₁ ⊢
  have fl3 : ∀ b ∈ fp, b < s3.heap.objs.size := fun b hb => by rw [hh3, Heap.size_push]; exact Nat.lt_succ_of_lt (fl b hb)
  have k1 : ∀ b o, s3.heap.get? b = some o → h₁.get? b = some o := fun b o e => (hsb₁.2 b (Nat.ne_of_lt (Heap.lt_size e))).trans (Heap.get?_push_of_some _ e)
  have I4 := comp_start (tk := s2.toks + ([] : List (Str × Value)).length) (C.ok I.ok) I3 f3 fl3 hns₁ k1
  have e4 : ({ s3 with heap := h₁, toks := s2.toks + ([] : List (Str × Value)).length } : Shared) = { s2 with heap := h₁, toks := s2.toks + ([] : List (Str × Value)).length } := by rw [← hs3]
  rw [e4] at I4
  have st4 : tn 0 h₁ := T.keep _ _ _ st2 fun b hb o e => k1 b o (by rw [hh3]; exact Heap.get?_push_of_some _ e)
  have f4 : ∀ b ∈ fp, FpOk (cxComp X cN scope cl fp s3 (upd H2 s2.heap.objs.size (.lst []))) [] (upd H2 s2.heap.objs.size (.lst [])) b := fun b hb => by
    obtain ⟨g0, g1, g2, g3, g4, g5⟩ := f3 b hb
    refine ⟨g0, Nat.ne_of_lt (fl3 b hb), fun z => ?_, .inl hb, fun x c e => g4 x c ((C.ok I.ok).sub x c e), fun p hp => absurd hp (by simp [cxComp])⟩
    rcases List.mem_cons.mp (I3.stkSub b z) with e | z
    · exact g1 e
    · exact g2 z
  have loop : codeAny (model X.prog X.w) X.A (.compLoop (.ListComp elt [⟨tg, iter, ifs, 0⟩] scope pos) 0 (.ref it) (.ref s2.heap.objs.size) (cxComp X cN scope cl fp s3 (upd H2 s2.heap.objs.size (.lst []))).env) (RR (.ref s2.heap.objs.size) s3.heap.objs.size)
      { s2 with heap := h₁, toks := s2.toks + ([] : List (Str × Value)).length } :=
    comp_loop X C.calm (C.tgt _ _ _) C.gm C.gk C.js0 (C.ts _ _ _) C.tm (C.el _ _ _) T W turn m w0 I4 st4 f4 fun σ' H' s' I' q => hRR _ fp s3 _ σ' H' s' I3 f3 I' q
  exact codeAny_compStart_list loop (T.self _ 0 _ _ _ st4 loop)
def tComp (cap : List (Option Nat)) (wi : TI) (g : TG) (c : TT) (te : TE) : TE := fun σ H Q => tCompL cap wi g c te σ H fun p H' => Q (.ref p) H'
theorem pe_comp (C : CompP X tg iter elt ifs scope cN cap cl js wi g c te) : PE X (.ListComp elt [⟨tg, iter, ifs, 0⟩] scope pos) (tComp cap wi g c te) := by
  intro pins s σ H Q I h
  rw [eval_ListComp]
  refine wpAny_comprehension_free (use := none) rfl C.fold (C.ok I.ok).clos (C.ok I.ok).kind (C.ok I.ok).names (comp_block (RR := fun acc C' => compPost (model X.prog X.w) X.A X.xe none (EP X pins σ Q) acc C') C I h ?_)
  intro D fp s3 H3 σ' H' s' I3 f3 J q
  obtain ⟨m, hn, _⟩ := J.loc
  exact ⟨m, hn, fun h' sb => ⟨.ref D, H', comp_end I3 f3 J sb, rfl, q⟩⟩
/-- x = [.. for ..], x a plain local: stored ahead of the block's end -/
def tSetComp (i : Nat) (cap : List (Option Nat)) (wi : TI) (g : TG) (c : TT) (te : TE) : TS := fun D σ H => tCompL cap wi g c te σ H fun p H' => D.nx (σ.set i (some (.ref p))) H'
theorem ps_setComp {i : Nat} {y : Str} {py spos : Pos} (hN : X.N.Nodup) (hi : X.N[i]? = some y) (hy : X.env.scope.names.lookup y = some .local)
    (hsw : swapsWith (.ListComp elt [⟨tg, iter, ifs, 0⟩] scope pos) (some (.Name y py)) spos.line X.env = pure true)
    (C : CompP X tg iter elt ifs scope cN cap cl js wi g c te) : PS X (.Assign [.Name y py] (.ListComp elt [⟨tg, iter, ifs, 0⟩] scope pos) spos) (tSetComp i cap wi g c te) := by
  intro pins s σ H D I h
  rw [exec_Assign_Name_used _ _ _ _ hsw]
  refine wpAny_bind (wpAny_standAt (wpAny_bind ?_))
  show wpAny _ X.A (do let _ ← comprehension (.ListComp elt [⟨tg, iter, ifs, 0⟩] scope pos) scope X.env _ (newList []) false (eval iter X.env) (some (assign (.Name y py) X.env))) _ _ s
  refine wpAny_bind (wpAny_mono (wpAny_comprehension_free (use := some (assign (.Name y py) X.env)) (Q := fun _ s' => SP X pins D .next s') rfl C.fold (C.ok I.ok).clos (C.ok I.ok).kind (C.ok I.ok).names
    (comp_block (RR := fun acc C' => compPost (model X.prog X.w) X.A X.xe (some (assign (.Name y py) X.env)) (fun _ s' => SP X pins D .next s') acc C') C I h ?_)) (fun _ s' hq => wpAny_pure (wpAny_pure hq)) fun _ _ e => e)
  intro D' fp s3 H3 σ' H' s' I3 f3 J q
  obtain ⟨m, hn, _⟩ := id J.loc
  have I4 : Inv X pins σ H' s' := comp_end I3 f3 J (Heap.SameBut.refl ..)
  show wpAny _ X.A (assign (.Name y py) X.env (.ref D')) _ _ _
  refine wpAny_assign_Name (store_ok2 (v := .ref D') I4 hN hi (.inl hy) rfl (fun s5 I5 hch => ?_) (.inr hy))
  obtain ⟨a, sb, ha⟩ := hch
  have hf : H' s3.heap.objs.size = none := J.free
  have hCL : s3.heap.objs.size ≠ X.env.locals := Nat.ne_of_gt I3.lt
  have hcells : ∀ x c, X.env.cells.lookup x = some c → c ≠ s3.heap.objs.size := fun x c e => by
    obtain ⟨v, o, ho, _⟩ := I3.cell x c e
    exact Nat.ne_of_lt (Heap.lt_size ho)
  have haC : s3.heap.objs.size ≠ a := by
    rcases ha with z | z
    · rw [z]; exact hCL
    · exact Ne.symm (hcells _ _ z)
  refine ⟨m, hn.sameBut sb haC, fun h6 sb6 => ⟨_, H', ?_, q⟩⟩
  exact I5.turned (h' := h6) (t' := s5.toks) (fun b o hb e => (sb6.2 b hb).trans e) hf hCL (.inr I3.sz) (fun x c e => hcells x c e) fun p hp z => by
    have := Heap.lt_size (I3.pin p hp).1
    rw [z] at this; exact Nat.lt_irrefl _ this
end
end
end L2
set_option Elab.async false
set_option linter.all false
set_option maxRecDepth 100000
set_option maxHeartbeats 4000000
/-! more rules over the layer: texts walked, enumerate, all, isinstance, lists compared, slices of texts, () + t -/
namespace L2
open PySem PySem.Spec PyProof.Rows
/-! ### for c in a text -/
def Its (z : Str) : It := ⟨fun i _ => i < z.cps.size, fun i H x H' => H' = H ∧ ∃ c, z.cps[i]? = some c ∧ x = .str ⟨#[c]⟩, fun i _ => i = z.cps.size⟩
theorem turn_walks {P : Program} {w : World} {K : PySem.W.Frag} {tg : Expr} {ty : String} {it : Addr} {z : Str} {t : Tok} (hty : ["enumerate", "zip", "dict_itemiterator", "dict_reverseitemiterator", "odict_iterator", "itertools.zip_longest", "itertools.pairwise"].contains ty = false)
    (W : ∀ A : Around, A.handled = none → Walks P w A it [it] [it] z.cps.size (SignAt z) (fun i h => h.IsStrIter it ty z t i))
    (self : ∀ (A : Around) (i : Nat) (s : Shared) (Q : Value → Shared → Prop) (E : Value → Shared → Prop), s.heap.IsStrIter it ty z t i → Q (.ref it) s → wpAny (model P w) A (pyIter (.ref it)) Q E s) :
    Turn P w K tg (Its z) [it] it (fun i h => h.IsStrIter it ty z t i) where
  mem := by simp
  obj := fun i h st b hb => by
    have e : b = it := by simpa using hb
    subst e
    obtain ⟨o, e, c, d⟩ := st
    exact ⟨o, e, fun v z => by rw [d] at z; cases z⟩
  keep := fun i h h' st k => let ⟨o, e, r⟩ := st; ⟨o, k it (by simp) o e, r⟩
  item := by
    intro X hP hw hK hc i pins s σ H E I hf st hg
    subst hP hw hK
    obtain ⟨f0, f1, f2, f3, f4, f5⟩ := hf it (by simp)
    refine (W X.A (I.ok.hd hc)).item i s _ _ hg st fun v h' tk hv st' kk => ?_
    obtain ⟨c, u, hcp, rfl⟩ := hv
    have I1 : Inv X pins σ H { s with heap := h', toks := tk } := I.turned (fun b o hb e => kk b o (by simpa using hb) e) f0 f1 f3 f4 f5
    obtain ⟨o, e, c', d⟩ := id st'
    exact ⟨_, rfl, go_of (s := { s with heap := h', toks := tk }) e c' d hty ⟨.str ⟨#[c]⟩, H, I1, ⟨u, rfl⟩, ⟨rfl, c, hcp, rfl⟩, st', fun b hb => (hf b hb).1⟩⟩
  done := by
    intro X hP hw hK hc i pins s σ H E I hf st hg
    subst hP hw hK
    obtain ⟨f0, f1, f2, f3, f4, f5⟩ := hf it (by simp)
    have e : i = z.cps.size := hg
    subst e
    exact (W X.A (I.ok.hd hc)).done s _ _ st fun h' tk kk => ⟨rfl, I.turned (fun b o hb e => kk b o (by simpa using hb) e) f0 f1 f3 f4 f5⟩
  self := self
section
variable {X : Cx} {tg : Expr}
end
/-! ### for k, c in enumerate(a text) -/
section
variable {X : Cx} {elts : List Expr} {ek : Nat} {epos : Pos}
end
section
variable {X : Cx}
/-! ### all of a list of truths -/
/-! ### isinstance of a built-in class -/
/-! ### two lists of the very same items -/
/-! ### () + t -/
def rCatT0 (K : PySem.W.Frag) : R2 := fun x y H Q => ∃ a b ys, x = .ref a ∧ y = .ref b ∧ SqT K H a [] ∧ SqT K H b ys ∧ Q (.ref b) H
theorem op_catT0 : OpR X (binaryOp .Add) (rCatT0 X.K) := by
  intro pins s σ H x y v u Q I rx ry h
  obtain ⟨a, b, ys, rfl, rfl, ha, hb, q⟩ := h
  cases rx
  cases ry
  obtain ⟨its, r1, p1, _⟩ := I.tuple ha
  obtain ⟨its2, r2, p2, _⟩ := I.tuple hb
  cases r1
  obtain ⟨⟨cls, dd, data, sl⟩, ho, hc, n, hd⟩ := id p1
  obtain ⟨⟨cls2, dd2, data2, sl2⟩, ho2, hc2, n2, hd2⟩ := id p2
  simp only at hc hd hc2 hd2
  subst hc hd hc2 hd2
  exact concat_meets ⟨_, ho, rfl⟩ ⟨_, ho2, rfl⟩ noFill_tuple_add seq_tuple_add PySem.F.slot_tuple_add PySem.F.entry_tuple_add (PySem.F.args_tuple_add_2 _ _)
    (tuple_addW0 a b _ _ n n2 dd dd2 sl sl2 (by simp)) ⟨ho, ho2, ⟨.ref b, H, I, rfl, q⟩⟩
/-! ### a text's slice -/
theorem part_of {v : Value} {o : Option Int} (h : IsPart v o) : ∃ l : Option (Int × Tok), v = partValue l ∧ l.map (·.1) = o := by
  cases h with
  | none => exact ⟨none, rfl, rfl⟩
  | int i t => exact ⟨some (i, t), rfl, rfl⟩
def rSlS : V → Option Int → Option Int → Hp → VK → Prop := fun x lo hi H Q => ∃ z, x = .str z ∧ z.length ≤ sizeLine ∧ Q (.str (Txt.slice z lo hi)) H
theorem sl_str : SlR X rSlS := by
  intro pins s σ H x v vl vu lo hi sl Q I rx hs pl pu h
  obtain ⟨z, rfl, hz, q⟩ := h
  obtain ⟨t, rfl⟩ := rx
  obtain ⟨l, rfl, rfl⟩ := part_of pl
  obtain ⟨u, rfl, rfl⟩ := part_of pu
  refine ⟨"str", _, PySem.F.slot_str_getitem.lookup, typeIs_str _ _ _, ?_⟩
  obtain ⟨o, ho, hc, hd⟩ := hs
  refine wpAny_getItem_str_slice (l := l) (u := u) (st := none) ⟨o, ho, hc, hd⟩ rfl ?_
  have hle := Txt.slice_le z (l.map (·.1)) (u.map (·.1))
  unfold sliceMade
  unfold Txt.slice at q hle
  show Made.post (if ((1 : Int) == 1 && (PySem.Builtin.Str.strSliceIndices (l.map (·.1)) (u.map (·.1)) 1 z.length).length == z.length) = true then _ else Made.str ⟨((PySem.Builtin.Str.strSliceIndices (l.map (·.1)) (u.map (·.1)) 1 z.length).filterMap (z.cps[·]?)).toArray⟩) _ s
  split
  · rename_i hif
    rw [if_pos hif] at q
    exact ⟨.str z, H, I, ⟨t, rfl⟩, q⟩
  · rename_i hif
    rw [if_neg hif] at q
    rw [if_neg hif] at hle
    exact ⟨Nat.le_trans hle hz, .str _, H, I.tok _, ⟨_, rfl⟩, q⟩
end
end L2
set_option Elab.async false
set_option linter.all false
set_option maxRecDepth 100000
set_option maxHeartbeats 4000000
namespace L2
open PySem PySem.Spec PyProof.Rows
theorem bt_max : bootBuiltins "max" = some (.builtin "max") := by decide +kernel
theorem bt_min : bootBuiltins "min" = some (.builtin "min") := by decide +kernel
theorem bt_isinstance : bootBuiltins "isinstance" = some (.builtin "isinstance") := by decide +kernel
theorem bt_bool : bootBuiltins "bool" = some (.type "bool") := by decide +kernel
theorem bt_list : bootBuiltins "list" = some (.type "list") := by decide +kernel
theorem bt_tuple : bootBuiltins "tuple" = some (.type "tuple") := by decide +kernel
section
variable {X : Cx}
/-- a def that keeps its promise, whatever its address -/
structure Ca (P : Program) (w : World) (K : PySem.W.Frag) (mg : Str → Option Value) (base : Heap) (k : Nat) (x : Str) (ps : List Str) (sp : Sp) : Prop where
  ex : ∃ (f : Addr) (fd : FuncData), FnOk P w K mg base CX0 k f fd ps sp ∧ Binds K fd ps [] ∧ PySem.W.keepIn K (.ref f) = true ∧ mg x = some (.ref f)
theorem pe_ca {k : Nat} {x : Str} {ps : List Str} {sp : Sp} {p pos : Pos} {e : Expr} {es : List Expr} {t : TA} (C : Ca X.prog X.w X.K X.mg X.base k x ps sp) (hr : Room k X.A) (hg : Gl X x) (ha : PA X (e :: es) t)
    (hdb : (x == ("__debug__" : Str)) = false := by decide) (he : starEach (e :: es) X.env = (false, eval e X.env) :: starEach es X.env := by rfl) (hpl : (backTo pos (starEach es X.env)).any (·.1) = false := by rfl) :
    PE X (.Call (.Name x p) (e :: es) [] pos) (tCall sp [] E0 t) := by
  obtain ⟨f, fd, F, B, kp, m⟩ := C.ex
  exact pe_call F hr hg m kp B .nil pass0 ha hdb he hpl
/-! the names of a block -/
theorem mem_relabel {scope : Scope} {env : Env} {x : Str} {k : NameKind} (h : (relabel scope env).names.lookup x = some k) : ∃ k', (x, k') ∈ scope.names ∧ (k' = k ∨ k' = .free) := by
  have m := PySem.mem_of_lookup h
  unfold relabel at m
  obtain ⟨⟨n, k'⟩, hm, e⟩ := List.mem_map.mp m
  dsimp only at e
  split at e
  · rename_i hc
    cases e
    refine ⟨k', hm, .inr ?_⟩
    simp only [Bool.and_eq_true, beq_iff_eq] at hc
    exact hc.1.1
  · cases e
    exact ⟨_, hm, .inl rfl⟩
theorem compOk0 {cN : List Str} {cap : List (Option Nat)} {scope : Scope} (hk : scope.kind = .function) (h1 : scope.names.all (fun y => y.2 != .free && y.2 != .cell) = true) (h2 : scope.names.all (fun y => y.2 != .local || scope.names.lookup y.1 == some .local) = true)
    (hl : cap.length = cN.length) (hc : cap.all (fun o => o.isNone) = true) : CompOk X cN cap scope [] where
  clos := closureFor_none fun y hy => by
    have := List.all_eq_true.mp h1 y hy
    simp only [Bool.and_eq_true, bne_iff_ne, ne_eq] at this
    exact this.1
  sub := fun n a h => by cases h
  cell := fun y hy => by
    have := List.all_eq_true.mp h1 y hy
    simp only [Bool.and_eq_true, bne_iff_ne, ne_eq] at this
    exact this.2
  kind := hk
  names := fun y hy e => by
    have := List.all_eq_true.mp h2 y hy
    simp only [Bool.or_eq_true, bne_iff_ne, ne_eq, beq_iff_eq] at this
    rcases this with q | q
    · exact absurd e q
    · exact q
  len := hl
  has := fun x h => by
    exfalso
    have no : ∀ k', (x, k') ∈ scope.names → k' ≠ .free ∧ k' ≠ .cell := fun k' hy => by
      have := List.all_eq_true.mp h1 _ hy
      simpa only [Bool.and_eq_true, bne_iff_ne, ne_eq] using this
    rcases h with h | h
    · obtain ⟨k', hm, e⟩ := mem_relabel h
      rcases e with e | e
      · exact (no k' hm).2 e
      · exact (no k' hm).1 e
    · obtain ⟨k', hm, e⟩ := mem_relabel h
      rcases e with e | e
      · exact (no k' hm).1 e
      · exact (no k' hm).1 e
  capd := fun i j x h _ => by
    have := List.all_eq_true.mp hc _ (List.mem_of_getElem? h)
    cases this
/-- the cells that a block takes -/
def closOf (cells : List (Str × Addr)) : List (Str × NameKind) → List (Str × Addr) → List (Str × Addr)
  | [], cs => cs
  | (n, k) :: r, cs => closOf cells r (if k == .free then (n, (cells.lookup n).getD 0) :: cs else cs)
theorem closOf_mem {cells : List (Str × Addr)} : ∀ {names : List (Str × NameKind)} {cs : List (Str × Addr)} {p : Str × Addr}, p ∈ closOf cells names cs ↔ p ∈ cs ∨ ((p.1, NameKind.free) ∈ names ∧ p.2 = (cells.lookup p.1).getD 0)
  | [], cs, p => by simp [closOf]
  | (n, k) :: r, cs, p => by
    unfold closOf
    rw [closOf_mem]
    by_cases hk : k = .free
    · subst hk
      simp only [beq_self_eq_true, if_true, List.mem_cons, Prod.mk.injEq, and_true]
      constructor
      · rintro ((h | h) | h)
        · subst h; exact .inr ⟨.inl rfl, rfl⟩
        · exact .inl h
        · exact .inr ⟨.inr h.1, h.2⟩
      · rintro (h | ⟨h | h, e⟩)
        · exact .inl (.inr h)
        · refine .inl (.inl ?_)
          obtain ⟨a, b⟩ := p
          simp only at h e
          subst h; subst e; rfl
        · exact .inr ⟨h, e⟩
    · have hb : (k == NameKind.free) = false := by simpa using hk
      simp only [hb, Bool.false_eq_true, if_false, List.mem_cons, Prod.mk.injEq]
      constructor
      · rintro (h | h)
        · exact .inl h
        · exact .inr ⟨.inr h.1, h.2⟩
      · rintro (h | ⟨h | h, e⟩)
        · exact .inl h
        · exact absurd h.2.symm hk
        · exact .inr ⟨h, e⟩
theorem closureFor_of {scope : Scope} {env : Env} (h : ∀ n, (n, NameKind.free) ∈ scope.names → ∃ c, env.cells.lookup n = some c) : closureFor scope env = pure (closOf env.cells scope.names []) := by
  have key : ∀ (names : List (Str × NameKind)) (cs : List (Str × Addr)), (∀ n, (n, NameKind.free) ∈ names → ∃ c, env.cells.lookup n = some c) →
      (forIn names cs fun x r => (match x with | (name, kind) => if (kind == NameKind.free) = true then (do let y ← cellOf env name; pure (ForInStep.yield ((name, y) :: r))) else pure (ForInStep.yield r) : Sem (ForInStep (List (Str × Addr))))) = pure (closOf env.cells names cs) := by
    intro names
    induction names with
    | nil => intro cs _; rfl
    | cons y r ih =>
      obtain ⟨n, k⟩ := y
      intro cs hn
      rw [List.forIn_cons]
      unfold closOf
      by_cases hk : k = .free
      · subst hk
        obtain ⟨c, hc⟩ := hn n (List.mem_cons_self)
        simp only [beq_self_eq_true, if_true, cellOf, hc, Option.getD_some]
        exact ih _ fun m hm => hn m (List.mem_cons_of_mem _ hm)
      · have hb : (k == NameKind.free) = false := by simpa using hk
        simp only [hb, Bool.false_eq_true, if_false]
        exact ih _ fun m hm => hn m (List.mem_cons_of_mem _ hm)
  unfold closureFor
  have := key scope.names [] h
  first
    | exact this
    | (simp only [bind_pure]; exact this)
    | (show (forIn scope.names [] _ >>= fun r => pure r) = _; rw [bind_pure]; exact this)
/-- the block's names stand at these places of the frame around, as cells -/
def capOk (N : List Str) (outer inner : List (Str × NameKind)) : List (Option Nat) → List Str → Bool
  | [], _ => true
  | _, [] => true
  | none :: r, _ :: xs => capOk N outer inner r xs
  | some j :: r, x :: xs => N[j]? == some x && outer.lookup x == some .cell && inner.lookup x == some .free && capOk N outer inner r xs
theorem lookup_of_mem {α β : Type} [BEq α] [LawfulBEq α] {x : α} : ∀ {l : List (α × β)} {b : β}, (x, b) ∈ l → ∃ c, l.lookup x = some c
  | [], _, h => by cases h
  | (y, c) :: r, b, h => by
    rw [List.lookup_cons]
    by_cases hx : x = y
    · subst hx; simp
    · have hb : (x == y) = false := beq_eq_false_iff_ne.mpr hx
      rw [hb]
      rcases List.mem_cons.mp h with e | h
      · cases e; exact absurd rfl hx
      · exact lookup_of_mem h
end
end L2
set_option Elab.async false
set_option linter.all false
set_option maxRecDepth 100000
set_option maxHeartbeats 4000000
namespace L2
open PySem PySem.Spec PyProof.Rows
/-- the list grown so far, and what holds of it -/
def CN (p : Addr) (Pv : Nat → List V → Hp → Prop) (i : Nat) (H : Hp) : Prop := ∃ ys, H p = some (.lst ys) ∧ ys.length ≤ i ∧ Pv i ys H
section
variable {K : PySem.W.Frag} {cap : List (Option Nat)} {g : TG} {c : TT} {te : TE} {σ : St} {Q : Addr → Hp → Prop} {H : Hp}
end
/-- a for's turns -/
def tForGo (g : TG) (tb : TS) (D : Ends) (σ : St) (J : It) (H1 : Hp) : Prop := ∃ W : Nat → Nat → St → Hp → Prop, (∃ m, W 0 m σ H1) ∧ ∀ i m σ H, W i m σ H →
  (J.stop i H ∧ D.nx σ H) ∨ (J.go i H ∧ ∃ N : St → Hp → Prop, (∀ σ' H', N σ' H' → ∃ m', m' < m ∧ W (i + 1) m' σ' H') ∧ ∀ x H', J.yld i H x H' → g x σ H' fun σ2 H2 => tb { D with nx := N, ct := N, bk := D.nx } σ2 H2)
section
variable {K : PySem.W.Frag} {a : Addr} {xs : List V} {g : TG} {tb : TS} {D : Ends} {σ : St} {H : Hp} {z : Str}
end
theorem tyL {K : PySem.W.Frag} {H : Hp} {r : Addr} {xs : List V} (h : H r = some (.lst xs)) : tyV K "list" (.ref r) H := by
  unfold tyV
  exact .inl ⟨rfl, xs, SqL.of h⟩
theorem atI_in {α : Type} {xs : List α} {i : Int} (h0 : 0 ≤ i) (h1 : i < (xs.length : Int)) : ∃ v, atI xs i = some v ∧ v ∈ xs := by
  have hk : i.toNat < xs.length := by omega
  have ek : ((i.toNat : Nat) : Int) = i := by omega
  have q : atI xs ((i.toNat : Nat) : Int) = some xs[i.toNat] := atI_nat (by simp [hk])
  rw [ek] at q
  exact ⟨xs[i.toNat], q, List.getElem_mem hk⟩
end L2
set_option Elab.async false
set_option linter.all false
set_option maxRecDepth 100000
set_option maxHeartbeats 4000000
/-! a second level over the layer: tuples are values, lists and objects stand in a heap of their own; what a def does is a wish transformer over these -/
namespace WL
open PySem PySem.Spec PyProof.Rows L2
inductive T where
  | non | bl (b : Bool) | int (i : Int) | str (x : Str) | tup (xs : List T)
  /-- a list, a dict, an object of ours -/
  | ref (a : Addr)
  /-- a list that nobody changes (the script, a list of the module) -/
  | cl (xs : List T)
inductive O where
  | lst (xs : List T)
  | dic (kvs : List (Key × T))
  | ins (cn : Str) (fs : List (Str × T))
  /-- a dict that is read alone -/
  | fdic (kvs : List (Key × T))
  /-- an exception of an own class, by its name -/
  | exc (cn : Str)
  /-- a table of code: empty yet, or not known -/
  | tab (b : Bool)
abbrev Hw := Addr → Option O
def up (C : Hw) (a : Addr) (o : O) : Hw := fun b => if b = a then some o else C b
theorem up_same {C : Hw} {a : Addr} {o : O} : up C a o a = some o := by unfold up; rw [if_pos rfl]
theorem up_ne {C : Hw} {a b : Addr} {o : O} (h : b ≠ a) : up C a o b = C b := by unfold up; rw [if_neg h]
/-! ### how a value stands in the abstract heap -/
def SqC (K : PySem.W.Frag) (H : Hp) (a : Addr) (xs : List V) : Prop :=
  (∃ o, H a = some (.frz o (.lst xs))) ∨
    ∃ (o : Obj) (its : Array Value) (n : Nat), K.lookup a = some o ∧ o.cls = .type "list" ∧ o.dict = none ∧ o.data = .seq its n ∧ its.size ≤ sizeLine ∧ Vals xs its.toList
theorem SqC.sq {K : PySem.W.Frag} {H : Hp} {a : Addr} {xs : List V} (h : SqC K H a xs) : SqL K H a xs := by
  rcases h with ⟨o, h⟩ | h
  · exact .inl (.inr ⟨o, h⟩)
  · exact .inr h
mutual
def Rep (K : PySem.W.Frag) (H : Hp) (x : V) : T → Prop
  | .non => x = .non
  | .bl b => x = .bl b
  | .int i => x = .int i
  | .str z => x = .str z
  | .ref a => x = .ref a
  | .tup ts => ∃ a ys, x = .ref a ∧ SqT K H a ys ∧ Reps K H ys ts
  | .cl ts => ∃ a ys, x = .ref a ∧ SqC K H a ys ∧ Reps K H ys ts
def Reps (K : PySem.W.Frag) (H : Hp) (ys : List V) : List T → Prop
  | [] => ys = []
  | t :: ts => ∃ y r, ys = y :: r ∧ Rep K H y t ∧ Reps K H r ts
end
def Stb : HO → Prop
  | .tup _ => True
  | .frz _ _ => True
  | _ => False
/-- tuples and frozen things stay -/
def Tx (H H' : Hp) : Prop := ∀ b o, H b = some o → Stb o → H' b = some o
theorem Tx.refl (H : Hp) : Tx H H := fun _ _ h _ => h
theorem Tx.trans {H H1 H2 : Hp} (a : Tx H H1) (b : Tx H1 H2) : Tx H H2 := fun c o h n => b c o (a c o h n) n
theorem Tx.new {H : Hp} {p : Addr} {o : HO} (h : H p = none) : Tx H (upd H p o) := fun b u q _ => by rw [upd_ne (ne_of_none q h)]; exact q
theorem Tx.put {H : Hp} {p : Addr} {o u : HO} (h : H p = some o) (n : ¬ Stb o) : Tx H (upd H p u) := fun b v q s => by
  by_cases e : b = p
  · subst e; rw [h] at q; cases q; exact absurd s n
  · rw [upd_ne e]; exact q
theorem Tx.sqt {K : PySem.W.Frag} {H H' : Hp} (t : Tx H H') {a : Addr} {xs : List V} (h : SqT K H a xs) : SqT K H' a xs := by
  rcases h with (h | ⟨o, h⟩) | h
  · exact .inl (.inl (t _ _ h trivial))
  · exact .inl (.inr ⟨o, t _ _ h trivial⟩)
  · exact .inr h
theorem Tx.sqc {K : PySem.W.Frag} {H H' : Hp} (t : Tx H H') {a : Addr} {xs : List V} (h : SqC K H a xs) : SqC K H' a xs := by
  rcases h with ⟨o, h⟩ | h
  · exact .inl ⟨o, t _ _ h trivial⟩
  · exact .inr h
mutual
theorem Rep.tx {K : PySem.W.Frag} {H H' : Hp} (t : Tx H H') {x : V} : ∀ {v : T}, Rep K H x v → Rep K H' x v
  | .non, h => by simpa [Rep] using h
  | .bl b, h => by simpa [Rep] using h
  | .int i, h => by simpa [Rep] using h
  | .str z, h => by simpa [Rep] using h
  | .ref a, h => by simpa [Rep] using h
  | .tup ts, h => by
    unfold Rep at h ⊢
    obtain ⟨a, ys, e, q, r⟩ := h
    exact ⟨a, ys, e, t.sqt q, Reps.tx t r⟩
  | .cl ts, h => by
    unfold Rep at h ⊢
    obtain ⟨a, ys, e, q, r⟩ := h
    exact ⟨a, ys, e, t.sqc q, Reps.tx t r⟩
theorem Reps.tx {K : PySem.W.Frag} {H H' : Hp} (t : Tx H H') {ys : List V} : ∀ {vs : List T}, Reps K H ys vs → Reps K H' ys vs
  | [], h => by simpa [Reps] using h
  | v :: vs, h => by
    unfold Reps at h ⊢
    obtain ⟨y, r, e, q, s⟩ := h
    exact ⟨y, r, e, Rep.tx t q, Reps.tx t s⟩
end
section
variable {K : PySem.W.Frag} {H : Hp}
theorem rep_int {i : Int} : Rep K H (.int i) (.int i) := by unfold Rep; rfl
theorem rep_str {i : Str} : Rep K H (.str i) (.str i) := by unfold Rep; rfl
theorem rep_bl {i : Bool} : Rep K H (.bl i) (.bl i) := by unfold Rep; rfl
theorem rep_non : Rep K H .non .non := by unfold Rep; rfl
theorem rep_ref {a : Addr} : Rep K H (.ref a) (.ref a) := by unfold Rep; rfl
theorem rep_tup {a : Addr} {ys : List V} {ts : List T} (h : SqT K H a ys) (r : Reps K H ys ts) : Rep K H (.ref a) (.tup ts) := by unfold Rep; exact ⟨a, ys, rfl, h, r⟩
theorem of_int {x : V} {i : Int} (h : Rep K H x (.int i)) : x = .int i := by unfold Rep at h; exact h
theorem of_str {x : V} {i : Str} (h : Rep K H x (.str i)) : x = .str i := by unfold Rep at h; exact h
theorem of_bl {x : V} {i : Bool} (h : Rep K H x (.bl i)) : x = .bl i := by unfold Rep at h; exact h
theorem of_non {x : V} (h : Rep K H x .non) : x = .non := by unfold Rep at h; exact h
theorem of_ref {x : V} {a : Addr} (h : Rep K H x (.ref a)) : x = .ref a := by unfold Rep at h; exact h
theorem of_tup {x : V} {ts : List T} (h : Rep K H x (.tup ts)) : ∃ a ys, x = .ref a ∧ SqT K H a ys ∧ Reps K H ys ts := by unfold Rep at h; exact h
theorem of_cl {x : V} {ts : List T} (h : Rep K H x (.cl ts)) : ∃ a ys, x = .ref a ∧ SqC K H a ys ∧ Reps K H ys ts := by unfold Rep at h; exact h
theorem reps_nil : Reps K H [] [] := by unfold Reps; rfl
theorem reps_cons {y : V} {ys : List V} {t : T} {ts : List T} (a : Rep K H y t) (b : Reps K H ys ts) : Reps K H (y :: ys) (t :: ts) := by unfold Reps; exact ⟨y, ys, rfl, a, b⟩
theorem of_nil {ys : List V} (h : Reps K H ys []) : ys = [] := by unfold Reps at h; exact h
theorem of_cons {ys : List V} {t : T} {ts : List T} (h : Reps K H ys (t :: ts)) : ∃ y r, ys = y :: r ∧ Rep K H y t ∧ Reps K H r ts := by unfold Reps at h; exact h
theorem Reps.length : ∀ {vs : List T} {ys : List V}, Reps K H ys vs → ys.length = vs.length
  | [], _, h => by rw [of_nil h]; rfl
  | _ :: _, _, h => by obtain ⟨y, r, rfl, _, q⟩ := of_cons h; rw [List.length_cons, List.length_cons, q.length]
theorem Reps.get : ∀ {vs : List T} {ys : List V} {i : Nat} {v : T}, Reps K H ys vs → vs[i]? = some v → ∃ y, ys[i]? = some y ∧ Rep K H y v
  | [], _, _, _, _, e => by simp at e
  | _ :: _, _, 0, _, h, e => by obtain ⟨y, r, rfl, a, _⟩ := of_cons h; simp at e; subst e; exact ⟨y, rfl, a⟩
  | _ :: _, _, i + 1, v, h, e => by
    obtain ⟨y, r, rfl, _, q⟩ := of_cons h
    obtain ⟨z, h1, h2⟩ := Reps.get (i := i) (v := v) q (by simpa using e)
    exact ⟨z, by simpa using h1, h2⟩
theorem Reps.app : ∀ {vs ws : List T} {ys zs : List V}, Reps K H ys vs → Reps K H zs ws → Reps K H (ys ++ zs) (vs ++ ws)
  | [], _, _, _, h, q => by rw [of_nil h]; exact q
  | _ :: _, _, _, _, h, q => by obtain ⟨y, r, rfl, a, b⟩ := of_cons h; exact reps_cons a (b.app q)
theorem Reps.take : ∀ (n : Nat) {vs : List T} {ys : List V}, Reps K H ys vs → Reps K H (ys.take n) (vs.take n)
  | 0, _, _, _ => by simpa using reps_nil
  | _ + 1, [], _, h => by rw [of_nil h]; exact reps_nil
  | n + 1, _ :: _, _, h => by obtain ⟨y, r, rfl, a, b⟩ := of_cons h; exact reps_cons a (b.take n)
theorem Reps.drop : ∀ (n : Nat) {vs : List T} {ys : List V}, Reps K H ys vs → Reps K H (ys.drop n) (vs.drop n)
  | 0, _, _, h => h
  | _ + 1, [], _, h => by rw [of_nil h]; exact reps_nil
  | n + 1, _ :: _, _, h => by obtain ⟨y, r, rfl, a, b⟩ := of_cons h; exact b.drop n
theorem Reps.snoc {vs : List T} {ys : List V} {y : V} {v : T} (h : Reps K H ys vs) (q : Rep K H y v) : Reps K H (ys ++ [y]) (vs ++ [v]) := h.app (reps_cons q reps_nil)
theorem Reps.reverse : ∀ {vs : List T} {ys : List V}, Reps K H ys vs → Reps K H ys.reverse vs.reverse
  | [], _, h => by rw [of_nil h]; exact reps_nil
  | _ :: _, _, h => by obtain ⟨y, r, rfl, a, b⟩ := of_cons h; rw [List.reverse_cons, List.reverse_cons]; exact b.reverse.snoc a
theorem Reps.at {vs : List T} {ys : List V} {i : Int} {v : T} (h : Reps K H ys vs) (e : atI vs i = some v) : ∃ y, atI ys i = some y ∧ Rep K H y v := by
  unfold atI at e ⊢
  rw [h.length]
  cases q : ixN vs.length i with
  | none => rw [q] at e; cases e
  | some j =>
    rw [q] at e
    exact h.get e
theorem reps_ints : ∀ ns : List Int, Reps K H (ns.map V.int) (ns.map T.int)
  | [] => reps_nil
  | n :: r => reps_cons rep_int (reps_ints r)
end
/-! ### two heaps -/
abbrev PR (K : PySem.W.Frag) (H : Hp) {κ : Type} (kvs : List (κ × V)) (kws : List (κ × T)) : Prop := PySem.Paired (fun p q => p.1 = q.1 ∧ Rep K H p.2 q.2) kvs kws
def ORel (K : PySem.W.Frag) (H : Hp) (a : Addr) : O → Prop
  | .lst xs => ∃ ys, H a = some (.lst ys) ∧ Reps K H ys xs
  | .dic kvs => ∃ ks, H a = some (.dK ks) ∧ PR K H ks kvs
  | .ins cn fs => ∃ Cl dx ks, PySem.W.nsIn K mainGlobals cn = some (some (.ref Cl)) ∧ H a = some (.ins Cl dx ks) ∧ PR K H ks fs
  | .fdic kvs => ∃ ks, Rd H a (.dK ks) ∧ PR K H ks kvs
  | .exc cn => ∃ Cl ob u, PySem.W.nsIn K mainGlobals cn = some (some (.ref Cl)) ∧ ob.cls = .ref Cl ∧ H a = some (.frz ob u)
  | .tab b => ∃ ps, H a = some (.tbl ps) ∧ (b = true → ps = #[])
def O.wr : O → Prop
  | .fdic _ => False
  | .exc _ => False
  | _ => True
structure Rl (K : PySem.W.Frag) (F H : Hp) (C : Hw) : Prop where
  obj : ∀ a o, C a = some o → ORel K H a o
  frm : ∀ a o, F a = some o → H a = some o ∧ C a = none
theorem pr_tx {K : PySem.W.Frag} {H H' : Hp} (t : Tx H H') {κ : Type} {ks : List (κ × V)} {kvs : List (κ × T)} (h : PR K H ks kvs) : PR K H' ks kvs := L2.Paired.mapP h fun _ _ z => ⟨z.1, z.2.tx t⟩
theorem ORel.stay {K : PySem.W.Frag} {H H' : Hp} {a : Addr} {o : O} (h : ORel K H a o) (t : Tx H H') (e : H' a = H a) : ORel K H' a o := by
  cases o with
  | lst xs => obtain ⟨ys, q, r⟩ := h; exact ⟨ys, e.trans q, r.tx t⟩
  | dic kvs => obtain ⟨ys, q, r⟩ := h; exact ⟨ys, e.trans q, pr_tx t r⟩
  | ins C fs => obtain ⟨Cl, dx, ys, n, q, r⟩ := h; exact ⟨Cl, dx, ys, n, e.trans q, pr_tx t r⟩
  | fdic kvs =>
    obtain ⟨ys, q, r⟩ := h
    refine ⟨ys, ?_, pr_tx t r⟩
    rcases q with q | ⟨o, q⟩
    · exact .inl (e.trans q)
    · exact .inr ⟨o, e.trans q⟩
  | exc cn => obtain ⟨Cl, ob, u, n, c, q⟩ := h; exact ⟨Cl, ob, u, n, c, e.trans q⟩
  | tab b => obtain ⟨ps, q, z⟩ := h; exact ⟨ps, e.trans q, z⟩
theorem ORel.some {K : PySem.W.Frag} {H : Hp} {a : Addr} {o : O} (h : ORel K H a o) (wr : o.wr) : ∃ u, H a = some u ∧ ¬ Stb u := by
  cases o with
  | fdic kvs => exact wr.elim
  | exc cn => exact wr.elim
  | tab b => obtain ⟨ps, q, z⟩ := h; exact ⟨_, q, fun z => z⟩
  | lst xs => obtain ⟨ys, q, r⟩ := h; exact ⟨_, q, fun z => z⟩
  | dic kvs => obtain ⟨ys, q, r⟩ := h; exact ⟨_, q, fun z => z⟩
  | ins C fs => obtain ⟨Cl, dx, ys, n, q, r⟩ := h; exact ⟨_, q, fun z => z⟩
theorem ORel.here {K : PySem.W.Frag} {H : Hp} {a : Addr} {o : O} (h : ORel K H a o) : ∃ u, H a = Option.some u := by
  cases o with
  | fdic kvs =>
    obtain ⟨ys, q, r⟩ := h
    rcases q with q | ⟨o, q⟩
    · exact ⟨_, q⟩
    · exact ⟨_, q⟩
  | exc cn => obtain ⟨Cl, ob, u, n, c, q⟩ := h; exact ⟨_, q⟩
  | tab b => obtain ⟨ps, q, z⟩ := h; exact ⟨_, q⟩
  | lst xs => obtain ⟨ys, q, r⟩ := h; exact ⟨_, q⟩
  | dic kvs => obtain ⟨ys, q, r⟩ := h; exact ⟨_, q⟩
  | ins C fs => obtain ⟨Cl, dx, ys, n, q, r⟩ := h; exact ⟨_, q⟩
section
variable {K : PySem.W.Frag} {F H : Hp} {C : Hw}
theorem Rl.free (R : Rl K F H C) {p : Addr} (h : H p = none) : C p = none := by
  cases e : C p with
  | none => rfl
  | some o => obtain ⟨u, q⟩ := (R.obj p o e).here; rw [h] at q; cases q
theorem Rl.lst (R : Rl K F H C) {a : Addr} {xs : List T} (h : C a = some (.lst xs)) : ∃ ys, H a = some (.lst ys) ∧ Reps K H ys xs := R.obj a _ h
/-- a new object that is seen -/
theorem Rl.new (R : Rl K F H C) {p : Addr} {u : HO} {o : O} (h : H p = none) (r : ORel K (upd H p u) p o) : Rl K F (upd H p u) (up C p o) where
  obj := fun a v e => by
    by_cases q : a = p
    · subst q; rw [up_same] at e; cases e; exact r
    · rw [up_ne q] at e
      exact (R.obj a v e).stay (Tx.new h) (upd_ne q)
  frm := fun a v e => by
    have z := R.frm a v e
    have q : a ≠ p := ne_of_none z.1 h
    rw [upd_ne q, up_ne q]; exact z
/-- a new object that is not seen -/
theorem Rl.hid (R : Rl K F H C) {p : Addr} {u : HO} (h : H p = none) : Rl K F (upd H p u) C where
  obj := fun a v e => by
    obtain ⟨w, q⟩ := (R.obj a v e).here
    exact (R.obj a v e).stay (Tx.new h) (upd_ne (ne_of_none q h))
  frm := fun a v e => by
    have z := R.frm a v e
    rw [upd_ne (ne_of_none z.1 h)]; exact z
/-- an object written over -/
theorem Rl.put (R : Rl K F H C) {p : Addr} {u : HO} {o o' : O} (h : C p = some o) (r : ORel K (upd H p u) p o') (wr : o.wr := by trivial) : Rl K F (upd H p u) (up C p o') ∧ Tx H (upd H p u) := by
  obtain ⟨w, hw, ns⟩ := (R.obj p o h).some wr
  have t : Tx H (upd H p u) := Tx.put hw ns
  refine ⟨⟨fun a v e => ?_, fun a v e => ?_⟩, t⟩
  · by_cases q : a = p
    · subst q; rw [up_same] at e; cases e; exact r
    · rw [up_ne q] at e
      exact (R.obj a v e).stay t (upd_ne q)
  · have z := R.frm a v e
    have q : a ≠ p := fun y => by subst y; rw [h] at z; cases z.2
    rw [upd_ne q, up_ne q]; exact z
theorem Rl.putL (R : Rl K F H C) {p : Addr} {xs xs' : List T} {ys' : List V} (h : C p = some (.lst xs)) (r : Reps K H ys' xs') : Rl K F (upd H p (.lst ys')) (up C p (.lst xs')) ∧ Tx H (upd H p (.lst ys')) := by
  obtain ⟨w, hw, ns⟩ := (R.obj p _ h).some trivial
  exact R.put h ⟨ys', upd_same, r.tx (Tx.put hw ns)⟩
theorem Rl.newL (R : Rl K F H C) {p : Addr} {xs : List T} {ys : List V} (h : H p = none) (r : Reps K H ys xs) : Rl K F (upd H p (.lst ys)) (up C p (.lst xs)) := R.new h ⟨ys, upd_same, r.tx (Tx.new h)⟩
end
/-! ### wishes -/
abbrev Sw := List (Option T)
abbrev WK := T → Hw → Prop
/-- an exception: its class's name, its attributes -/
structure Xn where
  cls : Str
  fs : List (Str × T)
abbrev WX := Xn → Hw → Prop
abbrev WE := Sw → Hw → WK → WX → Prop
abbrev WT := Sw → Hw → (Bool → Hw → Prop) → WX → Prop
abbrev WA := Sw → Hw → (List T → Hw → Prop) → WX → Prop
structure We where
  nx : Sw → Hw → Prop
  rt : WK
  bk : Sw → Hw → Prop := fun _ _ => False
  ct : Sw → Hw → Prop := fun _ _ => False
  xc : WX := fun _ _ => False
abbrev WS := We → Sw → Hw → Prop
abbrev WG := T → Sw → Hw → (Sw → Hw → Prop) → WX → Prop
abbrev WGs := List T → Sw → Hw → (Sw → Hw → Prop) → WX → Prop
/-- what is walked: its items, and what must hold of the heap at each turn -/
abbrev WI := Sw → Hw → (List T → (Hw → Prop) → Hw → Prop) → WX → Prop
abbrev W2 := T → T → Hw → WK → Prop
abbrev Calls := Nat → List T → Hw → WK → WX → Prop
/-! ### what the operations are -/
def eVar (i : Nat) : WE := fun τ C Q _ => ∃ v, τ[i]? = some (some v) ∧ Q v C
def eC (v : T) : WE := fun _ C Q _ => Q v C
def eBin (r : W2) (a b : WE) : WE := fun τ C Q χ => a τ C (fun x C1 => b τ C1 (fun y C2 => r x y C2 Q) χ) χ
def eUn (r : T → Hw → WK → Prop) (a : WE) : WE := fun τ C Q χ => a τ C (fun x C1 => r x C1 Q) χ
def aNil : WA := fun _ C Q _ => Q [] C
def aCons (a : WE) (r : WA) : WA := fun τ C Q χ => a τ C (fun x C1 => r τ C1 (fun xs C2 => Q (x :: xs) C2) χ) χ
def eTup (a : WA) : WE := fun τ C Q χ => a τ C (fun xs C1 => xs.length ≤ sizeLine ∧ Q (.tup xs) C1) χ
def eLst (a : WA) : WE := fun τ C Q χ => a τ C (fun xs C1 => xs.length ≤ sizeLine ∧ ∀ p, C1 p = none → Q (.ref p) (up C1 p (.lst xs))) χ
def eCall (P : Calls) (i : Nat) (a : WA) : WE := fun τ C Q χ => a τ C (fun xs C1 => P i xs C1 Q χ) χ
def eBi (r : List T → Hw → WK → Prop) (a : WA) : WE := fun τ C Q χ => a τ C (fun xs C1 => r xs C1 Q) χ
def eMt (ty : T → Hw → Prop) (r : T → List T → Hw → WK → Prop) (o : WE) (a : WA) : WE := fun τ C Q χ => o τ C (fun x C1 => ty x C1 ∧ a τ C1 (fun xs C2 => r x xs C2 Q) χ) χ
def eIf (c : WT) (a b : WE) : WE := fun τ C Q χ => c τ C (fun k C1 => if k = true then a τ C1 Q χ else b τ C1 Q χ) χ
def eAnd (a b : WE) : WE := fun τ C Q χ => a τ C (fun x C1 => ∃ k, x = .bl k ∧ if k = true then b τ C1 Q χ else Q (.bl false) C1) χ
def eOr (a b : WE) : WE := fun τ C Q χ => a τ C (fun x C1 => ∃ k, x = .bl k ∧ if k = true then Q (.bl true) C1 else b τ C1 Q χ) χ
def eNot (a : WE) : WE := fun τ C Q χ => a τ C (fun x C1 => ∃ k, x = .bl k ∧ Q (.bl (!k)) C1) χ
/-- a value's truth -/
def tru : T → Hw → Bool → Prop
  | .non, _, k => k = false
  | .bl b, _, k => k = b
  | .int i, _, k => k = (i != 0)
  | .str y, _, k => y.length ≤ sizeLine ∧ k = ((y.length : Int) != 0)
  | .tup xs, _, k => k = !xs.isEmpty
  | .cl xs, _, k => k = !xs.isEmpty
  | .ref a, C, k => (∃ xs, C a = some (.lst xs) ∧ k = !xs.isEmpty) ∨ ∃ kvs, C a = some (.dic kvs) ∧ k = !kvs.isEmpty
def tTru (a : WE) : WT := fun τ C Q χ => a τ C (fun x C1 => ∃ k, tru x C1 k ∧ Q k C1) χ
/-- the value is a truth -/
def tBl (a : WE) : WT := fun τ C Q χ => a τ C (fun x C1 => ∃ k, x = .bl k ∧ Q k C1) χ
def tAn (a b : WT) : WT := fun τ C Q χ => a τ C (fun k C1 => if k = true then b τ C1 Q χ else Q false C1) χ
def tOr' (a b : WT) : WT := fun τ C Q χ => a τ C (fun k C1 => if k = true then Q true C1 else b τ C1 Q χ) χ
def tNo (a : WT) : WT := fun τ C Q χ => a τ C (fun k C1 => Q (!k) C1) χ
/-- a op1 b op2 c -/
def eChain (r r' : W2) (a b c : WE) : WE := fun τ C Q χ => a τ C (fun x C1 => b τ C1 (fun y C2 => r x y C2 fun z C3 => ∃ k, z = .bl k ∧ (if k = true then c τ C3 (fun w C4 => r' y w C4 Q) χ else Q (.bl false) C3)) χ) χ
def wAdd : W2
  | .int i, .int j, C, Q => Q (.int (i + j)) C
  | .str i, .str j, C, Q => i.length + j.length ≤ sizeLine ∧ Q (.str (i ++ j)) C
  | .tup xs, .tup ys, C, Q => xs.length + ys.length ≤ sizeLine ∧ Q (.tup (xs ++ ys)) C
  | .ref a, .ref b, C, Q => ∃ xs ys, C a = some (.lst xs) ∧ C b = some (.lst ys) ∧ xs.length + ys.length ≤ sizeLine ∧ ∀ p, C p = none → Q (.ref p) (up C p (.lst (xs ++ ys)))
  | _, _, _, _ => False
def wSub : W2
  | .int i, .int j, C, Q => Q (.int (i - j)) C
  | _, _, _, _ => False
def wMul : W2
  | .int i, .int j, C, Q => CMul i j ∧ Q (.int (i * j)) C
  | _, _, _, _ => False
def wDiv : W2
  | .int i, .int j, C, Q => CDiv i j ∧ Q (.int (i / j)) C
  | _, _, _, _ => False
def wMod : W2
  | .int i, .int j, C, Q => 0 < j ∧ Q (.int (i % j)) C
  | _, _, _, _ => False
def wPow : W2
  | .int i, .int j, C, Q => CPow i j ∧ Q (.int (i ^ j.toNat)) C
  | _, _, _, _ => False
def wNeg : T → Hw → WK → Prop
  | .int i, C, Q => Q (.int (-i)) C
  | _, _, _ => False
def wLt : W2
  | .int i, .int j, C, Q => Q (.bl (decide (i < j))) C
  | .str i, .str j, C, Q => Q (.bl (decide (i.cps.toList < j.cps.toList))) C
  | _, _, _, _ => False
def wLe : W2
  | .int i, .int j, C, Q => Q (.bl (decide (i ≤ j))) C
  | _, _, _, _ => False
def wGt : W2
  | .int i, .int j, C, Q => Q (.bl (decide (j < i))) C
  | _, _, _, _ => False
def wGe : W2
  | .int i, .int j, C, Q => Q (.bl (decide (j ≤ i))) C
  | _, _, _, _ => False
/-! equality, as == tells it -/
mutual
def eqT : T → T → Bool
  | .non, .non => true
  | .bl a, .bl b => a == b
  | .bl a, .int b => (if a then 1 else 0) == b
  | .int a, .bl b => a == (if b then 1 else 0)
  | .int a, .int b => a == b
  | .str a, .str b => a == b
  | .tup xs, .tup ys => eqTs xs ys
  | _, _ => false
def eqTs : List T → List T → Bool
  | [], [] => true
  | x :: xs, y :: ys => eqT x y && eqTs xs ys
  | _, _ => false
end
/-! nothing of the heap in it; how deep it is -/
mutual
def flat : T → Nat → Bool
  | .tup xs, n + 1 => flats xs n
  | .tup _, 0 => false
  | .ref _, _ => false
  | .cl _, _ => false
  | _, _ => true
def flats : List T → Nat → Bool
  | [], _ => true
  | x :: xs, n => flat x n && flats xs n
end
/-- how deep tuples that are compared may be -/
def eqDeep : Nat := 100
def isFlat (x : T) : Prop := flat x eqDeep = true
def wEqG (neg : Bool) : W2
  | .ref a, .ref b, C, Q => ∃ xs ys, C a = some (.lst xs) ∧ C b = some (.lst ys) ∧ (xs.length = ys.length → flats xs eqDeep = true ∧ flats ys eqDeep = true) ∧ Q (.bl (if neg then !eqTs xs ys else eqTs xs ys)) C
  | .ref a, y, C, Q => (∃ xs, C a = some (.lst xs)) ∧ isFlat y ∧ Q (.bl neg) C
  | x, .ref b, C, Q => (∃ ys, C b = some (.lst ys)) ∧ isFlat x ∧ Q (.bl neg) C
  | x, y, C, Q => isFlat x ∧ isFlat y ∧ Q (.bl (if neg then !eqT x y else eqT x y)) C
abbrev wEq : W2 := wEqG false
abbrev wNe : W2 := wEqG true
def wIsN : W2 := fun x y C Q => y = .non ∧ Q (.bl (match x with | .non => true | _ => false)) C
def wNotN : W2 := fun x y C Q => y = .non ∧ Q (.bl (match x with | .non => false | _ => true)) C
def inL (x : T) (xs : List T) : Bool := xs.any fun y => eqT y x
def wInG (neg : Bool) : W2
  | .str i, .str j, C, Q => Q (.bl (if neg then (!(!(Builtin.Str.occurrences j i 0 j.length 1).isEmpty)) else (!(Builtin.Str.occurrences j i 0 j.length 1).isEmpty))) C
  | x, .tup ys, C, Q => isFlat x ∧ flats ys eqDeep = true ∧ Q (.bl (if neg then !inL x ys else inL x ys)) C
  | x, .cl ys, C, Q => isFlat x ∧ flats ys eqDeep = true ∧ Q (.bl (if neg then !inL x ys else inL x ys)) C
  | x, .ref a, C, Q => ∃ ys, C a = some (.lst ys) ∧ isFlat x ∧ flats ys eqDeep = true ∧ Q (.bl (if neg then !inL x ys else inL x ys)) C
  | _, _, _, _ => False
abbrev wIn : W2 := wInG false
abbrev wNotIn : W2 := wInG true
def cut {α : Type} (xs : List α) (lo hi : Option Int) : List α := (xs.drop (HT.sIx xs.length 0 lo)).take (HT.sIx xs.length xs.length hi - HT.sIx xs.length 0 lo)
def wIdx : W2
  | .tup xs, .int i, C, Q => ∃ v, atI xs i = some v ∧ Q v C
  | .cl xs, .int i, C, Q => ∃ v, atI xs i = some v ∧ Q v C
  | .str z, .int i, C, Q => z.length ≤ sizeLine ∧ ∃ c, atI z.cps.toList i = some c ∧ Q (.str ⟨#[c]⟩) C
  | .ref a, .int i, C, Q => ∃ xs v, C a = some (.lst xs) ∧ atI xs i = some v ∧ Q v C
  | _, _, _, _ => False
def oNo : Sw → Hw → (Option Int → Hw → Prop) → WX → Prop := fun _ C Q _ => Q none C
def oSome (a : WE) : Sw → Hw → (Option Int → Hw → Prop) → WX → Prop := fun τ C Q χ => a τ C (fun x C1 => ∃ i, x = .int i ∧ Q (some i) C1) χ
def wSl : T → Option Int → Option Int → Hw → WK → Prop
  | .tup xs, lo, hi, C, Q => ¬ (HT.sIx xs.length 0 lo = 0 ∧ HT.sIx xs.length xs.length hi = xs.length) ∧ Q (.tup (cut xs lo hi)) C
  | .cl xs, lo, hi, C, Q => ∀ p, C p = none → Q (.ref p) (up C p (.lst (cut xs lo hi)))
  | .str z, lo, hi, C, Q => z.length ≤ sizeLine ∧ Q (.str (Txt.slice z lo hi)) C
  | .ref a, lo, hi, C, Q => ∃ xs, C a = some (.lst xs) ∧ ∀ p, C p = none → Q (.ref p) (up C p (.lst (cut xs lo hi)))
  | _, _, _, _, _ => False
def eSl (a : WE) (lo hi : Sw → Hw → (Option Int → Hw → Prop) → WX → Prop) : WE := fun τ C Q χ => a τ C (fun x C1 => lo τ C1 (fun l C2 => hi τ C2 (fun h C3 => wSl x l h C3 Q) χ) χ) χ
def bLen : List T → Hw → WK → Prop := fun vs C Q => ∃ x, vs = [x] ∧ match x with
  | .str z => z.length ≤ sizeLine ∧ Q (.int z.length) C
  | .tup xs => Q (.int xs.length) C
  | .cl xs => Q (.int xs.length) C
  | .ref a => ∃ xs, C a = some (.lst xs) ∧ Q (.int xs.length) C
  | _ => False
def bMax : List T → Hw → WK → Prop := fun vs C Q => ∃ i j, vs = [.int i, .int j] ∧ Q (.int (if j > i then j else i)) C
def bMin : List T → Hw → WK → Prop := fun vs C Q => ∃ i j, vs = [.int i, .int j] ∧ Q (.int (if j < i then j else i)) C
def bTuple : List T → Hw → WK → Prop := fun vs C Q => ∃ x, vs = [x] ∧ match x with
  | .tup xs => Q (.tup xs) C
  | .cl xs => Q (.tup xs) C
  | .ref a => ∃ xs, C a = some (.lst xs) ∧ Q (.tup xs) C
  | _ => False
def bList : List T → Hw → WK → Prop := fun vs C Q => ∃ x, vs = [x] ∧ match x with
  | .tup xs => ∀ p, C p = none → Q (.ref p) (up C p (.lst xs))
  | .cl xs => ∀ p, C p = none → Q (.ref p) (up C p (.lst xs))
  | .ref a => ∃ xs, C a = some (.lst xs) ∧ ∀ p, C p = none → Q (.ref p) (up C p (.lst xs))
  | _ => False
/-- the name of a value's class -/
def tyN : T → Hw → String → Prop
  | .non, _, n => n = "NoneType"
  | .bl _, _, n => n = "bool"
  | .int _, _, n => n = "int"
  | .str _, _, n => n = "str"
  | .tup _, _, n => n = "tuple"
  | .cl _, _, n => n = "list"
  | .ref a, C, n => (n = "list" ∧ ∃ xs, C a = some (.lst xs)) ∨ (n = "dict" ∧ ∃ kvs, C a = some (.dic kvs))
def isCls (n c : String) : Bool := n == c || (n == "bool" && c == "int")
/-- isinstance(a, c), c a class of Python's own -/
def eIsi (a : WE) (c : String) : WE := fun τ C Q χ => a τ C (fun x C1 => ∃ n, tyN x C1 n ∧ Q (.bl (isCls n c)) C1) χ
def tyL' : T → Hw → Prop := fun x C => ∃ a xs, x = .ref a ∧ C a = some (.lst xs)
def tyS : T → Hw → Prop := fun x _ => ∃ z, x = .str z
def mAppend : T → List T → Hw → WK → Prop := fun x vs C Q => ∃ a xs y, x = .ref a ∧ vs = [y] ∧ C a = some (.lst xs) ∧ xs.length < sizeLine ∧ Q .non (up C a (.lst (xs ++ [y])))
def mPop : T → List T → Hw → WK → Prop := fun x vs C Q => ∃ a xs y, x = .ref a ∧ vs = [] ∧ C a = some (.lst xs) ∧ xs[xs.length - 1]? = some y ∧ Q y (up C a (.lst xs.dropLast))
def mPopAt : T → List T → Hw → WK → Prop := fun x vs C Q => ∃ a xs i k y, x = .ref a ∧ vs = [.int i] ∧ C a = some (.lst xs) ∧ -(2 ^ 63) ≤ i ∧ i < 2 ^ 63 ∧ seqIndex? i xs.length = some k ∧ xs[k]? = some y ∧ Q y (up C a (.lst (xs.eraseIdx k)))
/-! ### targets, statements -/
def gNm (i : Nat) : WG := fun v τ C Q _ => Q (τ.set i (some v)) C
def gsNil : WGs := fun vs τ C Q _ => vs = [] ∧ Q τ C
def gsCons (g : WG) (gs : WGs) : WGs := fun vs τ C Q χ => ∃ v r, vs = v :: r ∧ g v τ C (fun τ' C' => gs r τ' C' Q χ) χ
def gTp (gs : WGs) : WG := fun v τ C Q χ => ∃ xs, v = .tup xs ∧ gs xs τ C Q χ
/-- o[i] = .. -/
def gSb (o i : WE) : WG := fun v τ C Q χ => o τ C (fun x C1 => i τ C1 (fun y C2 => ∃ a xs k j, x = .ref a ∧ y = .int k ∧ C2 a = some (.lst xs) ∧ ixN xs.length k = some j ∧ Q τ (up C2 a (.lst (xs.set j v)))) χ) χ
def sPass : WS := fun D τ C => D.nx τ C
def sSeq (a b : WS) : WS := fun D τ C => a { D with nx := b D } τ C
def sExpr (e : WE) : WS := fun D τ C => e τ C (fun _ C1 => D.nx τ C1) D.xc
def sRet (e : WE) : WS := fun D τ C => e τ C D.rt D.xc
def sRetN : WS := fun D _ C => D.rt .non C
def sIf (c : WT) (a b : WS) : WS := fun D τ C => c τ C (fun k C1 => if k = true then a D τ C1 else b D τ C1) D.xc
def sAsg (e : WE) (g : WG) : WS := fun D τ C => e τ C (fun x C1 => g x τ C1 D.nx D.xc) D.xc
def sBrk : WS := fun D τ C => D.bk τ C
def sCont : WS := fun D τ C => D.ct τ C
def sNever : WS := fun _ _ _ => False
def forW (g : WG) (b : WS) (ok : Hw → Prop) (D : We) : List T → Sw → Hw → Prop
  | [], τ, C => ok C ∧ D.nx τ C
  | x :: xs, τ, C => ok C ∧ g x τ C (fun τ2 C2 => b { D with nx := forW g b ok D xs, ct := forW g b ok D xs, bk := D.nx } τ2 C2) D.xc
def sFor (i : WI) (g : WG) (b : WS) : WS := fun D τ C => i τ C (fun xs ok C1 => forW g b ok D xs τ C1) D.xc
def iSeq (e : WE) : WI := fun τ C R χ => e τ C (fun v C1 => match v with
  | .tup xs => R xs (fun _ => True) C1
  | .cl xs => R xs (fun _ => True) C1
  | .str z => R (z.cps.toList.map fun c => T.str ⟨#[c]⟩) (fun _ => True) C1
  | .ref a => ∃ xs, C1 a = some (.lst xs) ∧ R xs (fun C2 => C2 a = some (.lst xs)) C1
  | _ => False) χ
def rng (lo : Int) (n : Nat) : List T := (List.range n).map fun k : Nat => T.int (lo + k)
def iR1 (a : WA) : WI := fun τ C R χ => a τ C (fun vs C1 => ∃ j : Int, vs = [.int j] ∧ -(2 ^ 62) ≤ j ∧ j < 2 ^ 62 ∧ R (rng 0 j.toNat) (fun _ => True) C1) χ
def iR2 (a : WA) : WI := fun τ C R χ => a τ C (fun vs C1 => ∃ i j : Int, vs = [.int i, .int j] ∧ (-(2 ^ 62) ≤ i ∧ i < 2 ^ 62 ∧ -(2 ^ 62) ≤ j ∧ j < 2 ^ 62) ∧ R (rng i (j - i).toNat) (fun _ => True) C1) χ
def iEn (a : WA) : WI := fun τ C R χ => a τ C (fun vs C1 => ∃ z, vs = [.str z] ∧ R (z.cps.toList.zipIdx.map fun c => T.tup [.int c.2, .str ⟨#[c.1]⟩]) (fun _ => True) C1) χ
def capW (cap : List (Option Nat)) (τ : Sw) : Sw := cap.map fun o => o.bind fun i => (τ[i]?).join
def tYes : WT := fun _ C Q _ => Q true C
def compW (g : WG) (c : WT) (e : WE) (ok : Hw → Prop) (τ : Sw) (Q : List T → Hw → Prop) (χ : WX) : List T → List T → Hw → Prop
  | [], acc, C => ok C ∧ Q acc C
  | x :: xs, acc, C => ok C ∧ g x τ C (fun τ2 C2 => c τ2 C2 (fun b C3 => if b = true then e τ2 C3 (fun v C4 => acc.length < sizeLine ∧ compW g c e ok τ Q χ xs (acc ++ [v]) C4) χ else compW g c e ok τ Q χ xs acc C3) χ) χ
def eComp (cap : List (Option Nat)) (i : WI) (g : WG) (c : WT) (e : WE) : WE := fun τ C Q χ => i τ C (fun xs ok C1 => compW g c e ok (capW cap τ) (fun vs C2 => ∀ p, C2 p = none → Q (.ref p) (up C2 p (.lst vs))) χ xs [] C1) χ
/-! ### defs -/
structure Df where
  n : Nat
  ar : Nat
  body : Calls → WS
def wpc (pr : List Df) : Nat → Calls
  | 0 => fun _ _ _ _ _ => False
  | n + 1 => fun i vs C Q χ => ∃ d, pr[i]? = some d ∧ vs.length = d.ar ∧ d.body (wpc pr n) { nx := fun _ C' => Q .non C', rt := Q, xc := χ } (vs.map some ++ List.replicate (d.n - d.ar) none) C
end WL
set_option Elab.async false
set_option linter.all false
set_option maxRecDepth 100000
set_option maxHeartbeats 4000000
namespace WL
open PySem PySem.Spec PyProof.Rows L2
/-! ### equality of values over the heap -/
section
variable {X : Cx} {pins : List (Addr × Obj)} {σ : L2.St} {H : Hp} {s : Shared}
def sc : T → Option V
  | .non => some .non
  | .bl b => some (.bl b)
  | .int i => some (.int i)
  | .str z => some (.str z)
  | _ => none
theorem rep_sc {K : PySem.W.Frag} {H : Hp} {x z : V} {v : T} (h : sc v = some z) (r : Rep K H x v) : x = z ∧ flatV z = true := by
  cases v with
  | non => cases h; exact ⟨of_non r, rfl⟩
  | bl b => cases h; exact ⟨of_bl r, rfl⟩
  | int i => cases h; exact ⟨of_int r, rfl⟩
  | str z => cases h; exact ⟨of_str r, rfl⟩
  | _ => cases h
theorem eqT_sc {v w : T} {a b : V} (h : sc v = some a) (h' : sc w = some b) : eqT v w = eqV a b := by
  cases v <;> cases w <;> cases h <;> cases h' <;> unfold eqT <;> rfl
mutual
theorem eqT_refl : ∀ (v : T) {n : Nat}, flat v n = true → eqT v v = true
  | .non, _, _ => by unfold eqT; rfl
  | .bl b, _, _ => by unfold eqT; simp
  | .int b, _, _ => by unfold eqT; simp
  | .str b, _, _ => by unfold eqT; simp
  | .tup xs, 0, h => by unfold flat at h; cases h
  | .tup xs, n + 1, h => by unfold flat at h; unfold eqT; exact eqTs_refl xs h
  | .ref a, _, h => by unfold flat at h; cases h
  | .cl a, _, h => by unfold flat at h; cases h
theorem eqTs_refl : ∀ (v : List T) {n : Nat}, flats v n = true → eqTs v v = true
  | [], _, _ => by unfold eqTs; rfl
  | x :: xs, n, h => by
    unfold flats at h
    rw [Bool.and_eq_true] at h
    unfold eqTs
    rw [eqT_refl x h.1, eqTs_refl xs h.2]; rfl
end
theorem sc_none {v : T} {n : Nat} (h : flat v n = true) (e : sc v = none) : ∃ ts m, v = .tup ts ∧ n = m + 1 ∧ flats ts m = true := by
  cases v with
  | tup ts =>
    cases n with
    | zero => unfold flat at h; cases h
    | succ m => unfold flat at h; exact ⟨ts, m, rfl, rfl, h⟩
  | ref a => unfold flat at h; cases h
  | cl a => unfold flat at h; cases h
  | non => cases e
  | bl b => cases e
  | int b => cases e
  | str b => cases e
theorem flats_get : ∀ {vs : List T} {n i : Nat} {v : T}, flats vs n = true → vs[i]? = some v → flat v n = true
  | [], _, _, _, _, e => by simp at e
  | x :: xs, n, 0, v, h, e => by
    unfold flats at h
    rw [Bool.and_eq_true] at h
    simp at e; subst e; exact h.1
  | x :: xs, n, i + 1, v, h, e => by
    unfold flats at h
    rw [Bool.and_eq_true] at h
    exact flats_get h.2 (by simpa using e)
/-- the same thing stands for one flat value alone -/
theorem rep_inj (I : Inv X pins σ H s) : ∀ (n : Nat) {v w : T} {x : V}, flat v n = true → flat w n = true → Rep X.K H x v → Rep X.K H x w → v = w := by
  intro n
  induction n with
  | zero =>
    intro v w x fv fw rv rw'
    cases ev : sc v with
    | none => obtain ⟨_, _, _, h, _⟩ := sc_none fv ev; cases h
    | some a =>
      cases ew : sc w with
      | none => obtain ⟨_, _, _, h, _⟩ := sc_none fw ew; cases h
      | some b =>
        obtain ⟨e1, _⟩ := rep_sc ev rv
        obtain ⟨e2, _⟩ := rep_sc ew rw'
        have e : a = b := e1.symm.trans e2
        subst e
        cases v <;> cases ev <;> cases w <;> cases ew <;> rfl
  | succ n ih =>
    intro v w x fv fw rv rw'
    have lists : ∀ {ys : List V} {vs ws : List T}, flats vs n = true → flats ws n = true → Reps X.K H ys vs → Reps X.K H ys ws → vs = ws := by
      intro ys vs
      induction vs generalizing ys with
      | nil =>
        intro ws _ _ a b
        have := of_nil a
        subst this
        cases ws with
        | nil => rfl
        | cons w ws => obtain ⟨_, _, e, _⟩ := of_cons b; cases e
      | cons v vs ihv =>
        intro ws fa fb a b
        obtain ⟨y, r, rfl, a1, a2⟩ := of_cons a
        cases ws with
        | nil => have := of_nil b; cases this
        | cons w ws =>
          obtain ⟨y', r', e, b1, b2⟩ := of_cons b
          cases e
          unfold flats at fa fb
          rw [Bool.and_eq_true] at fa fb
          rw [ih fa.1 fb.1 a1 b1, ihv fa.2 fb.2 a2 b2]
    cases ev : sc v with
    | none =>
      obtain ⟨ts, m, rfl, em, ft⟩ := sc_none fv ev
      cases em
      obtain ⟨a, ys, rfl, hq, r⟩ := of_tup rv
      cases ew : sc w with
      | none =>
        obtain ⟨us, m', rfl, em, fu⟩ := sc_none fw ew
        cases em
        obtain ⟨b, zs, e, hq', r'⟩ := of_tup rw'
        cases e
        have e := I.tuple_inj hq hq'
        subst e
        rw [lists ft fu r r']
      | some b =>
        obtain ⟨e2, f⟩ := rep_sc ew rw'
        subst e2
        cases f
    | some a =>
      obtain ⟨e1, f⟩ := rep_sc ev rv
      cases ew : sc w with
      | none =>
        obtain ⟨us, m', rfl, em, fu⟩ := sc_none fw ew
        obtain ⟨b, zs, e, hq', r'⟩ := of_tup rw'
        subst e1
        subst e
        cases f
      | some b =>
        obtain ⟨e2, _⟩ := rep_sc ew rw'
        have e : a = b := e1.symm.trans e2
        subst e
        cases v <;> cases ev <;> cases w <;> cases ew <;> rfl
def eqJ (ts us : List T) (j : Nat) : Bool := match ts[j]?, us[j]? with
  | some a, some b => eqT a b
  | _, _ => true
theorem eqTs_range : ∀ (vs ws : List T), ((List.range (min vs.length ws.length)).all (eqJ vs ws) && vs.length == ws.length) = eqTs vs ws
  | [], [] => by unfold eqTs; rfl
  | [], _ :: _ => by unfold eqTs; simp
  | _ :: _, [] => by unfold eqTs; simp
  | v :: vs, w :: ws => by
    unfold eqTs
    rw [← eqTs_range vs ws]
    rw [List.length_cons, List.length_cons, show min (vs.length + 1) (ws.length + 1) = min vs.length ws.length + 1 by omega, List.range_succ_eq_map, List.all_cons, List.all_map]
    have e1 : eqJ (v :: vs) (w :: ws) 0 = eqT v w := rfl
    have e2 : (eqJ (v :: vs) (w :: ws) ∘ Nat.succ) = eqJ vs ws := by funext j; simp [Function.comp_def, eqJ]
    rw [e1, e2]
    simp [Bool.and_assoc]
/-- == within another comparison -/
theorem eqAtT (I : Inv X pins σ H s) : ∀ (n : Nat) {v w : T} {x y : V} {u u' : Value} {A : Around}, flat v n = true → flat w n = true → Rep X.K H x v → Rep X.K H y w → RelV x u → RelV y u' → A.units + n < cLine →
    SeqAt.EqAt A s u u' (eqT v w) := by
  intro n
  induction n with
  | zero =>
    intro v w x y u u' A fv fw rv rw' ru ru' hu
    cases ev : sc v with
    | none => obtain ⟨_, _, _, h, _⟩ := sc_none fv ev; cases h
    | some a =>
      cases ew : sc w with
      | none => obtain ⟨_, _, _, h, _⟩ := sc_none fw ew; cases h
      | some b =>
        obtain ⟨rfl, f1⟩ := rep_sc ev rv
        obtain ⟨rfl, f2⟩ := rep_sc ew rw'
        rw [eqT_sc ev ew]
        exact eqAt_V ru ru' f1 f2
  | succ n ih =>
    intro v w x y u u' A fv fw rv rw' ru ru' hu
    have hu0 : A.units < cLine := by omega
    cases ev : sc v with
    | some a =>
      obtain ⟨rfl, f1⟩ := rep_sc ev rv
      cases ew : sc w with
      | some b =>
        obtain ⟨rfl, f2⟩ := rep_sc ew rw'
        rw [eqT_sc ev ew]
        exact eqAt_V ru ru' f1 f2
      | none =>
        obtain ⟨ts, m, rfl, em, ft⟩ := sc_none fw ew
        obtain ⟨b, zs, rfl, hq, r⟩ := of_tup rw'
        cases ru'
        obtain ⟨its, _, p, _⟩ := I.tuple hq
        cases v with
        | non => cases ev; cases ru; unfold eqT; exact SeqAt.EqAt.none_tuple p hu0
        | bl c => cases ev; cases ru; unfold eqT; exact SeqAt.EqAt.bool_tuple c p hu0
        | int i => cases ev; obtain ⟨t, rfl⟩ := ru; unfold eqT; exact SeqAt.EqAt.int_tuple i t p hu0
        | str i => cases ev; obtain ⟨t, rfl⟩ := ru; unfold eqT; exact SeqAt.EqAt.str_tuple i t p hu0
        | _ => cases ev
    | none =>
      obtain ⟨ts, m, rfl, em, ft⟩ := sc_none fv ev
      cases em
      obtain ⟨a, ys, rfl, hq, r⟩ := of_tup rv
      cases ru
      obtain ⟨its, rI, p, _⟩ := I.tuple hq
      cases ew : sc w with
      | some b =>
        obtain ⟨rfl, f2⟩ := rep_sc ew rw'
        cases w with
        | non => cases ew; cases ru'; unfold eqT; exact SeqAt.EqAt.tuple_none p hu0
        | bl c => cases ew; cases ru'; unfold eqT; exact SeqAt.EqAt.tuple_bool c p hu0
        | int i => cases ew; obtain ⟨t, rfl⟩ := ru'; unfold eqT; exact SeqAt.EqAt.tuple_int i t p hu0
        | str i => cases ew; obtain ⟨t, rfl⟩ := ru'; unfold eqT; exact SeqAt.EqAt.tuple_str i t p hu0
        | _ => cases ew
      | none =>
        obtain ⟨us, m', rfl, em, fu⟩ := sc_none fw ew
        cases em
        obtain ⟨b, zs, rfl, hq', r'⟩ := of_tup rw'
        cases ru'
        obtain ⟨its', rI', p', _⟩ := I.tuple hq'
        by_cases hne : a = b
        · subst hne
          have e := rep_inj I (n + 1) fv fw (rep_tup hq r) (rep_tup hq' r')
          rw [e, eqT_refl _ fw]
          exact SeqAt.EqAt.same _
        · have l1 : its.toArray.size = ts.length := by rw [List.size_toArray, ← rI.length, r.length]
          have l2 : its'.toArray.size = us.length := by rw [List.size_toArray, ← rI'.length, r'.length]
          have key := SeqAt.EqAt.of_refs hne (SeqAt.RcAt.tuples (A := A) (e := eqJ ts us) p p' hu0 (fun j h1 h2 => by
            have i1 : ts[j]? = some (ts[j]'(by omega)) := by simp [l1 ▸ h1]
            have i2 : us[j]? = some (us[j]'(by omega)) := by simp [l2 ▸ h2]
            obtain ⟨x1, g1, q1⟩ := r.get i1
            obtain ⟨x2, g2, q2⟩ := r'.get i2
            obtain ⟨u1, k1, z1⟩ := rI.get g1
            obtain ⟨u2, k2, z2⟩ := rI'.get g2
            have e1 : its.toArray[j] = u1 := by
              have : its[j]? = some its.toArray[j] := by simp
              rw [k1] at this; exact (Option.some.inj this).symm
            have e2 : its'.toArray[j] = u2 := by
              have : its'[j]? = some its'.toArray[j] := by simp
              rw [k2] at this; exact (Option.some.inj this).symm
            rw [e1, e2]
            unfold eqJ
            simp only [i1, i2]
            exact ih (flats_get ft i1) (flats_get fu i2) q1 q2 z1 z2 (by show A.units + 1 + n < cLine; omega)))
          rw [l1, l2, eqTs_range] at key
          unfold eqT
          exact key
end
end WL
set_option Elab.async false
set_option linter.all false
set_option maxRecDepth 100000
set_option maxHeartbeats 4000000
namespace WL
open PySem PySem.Spec PyProof.Rows L2
def RepS (K : PySem.W.Frag) (H : Hp) (σ : L2.St) (τ : Sw) : Prop := σ.length = τ.length ∧ ∀ (i : Nat) (v : T), τ[i]? = some (some v) → ∃ x, σ[i]? = some (some x) ∧ Rep K H x v
theorem RepS.tx {K : PySem.W.Frag} {H H' : Hp} {σ : L2.St} {τ : Sw} (h : RepS K H σ τ) (t : Tx H H') : RepS K H' σ τ := ⟨h.1, fun i v e => let ⟨x, a, b⟩ := h.2 i v e; ⟨x, a, b.tx t⟩⟩
theorem RepS.set {K : PySem.W.Frag} {H : Hp} {σ : L2.St} {τ : Sw} (h : RepS K H σ τ) {i : Nat} {x : V} {v : T} (r : Rep K H x v) : RepS K H (σ.set i (some x)) (τ.set i (some v)) := by
  refine ⟨by rw [List.length_set, List.length_set]; exact h.1, fun j w e => ?_⟩
  by_cases hj : i = j
  · subst hj
    by_cases hi : i < τ.length
    · rw [List.getElem?_set_self hi] at e
      cases e
      exact ⟨x, List.getElem?_set_self (by rw [h.1]; exact hi), r⟩
    · rw [List.getElem?_eq_none (by rw [List.length_set]; omega)] at e
      cases e
  · rw [List.getElem?_set_ne hj] at e ⊢
    exact h.2 j w e
abbrev QE (K : PySem.W.Frag) (F H : Hp) (Q : VK) (Q' : WK) : Prop := ∀ x v H' C', Rl K F H' C' → Tx H H' → Rep K H' x v → Q' v C' → Q x H'
abbrev QT (K : PySem.W.Frag) (F H : Hp) (Q : Bool → Hp → Prop) (Q' : Bool → Hw → Prop) : Prop := ∀ b H' C', Rl K F H' C' → Tx H H' → Q' b C' → Q b H'
abbrev QA (K : PySem.W.Frag) (F H : Hp) (Q : List V → Hp → Prop) (Q' : List T → Hw → Prop) : Prop := ∀ xs vs H' C', Rl K F H' C' → Tx H H' → Reps K H' xs vs → Q' vs C' → Q xs H'
theorem QE.at {K : PySem.W.Frag} {F H H1 : Hp} {Q : VK} {Q' : WK} (q : QE K F H Q Q') (t : Tx H H1) : QE K F H1 Q Q' := fun x v H' C' R t' => q x v H' C' R (t.trans t')
def SimE (K : PySem.W.Frag) (te : TE) (we : WE) : Prop := ∀ (F H : Hp) (C : Hw) (σ : L2.St) (τ : Sw) (Q : VK) (Q' : WK) (χ : WX), Rl K F H C → RepS K H σ τ → we τ C Q' χ → QE K F H Q Q' → te σ H Q
def SimT (K : PySem.W.Frag) (te : TT) (we : WT) : Prop := ∀ (F H : Hp) (C : Hw) (σ : L2.St) (τ : Sw) (Q : Bool → Hp → Prop) (Q' : Bool → Hw → Prop) (χ : WX), Rl K F H C → RepS K H σ τ → we τ C Q' χ → QT K F H Q Q' → te σ H Q
def SimA (K : PySem.W.Frag) (te : TA) (we : WA) : Prop := ∀ (F H : Hp) (C : Hw) (σ : L2.St) (τ : Sw) (Q : List V → Hp → Prop) (Q' : List T → Hw → Prop) (χ : WX), Rl K F H C → RepS K H σ τ → we τ C Q' χ → QA K F H Q Q' → te σ H Q
def SimR (K : PySem.W.Frag) (r : R2) (w : W2) : Prop := ∀ (F H : Hp) (C : Hw) (x y : V) (v u : T) (Q : VK) (Q' : WK), Rl K F H C → Rep K H x v → Rep K H y u → w v u C Q' → QE K F H Q Q' → r x y H Q
def SimB (K : PySem.W.Frag) (r : List V → Hp → VK → Prop) (w : List T → Hw → WK → Prop) : Prop := ∀ (F H : Hp) (C : Hw) (xs : List V) (vs : List T) (Q : VK) (Q' : WK), Rl K F H C → Reps K H xs vs → w vs C Q' → QE K F H Q Q' → r xs H Q
def SimM (K : PySem.W.Frag) (r : V → List V → Hp → VK → Prop) (w : T → List T → Hw → WK → Prop) : Prop := ∀ (F H : Hp) (C : Hw) (x : V) (v : T) (xs : List V) (vs : List T) (Q : VK) (Q' : WK), Rl K F H C → Rep K H x v → Reps K H xs vs → w v vs C Q' → QE K F H Q Q' → r x xs H Q
def SimU (K : PySem.W.Frag) (r : V → Hp → VK → Prop) (w : T → Hw → WK → Prop) : Prop := ∀ (F H : Hp) (C : Hw) (x : V) (v : T) (Q : VK) (Q' : WK), Rl K F H C → Rep K H x v → w v C Q' → QE K F H Q Q' → r x H Q
def SdE (X : Cx) (e : Expr) (w : WE) : Prop := ∃ t, PE X e t ∧ SimE X.K t w
def SdT (X : Cx) (e : Expr) (w : WT) : Prop := ∃ t, PT X e t ∧ SimT X.K t w
def SdW (X : Cx) (e : Expr) (w : WT) : Prop := ∃ t, PW X e t ∧ SimT X.K t w
def SdA (X : Cx) (es : List Expr) (w : WA) : Prop := ∃ t, PA X es t ∧ SimA X.K t w
def OpS (X : Cx) (f : Value → Value → Sem Value) (w : W2) : Prop := ∃ r, OpR X f r ∧ SimR X.K r w
def IxS (X : Cx) (w : W2) : Prop := ∃ r, IxR X r ∧ SimR X.K r w
def CallS (X : Cx) (f : Value) (w : List T → Hw → WK → Prop) : Prop := ∃ r, CallR X f r ∧ SimB X.K r w
def MtS (X : Cx) (id : String) (w : T → List T → Hw → WK → Prop) : Prop := ∃ r, MtR X id r ∧ SimM X.K r w
section
variable {K : PySem.W.Frag} {ta tb tc : TE} {wa wb wc : WE} {r r' : R2} {w w' : W2}
theorem s_var {i : Nat} : SimE K (tVar i) (eVar i) := fun F H C σ τ Q Q' χ R S h q => by
  obtain ⟨v, e, h⟩ := h
  obtain ⟨x, ex, rx⟩ := S.2 i v e
  exact ⟨x, ex, q x v H C R (Tx.refl H) rx h⟩
theorem s_c {x : V} {v : T} (h : ∀ H, Rep K H x v) : SimE K (tC x) (eC v) := fun F H C σ τ Q Q' χ R S w q => q x v H C R (Tx.refl H) (h H) w
theorem s_op (ha : SimE K ta wa) (hb : SimE K tb wb) (hr : SimR K r w) : SimE K (tOp r ta tb) (eBin w wa wb) := fun F H C σ τ Q Q' χ R S h q => by
  refine ha F H C σ τ _ _ χ R S h fun x v H1 C1 R1 t1 rx h1 => ?_
  refine hb F H1 C1 σ τ _ _ χ R1 (S.tx t1) h1 fun y u H2 C2 R2 t2 ry h2 => ?_
  exact hr F H2 C2 x y v u Q Q' R2 (rx.tx t2) ry h2 (QE.at q (t1.trans t2))
theorem s_un {r : V → Hp → VK → Prop} {w : T → Hw → WK → Prop} (ha : SimE K ta wa) (hr : SimU K r w) : SimE K (tUn r ta) (eUn w wa) := fun F H C σ τ Q Q' χ R S h q => by
  refine ha F H C σ τ _ _ χ R S h fun x v H1 C1 R1 t1 rx h1 => ?_
  exact hr F H1 C1 x v Q Q' R1 rx h1 (QE.at q t1)
theorem s_nil : SimA K tNil aNil := fun F H C σ τ Q Q' χ R S h q => q [] [] H C R (Tx.refl H) reps_nil h
theorem s_cons {t : TA} {wt : WA} (ha : SimE K ta wa) (hb : SimA K t wt) : SimA K (tCons ta t) (aCons wa wt) := fun F H C σ τ Q Q' χ R S h q => by
  refine ha F H C σ τ _ _ χ R S h fun x v H1 C1 R1 t1 rx h1 => ?_
  exact hb F H1 C1 σ τ _ _ χ R1 (S.tx t1) h1 fun xs vs H2 C2 R2 t2 rs h2 => q (x :: xs) (v :: vs) H2 C2 R2 (t1.trans t2) (reps_cons (rx.tx t2) rs) h2
theorem s_tup {t : TA} {wt : WA} (ha : SimA K t wt) : SimE K (tTup t) (eTup wt) := fun F H C σ τ Q Q' χ R S h q => by
  refine ha F H C σ τ _ _ χ R S h fun xs vs H1 C1 R1 t1 rs h1 => ⟨by rw [rs.length]; exact h1.1, fun p hp => ?_⟩
  exact q _ _ _ C1 (R1.hid hp) (t1.trans (Tx.new hp)) (rep_tup (SqT.of upd_same) (rs.tx (Tx.new hp))) h1.2
theorem s_lst {t : TA} {wt : WA} (ha : SimA K t wt) : SimE K (tLst t) (eLst wt) := fun F H C σ τ Q Q' χ R S h q => by
  refine ha F H C σ τ _ _ χ R S h fun xs vs H1 C1 R1 t1 rs h1 => ⟨by rw [rs.length]; exact h1.1, fun p hp => ?_⟩
  exact q _ _ _ _ (R1.newL hp rs) (t1.trans (Tx.new hp)) rep_ref (h1.2 p (R1.free hp))
theorem s_bi {r : List V → Hp → VK → Prop} {w : List T → Hw → WK → Prop} {t : TA} {wt : WA} (hr : SimB K r w) (ha : SimA K t wt) : SimE K (tCB r t) (eBi w wt) := fun F H C σ τ Q Q' χ R S h q => by
  refine ha F H C σ τ _ _ χ R S h fun xs vs H1 C1 R1 t1 rs h1 => ?_
  exact hr F H1 C1 xs vs Q Q' R1 rs h1 (QE.at q t1)
theorem s_or (ha : SimE K ta wa) (hb : SimE K tb wb) : SimE K (tOrV ta tb) (eOr wa wb) := fun F H C σ τ Q Q' χ R S h q => by
  refine ha F H C σ τ _ _ χ R S h fun x v H1 C1 R1 t1 rx h1 => ?_
  obtain ⟨k, rfl, h1⟩ := h1
  refine ⟨k, of_bl rx, ?_⟩
  cases k with
  | true => exact q _ _ H1 C1 R1 t1 rep_bl h1
  | false => exact hb F H1 C1 σ τ Q Q' χ R1 (S.tx t1) h1 (QE.at q t1)
/-! tests -/
theorem s_bl (ha : SimE K ta wa) : SimT K (tTest ta) (tBl wa) := fun F H C σ τ Q Q' χ R S h q => by
  refine ha F H C σ τ _ _ χ R S h fun x v H1 C1 R1 t1 rx h1 => ?_
  obtain ⟨k, rfl, h1⟩ := h1
  exact ⟨k, of_bl rx, q k H1 C1 R1 t1 h1⟩
theorem s_tru (ha : SimE K ta wa) : SimT K (fun σ H Q => ta σ H fun x H' => ∃ k, TruV K x H' k ∧ Q k H') (tTru wa) := fun F H C σ τ Q Q' χ R S h q => by
  refine ha F H C σ τ _ _ χ R S h fun x v H1 C1 R1 t1 rx h1 => ?_
  obtain ⟨k, hk, h1⟩ := h1
  refine ⟨k, ?_, q k H1 C1 R1 t1 h1⟩
  have emp : ∀ {ys : List V} {xs : List T}, Reps K H1 ys xs → ys.isEmpty = xs.isEmpty := fun {ys xs} r => by
    have := r.length
    cases ys <;> cases xs <;> simp_all
  cases v with
  | non => cases of_non rx; exact hk
  | bl b => cases of_bl rx; exact hk
  | int i => cases of_int rx; exact hk
  | str z => cases of_str rx; exact hk
  | tup xs =>
    obtain ⟨a, ys, rfl, hq, r⟩ := of_tup rx
    refine .inr (.inl ⟨ys, hq, ?_⟩)
    rw [emp r]; exact hk
  | cl xs =>
    obtain ⟨a, ys, rfl, hq, r⟩ := of_cl rx
    refine .inl ⟨ys, hq.sq, ?_⟩
    rw [emp r]; exact hk
  | ref a =>
    cases of_ref rx
    rcases hk with ⟨xs, hx, e⟩ | ⟨kvs, hx, e⟩
    · obtain ⟨ys, hy, r⟩ := R1.lst hx
      refine .inl ⟨ys, SqL.of hy, ?_⟩
      rw [emp r]; exact e
    · obtain ⟨ks, hy, r⟩ := R1.obj a _ hx
      refine .inr (.inr ⟨ks, hy, ?_⟩)
      have := Paired.length r
      rw [e]
      cases ks <;> cases kvs <;> simp_all
theorem s_an {t u : TT} {w w' : WT} (ha : SimT K t w) (hb : SimT K u w') : SimT K (tAnd t u) (tAn w w') := fun F H C σ τ Q Q' χ R S h q => by
  refine ha F H C σ τ _ _ χ R S h fun k H1 C1 R1 t1 h1 => ?_
  cases k with
  | true => exact hb F H1 C1 σ τ Q Q' χ R1 (S.tx t1) h1 fun b H' C' R' t' => q b H' C' R' (t1.trans t')
  | false => exact q _ H1 C1 R1 t1 h1
theorem s_or' {t u : TT} {w w' : WT} (ha : SimT K t w) (hb : SimT K u w') : SimT K (tOr t u) (tOr' w w') := fun F H C σ τ Q Q' χ R S h q => by
  refine ha F H C σ τ _ _ χ R S h fun k H1 C1 R1 t1 h1 => ?_
  cases k with
  | true => exact q _ H1 C1 R1 t1 h1
  | false => exact hb F H1 C1 σ τ Q Q' χ R1 (S.tx t1) h1 fun b H' C' R' t' => q b H' C' R' (t1.trans t')
theorem s_no {t : TT} {w : WT} (ha : SimT K t w) : SimT K (tNot t) (tNo w) := fun F H C σ τ Q Q' χ R S h q => by
  refine ha F H C σ τ _ _ χ R S h fun k H1 C1 R1 t1 h1 => ?_
  exact q _ H1 C1 R1 t1 h1
end
/-! ### the operations -/
section
variable {X : Cx}
theorem o_add : OpS X (binaryOp .Add) wAdd := ⟨_, op_add.or (op_add_str.or (op_cat.or (op_catT0.or op_catT))), fun F H C x y v u Q Q' R rx ry h q => by
  cases v <;> cases u <;> first | exact False.elim h | skip
  case int.int i j => cases of_int rx; cases of_int ry; exact .inl ⟨i, j, rfl, rfl, q _ _ H C R (Tx.refl H) rep_int h⟩
  case str.str i j => cases of_str rx; cases of_str ry; exact .inr (.inl ⟨i, j, rfl, rfl, h.1, q _ _ H C R (Tx.refl H) rep_str h.2⟩)
  case ref.ref a b =>
    cases of_ref rx; cases of_ref ry
    obtain ⟨xs, ys, ha, hb, hl, h⟩ := h
    obtain ⟨zs, hz, rz⟩ := R.lst ha
    obtain ⟨ws, hw, rw'⟩ := R.lst hb
    exact .inr (.inr (.inl ⟨a, b, zs, ws, rfl, rfl, hz, hw, by rw [rz.length, rw'.length]; exact hl, fun p hp => q _ _ _ _ (R.newL hp (rz.app rw')) (Tx.new hp) rep_ref (h p (R.free hp))⟩))
  case tup.tup xs ys =>
    obtain ⟨a, zs, rfl, hz, rz⟩ := of_tup rx
    obtain ⟨b, ws, rfl, hw, rw'⟩ := of_tup ry
    by_cases e : zs = []
    · subst e
      have e2 : xs = [] := by
        have := rz.length
        cases xs with
        | nil => rfl
        | cons _ _ => cases this
      subst e2
      exact .inr (.inr (.inr (.inl ⟨a, b, ws, rfl, rfl, hz, hw, q _ _ H C R (Tx.refl H) (rep_tup hw rw') h.2⟩)))
    · refine .inr (.inr (.inr (.inr ⟨a, b, zs, ws, rfl, rfl, hz, hw, e, by rw [rz.length, rw'.length]; exact h.1, fun e2 => ?_, fun e2 p hp => ?_⟩)))
      · subst e2
        have e3 : ys = [] := by
          have := rw'.length
          cases ys with
          | nil => rfl
          | cons _ _ => cases this
        subst e3
        refine q _ _ H C R (Tx.refl H) (rep_tup hz rz) ?_
        have := h.2
        rw [List.append_nil] at this
        exact this
      · exact q _ _ _ C (R.hid hp) (Tx.new hp) (rep_tup (SqT.of upd_same) ((rz.app rw').tx (Tx.new hp))) h.2⟩
theorem o_sub : OpS X (binaryOp .Sub) wSub := ⟨_, op_sub, fun F H C x y v u Q Q' R rx ry h q => by
  cases v <;> cases u <;> first | exact False.elim h | skip
  case int.int i j => cases of_int rx; cases of_int ry; exact ⟨i, j, rfl, rfl, q _ _ H C R (Tx.refl H) rep_int h⟩⟩
theorem o_mul : OpS X (binaryOp .Mult) wMul := ⟨_, op_mul, fun F H C x y v u Q Q' R rx ry h q => by
  cases v <;> cases u <;> first | exact False.elim h | skip
  case int.int i j => cases of_int rx; cases of_int ry; exact ⟨i, j, rfl, rfl, h.1, q _ _ H C R (Tx.refl H) rep_int h.2⟩⟩
theorem o_div : OpS X (binaryOp .FloorDiv) wDiv := ⟨_, op_fdiv, fun F H C x y v u Q Q' R rx ry h q => by
  cases v <;> cases u <;> first | exact False.elim h | skip
  case int.int i j => cases of_int rx; cases of_int ry; exact ⟨i, j, rfl, rfl, h.1, q _ _ H C R (Tx.refl H) rep_int h.2⟩⟩
theorem o_mod : OpS X (binaryOp .Mod) wMod := ⟨_, op_mod, fun F H C x y v u Q Q' R rx ry h q => by
  cases v <;> cases u <;> first | exact False.elim h | skip
  case int.int i j => cases of_int rx; cases of_int ry; exact ⟨i, j, rfl, rfl, h.1, q _ _ H C R (Tx.refl H) rep_int h.2⟩⟩
theorem o_pow : OpS X (binaryOp .Pow) wPow := ⟨_, op_pow, fun F H C x y v u Q Q' R rx ry h q => by
  cases v <;> cases u <;> first | exact False.elim h | skip
  case int.int i j => cases of_int rx; cases of_int ry; exact ⟨i, j, rfl, rfl, h.1, q _ _ H C R (Tx.refl H) rep_int h.2⟩⟩
theorem o_lt : OpS X (compareOp .Lt) wLt := ⟨_, op_lt.or op_lt_str, fun F H C x y v u Q Q' R rx ry h q => by
  cases v <;> cases u <;> first | exact False.elim h | skip
  case int.int i j => cases of_int rx; cases of_int ry; exact .inl ⟨i, j, rfl, rfl, q _ _ H C R (Tx.refl H) rep_bl h⟩
  case str.str i j => cases of_str rx; cases of_str ry; exact .inr ⟨i, j, rfl, rfl, q _ _ H C R (Tx.refl H) rep_bl h⟩⟩
theorem o_gt : OpS X (compareOp .Gt) wGt := ⟨_, op_gt, fun F H C x y v u Q Q' R rx ry h q => by
  cases v <;> cases u <;> first | exact False.elim h | skip
  case int.int i j => cases of_int rx; cases of_int ry; exact ⟨i, j, rfl, rfl, q _ _ H C R (Tx.refl H) rep_bl h⟩⟩
/-- a rule that stands over the state itself, by values -/
def rDir (X : Cx) (f : Value → Value → Sem Value) : R2 := fun x y H Q => ∀ (pins : List (Addr × Obj)) (s : Shared) (σ : L2.St) (v u : Value), Inv X pins σ H s → RelV x v → RelV y u → wpAny (model X.prog X.w) X.A (f v u) (EP X pins σ Q) X.xe s
theorem op_dir {f : Value → Value → Sem Value} : OpR X f (rDir X f) := fun pins s σ H x y v u Q I rx ry h => h pins s σ v u I rx ry
/-- the items of two lists, one by one -/
theorem items_at {pins : List (Addr × Obj)} {σ : L2.St} {H : Hp} {s : Shared} {A : Around} {n : Nat} {ts us : List T} {ys zs : List V} {its its' : List Value} (I : Inv X pins σ H s) (r : Reps X.K H ys ts) (r' : Reps X.K H zs us) (rI : Vals ys its) (rI' : Vals zs its')
    (f : flats ts n = true) (f' : flats us n = true) (hu : A.units + n < cLine) :
    ∀ j (h1 : j < its.toArray.size) (h2 : j < its'.toArray.size), SeqAt.EqAt A s its.toArray[j] its'.toArray[j] (eqJ ts us j) := fun j h1 h2 => by
  have l1 : its.toArray.size = ts.length := by rw [List.size_toArray, ← rI.length, r.length]
  have l2 : its'.toArray.size = us.length := by rw [List.size_toArray, ← rI'.length, r'.length]
  have i1 : ts[j]? = some (ts[j]'(by omega)) := by simp [l1 ▸ h1]
  have i2 : us[j]? = some (us[j]'(by omega)) := by simp [l2 ▸ h2]
  obtain ⟨x1, g1, q1⟩ := r.get i1
  obtain ⟨x2, g2, q2⟩ := r'.get i2
  obtain ⟨u1, k1, z1⟩ := rI.get g1
  obtain ⟨u2, k2, z2⟩ := rI'.get g2
  have e1 : its.toArray[j] = u1 := by
    have : its[j]? = some its.toArray[j] := by simp
    rw [k1] at this; exact (Option.some.inj this).symm
  have e2 : its'.toArray[j] = u2 := by
    have : its'[j]? = some its'.toArray[j] := by simp
    rw [k2] at this; exact (Option.some.inj this).symm
  rw [e1, e2]
  unfold eqJ
  simp only [i1, i2]
  exact eqAtT I n (flats_get f i1) (flats_get f' i2) q1 q2 z1 z2 hu
theorem eqTs_len {vs ws : List T} (h : vs.length ≠ ws.length) : eqTs vs ws = false := by
  rw [← eqTs_range, show (vs.length == ws.length) = false from beq_eq_false_iff_ne.mpr h, Bool.and_false]
theorem eqTs_same {vs ws : List T} (h : vs.length = ws.length) : (List.range vs.length).all (eqJ vs ws) = eqTs vs ws := by
  rw [← eqTs_range, h, Nat.min_self, beq_self_eq_true, Bool.and_true]
/-- == of two values at the top, nothing of the heap in them -/
theorem rcT {pins : List (Addr × Obj)} {σ : L2.St} {H : Hp} {s : Shared} {v w : T} {x y : V} {u u' : Value} {A : Around} {n : Nat} (I : Inv X pins σ H s) (fv : flat v n = true) (fw : flat w n = true) (rv : Rep X.K H x v) (rw' : Rep X.K H y w)
    (ru : RelV x u) (ru' : RelV y u') (hu : A.units + n + 1 < cLine) : SeqAt.RcAt A s u u' (eqT v w) ∧ SeqAt.RcNeAt A s u u' (!eqT v w) := by
  have hu0 : A.units < cLine := by omega
  cases ev : sc v with
  | some a =>
    obtain ⟨rfl, f1⟩ := rep_sc ev rv
    cases ew : sc w with
    | some b =>
      obtain ⟨rfl, f2⟩ := rep_sc ew rw'
      cases v with
      | non =>
        cases ev; cases ru
        cases w with
        | non => cases ew; cases ru'; unfold eqT; exact ⟨.none_none, .none_none⟩
        | bl c => cases ew; cases ru'; unfold eqT; exact ⟨.none_bool c, .none_bool c⟩
        | int c => cases ew; obtain ⟨t, rfl⟩ := ru'; unfold eqT; exact ⟨.none_int c t, .none_int c t⟩
        | str c => cases ew; obtain ⟨t, rfl⟩ := ru'; unfold eqT; exact ⟨.none_str c t, .none_str c t⟩
        | _ => cases ew
      | bl d =>
        cases ev; cases ru
        cases w with
        | non => cases ew; cases ru'; unfold eqT; exact ⟨.bool_none d, .bool_none d⟩
        | bl c => cases ew; cases ru'; unfold eqT; exact ⟨.bool_bool d c, .bool_bool d c⟩
        | int c => cases ew; obtain ⟨t, rfl⟩ := ru'; unfold eqT; exact ⟨.bool_int d c t, .bool_int d c t⟩
        | str c => cases ew; obtain ⟨t, rfl⟩ := ru'; unfold eqT; exact ⟨.bool_str d c t, .bool_str d c t⟩
        | _ => cases ew
      | int d =>
        cases ev; obtain ⟨t', rfl⟩ := ru
        cases w with
        | non => cases ew; cases ru'; unfold eqT; exact ⟨.int_none d t', .int_none d t'⟩
        | bl c => cases ew; cases ru'; unfold eqT; exact ⟨.int_bool d t' c, .int_bool d t' c⟩
        | int c => cases ew; obtain ⟨t, rfl⟩ := ru'; unfold eqT; exact ⟨.int_int d t' c t, .int_int d t' c t⟩
        | str c => cases ew; obtain ⟨t, rfl⟩ := ru'; unfold eqT; exact ⟨.int_str d t' c t, .int_str d t' c t⟩
        | _ => cases ew
      | str d =>
        cases ev; obtain ⟨t', rfl⟩ := ru
        cases w with
        | non => cases ew; cases ru'; unfold eqT; exact ⟨.str_none d t', .str_none d t'⟩
        | bl c => cases ew; cases ru'; unfold eqT; exact ⟨.str_bool d t' c, .str_bool d t' c⟩
        | int c => cases ew; obtain ⟨t, rfl⟩ := ru'; unfold eqT; exact ⟨.str_int d t' c t, .str_int d t' c t⟩
        | str c => cases ew; obtain ⟨t, rfl⟩ := ru'; unfold eqT; exact ⟨.str_str d t' c t, .str_str d t' c t⟩
        | _ => cases ew
      | _ => cases ev
    | none =>
      obtain ⟨ts, m, rfl, em, ft⟩ := sc_none fw ew
      obtain ⟨b, zs, rfl, hq, r⟩ := of_tup rw'
      cases ru'
      obtain ⟨its, _, p, _⟩ := I.tuple hq
      cases v with
      | non => cases ev; cases ru; unfold eqT; exact ⟨.none_tuple p hu0, .none_tuple p hu0⟩
      | bl c => cases ev; cases ru; unfold eqT; exact ⟨.bool_tuple c p hu0, .bool_tuple c p hu0⟩
      | int i => cases ev; obtain ⟨t, rfl⟩ := ru; unfold eqT; exact ⟨.int_tuple i t p hu0, .int_tuple i t p hu0⟩
      | str i => cases ev; obtain ⟨t, rfl⟩ := ru; unfold eqT; exact ⟨.str_tuple i t p hu0, .str_tuple i t p hu0⟩
      | _ => cases ev
  | none =>
    obtain ⟨ts, m, rfl, em, ft⟩ := sc_none fv ev
    subst em
    obtain ⟨a, ys, rfl, hq, r⟩ := of_tup rv
    cases ru
    obtain ⟨its, rI, p, _⟩ := I.tuple hq
    cases ew : sc w with
    | some b =>
      obtain ⟨rfl, f2⟩ := rep_sc ew rw'
      cases w with
      | non => cases ew; cases ru'; unfold eqT; exact ⟨.tuple_none p hu0, .tuple_none p hu0⟩
      | bl c => cases ew; cases ru'; unfold eqT; exact ⟨.tuple_bool c p hu0, .tuple_bool c p hu0⟩
      | int i => cases ew; obtain ⟨t, rfl⟩ := ru'; unfold eqT; exact ⟨.tuple_int i t p hu0, .tuple_int i t p hu0⟩
      | str i => cases ew; obtain ⟨t, rfl⟩ := ru'; unfold eqT; exact ⟨.tuple_str i t p hu0, .tuple_str i t p hu0⟩
      | _ => cases ew
    | none =>
      obtain ⟨us, m', rfl, em, fu⟩ := sc_none fw ew
      cases em
      obtain ⟨b, zs, rfl, hq', r'⟩ := of_tup rw'
      cases ru'
      obtain ⟨its', rI', p', _⟩ := I.tuple hq'
      have l1 : its.toArray.size = ts.length := by rw [List.size_toArray, ← rI.length, r.length]
      have l2 : its'.toArray.size = us.length := by rw [List.size_toArray, ← rI'.length, r'.length]
      have hi := items_at (A := A.in1) I r r' rI rI' ft fu (by show A.units + 1 + m < cLine; omega)
      have k1 := SeqAt.RcAt.tuples (A := A) p p' hu0 hi
      have k2 := SeqAt.RcNeAt.tuples (A := A) p p' hu0 hi
      rw [l1, l2, eqTs_range] at k1 k2
      unfold eqT
      exact ⟨k1, k2⟩
theorem list_vs {pins : List (Addr × Obj)} {σ : L2.St} {H : Hp} {s : Shared} {w : T} {y : V} {u' : Value} {A : Around} {n : Nat} {a : Addr} {its : List Value} (I : Inv X pins σ H s) (fw : flat w n = true) (rw' : Rep X.K H y w) (ru' : RelV y u') (hu0 : A.units < cLine)
    (p : s.heap.IsList a its.toArray) : (SeqAt.RcAt A s (.ref a) u' false ∧ SeqAt.RcNeAt A s (.ref a) u' true) ∧ (SeqAt.RcAt A s u' (.ref a) false ∧ SeqAt.RcNeAt A s u' (.ref a) true) := by
  cases w with
  | non => cases of_non rw'; cases ru'; exact ⟨⟨.list_none p hu0, .list_none p hu0⟩, .none_list p hu0, .none_list p hu0⟩
  | bl c => cases of_bl rw'; cases ru'; exact ⟨⟨.list_bool c p hu0, .list_bool c p hu0⟩, .bool_list c p hu0, .bool_list c p hu0⟩
  | int c => cases of_int rw'; obtain ⟨t, rfl⟩ := ru'; exact ⟨⟨.list_int c t p hu0, .list_int c t p hu0⟩, .int_list c t p hu0, .int_list c t p hu0⟩
  | str c => cases of_str rw'; obtain ⟨t, rfl⟩ := ru'; exact ⟨⟨.list_str c t p hu0, .list_str c t p hu0⟩, .str_list c t p hu0, .str_list c t p hu0⟩
  | tup ts =>
    obtain ⟨b, zs, rfl, hq, r⟩ := of_tup rw'
    cases ru'
    obtain ⟨its', _, p', _⟩ := I.tuple hq
    exact ⟨⟨.list_tuple p p' hu0, .list_tuple p p' hu0⟩, .tuple_list p' p hu0, .tuple_list p' p hu0⟩
  | ref b => unfold flat at fw; cases fw
  | cl b => unfold flat at fw; cases fw
theorem o_eqG (neg : Bool) (hu : X.A.units + 150 < cLine) : OpS X (compareOp (if neg then .NotEq else .Eq)) (wEqG neg) := ⟨_, op_dir, fun F H C x y v u Q Q' R rx ry h q pins s σ v' u' I r1 r2 => by
  have fin : ∀ {k : Bool}, SeqAt.RcAt X.A s v' u' k ∧ SeqAt.RcNeAt X.A s v' u' (!k) → Q (.bl (if neg then !k else k)) H → wpAny (model X.prog X.w) X.A (compareOp (if neg then .NotEq else .Eq) v' u') (EP X pins σ Q) X.xe s := fun {k} e hq => by
    cases neg with
    | true => exact EqBoolInt.of_rcne e.2 ⟨.bl (!k), H, I, rfl, hq⟩
    | false => exact EqBoolInt.of_rc e.1 ⟨.bl k, H, I, rfl, hq⟩
  have two : ∀ {v u : T}, Rep X.K H x v → Rep X.K H y u → isFlat v ∧ isFlat u ∧ Q' (.bl (if neg then !eqT v u else eqT v u)) C → wpAny (model X.prog X.w) X.A (compareOp (if neg then .NotEq else .Eq) v' u') (EP X pins σ Q) X.xe s := fun {v u} rx ry h =>
    fin (rcT I h.1 h.2.1 rx ry r1 r2 (show X.A.units + 100 + 1 < cLine by omega)) (q _ _ H C R (Tx.refl H) rep_bl h.2.2)
  have hn : (if neg then !false else false) = neg := by cases neg <;> rfl
  have lft : ∀ {a : Addr} {u : T}, v' = .ref a → Rep X.K H y u → (∃ xs, C a = some (.lst xs)) ∧ isFlat u ∧ Q' (.bl neg) C → wpAny (model X.prog X.w) X.A (compareOp (if neg then .NotEq else .Eq) v' u') (EP X pins σ Q) X.xe s := fun {a u} ev ry h => by
    obtain ⟨⟨xs, hx⟩, f, hq⟩ := h
    obtain ⟨ys, hy, r⟩ := R.lst hx
    obtain ⟨its, _, p, _⟩ := I.list (SqL.of hy)
    have z := (list_vs (A := X.A) I f ry r2 (by omega) p.isList).1
    subst ev
    refine fin (k := false) z ?_
    rw [hn]
    exact q _ _ H C R (Tx.refl H) rep_bl hq
  have rgt : ∀ {b : Addr} {v : T}, u' = .ref b → Rep X.K H x v → (∃ xs, C b = some (.lst xs)) ∧ isFlat v ∧ Q' (.bl neg) C → wpAny (model X.prog X.w) X.A (compareOp (if neg then .NotEq else .Eq) v' u') (EP X pins σ Q) X.xe s := fun {b v} eu rx h => by
    obtain ⟨⟨xs, hx⟩, f, hq⟩ := h
    obtain ⟨ys, hy, r⟩ := R.lst hx
    obtain ⟨its, _, p, _⟩ := I.list (SqL.of hy)
    have z := (list_vs (A := X.A) I f rx r1 (by omega) p.isList).2
    subst eu
    refine fin (k := false) z ?_
    rw [hn]
    exact q _ _ H C R (Tx.refl H) rep_bl hq
  cases v with
  | ref a =>
    have ev : v' = .ref a := by cases of_ref rx; exact r1
    cases u with
    | ref b =>
      have eu : u' = .ref b := by cases of_ref ry; exact r2
      obtain ⟨xs, ys, ha, hb, hf, hq⟩ := h
      obtain ⟨zs, hz, rz⟩ := R.lst ha
      obtain ⟨ws, hw, rw'⟩ := R.lst hb
      obtain ⟨its, rI, p, _⟩ := I.list (SqL.of hz)
      obtain ⟨its', rI', p', _⟩ := I.list (SqL.of hw)
      have l1 : its.toArray.size = xs.length := by rw [List.size_toArray, ← rI.length, rz.length]
      have l2 : its'.toArray.size = ys.length := by rw [List.size_toArray, ← rI'.length, rw'.length]
      subst ev
      subst eu
      refine fin ?_ (q _ _ H C R (Tx.refl H) rep_bl hq)
      by_cases hl : xs.length = ys.length
      · obtain ⟨f1, f2⟩ := hf hl
        have hi := items_at (A := X.A.in1) I rz rw' rI rI' f1 f2 (by show X.A.units + 1 + 100 < cLine; omega)
        have k1 := SeqAt.RcAt.lists (A := X.A) p.isList p'.isList (by rw [l1, l2, hl]) (by omega) hi
        have k2 := SeqAt.RcNeAt.lists (A := X.A) p.isList p'.isList (by rw [l1, l2, hl]) (by omega) hi
        rw [l1, eqTs_same hl] at k1 k2
        exact ⟨k1, k2⟩
      · rw [eqTs_len hl]
        have hne : (its.toArray.size != its'.toArray.size) = true := by rw [l1, l2]; exact bne_iff_ne.mpr hl
        exact ⟨SeqAt.RcAt.lists_lengths p.isList p'.isList hne (by omega), SeqAt.RcNeAt.lists_lengths p.isList p'.isList hne (by omega)⟩
    | non => exact lft ev ry h
    | bl b => exact lft ev ry h
    | int b => exact lft ev ry h
    | str b => exact lft ev ry h
    | tup b => exact lft ev ry h
    | cl b => exact lft ev ry h
  | non =>
    cases u with
    | ref b => exact rgt (by cases of_ref ry; exact r2) rx h
    | _ => exact two rx ry h
  | bl _ =>
    cases u with
    | ref b => exact rgt (by cases of_ref ry; exact r2) rx h
    | _ => exact two rx ry h
  | int _ =>
    cases u with
    | ref b => exact rgt (by cases of_ref ry; exact r2) rx h
    | _ => exact two rx ry h
  | str _ =>
    cases u with
    | ref b => exact rgt (by cases of_ref ry; exact r2) rx h
    | _ => exact two rx ry h
  | tup _ =>
    cases u with
    | ref b => exact rgt (by cases of_ref ry; exact r2) rx h
    | _ => exact two rx ry h
  | cl _ =>
    cases u with
    | ref b => exact rgt (by cases of_ref ry; exact r2) rx h
    | _ => exact two rx ry h⟩
theorem o_eq (hu : X.A.units + 150 < cLine) : OpS X (compareOp .Eq) wEq := o_eqG false hu
theorem o_ne (hu : X.A.units + 150 < cLine) : OpS X (compareOp .NotEq) wNe := o_eqG true hu
theorem o_isN : OpS X (compareOp .Is) wIsN := ⟨_, op_isN, fun F H C x y v u Q Q' R rx ry h q => by
  obtain ⟨rfl, h⟩ := h
  refine ⟨of_non ry, ?_⟩
  have z := q (.bl _) _ H C R (Tx.refl H) rep_bl h
  cases v with
  | non => cases of_non rx; exact z
  | bl _ => cases of_bl rx; exact z
  | int _ => cases of_int rx; exact z
  | str _ => cases of_str rx; exact z
  | ref _ => cases of_ref rx; exact z
  | tup _ => obtain ⟨a, ys, rfl, _⟩ := of_tup rx; exact z
  | cl _ => obtain ⟨a, ys, rfl, _⟩ := of_cl rx; exact z⟩
open Classical in
/-- the items' answers, by the values -/
noncomputable def eqAns (v : T) (us : List Value) (ts : List T) (u : Value) : Bool := match (us.zip ts).find? fun p => decide (p.1 = u) with
  | some p => eqT p.2 v
  | none => false
open Classical in
theorem eqAns_at {pins : List (Addr × Obj)} {σ : L2.St} {H : Hp} {s : Shared} {n : Nat} {v : T} {ts : List T} {ys : List V} {us : List Value} (I : Inv X pins σ H s) (r : Reps X.K H ys ts) (rI : Vals ys us) (f : flats ts n = true) {j : Nat} {u : Value} {t : T} (hu : us[j]? = some u) (ht : ts[j]? = some t) :
    eqAns v us ts u = eqT t v := by
  unfold eqAns
  have hm : (u, t) ∈ us.zip ts := by
    refine List.mem_iff_getElem?.mpr ⟨j, ?_⟩
    rw [List.getElem?_zip_eq_some]
    exact ⟨hu, ht⟩
  cases e : (us.zip ts).find? fun p => decide (p.1 = u) with
  | none =>
    have := List.find?_eq_none.mp e (u, t) hm
    simp at this
  | some p =>
    have h1 := List.find?_some e
    have h2 := List.mem_of_find?_eq_some e
    simp only [decide_eq_true_eq] at h1
    obtain ⟨i, hi⟩ := List.mem_iff_getElem?.mp h2
    obtain ⟨g1, g2⟩ := List.getElem?_zip_eq_some.mp hi
    obtain ⟨x1, k1, q1⟩ := r.get g2
    obtain ⟨x2, k2, q2⟩ := r.get ht
    obtain ⟨u1, m1, z1⟩ := rI.get k1
    obtain ⟨u2, m2, z2⟩ := rI.get k2
    rw [g1] at m1; cases m1
    rw [hu] at m2; cases m2
    rw [h1] at z1
    have e2 := z1.inj z2
    subst e2
    show eqT p.2 v = eqT t v
    rw [rep_inj I n (flats_get f g2) (flats_get f ht) q1 q2]
theorem any_ans {pins : List (Addr × Obj)} {σ : L2.St} {H : Hp} {s : Shared} {n : Nat} {v : T} {ts : List T} {ys : List V} {us : List Value} (I : Inv X pins σ H s) (r : Reps X.K H ys ts) (rI : Vals ys us) (f : flats ts n = true) : us.any (eqAns v us ts) = inL v ts := by
  have hl : us.length = ts.length := by rw [← rI.length, r.length]
  have hat : ∀ j, us[j]?.map (eqAns v us ts) = ts[j]?.map fun t => eqT t v := fun j => by
    by_cases hj : j < us.length
    · have e1 : us[j]? = some us[j] := by simp [hj]
      have e2 : ts[j]? = some (ts[j]'(by omega)) := by simp [hl ▸ hj]
      rw [e1, e2, Option.map_some, Option.map_some, eqAns_at I r rI f e1 e2]
    · rw [List.getElem?_eq_none (by omega), List.getElem?_eq_none (by omega)]; rfl
  have hm : us.map (eqAns v us ts) = ts.map fun t => eqT t v := by
    refine List.ext_getElem? fun j => ?_
    rw [List.getElem?_map, List.getElem?_map]
    exact hat j
  unfold inL
  have a1 : us.any (eqAns v us ts) = (us.map (eqAns v us ts)).any id := by rw [List.any_map]; rfl
  have a2 : (ts.any fun y => eqT y v) = (ts.map fun t => eqT t v).any id := by rw [List.any_map]; rfl
  rw [a1, a2, hm]
theorem o_inG (neg : Bool) (hu : X.A.units + 150 < cLine) : OpS X (compareOp (if neg then .NotIn else .In)) (wInG neg) := ⟨_, op_dir, fun F H C x y v u Q Q' R rx ry h q pins s σ v' u' I r1 r2 => by
  have sq : ∀ {p : Addr} {ys : List V} {ts : List T}, u' = .ref p → (SqL X.K H p ys ∨ SqT X.K H p ys) → Reps X.K H ys ts → isFlat v → flats ts eqDeep = true → Q' (.bl (if neg then !inL v ts else inL v ts)) C →
      wpAny (model X.prog X.w) X.A (compareOp (if neg then .NotIn else .In) v' u') (EP X pins σ Q) X.xe s := fun {p ys ts} eu hq r fv ft hq' => by
    subst eu
    have at1 : ∀ {its : List Value}, Vals ys its → ∀ w, w ∈ its.toArray → SeqAt.EqAt X.A.in1 s w v' (eqAns v its ts w) := fun {its} rI w hw => by
      have hw' : w ∈ its := by simpa using hw
      obtain ⟨j, hj⟩ := List.mem_iff_getElem?.mp hw'
      have hlt : j < its.length := (List.getElem?_eq_some_iff.mp hj).1
      have hl : its.length = ts.length := by rw [← rI.length, r.length]
      have e2 : ts[j]? = some (ts[j]'(by omega)) := by simp [hl ▸ hlt]
      rw [eqAns_at I r rI ft hj e2]
      obtain ⟨x2, k2, q2⟩ := r.get e2
      obtain ⟨u2, m2, z2⟩ := rI.get k2
      rw [hj] at m2; cases m2
      exact eqAtT I 100 (flats_get ft e2) fv q2 rx z2 r1 (by show X.A.units + 1 + 100 < cLine; omega)
    rcases hq with hq | hq
    · obtain ⟨its, rI, p, _⟩ := I.list hq
      have e : its.toArray.any (eqAns v its ts) = inL v ts := by rw [← any_ans I r rI ft]; simp
      cases neg with
      | true => refine SeqAt.notIn_listAt (eqAns v its ts) p.isList (at1 rI) ⟨.bl _, H, I, rfl, ?_⟩; rw [e]; exact q _ _ H C R (Tx.refl H) rep_bl hq'
      | false => refine SeqAt.in_listAt (eqAns v its ts) p.isList (at1 rI) ⟨.bl _, H, I, rfl, ?_⟩; rw [e]; exact q _ _ H C R (Tx.refl H) rep_bl hq'
    · obtain ⟨its, rI, p, _⟩ := I.tuple hq
      have e : its.toArray.any (eqAns v its ts) = inL v ts := by rw [← any_ans I r rI ft]; simp
      cases neg with
      | true => refine SeqAt.notIn_tupleAt (eqAns v its ts) p (at1 rI) ⟨.bl _, H, I, rfl, ?_⟩; rw [e]; exact q _ _ H C R (Tx.refl H) rep_bl hq'
      | false => refine SeqAt.in_tupleAt (eqAns v its ts) p (at1 rI) ⟨.bl _, H, I, rfl, ?_⟩; rw [e]; exact q _ _ H C R (Tx.refl H) rep_bl hq'
  have tpl : ∀ {ts : List T}, Rep X.K H y (.tup ts) → isFlat v ∧ flats ts eqDeep = true ∧ Q' (.bl (if neg then !inL v ts else inL v ts)) C → wpAny (model X.prog X.w) X.A (compareOp (if neg then .NotIn else .In) v' u') (EP X pins σ Q) X.xe s := fun {ts} ry h => by
    obtain ⟨a, ys, rfl, hq, r⟩ := of_tup ry
    exact sq r2 (.inr hq) r h.1 h.2.1 h.2.2
  have cls : ∀ {ts : List T}, Rep X.K H y (.cl ts) → isFlat v ∧ flats ts eqDeep = true ∧ Q' (.bl (if neg then !inL v ts else inL v ts)) C → wpAny (model X.prog X.w) X.A (compareOp (if neg then .NotIn else .In) v' u') (EP X pins σ Q) X.xe s := fun {ts} ry h => by
    obtain ⟨a, ys, rfl, hq, r⟩ := of_cl ry
    exact sq r2 (.inl hq.sq) r h.1 h.2.1 h.2.2
  have rf : ∀ {a : Addr}, Rep X.K H y (.ref a) → (∃ ys, C a = some (.lst ys) ∧ isFlat v ∧ flats ys eqDeep = true ∧ Q' (.bl (if neg then !inL v ys else inL v ys)) C) → wpAny (model X.prog X.w) X.A (compareOp (if neg then .NotIn else .In) v' u') (EP X pins σ Q) X.xe s := fun {a} ry h => by
    obtain ⟨ts, ht, h1, h2, h3⟩ := h
    obtain ⟨zs, hz, rz⟩ := R.lst ht
    cases of_ref ry
    exact sq r2 (.inl (SqL.of hz)) rz h1 h2 h3
  cases u with
  | tup ts => cases v <;> exact tpl ry h
  | cl ts => cases v <;> exact cls ry h
  | ref a => cases v <;> exact rf ry h
  | str j =>
    cases v with
    | str i =>
      cases of_str rx; cases of_str ry
      obtain ⟨t, rfl⟩ := r1
      obtain ⟨t', rfl⟩ := r2
      cases neg with
      | true => exact notIn_str ⟨.bl _, H, I, rfl, q _ _ H C R (Tx.refl H) rep_bl h⟩
      | false => exact in_str ⟨.bl _, H, I, rfl, q _ _ H C R (Tx.refl H) rep_bl h⟩
    | _ => exact False.elim h
  | non => cases v <;> exact False.elim h
  | bl _ => cases v <;> exact False.elim h
  | int _ => cases v <;> exact False.elim h⟩
theorem o_in (hu : X.A.units + 150 < cLine) : OpS X (compareOp .In) wIn := o_inG false hu
theorem o_notIn (hu : X.A.units + 150 < cLine) : OpS X (compareOp .NotIn) wNotIn := o_inG true hu
theorem o_ix : IxS X wIdx := ⟨_, ix_seq, fun F H C x y v u Q Q' R rx ry h q => by
  cases v <;> cases u <;> first | exact False.elim h | skip
  case tup.int xs i =>
    obtain ⟨a, ys, rfl, hq, r⟩ := of_tup rx
    cases of_int ry
    obtain ⟨v, hv, h⟩ := h
    obtain ⟨z, hz, rz⟩ := r.at hv
    exact .inr (.inl ⟨a, ys, i, z, rfl, rfl, hq, hz, q _ _ H C R (Tx.refl H) rz h⟩)
  case cl.int xs i =>
    obtain ⟨a, ys, rfl, hq, r⟩ := of_cl rx
    cases of_int ry
    obtain ⟨v, hv, h⟩ := h
    obtain ⟨z, hz, rz⟩ := r.at hv
    exact .inl ⟨a, ys, i, z, rfl, rfl, hq.sq, hz, q _ _ H C R (Tx.refl H) rz h⟩
  case ref.int a i =>
    cases of_ref rx
    cases of_int ry
    obtain ⟨xs, v, hx, hv, h⟩ := h
    obtain ⟨ys, hy, r⟩ := R.lst hx
    obtain ⟨z, hz, rz⟩ := r.at hv
    exact .inl ⟨a, ys, i, z, rfl, rfl, SqL.of hy, hz, q _ _ H C R (Tx.refl H) rz h⟩
  case str.int z i =>
    cases of_str rx
    cases of_int ry
    obtain ⟨hl, c, hc, h⟩ := h
    exact .inr (.inr ⟨z, i, c, rfl, rfl, hl, hc, q _ _ H C R (Tx.refl H) rep_str h⟩)⟩
/-! slices -/
def SlS (X : Cx) (w : T → Option Int → Option Int → Hw → WK → Prop) : Prop := ∃ r, SlR X r ∧ ∀ (F H : Hp) (C : Hw) (x : V) (v : T) (lo hi : Option Int) (Q : VK) (Q' : WK), Rl X.K F H C → Rep X.K H x v → w v lo hi C Q' → QE X.K F H Q Q' → r x lo hi H Q
theorem cut_reps {K : PySem.W.Frag} {H : Hp} {ys : List V} {xs : List T} (r : Reps K H ys xs) (lo hi : Option Int) : Reps K H (cutV ys lo hi) (cut xs lo hi) := by
  unfold cutV cut
  rw [r.length]
  exact (r.drop _).take _
theorem o_sl : SlS X wSl := ⟨_, sl_tup.or (sl_list.or sl_str), fun F H C x v lo hi Q Q' R rx h q => by
  cases v with
  | tup xs =>
    obtain ⟨a, ys, rfl, hq, r⟩ := of_tup rx
    exact .inl ⟨a, ys, rfl, hq, by rw [r.length]; exact h.1, fun p hp => q _ _ _ C (R.hid hp) (Tx.new hp) (rep_tup (SqT.of upd_same) ((cut_reps r lo hi).tx (Tx.new hp))) h.2⟩
  | cl xs =>
    obtain ⟨a, ys, rfl, hq, r⟩ := of_cl rx
    exact .inr (.inl ⟨a, ys, rfl, hq.sq, fun p hp => q _ _ _ _ (R.newL hp (cut_reps r lo hi)) (Tx.new hp) rep_ref (h p (R.free hp))⟩)
  | ref a =>
    cases of_ref rx
    obtain ⟨xs, hx, h⟩ := h
    obtain ⟨ys, hy, r⟩ := R.lst hx
    exact .inr (.inl ⟨a, ys, rfl, SqL.of hy, fun p hp => q _ _ _ _ (R.newL hp (cut_reps r lo hi)) (Tx.new hp) rep_ref (h p (R.free hp))⟩)
  | str z => cases of_str rx; exact .inr (.inr ⟨z, rfl, h.1, q _ _ H C R (Tx.refl H) rep_str h.2⟩)
  | _ => exact False.elim h⟩
/-! calls of builtins -/
theorem of_one {K : PySem.W.Frag} {H : Hp} {xs : List V} {v : T} (h : Reps K H xs [v]) : ∃ x, xs = [x] ∧ Rep K H x v := by
  obtain ⟨y, r, rfl, a, b⟩ := of_cons h
  cases of_nil b
  exact ⟨y, rfl, a⟩
theorem of_two {K : PySem.W.Frag} {H : Hp} {xs : List V} {v w : T} (h : Reps K H xs [v, w]) : ∃ x y, xs = [x, y] ∧ Rep K H x v ∧ Rep K H y w := by
  obtain ⟨y, r, rfl, a, b⟩ := of_cons h
  obtain ⟨z, rfl, c⟩ := of_one b
  exact ⟨y, z, rfl, a, c⟩
theorem b_len : CallS X (.builtin "len") bLen := ⟨_, call_len_seq.or call_len_str, fun F H C xs vs Q Q' R rs h q => by
  obtain ⟨v, rfl, h⟩ := h
  obtain ⟨x, rfl, rx⟩ := of_one rs
  cases v with
  | str z => cases of_str rx; exact .inr ⟨z, rfl, h.1, q _ _ H C R (Tx.refl H) rep_int h.2⟩
  | tup xs =>
    obtain ⟨a, ys, rfl, hq, r⟩ := of_tup rx
    exact .inl ⟨a, ys, rfl, .inr hq, by rw [r.length]; exact q _ _ H C R (Tx.refl H) rep_int h⟩
  | cl xs =>
    obtain ⟨a, ys, rfl, hq, r⟩ := of_cl rx
    exact .inl ⟨a, ys, rfl, .inl hq.sq, by rw [r.length]; exact q _ _ H C R (Tx.refl H) rep_int h⟩
  | ref a =>
    cases of_ref rx
    obtain ⟨xs, hx, h⟩ := h
    obtain ⟨ys, hy, r⟩ := R.lst hx
    exact .inl ⟨a, ys, rfl, .inl (SqL.of hy), by rw [r.length]; exact q _ _ H C R (Tx.refl H) rep_int h⟩
  | _ => exact False.elim h⟩
theorem b_max (hc : X.calm = true) : CallS X (.builtin "max") bMax := ⟨_, call_max2 hc, fun F H C xs vs Q Q' R rs h q => by
  obtain ⟨i, j, rfl, h⟩ := h
  obtain ⟨x, y, rfl, rx, ry⟩ := of_two rs
  cases of_int rx; cases of_int ry
  exact ⟨i, j, rfl, q _ _ H C R (Tx.refl H) rep_int h⟩⟩
theorem b_min (hc : X.calm = true) : CallS X (.builtin "min") bMin := ⟨_, call_min2 hc, fun F H C xs vs Q Q' R rs h q => by
  obtain ⟨i, j, rfl, h⟩ := h
  obtain ⟨x, y, rfl, rx, ry⟩ := of_two rs
  cases of_int rx; cases of_int ry
  exact ⟨i, j, rfl, q _ _ H C R (Tx.refl H) rep_int h⟩⟩
theorem b_list : CallS X (.type "list") bList := ⟨_, call_list_of, fun F H C xs vs Q Q' R rs h q => by
  obtain ⟨v, rfl, h⟩ := h
  obtain ⟨x, rfl, rx⟩ := of_one rs
  cases v with
  | tup xs =>
    obtain ⟨a, ys, rfl, hq, r⟩ := of_tup rx
    exact ⟨a, ys, rfl, .inr hq, fun p hp => q _ _ _ _ (R.newL hp r) (Tx.new hp) rep_ref (h p (R.free hp))⟩
  | cl xs =>
    obtain ⟨a, ys, rfl, hq, r⟩ := of_cl rx
    exact ⟨a, ys, rfl, .inl hq.sq, fun p hp => q _ _ _ _ (R.newL hp r) (Tx.new hp) rep_ref (h p (R.free hp))⟩
  | ref a =>
    cases of_ref rx
    obtain ⟨xs, hx, h⟩ := h
    obtain ⟨ys, hy, r⟩ := R.lst hx
    exact ⟨a, ys, rfl, .inl (SqL.of hy), fun p hp => q _ _ _ _ (R.newL hp r) (Tx.new hp) rep_ref (h p (R.free hp))⟩
  | _ => exact False.elim h⟩
/-! methods of lists -/
theorem m_append : MtS X "list.append" mAppend := ⟨_, mt_append, fun F H C x v xs vs Q Q' R rx rs h q => by
  obtain ⟨a, ts, y, rfl, rfl, hx, hl, h⟩ := h
  cases of_ref rx
  obtain ⟨z, rfl, rz⟩ := of_one rs
  obtain ⟨ys, hy, r⟩ := R.lst hx
  obtain ⟨R', t⟩ := R.putL hx (r.snoc rz)
  exact ⟨a, ys, z, rfl, rfl, hy, by rw [r.length]; exact hl, q _ _ _ _ R' t rep_non h⟩⟩
end
end WL
set_option Elab.async false
set_option linter.all false
set_option maxRecDepth 100000
set_option maxHeartbeats 4000000
namespace WL
open PySem PySem.Spec PyProof.Rows L2
/-! ### expressions -/
section
variable {X : Cx} {a b c e : Expr} {es : List Expr} {wa wb wc : WE} {wt wt' : WT} {wA : WA} {w w' : W2} {pos p apos cpos : Pos} {rest : List Expr}
theorem d_var (i : Nat) {x : Str} (hN : X.N[i]? = some x := by rfl) (hv : Vis X.env.scope x := by first | exact Or.inl rfl | exact Or.inr (Or.inl rfl) | exact Or.inr (Or.inr rfl)) (hd : (x == ("__debug__" : Str)) = false := by decide)
    (hcd : (x == ("__classdict__" : Str)) = false := by decide) : SdE X (.Name x pos) (eVar i) := ⟨_, pe_var hN hv hd hcd, s_var⟩
theorem d_int {i j} : SdE X (.Constant (.int i) j pos) (eC (.int i)) := ⟨_, pe_int, s_c fun _ => rep_int⟩
theorem d_bl {i j} : SdE X (.Constant (.bool i) j pos) (eC (.bl i)) := ⟨_, pe_bl, s_c fun _ => rep_bl⟩
theorem d_non {j} : SdE X (.Constant .none j pos) (eC .non) := ⟨_, pe_non, s_c fun _ => rep_non⟩
/-- a name of the module's top that stands for a value -/
def Glb (K : PySem.W.Frag) (mg : Str → Option Value) (x : Str) (v : T) : Prop := ∃ z u, mg x = some u ∧ RelV z u ∧ ∀ H, Rep K H z v
theorem d_op {op : Operator} (ho : OpS X (binaryOp op) w) (ha : SdE X a wa) (hb : SdE X b wb) : SdE X (.BinOp a op b pos) (eBin w wa wb) := by
  obtain ⟨r, h1, h2⟩ := ho
  obtain ⟨ta, p1, s1⟩ := ha
  obtain ⟨tb, p2, s2⟩ := hb
  exact ⟨_, pe_op h1 p1 p2, s_op s1 s2 h2⟩
theorem d_neg (ha : SdE X a wa) : SdE X (.UnaryOp .USub a pos) (eUn wNeg wa) := by
  obtain ⟨ta, p1, s1⟩ := ha
  exact ⟨_, pe_un un_neg p1, s_un s1 fun F H C x v Q Q' R rx h q => by
    cases v with
    | int i => cases of_int rx; exact ⟨i, rfl, q _ _ H C R (Tx.refl H) rep_int h⟩
    | _ => exact False.elim h⟩
theorem d_cmp {op : CmpOp} (ho : OpS X (compareOp op) w) (ha : SdE X a wa) (hb : SdE X b wb) (hm : behindInMarks op b = false) : SdE X (.Compare a [op] [b] pos) (eBin w wa wb) := by
  obtain ⟨r, h1, h2⟩ := ho
  obtain ⟨ta, p1, s1⟩ := ha
  obtain ⟨tb, p2, s2⟩ := hb
  exact ⟨_, pe_cmpR h1 p1 p2 hm, s_op s1 s2 h2⟩
theorem d_or (ha : SdE X a wa) (hb : SdE X (.BoolOp .Or (b :: rest) pos) wb) : SdE X (.BoolOp .Or (a :: b :: rest) pos) (eOr wa wb) := by
  obtain ⟨ta, p1, s1⟩ := ha
  obtain ⟨tb, p2, s2⟩ := hb
  exact ⟨_, pe_or p1 p2, s_or s1 s2⟩
theorem d_one {op} (ha : SdE X a wa) : SdE X (.BoolOp op [a] pos) wa := by
  obtain ⟨ta, p1, s1⟩ := ha
  exact ⟨_, pe_one p1, s1⟩
theorem da_nil : SdA X [] aNil := ⟨_, pa_nil, s_nil⟩
theorem da_cons (ha : SdE X a wa) (hb : SdA X es wA) (hs : starEach (a :: es) X.env = (false, eval a X.env) :: starEach es X.env := by rfl) : SdA X (a :: es) (aCons wa wA) := by
  obtain ⟨ta, p1, s1⟩ := ha
  obtain ⟨tb, p2, s2⟩ := hb
  exact ⟨_, pa_cons p1 p2 hs, s_cons s1 s2⟩
theorem d_tup {x1} (h : SdA X es wA) : SdE X (.Tuple es x1 pos) (eTup wA) := by
  obtain ⟨t, p, s⟩ := h
  exact ⟨_, pe_tup p, s_tup s⟩
theorem d_lst (h : SdA X es wA) : SdE X (.List es pos) (eLst wA) := by
  obtain ⟨t, p, s⟩ := h
  exact ⟨_, pe_lst p, s_lst s⟩
theorem d_ix (ha : SdE X a wa) (hb : SdE X b wb) (hs : PlainIx b) : SdE X (.Subscript a b pos) (eBin wIdx wa wb) := by
  obtain ⟨r, h1, h2⟩ := o_ix (X := X)
  obtain ⟨ta, p1, s1⟩ := ha
  obtain ⟨tb, p2, s2⟩ := hb
  exact ⟨_, pe_ix h1 p1 p2 hs, s_op s1 s2 h2⟩
def SdO (X : Cx) (e : Option Expr) (w : Sw → Hw → (Option Int → Hw → Prop) → WX → Prop) : Prop := ∃ t, PO X e t ∧ ∀ (F H : Hp) (C : Hw) (σ : L2.St) (τ : Sw) (Q : Option Int → Hp → Prop) (Q' : Option Int → Hw → Prop) (χ : WX), Rl X.K F H C → RepS X.K H σ τ → w τ C Q' χ →
  (∀ o H' C', Rl X.K F H' C' → Tx H H' → Q' o C' → Q o H') → t σ H Q
theorem do_none : SdO X none oNo := ⟨_, po_none, fun F H C σ τ Q Q' χ R S h q => q none H C R (Tx.refl H) h⟩
theorem do_some (ha : SdE X a wa) : SdO X (some a) (oSome wa) := by
  obtain ⟨ta, p1, s1⟩ := ha
  refine ⟨_, po_some p1, fun F H C σ τ Q Q' χ R S h q => ?_⟩
  refine s1 F H C σ τ _ _ χ R S h fun x v H1 C1 R1 t1 rx h1 => ?_
  obtain ⟨i, rfl, h1⟩ := h1
  exact ⟨i, of_int rx, q (some i) H1 C1 R1 t1 h1⟩
theorem d_sl {lo hi : Option Expr} {wl wh : Sw → Hw → (Option Int → Hw → Prop) → WX → Prop} {p2 : Pos} (ha : SdE X a wa) (hl : SdO X lo wl) (hh : SdO X hi wh) : SdE X (.Subscript a (.Slice lo hi none p2) pos) (eSl wa wl wh) := by
  obtain ⟨r, h1, h2⟩ := o_sl (X := X)
  obtain ⟨ta, p1, s1⟩ := ha
  obtain ⟨tl, p3, s3⟩ := hl
  obtain ⟨th, p4, s4⟩ := hh
  refine ⟨_, pe_slice h1 p1 p3 p4, fun F H C σ τ Q Q' χ R S h q => ?_⟩
  refine s1 F H C σ τ _ _ χ R S h fun x v H1 C1 R1 t1 rx h1 => ?_
  refine s3 F H1 C1 σ τ _ _ χ R1 (S.tx t1) h1 fun l H2 C2 R2 t2 h2' => ?_
  refine s4 F H2 C2 σ τ _ _ χ R2 (S.tx (t1.trans t2)) h2' fun u H3 C3 R3 t3 h3 => ?_
  exact h2 F H3 C3 x v l u Q Q' R3 ((rx.tx t2).tx t3) h3 (QE.at q ((t1.trans t2).trans t3))
/-- f(e, ..), f a function of Python's own -/
theorem d_bi {x : Str} {id : String} {r : List T → Hw → WK → Prop} (hc : CallS X (.builtin id) r) (hg : Gl X x) (hm : X.mg x = none) (hv : bootBuiltins x = some (.builtin id)) (ha : SdA X (e :: es) wA) (hn : x ≠ "__name__" := by decide) (hdb : (x == ("__debug__" : Str)) = false := by decide)
    (he : starEach (e :: es) X.env = (false, eval e X.env) :: starEach es X.env := by rfl) (hpl : (backTo pos (starEach es X.env)).any (·.1) = false := by rfl) : SdE X (.Call (.Name x p) (e :: es) [] pos) (eBi r wA) := by
  obtain ⟨r, h1, h2⟩ := hc
  obtain ⟨t, p1, s1⟩ := ha
  exact ⟨_, pe_callB h1 hg hm hv p1 hn hdb he hpl, s_bi h2 s1⟩
theorem d_ty {x : Str} {id : String} {r : List T → Hw → WK → Prop} (hc : CallS X (.type id) r) (hg : Gl X x) (hm : X.mg x = none) (hv : bootBuiltins x = some (.type id)) (ha : SdA X (e :: es) wA) (hn : x ≠ "__name__" := by decide) (hdb : (x == ("__debug__" : Str)) = false := by decide)
    (he : starEach (e :: es) X.env = (false, eval e X.env) :: starEach es X.env := by rfl) (hpl : (backTo pos (starEach es X.env)).any (·.1) = false := by rfl) : SdE X (.Call (.Name x p) (e :: es) [] pos) (eBi r wA) := by
  obtain ⟨r, h1, h2⟩ := hc
  obtain ⟨t, p1, s1⟩ := ha
  exact ⟨_, pe_callTy h1 hg hm hv p1 hn hdb he hpl, s_bi h2 s1⟩
/-- the receiver's class -/
def TyS (X : Cx) (Tn : String) (ty : T → Hw → Prop) : Prop := ∀ (F H : Hp) (C : Hw) (x : V) (v : T), Rl X.K F H C → Rep X.K H x v → ty v C → tyV X.K Tn x H
theorem ty_list : TyS X "list" tyL' := fun F H C x v R rx h => by
  obtain ⟨a, xs, rfl, hx⟩ := h
  cases of_ref rx
  obtain ⟨ys, hy, r⟩ := R.lst hx
  exact L2.tyL hy
theorem d_mt {o : Expr} {wo : WE} {name : Str} {Tn id : String} {ty : T → Hw → Prop} {r : T → List T → Hw → WK → Prop} (pa : PlainAttrs Tn) (slot : Slot Tn name id) (hty : typeOf (.builtin id) = pure (.type "method_descriptor")) (hT : TyS X Tn ty) (hm : MtS X id r) (ho : SdE X o wo) (ha : SdA X (e :: es) wA)
    (hbase : attributeBase o name X.env (eval o X.env) = eval o X.env := by rfl)
    (hfew : ((backTo cpos (starEach (e :: es) X.env)).all (fun x => !x.1) && (backToKw cpos (keywordEach [] X.env)).all (fun x => x.1.isSome)
      && decide ((e :: es).length + ([] : List Keyword).length + (if ([] : List Keyword).isEmpty then 0 else 1) < 30)) = true := by rfl)
    (hline : (apos.endLine == cpos.line) = true := by rfl) (hs : starEach (e :: es) X.env = (false, eval e X.env) :: starEach es X.env := by rfl) (hplain : (backTo cpos (starEach es X.env)).any (·.1) = false := by rfl) :
    SdE X (.Call (.Attribute o name apos) (e :: es) [] cpos) (eMt ty r wo wA) := by
  obtain ⟨rr, h1, h2⟩ := hm
  obtain ⟨to, p1, s1⟩ := ho
  obtain ⟨ta, p2, s2⟩ := ha
  refine ⟨_, pe_bm pa slot hty h1 p1 p2 hbase hfew hline hs hplain, fun F H C σ τ Q Q' χ R S h q => ?_⟩
  refine s1 F H C σ τ _ _ χ R S h fun x v H1 C1 R1 t1 rx h1' => ⟨hT F H1 C1 x v R1 rx h1'.1, ?_⟩
  refine s2 F H1 C1 σ τ _ _ χ R1 (S.tx t1) h1'.2 fun xs vs H2 C2 R2 t2 rs h2' => ?_
  exact h2 F H2 C2 x v xs vs Q Q' R2 (rx.tx t2) rs h2' (QE.at q (t1.trans t2))
theorem d_mt0 {o : Expr} {wo : WE} {name : Str} {Tn id : String} {ty : T → Hw → Prop} {r : T → List T → Hw → WK → Prop} (pa : PlainAttrs Tn) (slot : Slot Tn name id) (hty : typeOf (.builtin id) = pure (.type "method_descriptor")) (hT : TyS X Tn ty) (hm : MtS X id r) (ho : SdE X o wo)
    (hbase : attributeBase o name X.env (eval o X.env) = eval o X.env := by rfl) (hline : (apos.endLine == cpos.line) = true := by rfl) :
    SdE X (.Call (.Attribute o name apos) [] [] cpos) (eMt ty r wo aNil) := by
  obtain ⟨rr, h1, h2⟩ := hm
  obtain ⟨to, p1, s1⟩ := ho
  refine ⟨_, pe_bm0 pa slot hty h1 p1 hbase hline, fun F H C σ τ Q Q' χ R S h q => ?_⟩
  refine s1 F H C σ τ _ _ χ R S h fun x v H1 C1 R1 t1 rx h1' => ⟨hT F H1 C1 x v R1 rx h1'.1, ?_⟩
  exact h2 F H1 C1 x v [] [] Q Q' R1 rx reps_nil h1'.2 (QE.at q t1)
/-! isinstance -/
theorem kit_cls {K : PySem.W.Frag} {n c : String} (hn : n ∈ ["NoneType", "bool", "int", "str", "tuple", "list", "dict"]) (hc : c ∈ ["bool", "int", "str", "tuple", "list", "dict"]) : PySem.W.kitOne K (.type n) (.type c) = some (isCls n c) := by
  simp only [List.mem_cons, List.not_mem_nil, or_false] at hn hc
  rcases hn with rfl | rfl | rfl | rfl | rfl | rfl | rfl <;> rcases hc with rfl | rfl | rfl | rfl | rfl | rfl <;> rfl
theorem tyN_mem {v : T} {C : Hw} {n : String} (h : tyN v C n) : n ∈ ["NoneType", "bool", "int", "str", "tuple", "list", "dict"] := by
  cases v with
  | non => cases h; decide
  | bl _ => cases h; decide
  | int _ => cases h; decide
  | str _ => cases h; decide
  | tup _ => cases h; decide
  | cl _ => cases h; decide
  | ref _ => rcases h with ⟨rfl, _⟩ | ⟨rfl, _⟩ <;> decide
theorem isi_of {pins : List (Addr × Obj)} {σ : L2.St} {F H : Hp} {C : Hw} {s : Shared} {x : V} {v : T} {u : Value} {n c : String} {Q : Value → Shared → Prop} (I : Inv X pins σ H s) (R : Rl X.K F H C) (rx : Rep X.K H x v) (ru : RelV x u) (hn : tyN v C n) (hc : c ∈ ["bool", "int", "str", "tuple", "list", "dict"])
    (h : ∀ tk, Q (.bool (isCls n c)) { s with toks := tk }) : wpAny (model X.prog X.w) X.A (call (.builtin "isinstance") [u, .type c]) Q X.xe s := by
  have e := kit_cls (K := X.K) (tyN_mem hn) hc
  cases v with
  | non => cases hn; cases of_non rx; exact isinst_ok I ru .non e h
  | bl b => cases hn; cases of_bl rx; exact isinst_ok I ru (.bl b) e h
  | int b => cases hn; cases of_int rx; exact isinst_ok I ru (.int b) e h
  | str b => cases hn; cases of_str rx; exact isinst_ok I ru (.str b) e h
  | tup xs =>
    cases hn
    obtain ⟨a, ys, rfl, hq, r⟩ := of_tup rx
    cases ru
    obtain ⟨its, _, ⟨o, h1, h2, _⟩, _⟩ := I.tuple hq
    exact PySem.W.kia_one PySem.W.kitx_tuple I.kIn ⟨o, h1, h2⟩ e (fun z => nomatch z) h
  | cl xs =>
    cases hn
    obtain ⟨a, ys, rfl, hq, r⟩ := of_cl rx
    cases ru
    obtain ⟨its, _, p, _⟩ := I.list hq.sq
    obtain ⟨o, h1, h2, _⟩ := p.isList
    exact PySem.W.kia_one PySem.W.kitx_list I.kIn ⟨o, h1, h2⟩ e (fun z => nomatch z) h
  | ref a =>
    cases of_ref rx
    rcases hn with ⟨rfl, xs, hx⟩ | ⟨rfl, kvs, hx⟩
    · obtain ⟨ys, hy, r⟩ := R.lst hx
      exact isinst_ok I ru (.lst hy) e h
    · obtain ⟨ks, hy, r⟩ := R.obj a _ hx
      exact isinst_ok I ru (.dK hy) e h
theorem d_isi {x : Str} {q2 : Pos} {c : String} (hg : Gl X "isinstance") (hm : X.mg "isinstance" = none) (hgx : Gl X x) (hmx : X.mg x = none) (hvx : bootBuiltins x = some (.type c)) (hc : c ∈ ["bool", "int", "str", "tuple", "list", "dict"]) (ha : SdE X a wa)
    (hnx : x ≠ "__name__" := by decide) (hdx : (x == ("__debug__" : Str)) = false := by decide) (he : starEach [a, .Name x q2] X.env = [(false, eval a X.env), (false, eval (.Name x q2) X.env)] := by rfl) : SdE X (.Call (.Name "isinstance" p) [a, .Name x q2] [] pos) (eIsi wa c) := by
  obtain ⟨ta, p1, s1⟩ := ha
  let r : List V → Hp → VK → Prop := fun xs H Q => ∃ y F C v n, xs = [y, .ty c] ∧ Rl X.K F H C ∧ Rep X.K H y v ∧ tyN v C n ∧ Q (.bl (isCls n c)) H
  have hr : CallR X (.builtin "isinstance") r := by
    intro pins s σ H xs us Q I rs h
    obtain ⟨y, F, C, v, n, rfl, R, ry, hn, q⟩ := h
    obtain ⟨u, u2, rfl, ru, ru2⟩ := rs.two
    cases ru2
    exact isi_of I R ry ru hn hc fun tk => ⟨.bl _, H, I.tok tk, rfl, q⟩
  refine ⟨_, pe_callB hr hg hm bt_isinstance (pa_cons p1 (pa_cons (pe_bltn (v := .ty c) hgx hmx hvx rfl hnx hdx) pa_nil (by rw [show starEach [Expr.Name x q2] X.env = [(false, eval (.Name x q2) X.env)] from rfl]; rfl)) ?_) (by decide) (by decide) ?_ ?_, ?_⟩
  · rw [he]; rfl
  · rw [he]; rfl
  · rfl
  · intro F H C σ τ Q Q' χ R S h q
    refine s1 F H C σ τ _ _ χ R S h fun y v H1 C1 R1 t1 ry h1 => ?_
    obtain ⟨n, hn, h1⟩ := h1
    exact ⟨y, F, C1, v, n, rfl, R1, ry, hn, q _ _ H1 C1 R1 t1 rep_bl h1⟩
/-! tests -/
theorem dt_cmp {op : CmpOp} (ho : OpS X (compareOp op) w) (ha : SdE X a wa) (hb : SdE X b wb) (hm : behindInMarks op b = false) : SdT X (.Compare a [op] [b] pos) (tBl (eBin w wa wb)) := by
  obtain ⟨r, h1, h2⟩ := ho
  obtain ⟨ta, p1, s1⟩ := ha
  obtain ⟨tb, p2, s2⟩ := hb
  exact ⟨_, pt_cmpR h1 p1 p2 hm, s_bl (s_op s1 s2 h2)⟩
theorem dt_tru (ha : SdE X a wa) (he : ∀ whole, isTrue a X.env whole = (do let v ← whole; standAt a.pos; holding [v] (truthy v)) := by intro _; rfl) : SdT X a (tTru wa) := by
  obtain ⟨ta, p1, s1⟩ := ha
  exact ⟨_, pt_truth p1 he, s_tru s1⟩
theorem dw_and1 (ha : SdT X a wt) : SdW X (.BoolOp .And [a] pos) wt := by
  obtain ⟨t, p, s⟩ := ha
  exact ⟨_, pw_and1 p, s⟩
theorem dw_or1 (ha : SdT X a wt) : SdW X (.BoolOp .Or [a] pos) wt := by
  obtain ⟨t, p, s⟩ := ha
  exact ⟨_, pw_or1 p, s⟩
theorem dw_and (ha : SdT X a wt) (hb : SdW X (.BoolOp .And (b :: rest) pos) wt') : SdW X (.BoolOp .And (a :: b :: rest) pos) (tAn wt wt') := by
  obtain ⟨t, p, s⟩ := ha
  obtain ⟨t', p', s'⟩ := hb
  exact ⟨_, pw_and p p', s_an s s'⟩
theorem dw_or (ha : SdT X a wt) (hb : SdW X (.BoolOp .Or (b :: rest) pos) wt') : SdW X (.BoolOp .Or (a :: b :: rest) pos) (tOr' wt wt') := by
  obtain ⟨t, p, s⟩ := ha
  obtain ⟨t', p', s'⟩ := hb
  exact ⟨_, pw_or p p', s_or' s s'⟩
theorem dt_w (h : SdW X a wt) : SdT X a wt := by
  obtain ⟨t, p, s⟩ := h
  exact ⟨_, p.pt, s⟩
theorem dt_not (ha : SdT X a wt) : SdT X (.UnaryOp .Not a pos) (tNo wt) := by
  obtain ⟨t, p, s⟩ := ha
  exact ⟨_, pt_not p, s_no s⟩
end
/-! ### statements -/
structure DRel (K : PySem.W.Frag) (F H : Hp) (D : Ends) (D' : We) : Prop where
  nx : ∀ σ τ H' C', Rl K F H' C' → Tx H H' → RepS K H' σ τ → D'.nx τ C' → D.nx σ H'
  rt : ∀ x v H' C', Rl K F H' C' → Tx H H' → Rep K H' x v → D'.rt v C' → D.rt x H'
  bk : ∀ σ τ H' C', Rl K F H' C' → Tx H H' → RepS K H' σ τ → D'.bk τ C' → D.bk σ H'
  ct : ∀ σ τ H' C', Rl K F H' C' → Tx H H' → RepS K H' σ τ → D'.ct τ C' → D.ct σ H'
theorem DRel.at {K : PySem.W.Frag} {F H H1 : Hp} {D : Ends} {D' : We} (h : DRel K F H D D') (t : Tx H H1) : DRel K F H1 D D' :=
  ⟨fun σ τ H' C' R t' => h.nx σ τ H' C' R (t.trans t'), fun x v H' C' R t' => h.rt x v H' C' R (t.trans t'), fun σ τ H' C' R t' => h.bk σ τ H' C' R (t.trans t'), fun σ τ H' C' R t' => h.ct σ τ H' C' R (t.trans t')⟩
def SimS (K : PySem.W.Frag) (t : TS) (w : WS) : Prop := ∀ (F H : Hp) (C : Hw) (σ : L2.St) (τ : Sw) (D : Ends) (D' : We), Rl K F H C → RepS K H σ τ → w D' τ C → DRel K F H D D' → t D σ H
def SimG (K : PySem.W.Frag) (t : TG) (w : WG) : Prop := ∀ (F H : Hp) (C : Hw) (σ : L2.St) (τ : Sw) (x : V) (v : T) (Q : L2.St → Hp → Prop) (Q' : Sw → Hw → Prop) (χ : WX), Rl K F H C → RepS K H σ τ → Rep K H x v → w v τ C Q' χ →
  (∀ σ' τ' H' C', Rl K F H' C' → Tx H H' → RepS K H' σ' τ' → Q' τ' C' → Q σ' H') → t x σ H Q
def SimGs (K : PySem.W.Frag) (t : TGs) (w : WGs) : Prop := ∀ (F H : Hp) (C : Hw) (σ : L2.St) (τ : Sw) (x : List V) (v : List T) (Q : L2.St → Hp → Prop) (Q' : Sw → Hw → Prop) (χ : WX), Rl K F H C → RepS K H σ τ → Reps K H x v → w v τ C Q' χ →
  (∀ σ' τ' H' C', Rl K F H' C' → Tx H H' → RepS K H' σ' τ' → Q' τ' C' → Q σ' H') → t x σ H Q
def SdS (X : Cx) (st : Stmt) (w : WS) : Prop := ∃ t, PS X st t ∧ SimS X.K t w
def SdB (X : Cx) (st : List Stmt) (w : WS) : Prop := ∃ t, PSs X st t ∧ SimS X.K t w
/-- a target: also what a comprehension asks of it -/
def SdG (X : Cx) (e : Expr) (w : WG) : Prop := ∃ t, PG X e t ∧ SimG X.K t w
def SdGs (X : Cx) (e : List Expr) (w : WGs) : Prop := ∃ t, PGs X e t ∧ SimGs X.K t w
section
variable {X : Cx} {st : Stmt} {rest : List Stmt} {w u : WS} {e tg : Expr} {we : WE} {wt : WT} {g : WG} {gs : WGs} {pos : Pos}
theorem sg_name {K : PySem.W.Frag} {i : Nat} : SimG K (gName i) (gNm i) := fun F H C σ τ x v Q Q' χ R S r h q => q _ _ H C R (Tx.refl H) (S.set r) h
theorem sg_nil {K : PySem.W.Frag} : SimGs K gNil gsNil := fun F H C σ τ x v Q Q' χ R S r h q => by
  obtain ⟨rfl, h⟩ := h
  exact ⟨of_nil r, q _ _ H C R (Tx.refl H) S h⟩
theorem sg_cons {K : PySem.W.Frag} {t : TG} {u : TGs} {g : WG} {gs : WGs} (a : SimG K t g) (b : SimGs K u gs) : SimGs K (gCons t u) (gsCons g gs) := fun F H C σ τ x v Q Q' χ R S r h q => by
  obtain ⟨v1, vs, rfl, h⟩ := h
  obtain ⟨y, ys, rfl, r1, r2⟩ := of_cons r
  refine ⟨y, ys, rfl, a F H C σ τ y v1 _ _ χ R S r1 h fun σ' τ' H' C' R' t' S' h' => ?_⟩
  exact b F H' C' σ' τ' ys vs Q Q' χ R' S' (r2.tx t') h' fun σ2 τ2 H2 C2 R2 t2 => q σ2 τ2 H2 C2 R2 (t'.trans t2)
theorem sg_tup {K : PySem.W.Frag} {u : TGs} {gs : WGs} {n : Nat} (b : SimGs K u gs) (hn : ∀ vs τ C Q χ, gs vs τ C Q χ → vs.length = n) : SimG K (gTup K n u) (gTp gs) := fun F H C σ τ x v Q Q' χ R S r h q => by
  obtain ⟨vs, rfl, h⟩ := h
  obtain ⟨a, ys, rfl, hq, rs⟩ := of_tup r
  exact ⟨a, ys, rfl, hq, by rw [rs.length]; exact hn _ _ _ _ _ h, b F H C σ τ ys vs Q Q' χ R S rs h q⟩
/-- how many a row of targets takes -/
def GsLen (n : Nat) (gs : WGs) : Prop := ∀ vs τ C Q χ, gs vs τ C Q χ → vs.length = n
theorem gl_nil : GsLen 0 gsNil := fun vs τ C Q χ h => by rw [h.1]; rfl
theorem gl_cons1 {n i : Nat} {gs : WGs} (b : GsLen n gs) : GsLen (n + 1) (gsCons (gNm i) gs) := fun vs τ C Q χ h => by
  obtain ⟨v, r, rfl, h⟩ := h
  rw [List.length_cons, b r _ _ _ _ h]
theorem dg_name {i : Nat} {x : Str} (hN : X.N.Nodup) (hi : X.N[i]? = some x := by rfl) (hx : Loc X.env.scope x := by first | exact Or.inl rfl | exact Or.inr rfl) (hf : X.fn x = true ∨ X.env.scope.names.lookup x = some .local := by first | exact .inl rfl | exact .inr rfl | assumption) : SdG X (.Name x pos) (gNm i) := ⟨_, pg_name hN hi hx hf, sg_name⟩
theorem dg_nil : SdGs X [] gsNil := ⟨_, pgs_nil, sg_nil⟩
theorem dg_cons {es : List Expr} (a : SdG X e g) (b : SdGs X es gs) (hs : (assignEach (e :: es) X.env).map (·.2) = assign e X.env :: (assignEach es X.env).map (·.2) := by rfl) : SdGs X (e :: es) (gsCons g gs) := by
  obtain ⟨t, p, s⟩ := a
  obtain ⟨t', p', s'⟩ := b
  exact ⟨_, pgs_cons p p' hs, sg_cons s s'⟩
theorem dg_tup {es : List Expr} {k n : Nat} (hc : X.calm = true) (b : SdGs X es gs) (hl : GsLen n gs) (hn : (assignEach es X.env).length = n := by rfl) (hst : (assignEach es X.env).findIdx? (·.1) = none := by rfl) : SdG X (.Tuple es k pos) (gTp gs) := by
  obtain ⟨t, p, s⟩ := b
  exact ⟨_, pg_tup hc p hn hst, sg_tup s hl⟩
theorem db_nil : SdB X [] sPass := ⟨_, pss_nil, fun F H C σ τ D D' R S h d => d.nx σ τ H C R (Tx.refl H) S h⟩
theorem db_one (a : SdS X st w) : SdB X [st] w := by
  obtain ⟨t, p, s⟩ := a
  exact ⟨_, pss_one p, s⟩
theorem db_cons (a : SdS X st w) (b : SdB X rest u) : SdB X (st :: rest) (sSeq w u) := by
  obtain ⟨t, p, s⟩ := a
  obtain ⟨t', p', s'⟩ := b
  refine ⟨_, pss_cons p p', fun F H C σ τ D D' R S h d => ?_⟩
  exact s F H C σ τ _ _ R S h ⟨fun σ' τ' H' C' R' t' S' h' => s' F H' C' σ' τ' D D' R' S' h' (d.at t'), d.rt, d.bk, d.ct⟩
theorem ds_expr (a : SdE X e we) (hs : swapsWith e none pos.line X.env = pure false := by rfl) : SdS X (.Expr e pos) (sExpr we) := by
  obtain ⟨t, p, s⟩ := a
  refine ⟨_, ps_expr p hs, fun F H C σ τ D D' R S h d => ?_⟩
  exact s F H C σ τ _ _ D'.xc R S h fun x v H1 C1 R1 t1 rx h1 => d.nx σ τ H1 C1 R1 t1 (S.tx t1) h1
theorem ds_ret (a : SdE X e we) : SdS X (.Return (some e) pos) (sRet we) := by
  obtain ⟨t, p, s⟩ := a
  refine ⟨_, ps_ret p, fun F H C σ τ D D' R S h d => ?_⟩
  exact s F H C σ τ _ _ D'.xc R S h d.rt
theorem ds_if {c : Expr} {a b : List Stmt} {wa wb : WS} (hc : SdT X c wt) (ha : SdB X a wa) (hb : SdB X b wb) : SdS X (.If c a b pos) (sIf wt wa wb) := by
  obtain ⟨t, p, s⟩ := hc
  obtain ⟨t1, p1, s1⟩ := ha
  obtain ⟨t2, p2, s2⟩ := hb
  refine ⟨_, ps_if p p1 p2, fun F H C σ τ D D' R S h d => ?_⟩
  refine s F H C σ τ _ _ D'.xc R S h fun k H1 C1 R1 t1 h1 => ?_
  cases k with
  | true => exact s1 F H1 C1 σ τ D D' R1 (S.tx t1) h1 (d.at t1)
  | false => exact s2 F H1 C1 σ τ D D' R1 (S.tx t1) h1 (d.at t1)
theorem ds_asg (he : SdE X e we) (hg : SdG X tg g) (hs : swapsWithSole [tg] e pos.line X.env = pure false := by rfl) (hw : swappedStores [tg] e X.env = pure none := by rfl)
    (h1 : (assignEach [tg] X.env).map (·.2) = [assign tg X.env] := by rfl) : SdS X (.Assign [tg] e pos) (sAsg we g) := by
  obtain ⟨t, p, s⟩ := he
  obtain ⟨t', p', s'⟩ := hg
  refine ⟨_, ps_asg p p' hs hw h1, fun F H C σ τ D D' R S h d => ?_⟩
  refine s F H C σ τ _ _ D'.xc R S h fun x v H1 C1 R1 t1 rx h1 => ?_
  exact s' F H1 C1 σ τ x v _ _ D'.xc R1 (S.tx t1) rx h1 fun σ' τ' H' C' R' t' => d.nx σ' τ' H' C' R' (t1.trans t')
theorem ds_set {i : Nat} {x : Str} {pos' : Pos} (hN : X.N.Nodup) (he : SdE X e we) (hi : X.N[i]? = some x := by rfl) (hx : Loc X.env.scope x := by first | exact Or.inl rfl | exact Or.inr rfl) (hs : swapsWith e (some (.Name x pos')) pos.line X.env = pure false := by rfl)
    (hf : X.fn x = true ∨ X.env.scope.names.lookup x = some .local := by first | exact .inl rfl | exact .inr rfl | assumption) : SdS X (.Assign [.Name x pos'] e pos) (sAsg we (gNm i)) := by
  obtain ⟨t, p, s⟩ := he
  refine ⟨_, ps_set hN hi hx p hs hf, fun F H C σ τ D D' R S h d => ?_⟩
  refine s F H C σ τ _ _ D'.xc R S h fun x v H1 C1 R1 t1 rx h1 => ?_
  exact sg_name F H1 C1 σ τ x v _ _ D'.xc R1 (S.tx t1) rx h1 fun σ' τ' H' C' R' t' => d.nx σ' τ' H' C' R' (t1.trans t')
end
/-! ### what is walked -/
/-- the iterator gives these items, as long as ok holds -/
def ItRel (K : PySem.W.Frag) (F H0 : Hp) (J : It) (xs : List T) (ok : Hw → Prop) : Prop := ∀ (i : Nat) (H : Hp) (C : Hw), Rl K F H C → Tx H0 H → ok C →
  (i < xs.length → J.go i H ∧ ∀ x H', J.yld i H x H' → ∃ v, xs[i]? = some v ∧ Rl K F H' C ∧ Tx H H' ∧ Rep K H' x v) ∧ (i = xs.length → J.stop i H)
def SimI (K : PySem.W.Frag) (wi : TI) (w : WI) : Prop := ∀ (F H : Hp) (C : Hw) (σ : L2.St) (τ : Sw) (R : It → Hp → Prop) (R' : List T → (Hw → Prop) → Hw → Prop) (χ : WX), Rl K F H C → RepS K H σ τ → w τ C R' χ →
  (∀ J H' xs ok C', Rl K F H' C' → Tx H H' → (∀ F', ItRel K F' H' J xs ok) → R' xs ok C' → R J H') → wi σ H R
def SdI (X : Cx) (tg e : Expr) (w : WI) : Prop := ∃ t, PI X tg e t ∧ SimI X.K t w
section
variable {X : Cx} {tg e a b : Expr} {we : WE} {wA : WA} {pos p : Pos}
theorem it_list {K : PySem.W.Frag} {F H0 : Hp} {l : Addr} {xs : List T} : ItRel K F H0 (Itl K l) xs (fun C => C l = some (.lst xs)) := fun i H C R t ok => by
  obtain ⟨ys, hy, r⟩ := R.lst ok
  refine ⟨fun hi => ?_, fun hi => ⟨ys, SqL.of hy, by rw [r.length]; omega⟩⟩
  have ev : xs[i]? = some xs[i] := by simp [hi]
  obtain ⟨y, ey, ry⟩ := r.get ev
  refine ⟨⟨ys, y, SqL.of hy, ey⟩, fun x H' h => ?_⟩
  obtain ⟨rfl, h⟩ := h
  have e2 := h ys (SqL.of hy)
  rw [ey] at e2; cases e2
  exact ⟨_, ev, R, Tx.refl _, ry⟩
theorem it_cl {K : PySem.W.Frag} {F H0 : Hp} {l : Addr} {ys : List V} {xs : List T} (h0 : SqC K H0 l ys) (r0 : Reps K H0 ys xs) : ItRel K F H0 (Itl K l) xs (fun _ => True) := fun i H C R t ok => by
  have hy := (t.sqc h0).sq
  have r := r0.tx t
  refine ⟨fun hi => ?_, fun hi => ⟨ys, hy, by rw [r.length]; omega⟩⟩
  have ev : xs[i]? = some xs[i] := by simp [hi]
  obtain ⟨y, ey, ry⟩ := r.get ev
  refine ⟨⟨ys, y, hy, ey⟩, fun x H' h => ?_⟩
  obtain ⟨rfl, h⟩ := h
  have e2 := h ys hy
  rw [ey] at e2; cases e2
  exact ⟨_, ev, R, Tx.refl _, ry⟩
theorem it_tup {K : PySem.W.Frag} {F H0 : Hp} {l : Addr} {ys : List V} {xs : List T} (h0 : SqT K H0 l ys) (r0 : Reps K H0 ys xs) : ItRel K F H0 (Itt K l) xs (fun _ => True) := fun i H C R t ok => by
  have hy := t.sqt h0
  have r := r0.tx t
  refine ⟨fun hi => ?_, fun hi => ⟨ys, hy, by rw [r.length]; omega⟩⟩
  have ev : xs[i]? = some xs[i] := by simp [hi]
  obtain ⟨y, ey, ry⟩ := r.get ev
  refine ⟨⟨ys, y, hy, ey⟩, fun x H' h => ?_⟩
  obtain ⟨rfl, h⟩ := h
  have e2 := h ys hy
  rw [ey] at e2; cases e2
  exact ⟨_, ev, R, Tx.refl _, ry⟩
theorem it_str {K : PySem.W.Frag} {F H0 : Hp} {z : Str} : ItRel K F H0 (Its z) (z.cps.toList.map fun c => T.str ⟨#[c]⟩) (fun _ => True) := fun i H C R t ok => by
  refine ⟨fun hi => ⟨by show i < z.cps.size; simpa using hi, fun x H' h => ?_⟩, fun hi => by show i = z.cps.size; simpa using hi⟩
  obtain ⟨rfl, c, hc, rfl⟩ := h
  refine ⟨.str ⟨#[c]⟩, ?_, R, Tx.refl _, rep_str⟩
  rw [List.getElem?_map, Array.getElem?_toList, hc]; rfl
theorem it_rng {K : PySem.W.Frag} {F H0 : Hp} {lo : Int} {n : Nat} : ItRel K F H0 (Itr lo n) (rng lo n) (fun _ => True) := fun i H C R t ok => by
  have hl : (rng lo n).length = n := by unfold rng; simp
  refine ⟨fun hi => ⟨by rw [hl] at hi; exact hi, fun x H' h => ?_⟩, fun hi => by show n ≤ i; omega⟩
  obtain ⟨rfl, rfl⟩ := h
  refine ⟨.int (lo + i), ?_, R, Tx.refl _, rep_int⟩
  unfold rng
  rw [hl] at hi
  rw [List.getElem?_map, List.getElem?_range hi]; rfl
theorem str_iter {pins : List (Addr × Obj)} {σ : L2.St} {H1 : Hp} {s1 : Shared} {R : It → Hp → Prop} {z : Str} {v : Value} (I1 : Inv X pins σ H1 s1) (r1 : RelV (.str z) v) (q : R (Its z) H1) : wpAny (model X.prog X.w) X.A (pyIter v) (PIE X pins σ tg R) X.xe s1 := by
  obtain ⟨t, rfl⟩ := r1
  have fin : ∀ b ∈ [s1.heap.objs.size], FpOk X pins H1 b := fun b hb => by
    have e : b = s1.heap.objs.size := by simpa using hb
    subst e
    exact I1.fpOk (Nat.le_refl _) I1.fresh
  cases ha : z.cps.all (· < 128)
  · refine wpAny_pyIter_wide ha ⟨s1.heap.objs.size, [s1.heap.objs.size], _, _, H1, rfl, I1.kept (t' := s1.toks) fun b o e => Heap.get?_push_of_some _ e, turn_walks (ty := "str_iterator") (by decide) (fun A hA => Walks.strWide hA _ z t) fun _ _ _ _ _ st h => wpAny_pyIter_striter_wide st h, ⟨_, Heap.get?_push_size _ rfl, rfl, rfl⟩, fin, q⟩
  · refine wpAny_pyIter_ascii ha ⟨s1.heap.objs.size, [s1.heap.objs.size], _, _, H1, rfl, I1.kept (t' := s1.toks) fun b o e => Heap.get?_push_of_some _ e, turn_walks (ty := "str_ascii_iterator") (by decide) (fun A hA => Walks.strAscii hA _ z t) fun _ _ _ _ _ st h => wpAny_pyIter_striter_ascii st h, ⟨_, Heap.get?_push_size _ rfl, rfl, rfl⟩, fin, q⟩
/-- a list, a tuple or a text, whichever it is -/
def iDyn (K : PySem.W.Frag) (tl : TE) : TI := fun σ H R => tl σ H fun x H1 => (∃ a, x = .ref a ∧ (∃ xs, SqL K H1 a xs) ∧ R (Itl K a) H1) ∨ (∃ a, x = .ref a ∧ (∃ xs, SqT K H1 a xs) ∧ R (Itt K a) H1) ∨ ∃ z, x = .str z ∧ R (Its z) H1
theorem pi_dyn {tl : TE} (hl : PE X e tl) : PI X tg e (iDyn X.K tl) := by
  intro pins s σ H R I h
  refine thn (hl pins s σ H _ I h) fun v s1 ⟨x, H1, I1, r1, q1⟩ => ?_
  rcases q1 with ⟨a, rfl, ⟨xs, hq⟩, q⟩ | ⟨a, rfl, ⟨xs, hq⟩, q⟩ | ⟨z, rfl, q⟩
  · cases r1
    obtain ⟨its, rv, p, hz⟩ := I1.list hq
    refine wpAny_pyIter_list p.isList ?_
    refine ⟨s1.heap.objs.size, [s1.heap.objs.size], _, _, H1, rfl, I1.kept (t' := s1.toks) fun b o e => Heap.get?_push_of_some _ e, turn_list a _, ⟨_, Heap.get?_push_size _ rfl, rfl, rfl⟩, fun b hb => ?_, q⟩
    have e : b = s1.heap.objs.size := by simpa using hb
    subst e
    exact I1.fpOk (Nat.le_refl _) (I1.hok.fresh (Nat.le_refl _))
  · cases r1
    obtain ⟨its, rv, p, hz⟩ := I1.tuple hq
    refine wpAny_pyIter_tuple (show s1.heap.IsTuple a its.toArray from p) ?_
    refine ⟨s1.heap.objs.size, [s1.heap.objs.size], _, _, H1, rfl, I1.kept (t' := s1.toks) fun b o e => Heap.get?_push_of_some _ e, turn_tuple a _, ⟨_, Heap.get?_push_size _ rfl, rfl, rfl⟩, fun b hb => ?_, q⟩
    have e : b = s1.heap.objs.size := by simpa using hb
    subst e
    exact I1.fpOk (Nat.le_refl _) (I1.hok.fresh (Nat.le_refl _))
  · exact str_iter I1 r1 q
theorem di_seq (h : SdE X e we) : SdI X tg e (iSeq we) := by
  obtain ⟨t, p, s⟩ := h
  refine ⟨_, pi_dyn p, fun F H C σ τ R R' χ Rr S h q => ?_⟩
  refine s F H C σ τ _ _ χ Rr S h fun x v H1 C1 R1 t1 rx h1 => ?_
  cases v with
  | tup xs =>
    obtain ⟨a, ys, rfl, hq, r⟩ := of_tup rx
    exact .inr (.inl ⟨a, rfl, ⟨ys, hq⟩, q _ H1 xs _ C1 R1 t1 (fun _ => it_tup hq r) h1⟩)
  | cl xs =>
    obtain ⟨a, ys, rfl, hq, r⟩ := of_cl rx
    exact .inl ⟨a, rfl, ⟨ys, hq.sq⟩, q _ H1 xs _ C1 R1 t1 (fun _ => it_cl hq r) h1⟩
  | str z => cases of_str rx; exact .inr (.inr ⟨z, rfl, q _ H1 _ _ C1 R1 t1 (fun _ => it_str) h1⟩)
  | ref a =>
    cases of_ref rx
    obtain ⟨xs, hx, h1⟩ := h1
    obtain ⟨ys, hy, r⟩ := R1.lst hx
    exact .inl ⟨a, rfl, ⟨ys, SqL.of hy⟩, q _ H1 xs _ C1 R1 t1 (fun _ => it_list) h1⟩
  | _ => exact False.elim h1
theorem di_r1 (hg : Gl X "range") (hm : X.mg "range" = none) (ha : SdA X [a] wA) (hs : starEach [a] X.env = [(false, eval a X.env)] := by rfl) : SdI X tg (.Call (.Name "range" p) [a] [] pos) (iR1 wA) := by
  obtain ⟨t, p1, s⟩ := ha
  refine ⟨_, pi_range1 hg hm p1 hs, fun F H C σ τ R R' χ Rr S h q => ?_⟩
  refine s F H C σ τ _ _ χ Rr S h fun xs vs H1 C1 R1 t1 rs h1 => ?_
  obtain ⟨j, rfl, h2, h3, h1⟩ := h1
  obtain ⟨x, rfl, rx⟩ := of_one rs
  cases of_int rx
  exact ⟨j, rfl, h2, h3, q _ H1 _ _ C1 R1 t1 (fun _ => it_rng) h1⟩
theorem di_r2 (hg : Gl X "range") (hm : X.mg "range" = none) (ha : SdA X [a, b] wA) (hs : starEach [a, b] X.env = [(false, eval a X.env), (false, eval b X.env)] := by rfl) (hs2 : starEach [b] X.env = [(false, eval b X.env)] := by rfl) : SdI X tg (.Call (.Name "range" p) [a, b] [] pos) (iR2 wA) := by
  obtain ⟨t, p1, s⟩ := ha
  refine ⟨_, pi_range2 hg hm p1 hs hs2, fun F H C σ τ R R' χ Rr S h q => ?_⟩
  refine s F H C σ τ _ _ χ Rr S h fun xs vs H1 C1 R1 t1 rs h1 => ?_
  obtain ⟨i, j, rfl, h2, h1⟩ := h1
  obtain ⟨x, y, rfl, rx, ry⟩ := of_two rs
  cases of_int rx; cases of_int ry
  exact ⟨i, j, rfl, h2, q _ H1 _ _ C1 R1 t1 (fun _ => it_rng) h1⟩
end
/-! ### for -/
theorem sim_for {K : PySem.W.Frag} {wi : TI} {g : TG} {tb : TS} {i : WI} {g' : WG} {b : WS} (hi : SimI K wi i) (hg : SimG K g g') (hb : SimS K tb b) : SimS K (tFor wi g tb) (sFor i g' b) := fun F H C σ τ D D' R S h d => by
  refine hi F H C σ τ _ _ D'.xc R S h fun J H1 xs ok C1 R1 t1 it h1 => ?_
  have it1 := it F
  refine ⟨fun i m σ H => m = xs.length - i ∧ i ≤ xs.length ∧ ∃ τ C, Rl K F H C ∧ Tx H1 H ∧ RepS K H σ τ ∧ forW g' b ok D' (xs.drop i) τ C, ⟨xs.length, by simp, Nat.zero_le _, τ, C1, R1, Tx.refl _, S.tx t1, h1⟩, ?_⟩
  rintro i m σ2 H2 ⟨rfl, hle, τ2, C2, R2, t2, S2, h2⟩
  by_cases hlt : i < xs.length
  · right
    have ed : xs.drop i = xs[i] :: xs.drop (i + 1) := List.drop_eq_getElem_cons hlt
    rw [ed] at h2
    obtain ⟨hok, h2⟩ := h2
    obtain ⟨hgo, hy⟩ := (it1 i H2 C2 R2 t2 hok).1 hlt
    refine ⟨hgo, fun σ' H' => ∃ τ' C', Rl K F H' C' ∧ Tx H1 H' ∧ RepS K H' σ' τ' ∧ forW g' b ok D' (xs.drop (i + 1)) τ' C', fun σ' H' q => ⟨xs.length - (i + 1), by omega, rfl, hlt, q⟩, fun x H' hx => ?_⟩
    obtain ⟨v, ev, R3, t3, rv⟩ := hy x H' hx
    have : v = xs[i] := by
      have e : xs[i]? = some xs[i] := by simp [hlt]
      rw [e] at ev; exact (Option.some.inj ev).symm
    subst this
    refine hg F H' C2 σ2 τ2 x _ _ _ D'.xc R3 (S2.tx t3) rv h2 fun σ4 τ4 H4 C4 R4 t4 S4 h4 => ?_
    have tt : Tx H1 H4 := (t2.trans t3).trans t4
    exact hb F H4 C4 σ4 τ4 _ _ R4 S4 h4 ⟨fun σ5 τ5 H5 C5 R5 t5 S5 h5 => ⟨τ5, C5, R5, tt.trans t5, S5, h5⟩, fun x v H5 C5 R5 t5 => d.rt x v H5 C5 R5 ((t1.trans tt).trans t5), fun σ5 τ5 H5 C5 R5 t5 S5 h5 => d.nx σ5 τ5 H5 C5 R5 ((t1.trans tt).trans t5) S5 h5,
      fun σ5 τ5 H5 C5 R5 t5 S5 h5 => ⟨τ5, C5, R5, tt.trans t5, S5, h5⟩⟩
  · left
    have e : i = xs.length := by omega
    subst e
    rw [List.drop_length] at h2
    obtain ⟨hok, h2⟩ := h2
    exact ⟨(it1 _ H2 C2 R2 t2 hok).2 rfl, d.nx σ2 τ2 H2 C2 R2 (t1.trans t2) S2 h2⟩
theorem ds_for {X : Cx} {tg iter : Expr} {body : List Stmt} {i : WI} {g : WG} {b : WS} {pos : Pos} (hp : PassesOwn (model X.prog X.w) X.A X.env X.xe) (hc : X.calm = true) (hi : SdI X tg iter i) (hg : SdG X tg g) (hb : SdB X body b)
    (hs : ∀ x, foldedSetIterable iter X.env x = pure x := by intro _; rfl) : SdS X (.For tg iter body [] pos) (sFor i g b) := by
  obtain ⟨t, p, s⟩ := hi
  obtain ⟨t', p', s'⟩ := hg
  obtain ⟨t2, p2, s2⟩ := hb
  exact ⟨_, ps_for hp hc p p' p2 hs, sim_for s s' s2⟩
end WL
set_option Elab.async false
set_option linter.all false
set_option maxRecDepth 100000
set_option maxHeartbeats 4000000
namespace WL
open PySem PySem.Spec PyProof.Rows L2
/-! ### comprehensions -/
def tOf (K : PySem.W.Frag) (we : WE) : TE := fun σ H Q => ∃ (F : Hp) (C : Hw) (τ : Sw) (Q' : WK) (χ : WX), Rl K F H C ∧ RepS K H σ τ ∧ we τ C Q' χ ∧ QE K F H Q Q'
def ttOf (K : PySem.W.Frag) (wt : WT) : TT := fun σ H Q => ∃ (F : Hp) (C : Hw) (τ : Sw) (Q' : Bool → Hw → Prop) (χ : WX), Rl K F H C ∧ RepS K H σ τ ∧ wt τ C Q' χ ∧ QT K F H Q Q'
theorem SdE.pe {X : Cx} {e : Expr} {we : WE} (h : SdE X e we) : PE X e (tOf X.K we) := by
  obtain ⟨t, p, s⟩ := h
  intro pins st σ H Q I hq
  obtain ⟨F, C, τ, Q', χ, R, S, hw, q⟩ := hq
  exact p pins st σ H Q I (s F H C σ τ Q Q' χ R S hw q)
def SdIf (X : Cx) (ifs : List Expr) (w : WT) : Prop := ∃ t, PIfs X ifs t ∧ SimT X.K t w
theorem dif_nil {X : Cx} : SdIf X [] tYes := ⟨_, pif_nil, fun F H C σ τ Q Q' χ R S h q => q true H C R (Tx.refl H) h⟩
theorem SdIf.pif {X : Cx} {ifs : List Expr} {w : WT} (h : SdIf X ifs w) : PIfs X ifs (ttOf X.K w) := by
  obtain ⟨t, p, s⟩ := h
  intro pins st σ H Q I hq
  obtain ⟨F, C, τ, Q', χ, R, S, hw, q⟩ := hq
  exact p pins st σ H Q I (s F H C σ τ Q Q' χ R S hw q)
theorem RepS.cap {K : PySem.W.Frag} {H : Hp} {σ : L2.St} {τ : Sw} (h : RepS K H σ τ) (cap : List (Option Nat)) : RepS K H (capS cap σ) (capW cap τ) := by
  refine ⟨by unfold capS capW; rw [List.length_map, List.length_map], fun i v e => ?_⟩
  unfold capW at e
  unfold capS
  rw [List.getElem?_map] at e ⊢
  cases ho : cap[i]? with
  | none => rw [ho] at e; cases e
  | some o =>
    rw [ho] at e
    cases o with
    | none => simp at e
    | some j =>
      have e' : (τ[j]?).join = some v := by simpa using e
      have e2 : τ[j]? = some (some v) := by
        cases hj : τ[j]? with
        | none => rw [hj] at e'; cases e'
        | some z => rw [hj] at e'; rw [show z = some v from e']
      obtain ⟨x, hx, r⟩ := h.2 j v e2
      exact ⟨x, by simp [hx], r⟩
/-- the frame with the list that grows -/
def frP (F : Hp) (p : Addr) (ys : List V) : Hp := fun b => if b = p then some (.lst ys) else F b
theorem frP_same {F : Hp} {p : Addr} {ys : List V} : frP F p ys p = some (.lst ys) := by unfold frP; rw [if_pos rfl]
theorem frP_ne {F : Hp} {p b : Addr} {ys : List V} (h : b ≠ p) : frP F p ys b = F b := by unfold frP; rw [if_neg h]
theorem sim_comp {K : PySem.W.Frag} {cap : List (Option Nat)} {wi : TI} {g : TG} {i : WI} {wg : WG} {wc : WT} {we : WE} (hi : SimI K wi i) (hg : SimG K g wg) {F H : Hp} {C : Hw} {σ : L2.St} {τ : Sw} {Q : Addr → Hp → Prop} {Q' : WK} {χ : WX}
    (R : Rl K F H C) (S : RepS K H σ τ) (h : eComp cap i wg wc we τ C Q' χ) (q : ∀ p H' C', Rl K F H' C' → Tx H H' → Q' (.ref p) C' → Q p H') : tCompL cap wi g (ttOf K wc) (tOf K we) σ H Q := by
  refine hi F H C σ τ _ _ χ R S h fun J H1 xs ok C1 R1 t1 it h1 => ?_
  intro p hp
  have hn : ∀ a o, F a = some o → a ≠ p := fun a o e => ne_of_none (R1.frm a o e).1 hp
  refine ⟨fun i m H2 => m = xs.length - i ∧ i ≤ xs.length ∧ ∃ C2 ys acc, Rl K (frP F p ys) H2 C2 ∧ Tx H1 H2 ∧ Reps K H2 ys acc ∧ compW wg wc we ok (capW cap τ) (fun vs C2 => ∀ p, C2 p = none → Q' (.ref p) (up C2 p (.lst vs))) χ (xs.drop i) acc C2,
    ⟨xs.length, by simp, Nat.zero_le _, C1, [], [], ?_, Tx.new hp, reps_nil, h1⟩, ?_⟩
  · refine ⟨(R1.hid hp).obj, fun a o e => ?_⟩
    by_cases ea : a = p
    · subst ea
      rw [frP_same] at e; cases e
      exact ⟨upd_same, R1.free hp⟩
    · rw [frP_ne ea] at e
      exact (R1.hid hp).frm a o e
  rintro i m H2 ⟨rfl, hle, C2, ys, acc, R2, t2, ra, h2⟩
  by_cases hlt : i < xs.length
  · right
    have ed : xs.drop i = xs[i] :: xs.drop (i + 1) := List.drop_eq_getElem_cons hlt
    rw [ed] at h2
    obtain ⟨hok, h2⟩ := h2
    obtain ⟨hgo, hy⟩ := (it (frP F p ys) i H2 C2 R2 t2 hok).1 hlt
    refine ⟨hgo, fun H' => ∃ C2 ys acc, Rl K (frP F p ys) H' C2 ∧ Tx H1 H' ∧ Reps K H' ys acc ∧ compW wg wc we ok (capW cap τ) (fun vs C2 => ∀ p, C2 p = none → Q' (.ref p) (up C2 p (.lst vs))) χ (xs.drop (i + 1)) acc C2,
      fun H' z => ⟨xs.length - (i + 1), by omega, rfl, hlt, z⟩, fun x H' hx => ?_⟩
    obtain ⟨v, ev, R3, t3, rv⟩ := hy x H' hx
    have : v = xs[i] := by
      have e : xs[i]? = some xs[i] := by simp [hlt]
      rw [e] at ev; exact (Option.some.inj ev).symm
    subst this
    have S3 : RepS K H' (capS cap σ) (capW cap τ) := (S.tx ((t1.trans t2).trans t3)).cap cap
    refine hg (frP F p ys) H' C2 (capS cap σ) (capW cap τ) x _ _ _ χ R3 S3 rv h2 fun σ4 τ4 H4 C4 R4 t4 S4 h4 => ?_
    refine ⟨frP F p ys, C4, τ4, _, χ, R4, S4, h4, fun b H5 C5 R5 t5 h5 => ?_⟩
    have t15 : Tx H2 H5 := (t3.trans t4).trans t5
    cases b with
    | true =>
      refine ⟨frP F p ys, C5, τ4, _, χ, R5, S4.tx t5, h5, fun y vy H6 C6 R6 t6 ry h6 => ?_⟩
      obtain ⟨e6, n6⟩ := R6.frm p _ frP_same
      have tp : Tx H6 (upd H6 p (.lst (ys ++ [y]))) := Tx.put e6 (fun z => z)
      refine ⟨ys, e6, by rw [ra.length]; exact h6.1, C6, ys ++ [y], acc ++ [vy], ⟨fun a o e => ?_, fun a o e => ?_⟩, (t2.trans (t15.trans t6)).trans tp, ((ra.tx (t15.trans t6)).snoc ry).tx tp, h6.2⟩
      · have ea : a ≠ p := fun z => by subst z; rw [n6] at e; cases e
        exact (R6.obj a o e).stay tp (upd_ne ea)
      · by_cases ea : a = p
        · subst ea
          rw [frP_same] at e; cases e
          exact ⟨upd_same, n6⟩
        · rw [frP_ne ea] at e
          rw [upd_ne ea]
          exact R6.frm a o (by rw [frP_ne ea]; exact e)
    | false => exact ⟨C5, ys, acc, R5, t2.trans t15, ra.tx t15, h5⟩
  · left
    have e : i = xs.length := by omega
    subst e
    rw [List.drop_length] at h2
    obtain ⟨hok, h2⟩ := h2
    refine ⟨(it (frP F p ys) _ H2 C2 R2 t2 hok).2 rfl, ?_⟩
    obtain ⟨e6, n6⟩ := R2.frm p _ frP_same
    refine q p H2 (up C2 p (.lst acc)) ⟨fun a o e => ?_, fun a o e => ?_⟩ (t1.trans t2) (h2 p n6)
    · by_cases ea : a = p
      · subst ea
        rw [up_same] at e; cases e
        exact ⟨ys, e6, ra⟩
      · rw [up_ne ea] at e
        exact R2.obj a o e
    · have ea := hn a o e
      rw [up_ne ea]
      exact R2.frm a o (by rw [frP_ne ea]; exact e)
section
variable {X : Cx} {tg iter elt : Expr} {ifs : List Expr} {scope : Scope} {pos : Pos} {cN : List Str} {cap : List (Option Nat)} {cl : List (Str × Addr)} {js : List Nat} {i : WI} {g : TG} {wg : WG} {wc : WT} {we : WE}
theorem ttOf_mono {K : PySem.W.Frag} {w : WT} : ∀ (σ : L2.St) (H : Hp) (Q Q' : Bool → Hp → Prop), (∀ b H', Q b H' → Q' b H') → ttOf K w σ H Q → ttOf K w σ H Q' := fun σ H Q Q' m h => by
  obtain ⟨F, C, τ, R', χ, R, S, hw, q⟩ := h
  exact ⟨F, C, τ, R', χ, R, S, hw, fun b H' C' r t h => m _ _ (q b H' C' r t h)⟩
/-- what is asked of a comprehension -/
structure CompD (X : Cx) (tg iter elt : Expr) (ifs : List Expr) (scope : Scope) (cN : List Str) (cap : List (Option Nat)) (cl : List (Str × Addr)) (js : List Nat) (i : WI) (g : TG) (wg : WG) (wc : WT) (we : WE) : Prop where
  calm : X.calm = true
  ok : X.Ok → CompOk X cN cap scope cl
  it : SdI X tg iter i
  tgt : ∀ fp s H, PG (cxComp X cN scope cl fp s H) tg g
  gm : TGmono g
  gk : GKeep js g
  sg : SimG X.K g wg
  js0 : ∀ j ∈ js, (cap[j]?).join = none
  ts : ∀ fp s H, SdIf (cxComp X cN scope cl fp s H) ifs wc
  el : ∀ fp s H, SdE (cxComp X cN scope cl fp s H) elt we
  fold : ∀ x, foldedSetIterable iter X.env x = pure x
theorem d_comp (D : CompD X tg iter elt ifs scope cN cap cl js i g wg wc we) : SdE X (.ListComp elt [⟨tg, iter, ifs, 0⟩] scope pos) (eComp cap i wg wc we) := by
  obtain ⟨wi, p, s⟩ := D.it
  have P : CompP X tg iter elt ifs scope cN cap cl js wi g (ttOf X.K wc) (tOf X.K we) := ⟨D.calm, D.ok, p, D.tgt, D.gm, D.gk, D.js0, fun fp s H => (D.ts fp s H).pif, ttOf_mono, fun fp s H => (D.el fp s H).pe, D.fold⟩
  exact ⟨_, pe_comp P, fun F H C σ τ Q Q' χ R S h q => sim_comp s D.sg R S h fun p H' C' R' t' h' => q _ _ H' C' R' t' rep_ref h'⟩
theorem ds_setComp {k : Nat} {y : Str} {py spos : Pos} (hN : X.N.Nodup) (hi : X.N[k]? = some y) (hy : X.env.scope.names.lookup y = some .local)
    (hsw : swapsWith (.ListComp elt [⟨tg, iter, ifs, 0⟩] scope pos) (some (.Name y py)) spos.line X.env = pure true)
    (D : CompD X tg iter elt ifs scope cN cap cl js i g wg wc we) : SdS X (.Assign [.Name y py] (.ListComp elt [⟨tg, iter, ifs, 0⟩] scope pos) spos) (sAsg (eComp cap i wg wc we) (gNm k)) := by
  obtain ⟨wi, p, s⟩ := D.it
  have P : CompP X tg iter elt ifs scope cN cap cl js wi g (ttOf X.K wc) (tOf X.K we) := ⟨D.calm, D.ok, p, D.tgt, D.gm, D.gk, D.js0, fun fp s H => (D.ts fp s H).pif, ttOf_mono, fun fp s H => (D.el fp s H).pe, D.fold⟩
  exact ⟨_, ps_setComp hN hi hy hsw P, fun F H C σ τ E E' R S h d => sim_comp s D.sg R S h fun p H' C' R' t' h' => d.nx _ _ H' C' R' t' ((S.tx t').set rep_ref) h'⟩
end
theorem hu150 {A : Around} {k : Nat} (hr : Room k A) : A.units + 150 < cLine := by have := hr.un; omega
/-! ### calls of own defs -/
def spW (K : PySem.W.Frag) (pr : List Df) (n i : Nat) : Sp := fun vs H Q _ => ∃ (F : Hp) (C : Hw) (vs' : List T) (Q' : WK) (χ : WX), Rl K F H C ∧ Reps K H vs vs' ∧ wpc pr n i vs' C Q' χ ∧ QE K F H Q Q'
theorem d_call {X : Cx} {k i : Nat} {x : Str} {ps : List Str} {pr : List Df} {p pos : Pos} {e : Expr} {es : List Expr} {wA : WA} (Cc : Ca X.prog X.w X.K X.mg X.base k x ps (spW X.K pr k i)) (hr : Room k X.A) (hg : Gl X x) (ha : SdA X (e :: es) wA)
    (hdb : (x == ("__debug__" : Str)) = false := by decide) (he : starEach (e :: es) X.env = (false, eval e X.env) :: starEach es X.env := by rfl) (hpl : (backTo pos (starEach es X.env)).any (·.1) = false := by rfl) :
    SdE X (.Call (.Name x p) (e :: es) [] pos) (eCall (wpc pr k) i wA) := by
  obtain ⟨t, p1, s⟩ := ha
  refine ⟨_, pe_ca Cc hr hg p1 hdb he hpl, fun F H C σ τ Q Q' χ R S h q => ?_⟩
  refine s F H C σ τ _ _ χ R S h fun xs vs H1 C1 R1 t1 rs h1 => ?_
  refine ⟨F, C1, vs, Q', χ, R1, ?_, h1, QE.at q t1⟩
  rw [List.append_nil]; exact rs
theorem RepS.start {K : PySem.W.Frag} {H : Hp} {vs : List V} {vs' : List T} (h : Reps K H vs vs') (N : List Str) (m : Nat) (e : m = N.length - vs.length) : RepS K H (start N vs) (vs'.map some ++ List.replicate m none) := by
  refine ⟨?_, fun i v hv => ?_⟩
  · unfold L2.start
    rw [List.length_append, List.length_append, List.length_map, List.length_map, List.length_replicate, List.length_replicate, h.length, e, h.length]
  · unfold L2.start
    by_cases hi : i < vs'.length
    · rw [List.getElem?_append_left (by rw [List.length_map]; exact hi), List.getElem?_map] at hv
      cases hg : vs'[i]? with
      | none => rw [hg] at hv; cases hv
      | some z =>
        rw [hg] at hv
        cases hv
        obtain ⟨x, hx, r⟩ := h.get hg
        refine ⟨x, ?_, r⟩
        rw [List.getElem?_append_left (by rw [List.length_map, h.length]; exact hi), List.getElem?_map, hx]
        rfl
    · rw [List.getElem?_append_right (by rw [List.length_map]; omega), List.getElem?_replicate] at hv
      split at hv
      · cases hv
      · cases hv
theorem ca_zero {P : Program} {w : World} {K : PySem.W.Frag} {mg : Str → Option Value} {base : Heap} {x : Str} {st : Stmt} {f : Addr} {fd : FuncData} {ps : List Str} {pr : List Df} {i : Nat} (F : Fun K x x st f fd) (hb : Binds K fd ps []) (hm : mg x = some (.ref f)) : Ca P w K mg base 0 x ps (spW K pr 0 i) :=
  ⟨f, fd, ⟨fun vs H Q E h => by obtain ⟨_, _, _, _, _, _, _, z, _⟩ := h; exact z.elim, fun A outer s H args us vs Q E _ _ _ _ h => by obtain ⟨_, _, _, _, _, _, _, z, _⟩ := h; exact z.elim⟩, hb, F.kp, hm⟩
theorem ca_succ {P : Program} {w : World} {K : PySem.W.Frag} {mg : Str → Option Value} {base : Heap} {x : Str} {st : Stmt} {f : Addr} {fd : FuncData} {ps : List Str} {sp : Sp} {n : Nat} (F : Fun K x x st f fd) (hb : Binds K fd ps []) (hm : mg x = some (.ref f)) (G : FnOk P w K mg base CX0 n f fd ps sp) : Ca P w K mg base n x ps sp :=
  ⟨f, fd, G, hb, F.kp, hm⟩
end WL
set_option Elab.async false
set_option linter.all false
set_option maxRecDepth 100000
set_option maxHeartbeats 4000000
namespace L2
open PySem PySem.Spec PyProof.Rows
/-! ### lists of pairs as tables -/
section
variable {κ : Type} [DecidableEq κ]
def valV (kvs : List (κ × V)) (k : κ) : Option V := (kvs.find? fun kv => decide (kv.1 = k)).map (·.2)
/-- in its place, or at the end -/
def putK (kvs : List (κ × V)) (k : κ) (v : V) : List (κ × V) :=
  if (kvs.any fun kv => decide (kv.1 = k)) = true then kvs.map (fun kv => if kv.1 = k then (kv.1, v) else kv) else kvs ++ [(k, v)]
def dropK (kvs : List (κ × V)) (k : κ) : List (κ × V) := kvs.filter fun kv => decide (kv.1 ≠ k)
theorem valV_pos {p : κ × V} {r : List (κ × V)} {k : κ} (e : p.1 = k) : valV (p :: r) k = some p.2 := by simp [valV, List.find?_cons, e]
theorem valV_neg {p : κ × V} {r : List (κ × V)} {k : κ} (e : ¬ p.1 = k) : valV (p :: r) k = valV r k := by simp [valV, List.find?_cons, e]
theorem valV_any (k : κ) : ∀ kvs : List (κ × V), (kvs.any fun kv => decide (kv.1 = k)) = (valV kvs k).isSome
  | [] => rfl
  | p :: r => by
    rw [List.any_cons]
    by_cases e : p.1 = k
    · simp only [valV_pos e, decide_eq_true e, Bool.true_or, Option.isSome_some]
    · rw [valV_neg e, decide_eq_false e, Bool.false_or]; exact valV_any k r
theorem length_putK (kvs : List (κ × V)) (k : κ) (v : V) : (putK kvs k v).length ≤ kvs.length + 1 := by
  unfold putK
  split
  · rw [List.length_map]; omega
  · rw [List.length_append, List.length_cons, List.length_nil]; omega
theorem RelO.isSome_eq {o : Option V} {u : Option Value} (r : RelO o u) : o.isSome = u.isSome := by
  cases o with
  | none => cases u with
    | none => rfl
    | some _ => exact (show False from r).elim
  | some _ => cases u with
    | none => exact (show False from r).elim
    | some _ => rfl
/-- raw tables of the same keys -/
theorem KV.val {kvs : List (κ × V)} {vs : List (κ × Value)} (r : KV kvs vs) (k : κ) : RelO (valV kvs k) (valueAt vs k) := by
  unfold KV at r
  induction r with
  | nil => exact True.intro
  | @cons p q ps qs h t ih =>
    obtain ⟨h1, h2⟩ := h
    by_cases e : p.1 = k
    · have e' : q.1 = k := h1.symm.trans e
      have b : valueAt (q :: qs) k = some q.2 := by simp [valueAt, List.find?_cons, e']
      rw [valV_pos e, b]; exact h2
    · have e' : ¬ q.1 = k := fun z => e (h1.trans z)
      have b : valueAt (q :: qs) k = valueAt qs k := by simp [valueAt, List.find?_cons, e']
      rw [valV_neg e, b]; exact ih
theorem KV.any {kvs : List (κ × V)} {vs : List (κ × Value)} (r : KV kvs vs) (k : κ) : (kvs.any fun kv => decide (kv.1 = k)) = vs.any fun kv => decide (kv.1 = k) := by
  unfold KV at r
  induction r with
  | nil => rfl
  | cons h t ih => rw [List.any_cons, List.any_cons, ih, h.1]
theorem KV.repl {kvs : List (κ × V)} {vs : List (κ × Value)} (r : KV kvs vs) (k : κ) {y : V} {u : Value} (ry : RelV y u) :
    KV (kvs.map fun kv => if kv.1 = k then (kv.1, y) else kv) (vs.map fun kv => if kv.1 = k then (kv.1, u) else kv) := by
  unfold KV at r ⊢
  induction r with
  | nil => exact .nil
  | @cons p q ps qs h t ih =>
    rw [List.map_cons, List.map_cons]
    refine .cons ?_ ih
    obtain ⟨h1, h2⟩ := h
    by_cases e : p.1 = k
    · rw [if_pos e, if_pos (h1.symm.trans e)]; exact ⟨h1, ry⟩
    · rw [if_neg e, if_neg (fun z => e (h1.trans z))]; exact ⟨h1, h2⟩
theorem KV.put {kvs : List (κ × V)} {vs : List (κ × Value)} (r : KV kvs vs) (k : κ) {y : V} {u : Value} (ry : RelV y u) : KV (putK kvs k y) (stored vs k u) := by
  unfold putK stored
  rw [r.any k]
  by_cases e : (vs.any fun kv => decide (kv.1 = k)) = true
  · rw [if_pos e, if_pos e]; exact r.repl k ry
  · rw [if_neg e, if_neg e]; exact Paired.snoc r ⟨rfl, ry⟩
theorem KV.length {kvs : List (κ × V)} {vs : List (κ × Value)} (r : KV kvs vs) : kvs.length = vs.length := Paired.length r
end
/-! ### a tracked dict, its keys ints and texts or tuples of these -/
theorem kV_is {P : Program} {w : World} {k : Key} {u : Value} (r : RelV (kV k) u) : (mixKind P w).is k u = true := by
  cases k with
  | inl i => obtain ⟨t, e⟩ := (show ∃ t, u = Value.int i t from r); subst e; exact mixKind_int P w i t
  | inr x => obtain ⟨t, e⟩ := (show ∃ t, u = Value.str x t from r); subst e; exact mixKind_str P w x t
theorem items_are {P : Program} {w : World} : ∀ {ks : List Key} {us : List Value}, Vals (ks.map kV) us → ItemsAre (mixKind P w) ks us
  | [], _, r => by rw [List.map_nil] at r; cases r; exact .nil
  | k :: ks, _, r => by
    rw [List.map_cons] at r
    cases r with
    | cons h t => exact .cons (kV_is h) (items_are t)
/-- raw entries of a dict with tuple keys -/
abbrev KT (H : Hp) : List (List Key × V) → List (List Key × Addr × Value) → Prop := Paired fun p q => p.1 = q.1 ∧ H q.2.1 = some (.tup (p.1.map kV)) ∧ RelV p.2 q.2.2
theorem KT.val {H : Hp} {kvs : List (List Key × V)} {xs : List (List Key × Addr × Value)} (r : KT H kvs xs) (k : List Key) : RelO (valV kvs k) ((atKey xs k).map (·.2)) := by
  induction r with
  | nil => exact True.intro
  | @cons p q ps qs h t ih =>
    obtain ⟨h1, _, h2⟩ := h
    by_cases e : p.1 = k
    · have e' : q.1 = k := h1.symm.trans e
      have b : atKey (q :: qs) k = some q.2 := by simp [atKey, List.find?_cons, e']
      rw [valV_pos e, b]; exact h2
    · have e' : ¬ q.1 = k := fun z => e (h1.trans z)
      have b : atKey (q :: qs) k = atKey qs k := by simp [atKey, List.find?_cons, e']
      rw [valV_neg e, b]; exact ih
theorem KT.repl {H : Hp} {kvs : List (List Key × V)} {xs : List (List Key × Addr × Value)} (r : KT H kvs xs) (k : List Key) {y : V} {u : Value} (ry : RelV y u) :
    KT H (kvs.map fun kv => if kv.1 = k then (kv.1, y) else kv) (xs.map (putAt k u)) := by
  induction r with
  | nil => exact .nil
  | @cons p q ps qs h t ih =>
    rw [List.map_cons, List.map_cons]
    refine .cons ?_ ih
    obtain ⟨h1, h2, h3⟩ := h
    unfold putAt
    by_cases e : p.1 = k
    · rw [if_pos e, if_pos (h1.symm.trans e)]; exact ⟨h1, h2, ry⟩
    · rw [if_neg e, if_neg (fun z => e (h1.trans z))]; exact ⟨h1, h2, h3⟩
theorem KT.put {H : Hp} {kvs : List (List Key × V)} {xs : List (List Key × Addr × Value)} (r : KT H kvs xs) (k : List Key) {b : Addr} {y : V} {u : Value} (hb : H b = some (.tup (k.map kV))) (ry : RelV y u) :
    KT H (putK kvs k y) (storedH xs k b u) := by
  have e : (kvs.any fun kv => decide (kv.1 = k)) = (atKey xs k).isSome := by
    rw [valV_any, (r.val k).isSome_eq, Option.isSome_map]
  unfold putK storedH
  rw [e]
  by_cases q : (atKey xs k).isSome = true
  · rw [if_pos q, if_pos q]; exact r.repl k ry
  · rw [if_neg q, if_neg q]; exact Paired.snoc r ⟨rfl, hb, ry⟩
theorem KT.keeps {H H' : Hp} {kvs : List (List Key × V)} {xs : List (List Key × Addr × Value)} (r : KT H kvs xs) (ht : ∀ b ys, H b = some (.tup ys) → H' b = some (.tup ys)) : KT H' kvs xs :=
  Paired.mapP r fun _ _ z => ⟨z.1, ht _ _ z.2.1, z.2.2⟩
section
variable {P : Program} {w : World} {H : Hp} {h : Heap} {a : Addr}
theorem rd_of {u : HO} (ok : HOk P w H h) (e : Rd H a u) : ObjOk P w H h a u := e.ok ok
theorem dk_rd {kvs : List (Key × V)} (ok : HOk P w H h) (e : Rd H a (.dK kvs)) : kvs.length ≤ sizeLine ∧ (a == sysModules) = false ∧ ∃ vs, KV kvs vs ∧ h.DictOf (mixKind P w) a vs :=
  show ObjOk P w H h a (.dK kvs) from rd_of ok e
theorem dk_of {kvs : List (Key × V)} (ok : HOk P w H h) (e : H a = some (.dK kvs)) : kvs.length ≤ sizeLine ∧ (a == sysModules) = false ∧ ∃ vs, KV kvs vs ∧ h.DictOf (mixKind P w) a vs := dk_rd ok (.inl e)
/-- a tracked tuple of ints and texts is a key -/
theorem key_of {ks : List Key} (ok : HOk P w H h) (e : H a = some (.tup (ks.map kV))) : (tupleKind (mixKind P w)).is h ks a := by
  obtain ⟨_, its, r, o, h1, h2, n, h3⟩ := (show ObjOk P w H h a (.tup (ks.map kV)) from ok a _ e)
  exact ⟨o, its.toArray, n, h1, h2, h3, by simpa using items_are r⟩
theorem dt_rd {kvs : List (List Key × V)} (ok : HOk P w H h) (e : Rd H a (.dT kvs)) : kvs.length ≤ sizeLine ∧ (a == sysModules) = false ∧
    ∃ xs, KT H kvs xs ∧ h.DictOfH (tupleKind (mixKind P w)) a xs := by
  obtain ⟨z, y, xs, r, o, es, ep, h1, h2, h3, h4, h5⟩ := (show ObjOk P w H h a (.dT kvs) from rd_of ok e)
  refine ⟨z, y, xs, r, o, es, ep, h1, h2, h3, h4, fun x hx => ?_, h5⟩
  have all : ∀ {l : List (List Key × V)} {m : List (List Key × Addr × Value)}, KT H l m → ∀ x ∈ m, (tupleKind (mixKind P w)).is h x.1 x.2.1 := by
    intro l m q
    induction q with
    | nil => intro x hx; exact nomatch hx
    | @cons p q ps qs hq t ih =>
      intro x hx
      rcases List.mem_cons.mp hx with e | hx
      · subst e
        exact key_of ok (by rw [← hq.1]; exact hq.2.1)
      · exact ih x hx
  exact all r x hx
theorem dt_of {kvs : List (List Key × V)} (ok : HOk P w H h) (e : H a = some (.dT kvs)) : kvs.length ≤ sizeLine ∧ (a == sysModules) = false ∧
    ∃ xs, KT H kvs xs ∧ h.DictOfH (tupleKind (mixKind P w)) a xs := dt_rd ok (.inl e)
end
/-- what the dict at a holds at the key y -/
def DGet (H : Hp) (a : Addr) (y : V) (r : Option V) : Prop :=
  (∃ kvs k, Rd H a (.dK kvs) ∧ y = kV k ∧ r = valV kvs k) ∨ ∃ kvs k b, Rd H a (.dT kvs) ∧ y = .ref b ∧ H b = some (.tup (k.map kV)) ∧ r = valV kvs k
/-- the heap behind a[y] = v -/
def DPut (H : Hp) (a : Addr) (y v : V) (H' : Hp) : Prop :=
  (∃ kvs k, H a = some (.dK kvs) ∧ y = kV k ∧ kvs.length < sizeLine ∧ H' = upd H a (.dK (putK kvs k v))) ∨
  ∃ kvs k b, H a = some (.dT kvs) ∧ y = .ref b ∧ H b = some (.tup (k.map kV)) ∧ kvs.length < sizeLine ∧ H' = upd H a (.dT (putK kvs k v))
theorem DPut.k {H : Hp} {a : Addr} {kvs : List (Key × V)} {k : Key} {v : V} (e : H a = some (.dK kvs)) (hl : kvs.length < sizeLine) : DPut H a (kV k) v (upd H a (.dK (putK kvs k v))) := .inl ⟨kvs, k, e, rfl, hl, rfl⟩
section
variable {X : Cx} {pins : List (Addr × Obj)} {σ : St} {H : Hp} {s : Shared} {a : Addr} {y v : V} {u r : Value} {o : Option V} {A : Around} {E : Value → Shared → Prop}
theorem Inv.big (I : Inv X pins σ H s) : sysModules < s.heap.objs.size := by
  have h : mainGlobals < s.heap.objs.size := (I.mod.glob.keeps I.bk).lt
  exact Nat.lt_trans (by decide) h
/-- d[y], there -/
theorem d_getItem {Q : Value → Shared → Prop} (hu : A.units + 1 < cLine) (I : Inv X pins σ H s) (g : DGet H a y (some v)) (ry : RelV y u) (h : ∀ w' s', Inv X pins σ H s' → RelV v w' → Q w' s') :
    wpAny (model X.prog X.w) A (getItem (.ref a) u) Q E s := by
  rcases g with ⟨kvs, k, e, ey, l⟩ | ⟨kvs, k, b, e, ey, eb, l⟩
  · subst ey
    obtain ⟨z, hd, vs, rel, dd⟩ := dk_rd I.hok e
    obtain ⟨w', hw, rw'⟩ := RelO.some_of (v := v) (o := valueAt vs k) (by rw [l]; exact rel.val k)
    exact wpAny_getItem_of (kV_is ry) dd.mapOf hw (h w' _ (I.tok _) rw')
  · subst ey
    cases (show u = Value.ref b from ry)
    obtain ⟨z, hd, xs, rel, dd⟩ := dt_rd I.hok e
    obtain ⟨w', hw, rw'⟩ := RelO.some_of (v := v) (o := (atKey xs k).map (·.2)) (by rw [l]; exact rel.val k)
    obtain ⟨p, hp, hp2⟩ := Option.map_eq_some_iff.mp hw
    refine wpAny_getItem_heap (tupleKind_room_in1 hu) (key_of I.hok eb) dd hp ?_
    rw [hp2]
    exact h w' _ (I.tok _) rw'
/-- y in d -/
theorem d_in {Q : Value → Shared → Prop} (hu : A.units + 1 < cLine) (I : Inv X pins σ H s) (g : DGet H a y o) (ry : RelV y u) (h : ∀ s', Inv X pins σ H s' → Q (.bool o.isSome) s') :
    wpAny (model X.prog X.w) A (compareOp .In u (.ref a)) Q E s := by
  rcases g with ⟨kvs, k, e, ey, l⟩ | ⟨kvs, k, b, e, ey, eb, l⟩
  · subst ey
    obtain ⟨z, hd, vs, rel, dd⟩ := dk_rd I.hok e
    refine wpAny_in_of (kV_is ry) hd dd.mapOf ?_
    rw [← (rel.val k).isSome_eq, ← l]
    exact h _ (I.tok _)
  · subst ey
    cases (show u = Value.ref b from ry)
    obtain ⟨z, hd, xs, rel, dd⟩ := dt_rd I.hok e
    refine wpAny_in_heap (tupleKind_room_in1 hu) (key_of I.hok eb) hd dd ?_
    have q := (rel.val k).isSome_eq
    rw [Option.isSome_map] at q
    rw [← q, ← l]
    exact h _ (I.tok _)
theorem d_notIn {Q : Value → Shared → Prop} (hu : A.units + 1 < cLine) (I : Inv X pins σ H s) (g : DGet H a y o) (ry : RelV y u) (h : ∀ s', Inv X pins σ H s' → Q (.bool (!o.isSome)) s') :
    wpAny (model X.prog X.w) A (compareOp .NotIn u (.ref a)) Q E s := by
  rcases g with ⟨kvs, k, e, ey, l⟩ | ⟨kvs, k, b, e, ey, eb, l⟩
  · subst ey
    obtain ⟨z, hd, vs, rel, dd⟩ := dk_rd I.hok e
    refine wpAny_notIn_of (kV_is ry) hd dd.mapOf ?_
    rw [← (rel.val k).isSome_eq, ← l]
    exact h _ (I.tok _)
  · subst ey
    cases (show u = Value.ref b from ry)
    obtain ⟨z, hd, xs, rel, dd⟩ := dt_rd I.hok e
    refine wpAny_notIn_heap (tupleKind_room_in1 hu) (key_of I.hok eb) hd dd ?_
    have q := (rel.val k).isSome_eq
    rw [Option.isSome_map] at q
    rw [← q, ← l]
    exact h _ (I.tok _)
/-- a dict's object is replaced -/
theorem d_write {h' : Heap} {t' : Nat} {ob : HO} (I : Inv X pins σ H s) (mu : Mut (H a)) (hs : Heap.SameBut a s.heap h') (he : ∃ q, h'.get? a = some q) (new : ObjOk X.prog X.w (upd H a ob) h' a ob) :
    Inv X pins σ (upd H a ob) { s with heap := h', toks := t' } :=
  I.write (x := a) (e := a) mu (.inl rfl) (fun b q hb z => (hs.2 b hb).trans z) he new
theorem dk_new {P : Program} {w : World} {H' : Hp} {h' : Heap} {kvs : List (Key × V)} {vs : List (Key × Value)} (z : kvs.length ≤ sizeLine) (hd : (a == sysModules) = false) (rel : KV kvs vs) (dd : h'.DictOf (mixKind P w) a vs) :
    ObjOk P w H' h' a (.dK kvs) := ⟨z, hd, vs, rel, dd⟩
/-- d[y] = v -/
theorem d_setItem {H' : Hp} {Q : Unit → Shared → Prop} (hu : A.units + 1 < cLine) (I : Inv X pins σ H s) (g : DPut H a y v H') (ry : RelV y u) (rv : RelV v r) (h : ∀ s', Inv X pins σ H' s' → Q () s') :
    wpAny (model X.prog X.w) A (setItem (.ref a) u r) Q E s := by
  rcases g with ⟨kvs, k, e, ey, l, eH⟩ | ⟨kvs, k, b, e, ey, eb, l, eH⟩
  · subst ey eH
    obtain ⟨z, hd, vs, rel, dd⟩ := dk_of I.hok e
    have hz : vs.length ≤ sizeLine := by rw [← rel.length]; exact z
    have hl : (putK kvs k v).length ≤ sizeLine := by have := length_putK kvs k v; omega
    refine wpAny_setItem_pairs (hsz := hz) (kV_is ry) dd fun h' dd' hs => h _ ?_
    have he : ∃ q, h'.get? a = some q := let ⟨q, _, _, hq, _⟩ := dd'; ⟨q, hq⟩
    exact d_write I (by rw [e]; exact True.intro) hs he (dk_new hl hd (rel.put k rv) dd')
  · subst ey eH
    cases (show u = Value.ref b from ry)
    obtain ⟨z, hd, xs, rel, dd⟩ := dt_of I.hok e
    have hz : xs.length ≤ sizeLine := by rw [← Paired.length rel]; exact z
    have hl : (putK kvs k v).length ≤ sizeLine := by have := length_putK kvs k v; omega
    refine wpAny_setItem_heap (hsz := hz) (tupleKind_room_in1 hu) (key_of I.hok eb) dd fun h' dd' hs => h _ ?_
    obtain ⟨q, es, ep, hq, h2, h3, h4, _, h5⟩ := dd'
    refine d_write I (by rw [e]; exact True.intro) hs ⟨q, hq⟩ ⟨hl, hd, _, (rel.put k eb rv).keeps fun c ys ec => ?_, q, es, ep, hq, h2, h3, h4, h5⟩
    rw [upd_ne (ne_of ec e (fun z => nomatch z))]
    exact ec
end
section
variable {X : Cx} {pins : List (Addr × Obj)} {σ : St} {H : Hp} {s : Shared} {a : Addr} {kvs : List (Key × V)} {k : Key} {u : Value} {A : Around} {E : Value → Shared → Prop}
end
/-! ### readings and rules -/
/-- the element of a subscription, not a slice -/
def NoSl (i : Expr) : Prop := ∀ ov iv, subscripted i false ov iv = operate [ov, iv] (getItem ov iv)
theorem subD_of {prog : Program} {w : World} {A : Around} {E : Value → Shared → Prop} {s : Shared} {env : Env} {value slice : Expr} {pos : Pos} {T id : String} {Q : Value → Shared → Prop}
    (hl : typeLookup (.type T) "__getitem__" = pure (some (.builtin id))) (hs : NoSl slice)
    (h : wpAny (model prog w) A (eval value env) (fun o s₁ => wpAny (model prog w) A (eval slice env) (fun i s₂ => s₂.TypeIs o T ∧ wpAny (model prog w) A (getItem o i) Q E s₂) E s₁) E s) :
    wpAny (model prog w) A (eval (.Subscript value slice pos) env) Q E s := by
  refine Subscript_ (wpAny_mono h (fun o s₁ h₁ => wpAny_mono h₁ (fun i s₂ h₂ => ?_) fun _ _ x => x) fun _ _ x => x)
  obtain ⟨hT, h₂⟩ := h₂
  unfold subscriptTail
  refine wpAny_bind ?_
  rw [getitemInPython_of_ne hT.not_modules]
  refine wpAny_bind (wpAny_specialOf hT hl ?_)
  have fin : wpAny (model prog w) A (subscripted slice false o i) (fun r s₃ => wpAny (model prog w) A (letTemporaryGo value o r >>= fun _ => pure r) Q E s₃) E s₂ := by
    rw [hs o i]
    exact wpAny_operating (wpAny_mono h₂ (fun r s₃ h₃ => wpAny_bind (wpAny_letTemporaryGo (wpAny_pure h₃))) fun _ _ x => x)
  first
    | exact wpAny_pure (wpAny_bind fin)
    | exact wpAny_bind (wpAny_pure (wpAny_bind fin))
    | exact wpAny_bind fin
theorem dict_typeIs {X : Cx} {pins : List (Addr × Obj)} {σ : St} {H : Hp} {s : Shared} {a : Addr} {y : V} {o : Option V} (I : Inv X pins σ H s) (g : DGet H a y o) : s.TypeIs (.ref a) "dict" := by
  rcases g with ⟨kvs, k, e, _, _⟩ | ⟨kvs, k, b, e, _, _, _⟩
  · obtain ⟨_, _, vs, _, dd⟩ := dk_rd I.hok e
    exact dd.typeIs
  · obtain ⟨_, _, xs, _, dd⟩ := dt_rd I.hok e
    exact dd.typeIs
/-- d[y] -/
def tDGet (td ty : TE) : TE := fun σ H Q => td σ H fun x H1 => ty σ H1 fun y H2 => ∃ a v, x = .ref a ∧ DGet H2 a y (some v) ∧ Q v H2
/-- y in d, y not in d -/
def tDIn (ty td : TE) : TE := fun σ H Q => ty σ H fun y H1 => td σ H1 fun x H2 => ∃ a o, x = .ref a ∧ DGet H2 a y o ∧ Q (.bl o.isSome) H2
/-- d[y] = v -/
def sDPut (td ty tv : TE) : TS := fun D σ H => tv σ H fun v H1 => td σ H1 fun x H2 => ty σ H2 fun y H3 => ∃ a H4, x = .ref a ∧ DPut H3 a y v H4 ∧ D.nx σ H4
/-- d[y] op= v -/
def sDAug (td ty tv : TE) (rd : V → V → Hp → VK → Prop) : TS := fun D σ H => td σ H fun x H1 => ty σ H1 fun y H2 => ∃ a v, x = .ref a ∧ DGet H2 a y (some v) ∧
  tv σ H2 fun y2 H3 => rd v y2 H3 fun z H4 => ∃ H5, DPut H4 a y z H5 ∧ D.nx σ H5
/-- del d[y] -/
def sDDel (td ty : TE) : TS := fun D σ H => td σ H fun x H1 => ty σ H1 fun y H2 => ∃ a kvs k, x = .ref a ∧ H2 a = some (.dK kvs) ∧ y = kV k ∧ (valV kvs k).isSome = true ∧ D.nx σ (upd H2 a (.dK (dropK kvs k)))
section
variable {X : Cx} {o i e value : Expr} {pos pos' tpos : Pos} {td ty tv : TE}
theorem pe_dget (hu : X.A.units + 1 < cLine) (ho : PE X o td) (hi : PE X i ty) (hs : NoSl i) : PE X (.Subscript o i pos) (tDGet td ty) := by
  intro pins s σ H Q I h
  refine subD_of PySem.F.slot_dict_getitem.lookup hs (thn (ho pins s σ H _ I h) fun u s1 ⟨x, H1, I1, rx, q1⟩ => thn (hi pins s1 σ H1 _ I1 q1) fun iv s2 ⟨y, H2, I2, ry, a, v, ex, g, q2⟩ => ?_)
  subst ex
  obtain rfl : u = Value.ref a := rx
  exact ⟨dict_typeIs I2 g, d_getItem hu I2 g ry fun w' s3 I3 rw' => ⟨v, H2, I3, rw', q2⟩⟩
end
/-! ### displays -/
theorem dk_empty {P : Program} {w : World} {H : Hp} (h : Heap) (hb : sysModules < h.objs.size) : ObjOk P w H (h.push { cls := .type "dict", data := .dict #[] }) h.objs.size (.dK []) :=
  ⟨Nat.zero_le _, beq_eq_false_iff_ne.mpr (Ne.symm (Nat.ne_of_lt hb)), [], .nil, Heap.DictOf.new h⟩
/-- {}, to be a dict of the kind that is wanted -/
def tDNewK : TE := fun _ H Q => ∀ p, H p = none → Q (.ref p) (upd H p (.dK []))
section
variable {X : Cx} {pos : Pos}
theorem pe_dnewK : PE X (.Dict [] [] pos) tDNewK := fun pins s σ H Q I h =>
  wpAny_Dict_empty ⟨.ref s.heap.objs.size, _, I.laid (a := s.heap.objs.size) (o := .dK []) (t' := s.toks) (fun _ _ q => Heap.get?_push_of_some _ q) (Nat.le_refl _) (dk_empty s.heap I.big), rfl, h _ (I.hok.fresh (Nat.le_refl _))⟩
end
/-- the pairs of a display, from the left -/
def tPairs : List (TE × TE) → St → Hp → (List (V × V) → Hp → Prop) → Prop
  | [], _, H, Q => Q [] H
  | (tk, tv) :: r, σ, H, Q => tk σ H fun x H1 => tv σ H1 fun y H2 => tPairs r σ H2 fun ps H3 => Q ((x, y) :: ps) H3
def mergeK (kvs more : List (Key × V)) : List (Key × V) := more.foldl (fun acc kv => putK acc kv.1 kv.2) kvs
/-- {k: v, ..} with keys ints and texts; the new dict stands empty while the pairs are made -/
def tDisp (trs : List (TE × TE)) : TE := fun σ H Q => ∀ p, H p = none → tPairs trs σ (upd H p (.dK [])) fun ps H2 => H2 p = some (.dK []) ∧ ∃ kvs : List (Key × V), ps = kvs.map (fun kv => (kV kv.1, kv.2)) ∧ kvs.length ≤ 15 ∧ Q (.ref p) (upd H2 p (.dK (mergeK [] kvs)))
/-! ### methods -/
/-- a method call o.m(e) of a built-in, with one argument: what must be seen of the text -/
structure M1 (X : Cx) (o : Expr) (m : Str) (apos : Pos) (e : Expr) (cpos : Pos) : Prop where
  base : attributeBase o m X.env (eval o X.env) = eval o X.env
  few : ((backTo cpos (starEach [e] X.env)).all (fun x => !x.1) && (backToKw cpos (keywordEach [] X.env)).all (fun x => x.1.isSome)
    && decide (([e] : List Expr).length + ([] : List Keyword).length + (if ([] : List Keyword).isEmpty then 0 else 1) < 30)) = true
  line : (apos.endLine == cpos.line) = true
  trees : backTo cpos (starEach [e] X.env) = [(false, eval e X.env)]
structure M2 (X : Cx) (o : Expr) (m : Str) (apos : Pos) (e f : Expr) (cpos : Pos) : Prop where
  base : attributeBase o m X.env (eval o X.env) = eval o X.env
  few : ((backTo cpos (starEach [e, f] X.env)).all (fun x => !x.1) && (backToKw cpos (keywordEach [] X.env)).all (fun x => x.1.isSome)
    && decide (([e, f] : List Expr).length + ([] : List Keyword).length + (if ([] : List Keyword).isEmpty then 0 else 1) < 30)) = true
  line : (apos.endLine == cpos.line) = true
  trees : backTo cpos (starEach [e, f] X.env) = [(false, eval e X.env), (false, eval f X.env)]
/-- a is a dict, whatever its keys -/
def IsD (H : Hp) (a : Addr) : Prop := (∃ kvs, Rd H a (.dK kvs)) ∨ ∃ kvs, Rd H a (.dT kvs)
theorem isD_at {X : Cx} {pins : List (Addr × Obj)} {σ : St} {H : Hp} {s : Shared} {a : Addr} (I : Inv X pins σ H s) (d : IsD H a) :
    s.TypeIs (.ref a) "dict" ∧ (∀ b, Value.ref a = .ref b → ∃ ob, s.heap.get? b = some ob ∧ ob.dict = none) ∧ (a == sysModules) = false := by
  rcases d with ⟨kvs, e⟩ | ⟨kvs, e⟩
  · obtain ⟨_, hd, vs, _, dd⟩ := dk_rd I.hok e
    refine ⟨dd.typeIs, fun b q => ?_, hd⟩
    cases q
    obtain ⟨ob, _, _, h1, h2, _⟩ := dd
    exact ⟨ob, h1, h2.2.1⟩
  · obtain ⟨_, hd, xs, _, dd⟩ := dt_rd I.hok e
    refine ⟨dd.typeIs, fun b q => ?_, hd⟩
    cases q
    obtain ⟨ob, _, _, h1, h2, _⟩ := dd
    exact ⟨ob, h1, h2.2.1⟩
section
variable {X : Cx} {pins : List (Addr × Obj)} {σ : St} {H : Hp} {s : Shared} {a : Addr} {y d : V} {u r : Value} {o : Option V} {A : Around} {E : Value → Shared → Prop}
end
/-- d.pop(k): there; d.pop(k, x): there or not -/
def tDPop1 (td ty : TE) : TE := fun σ H Q => td σ H fun x H1 => ∃ a, x = .ref a ∧ IsD H1 a ∧ ty σ H1 fun y H2 => ∃ kvs k v, H2 a = some (.dK kvs) ∧ y = kV k ∧ valV kvs k = some v ∧ Q v (upd H2 a (.dK (dropK kvs k)))
section
variable {X : Cx} {o e f : Expr} {apos cpos : Pos} {td ty tx : TE}
end
/-! ### dict(d): a copy -/
section
variable {X : Cx} {pins : List (Addr × Obj)} {σ : St} {H : Hp} {s : Shared} {a : Addr} {kvs : List (Key × V)} {A : Around} {E : Value → Shared → Prop}
end
section
variable {X : Cx} {pins : List (Addr × Obj)} {σ : St} {H : Hp} {s : Shared} {a : Addr} {y : V} {u : Value} {A : Around} {E : Value → Shared → Prop}
end
end L2
set_option Elab.async false
set_option linter.all false
set_option maxRecDepth 100000
set_option maxHeartbeats 4000000
/-! the second level: while, numbers as texts, dicts whose keys are ints or texts -/
namespace WL
open PySem PySem.Spec PyProof.Rows L2
/-! ### while -/
def whileN (c : WT) (b : WS) (D : We) : Nat → Sw → Hw → Prop
  | 0, _, _ => False
  | n + 1, τ, C => c τ C (fun k C1 => if k = true then b { D with nx := whileN c b D n, ct := whileN c b D n, bk := D.nx } τ C1 else D.nx τ C1) D.xc
def sWhile (c : WT) (b : WS) : WS := fun D τ C => ∃ n, whileN c b D n τ C
theorem sim_while {K : PySem.W.Frag} {c : TT} {tb : TS} {c' : WT} {b' : WS} (hc : SimT K c c') (hb : SimS K tb b') : SimS K (tWhile c tb) (sWhile c' b') := fun F H C σ τ D D' R S h d => by
  obtain ⟨n, h⟩ := h
  refine ⟨fun m σ H2 => ∃ τ C, Rl K F H2 C ∧ Tx H H2 ∧ RepS K H2 σ τ ∧ whileN c' b' D' m τ C, ⟨n, τ, C, R, Tx.refl _, S, h⟩, ?_⟩
  rintro m σ2 H2 ⟨τ2, C2, R2, t2, S2, h2⟩
  cases m with
  | zero => exact h2.elim
  | succ m =>
    refine hc F H2 C2 σ2 τ2 _ _ D'.xc R2 S2 h2 fun k H3 C3 R3 t3 h3 => ?_
    cases k with
    | true =>
      refine ⟨fun σ' H' => ∃ τ' C', Rl K F H' C' ∧ Tx H H' ∧ RepS K H' σ' τ' ∧ whileN c' b' D' m τ' C', fun σ' H' z => ⟨m, Nat.lt_succ_self m, z⟩, ?_⟩
      have t13 := t2.trans t3
      exact hb F H3 C3 σ2 τ2 _ _ R3 (S2.tx t3) h3 ⟨fun σ' τ' H' C' R' t' S' h' => ⟨τ', C', R', t13.trans t', S', h'⟩, fun x v H' C' R' t' => d.rt x v H' C' R' (t13.trans t'), fun σ' τ' H' C' R' t' S' h' => d.nx σ' τ' H' C' R' (t13.trans t') S' h', fun σ' τ' H' C' R' t' S' h' => ⟨τ', C', R', t13.trans t', S', h'⟩⟩
    | false => exact d.nx σ2 τ2 H3 C3 R3 (t2.trans t3) (S2.tx t3) h3
theorem ds_while {X : Cx} {c : Expr} {body : List Stmt} {wc : WT} {b : WS} {pos : Pos} (hp : PassesOwn (model X.prog X.w) X.A X.env X.xe) (hc : SdT X c wc) (hb : SdB X body b) : SdS X (.While c body [] pos) (sWhile wc b) := by
  obtain ⟨t, p, s⟩ := hc
  obtain ⟨t', p', s'⟩ := hb
  exact ⟨_, ps_while hp p p', sim_while s s'⟩
/-- a loop by what holds of the state and a number that falls -/
theorem while_inv {c : WT} {b : WS} {D : We} (Pv : Nat → Sw → Hw → Prop) {τ : Sw} {C : Hw} {m : Nat} (h0 : Pv m τ C)
    (hs : ∀ m τ C (N : Sw → Hw → Prop), Pv m τ C → (∀ m' τ' C', m' < m → Pv m' τ' C' → N τ' C') → c τ C (fun k C1 => if k = true then b { D with nx := N, ct := N, bk := D.nx } τ C1 else D.nx τ C1) D.xc) : sWhile c b D τ C := by
  have key : ∀ (n m : Nat) (τ : Sw) (C : Hw), m < n → Pv m τ C → whileN c b D n τ C := by
    intro n
    induction n with
    | zero => intro m τ C h _; omega
    | succ n ih => intro m τ C hm hp; exact hs m τ C _ hp fun m' τ' C' hlt hp' => ih m' τ' C' (by omega) hp'
  exact ⟨m + 1, key (m + 1) m τ C (Nat.lt_succ_self m) h0⟩
section
variable {X : Cx} {a b c e o i : Expr} {es : List Expr} {wa wb wc wo wi : WE} {wA : WA} {pos p p2 apos cpos : Pos}
/-! ### str(n), int(n) -/
end
/-! ### dicts: tables of values -/
def kT : T → Option Key
  | .int i => some (.inl i)
  | .str x => some (.inr x)
  | _ => none
def tK : Key → T
  | .inl i => .int i
  | .inr x => .str x
def getT (kvs : List (Key × T)) (k : Key) : Option T := (kvs.find? fun kv => decide (kv.1 = k)).map (·.2)
def putT (kvs : List (Key × T)) (k : Key) (v : T) : List (Key × T) :=
  if (kvs.any fun kv => decide (kv.1 = k)) = true then kvs.map (fun kv => if kv.1 = k then (kv.1, v) else kv) else kvs ++ [(k, v)]
theorem rep_key {K : PySem.W.Frag} {H : Hp} {x : V} {v : T} {k : Key} (h : kT v = some k) (r : Rep K H x v) : x = kV k := by
  cases v with
  | int i => cases h; exact of_int r
  | str z => cases h; exact of_str r
  | _ => cases h
theorem PR.get {K : PySem.W.Frag} {H : Hp} : ∀ {ks : List (Key × V)} {kvs : List (Key × T)} (_ : PR K H ks kvs) (k : Key), (getT kvs k = none → valV ks k = none) ∧ ∀ v, getT kvs k = some v → ∃ x, valV ks k = some x ∧ Rep K H x v
  | _, _, .nil, k => ⟨fun _ => rfl, fun v h => by cases h⟩
  | p :: r, q :: s, .cons h t, k => by
    obtain ⟨e, rp⟩ := h
    have ih := PR.get t k
    by_cases c : q.1 = k
    · have c' : p.1 = k := e.trans c
      rw [valV_pos c']
      unfold getT
      rw [List.find?_cons_of_pos (by simpa using c)]
      exact ⟨(fun z => by cases z), (fun v z => by cases z; exact ⟨p.2, rfl, rp⟩)⟩
    · have c' : ¬ p.1 = k := fun z => c (e.symm.trans z)
      rw [valV_neg c']
      unfold getT
      rw [List.find?_cons_of_neg (by simpa using c)]
      exact ih
theorem PR.any {K : PySem.W.Frag} {H : Hp} : ∀ {ks : List (Key × V)} {kvs : List (Key × T)} (_ : PR K H ks kvs) (k : Key), (ks.any fun kv => decide (kv.1 = k)) = kvs.any fun kv => decide (kv.1 = k)
  | _, _, .nil, k => rfl
  | p :: r, q :: s, .cons h t, k => by rw [List.any_cons, List.any_cons, PR.any t k, h.1]
theorem PR.mapK {K : PySem.W.Frag} {H : Hp} {k : Key} {x : V} {v : T} (rx : Rep K H x v) : ∀ {ks : List (Key × V)} {kvs : List (Key × T)} (_ : PR K H ks kvs), PR K H (ks.map fun kv => if kv.1 = k then (kv.1, x) else kv) (kvs.map fun kv => if kv.1 = k then (kv.1, v) else kv)
  | _, _, .nil => .nil
  | p :: r, q :: s, .cons h t => by
    refine .cons ?_ (PR.mapK rx t)
    obtain ⟨e, rp⟩ := h
    by_cases c : q.1 = k
    · have c' : p.1 = k := e.trans c
      dsimp only
      rw [if_pos c, if_pos c']; exact ⟨e, rx⟩
    · have c' : ¬ p.1 = k := fun z => c (e.symm.trans z)
      dsimp only
      rw [if_neg c, if_neg c']; exact ⟨e, rp⟩
theorem PR.put {K : PySem.W.Frag} {H : Hp} {ks : List (Key × V)} {kvs : List (Key × T)} (h : PR K H ks kvs) {k : Key} {x : V} {v : T} (rx : Rep K H x v) : PR K H (putK ks k x) (putT kvs k v) := by
  unfold putK putT
  rw [PR.any h k]
  split
  · exact PR.mapK rx h
  · exact h.snoc ⟨rfl, rx⟩
theorem PR.length {K : PySem.W.Frag} {H : Hp} {ks : List (Key × V)} {kvs : List (Key × T)} (h : PR K H ks kvs) : ks.length = kvs.length := Paired.length h
section
variable {K : PySem.W.Frag} {F H : Hp} {C : Hw}
theorem Rl.dic (R : Rl K F H C) {a : Addr} {kvs : List (Key × T)} (h : C a = some (.dic kvs)) : ∃ ks, H a = some (.dK ks) ∧ PR K H ks kvs := R.obj a _ h
theorem Rl.putD (R : Rl K F H C) {p : Addr} {kvs kvs' : List (Key × T)} {ks' : List (Key × V)} (h : C p = some (.dic kvs)) (r : PR K H ks' kvs') : Rl K F (upd H p (.dK ks')) (up C p (.dic kvs')) ∧ Tx H (upd H p (.dK ks')) := by
  obtain ⟨w, hw, ns⟩ := (R.obj p _ h).some trivial
  exact R.put h ⟨ks', upd_same, pr_tx (Tx.put hw ns) r⟩
theorem Rl.newD (R : Rl K F H C) {p : Addr} {kvs : List (Key × T)} {ks : List (Key × V)} (h : H p = none) (r : PR K H ks kvs) : Rl K F (upd H p (.dK ks)) (up C p (.dic kvs)) := R.new h ⟨ks, upd_same, pr_tx (Tx.new h) r⟩
end
/-! ### dicts: readings and rules -/
def eDict0 : WE := fun _ C Q _ => ∀ p, C p = none → Q (.ref p) (up C p (.dic []))
def gSd (o i : WE) : WG := fun v τ C Q χ => o τ C (fun x C1 => i τ C1 (fun y C2 => ∃ a kvs k, x = .ref a ∧ kT y = some k ∧ C2 a = some (.dic kvs) ∧ kvs.length < sizeLine ∧ Q τ (up C2 a (.dic (putT kvs k v)))) χ) χ
section
variable {X : Cx} {a b c e o i f : Expr} {es : List Expr} {wa wb wc wo wi wd : WE} {wA : WA} {pos p p2 apos cpos : Pos}
theorem d_dict0 : SdE X (.Dict [] [] pos) eDict0 := ⟨_, pe_dnewK, fun F H C σ τ Q Q' χ R S h q p hp => q _ _ _ _ (R.newD hp .nil) (Tx.new hp) rep_ref (h p (R.free hp))⟩
def rSetD : V → V → V → Hp → (Hp → Prop) → Prop := fun o i v H Q => ∃ p ks k, o = .ref p ∧ i = kV k ∧ H p = some (.dK ks) ∧ ks.length < sizeLine ∧ Q (upd H p (.dK (putK ks k v)))
theorem set_dict (hu : X.A.units + 150 < cLine) : PSet X rSetD := by
  intro pins s σ H o i v ov iv u Q I ro ri rv h
  obtain ⟨p, ks, k, rfl, rfl, hp, hl, q⟩ := h
  cases ro
  exact d_setItem (by omega) I (DPut.k hp hl) ri rv fun s' I' => ⟨_, I', q⟩
theorem dg_subD (hu : X.A.units + 150 < cLine) (ho : SdE X o wo) (hi : SdE X i wi)
    (ha : ∀ v, assign (.Subscript o i pos) X.env v = (do
      let ov ← holding [v] (eval o X.env)
      let iv ← holding [v, ov] (eval i X.env)
      standAt pos
      holding [v, ov, iv] (setItem ov iv v)
      release [v, ov, iv] []) := by intro _; rfl) : SdG X (.Subscript o i pos) (gSd wo wi) := by
  obtain ⟨t, p, s⟩ := ho
  obtain ⟨t', p', s'⟩ := hi
  refine ⟨_, pg_sub p p' (set_dict hu) ha, fun F H C σ τ x v Q Q' χ R S r h q => ?_⟩
  refine s F H C σ τ _ _ χ R S h fun y vy H1 C1 R1 t1 ry h1 => ?_
  refine s' F H1 C1 σ τ _ _ χ R1 (S.tx t1) h1 fun z vz H2 C2 R2 t2 rz h2 => ?_
  obtain ⟨l, kvs, k, rfl, hk, hC, hl, h2⟩ := h2
  cases of_ref ry
  obtain ⟨ks, hH, pr⟩ := R2.dic hC
  have t12 := t1.trans t2
  obtain ⟨R', t'⟩ := R2.putD hC (PR.put pr (k := k) (r.tx t12))
  exact ⟨l, ks, k, rfl, rep_key hk rz, hH, by rw [PR.length pr]; exact hl, q _ _ _ _ R' (t12.trans t') (S.tx (t12.trans t')) h2⟩
end
end WL
set_option Elab.async false
set_option linter.all false
set_option maxRecDepth 100000
set_option maxHeartbeats 4000000
namespace L2
open PySem PySem.Spec PyProof.Rows
/-! ### sets of texts: what a set's table keeps of led and plain -/
def byTx (w : World) : Bool := w.params.followText "set-order"
def txOf (e : Int × Value) : Str := strOf e.2
/-- the set at a: its texts in the order of its table -/
structure TxSet (P : Program) (w : World) (h : Heap) (a : Addr) (es : Array (Int × Value)) (ep : Nat) (t : SetTable) : Prop where
  get : h.get? a = some { cls := .type "set", dict := none, data := .set es ep t, slots := #[] }
  els : ElemsOf (PySem.strKind P w) es.toList
  fit : t.fits es.size = true
  bnd : es.size < scanBound
  pln : es.size ≠ 0 → t.plain = false
  led : t.led = !byTx w
  nod : (es.toList.map txOf).Nodup
section
variable {prog : Program} {w : World} {A : Around} {E : Value → Shared → Prop} {s : Shared}
end
section
variable {prog : Program} {w : World} {A : Around} {R : Result → Shared → Prop} {I : Addr} {fp wr : List Addr} {G : Array GenState → Array GenState → Prop} {n : Nat} {P : Nat → Value → Prop} {St : Nat → Shared → Prop}
end
section
variable {prog : Program} {w : World} {A : Around} {E : Value → Shared → Prop} {s : Shared}
end
section
variable {prog : Program} {w : World} {A : Around} {E : Value → Shared → Prop} {s : Shared}
end
end L2
set_option Elab.async false
set_option linter.all false
set_option maxRecDepth 100000
set_option maxHeartbeats 4000000
namespace L2
open PySem PySem.Spec PyProof.Rows
/-! ### sets of texts, walked -/
section
variable {prog : Program} {w : World} {A : Around} {E : Value → Shared → Prop} {s : Shared}
end
section
variable {prog : Program} {w : World} {A : Around} {E : Value → Shared → Prop} {s : Shared}
end
end L2
set_option Elab.async false
set_option linter.all false
set_option maxRecDepth 100000
set_option maxHeartbeats 4000000
namespace L2
open PySem PySem.Spec PyProof.Rows
section
variable {prog : Program} {w : World} {A : Around} {E : Value → Shared → Prop} {s : Shared}
end
end L2
set_option Elab.async false
set_option linter.all false
set_option maxRecDepth 100000
set_option maxHeartbeats 4000000
namespace L2
open PySem PySem.Spec PyProof.Rows
section
variable {prog : Program} {w : World} {A : Around} {E : Value → Shared → Prop} {s : Shared}
end
end L2
set_option Elab.async false
set_option linter.all false
set_option maxRecDepth 100000
set_option maxHeartbeats 4000000
namespace L2
open PySem PySem.Spec PyProof.Rows
section
variable {prog : Program} {w : World} {A : Around} {E : Value → Shared → Prop} {s : Shared}
end
section
variable {X : Cx} {pins : List (Addr × Obj)} {s : Shared} {σ : St} {H : Hp}
/-- a set of texts -/
def setO (P : Program) (w : World) (a : Addr) (xs : List Str) : HO := .ext fun h => ∃ es ep t, TxSet P w h a es ep t ∧ ∀ y, y ∈ es.toList.map txOf ↔ y ∈ xs
end
end L2
set_option Elab.async false
set_option linter.all false
set_option maxRecDepth 100000
set_option maxHeartbeats 4000000
namespace WL
open PySem PySem.Spec PyProof.Rows L2
/-! ### sorted of a dict of texts, sorted of the set of a list of texts -/
section
variable {X : Cx} {e : Expr} {we : WE} {pos p p2 pos2 : Pos}
end
end WL
set_option Elab.async false
set_option linter.all false
set_option maxRecDepth 100000
set_option maxHeartbeats 4000000
namespace L2
open PySem PySem.Spec PyProof.Rows
/-! ### for x in reversed(a list), the list as long as it was -/
section
variable {X : Cx} {tg : Expr}
end
end L2
set_option Elab.async false
set_option linter.all false
set_option maxRecDepth 100000
set_option maxHeartbeats 4000000
namespace WL
open PySem PySem.Spec PyProof.Rows L2
/-! ### for x in reversed(a list) -/
section
variable {X : Cx} {tg a : Expr} {wA : WA} {pos p : Pos}
end
end WL
set_option Elab.async false
set_option linter.all false
set_option maxRecDepth 100000
set_option maxHeartbeats 4000000
/-! texts joined -/
namespace L2
open PySem PySem.Spec PyProof.Rows
section
variable {X : Cx}
end
end L2
set_option Elab.async false
set_option linter.all false
set_option maxRecDepth 100000
set_option maxHeartbeats 4000000
/-! the second level: join -/
namespace WL
open PySem PySem.Spec PyProof.Rows L2
section
variable {X : Cx}
end
end WL
set_option Elab.async false
set_option linter.all false
set_option maxRecDepth 100000
set_option maxHeartbeats 4000000
/-! list(reversed(a list)) -/
namespace L2
open PySem PySem.Spec PyProof.Rows
theorem rv_len : typeLookup (.type "list_reverseiterator") "__len__" = pure none := by
  rw [typeLookup_type]; rw [builtinLookup_eq_fast]; kernel_rfl
theorem rv_hint : typeLookup (.type "list_reverseiterator") "__length_hint__" = pure (some (.builtin "list_reverseiterator.__length_hint__")) := by
  rw [typeLookup_type]; rw [builtinLookup_eq_fast]; kernel_rfl
section
variable {prog : Program} {w : World} {A : Around} {E : Value → Shared → Prop} {s : Shared} {it l : Addr} {i : Int}
theorem hint_rev {Q : Bool → Shared → Prop} (hit : s.heap.IsRevIter it l i) (h : Q false s) : wpAny (model prog w) A (Builtin.List.listLengthHint (.ref it)) Q E s := by
  have hT := hit.typeIs
  unfold Builtin.List.listLengthHint
  refine wpAny_bind (wpAny_specialOf hT rv_len ?_)
  show wpAny _ A (specialOf (Value.ref it) (Str.ofString "__length_hint__") >>= _) _ _ _
  refine wpAny_bind (wpAny_specialOf hT rv_hint ?_)
  generalize hid : ("list_reverseiterator.__length_hint__" : String) = id0
  wp_delta
  rw [show splitId id0 = some ("list_reverseiterator", "__length_hint__") from by subst hid; decide +kernel]
  subst hid
  refine wpAny_bind (wpAny_isInstance (T := "list_reverseiterator") (b := true) hT (by rw [isSubtype_type]; kernel_rfl) ?_)
  refine wpAny_ite_split (fun z => absurd z (by decide)) (fun _ => ?_)
  refine wpAny_ite_split (fun _ => ?_) (fun z => absurd (by decide +kernel) z)
  refine wpAny_ite_split (fun z => absurd z (by decide +kernel)) (fun _ => ?_)
  exact wpAny_pure h
theorem init_rev {R : Result → Shared → Prop} {items : Array Value} (hh : A.handled = none) (n : Nat) (hn : items.size = n) (hsz : n ≤ sizeLine) (S : Addr) (hSi : S ≠ it) (hSl : S ≠ l) (hil : l ≠ it)
    (hit : s.heap.IsRevIter it l ((n : Int) - 1)) (hl : s.heap.IsList l items) (hS : s.heap.get? S = some { cls := .type "list", data := .seq #[] })
    (hR : ∀ s' acc' c', Moved [S, it] (fun a b => b = a) s s' → s'.heap.get? S = some { cls := .type "list", dict := none, data := .seq acc' c', slots := #[] } → ItemsOf (fun i v => items[items.size - 1 - i]? = some v) acc' n → R (.ok (.ret .none)) s') :
    wpAny (model prog w) A.in1 (Builtin.«list.__init__» ⟨[.ref S, .ref it], []⟩)
      (fun fin s2 => match fin with | .done f => R (.ok f) s2 | .again c2 => c2.quiet = true ∧ codeAny (model prog w) A c2 R s2) (fun e s2 => R (.error e) s2) s := by
  have W := (Walks.listRev (prog := prog) (w := w) (A := A.in1) hh it l hil items).toS
  rw [hn] at W
  have hSf : S ∉ [it, l] := by simp [hSi, hSl]
  show wpAny _ A.in1 (Builtin.List.listItems (.ref S) >>= fun old => Builtin.List.listUpdate (.ref S) (fun _ => #[]) >>= fun _ => letGo old.toList.reverse >>= fun _ => Builtin.List.listExtendWith (.ref S) (.ref it) .none) _ _ s
  unfold Builtin.List.listItems
  refine wpAny_bind ?_
  refine wpAny_bind (wpAny_seqItems hS rfl (wpAny_pure ?_))
  show wpAny _ A.in1 (updateSeq S (fun _ => #[]) >>= fun _ => letGo (#[] : Array Value).toList.reverse >>= fun _ => Builtin.List.listExtendWith (.ref S) (.ref it) .none) _ _ s
  refine wpAny_bind (wpAny_updateSeq hS rfl ?_)
  have hS2 := Heap.get?_update_self (Obj.mapSeq (fun _ => (#[] : Array Value))) hS rfl
  have oth : ∀ b o, b ≠ S → s.heap.get? b = some o → (s.heap.update S (Obj.mapSeq (fun _ => (#[] : Array Value)))).get? b = some o := fun b o hb e =>
    (Heap.get?_update_other _ _ (Ne.symm hb)).trans e
  refine wpAny_bind (wpAny_letGo ?_)
  unfold Builtin.List.listExtendWith
  have hit2 : (s.heap.update S (Obj.mapSeq (fun _ => (#[] : Array Value)))).IsRevIter it l ((n : Int) - 1) := hit.at fun o e => oth it o hSi.symm e
  have hl2 : (s.heap.update S (Obj.mapSeq (fun _ => (#[] : Array Value)))).IsList l items := hl.at fun o e => oth l o hSl.symm e
  refine wpAny_bind (wpAny_typeOf (T := "list_reverseiterator") (Heap.IsRevIter.typeIs (s := { s with heap := _ }) hit2) ?_)
  have h1 : Builtin.List.listSameRef (.ref S) (.ref it) = false := by simp [Builtin.List.listSameRef, hSi]
  have h2 : (Value.type "list_reverseiterator" == Value.type "list") = false := by decide
  have h3 : (Value.type "list_reverseiterator" == Value.type "tuple") = false := by decide
  simp only [h1, h2, h3, Bool.or_false, Bool.false_eq_true, if_false]
  refine wpAny_bind (wpAny_pyIter_revIter hit2 ?_)
  refine wpAny_bind (wpAny_holding (hint_rev hit2 ?_))
  have st : (fun i (h : Heap) => i ≤ n ∧ h.IsRevIter it l ((n : Int) - 1 - (i : Int)) ∧ h.IsList l items) 0 (s.heap.update S (Obj.mapSeq (fun _ => (#[] : Array Value)))) := ⟨Nat.zero_le _, by simpa using hit2, hl2⟩
  refine wpAny_ite_split (fun z => absurd z (by decide +kernel)) (fun _ => ?_)
  refine wpAny_pure ⟨plainId_quiet PySem.F.plain_extend_loop _, ?_⟩
  refine codeAny_extend_loopS W hsz S hSf .none n 0 _ #[] _ rfl (Nat.zero_le _) st hS2 (ItemsOf.nil _) fun s3 acc3 c3 hm hS3 hacc => ?_
  refine hR s3 acc3 c3 ⟨fun b o hb e => ?_, hm.gens, hm.drawn, hm.os, hm.toks⟩ hS3 (by rw [hn]; exact hacc)
  exact hm.heap b o hb (oth b o (fun z => hb (by rw [z]; simp)) e)
theorem call_listrev {Q : Value → Shared → Prop} {items : Array Value} (hh : A.handled = none) (hsz : items.size ≤ sizeLine) (hil : l ≠ it) (hit : s.heap.IsRevIter it l ((items.size : Int) - 1)) (hl : s.heap.IsList l items)
    (hQ : ∀ h2 t2 acc2 c2, (∀ b o, b ≠ it → s.heap.get? b = some o → h2.get? b = some o) → h2.get? s.heap.objs.size = some { cls := .type "list", dict := none, data := .seq acc2 c2, slots := #[] } → ItemsOf (fun i v => items[items.size - 1 - i]? = some v) acc2 items.size → Q (.ref s.heap.objs.size) { s with heap := h2, toks := t2 }) :
    wpAny (model prog w) A (call (.type "list") [.ref it]) Q E s := by
  refine callType_codes (Q₁ := fun ob s1 => ob = .ref s.heap.objs.size ∧ s1 = { s with heap := s.heap.push { cls := .type "list", data := .seq #[] } }) PySem.F.called_list (PySem.F.typeCall_list_1 _) PySem.F.entry_list_init (code_list_new _ ⟨rfl, rfl⟩) fun ob s1 h1 => ?_
  obtain ⟨rfl, rfl⟩ := h1
  have hS : (s.heap.push { cls := .type "list", data := .seq #[] }).get? s.heap.objs.size = some { cls := .type "list", data := .seq #[] } := Heap.get?_push_size _ rfl
  have ltI : it < s.heap.objs.size := by obtain ⟨_, e, _⟩ := hit; exact Heap.lt_size e
  have ltL : l < s.heap.objs.size := by obtain ⟨_, e, _⟩ := hl; exact Heap.lt_size e
  refine ⟨⟨_, hS, rfl⟩, PySem.F.args_list_init_2 _ _, init_rev (A := A.in1) hh items.size rfl hsz _ (Nat.ne_of_gt ltI) (Nat.ne_of_gt ltL) hil (hit.at fun o e => Heap.get?_push_of_some _ e) (hl.at fun o e => Heap.get?_push_of_some _ e) hS fun s3 acc3 c3 hm hS3 hacc => ⟨rfl, ?_⟩⟩
  rw [Moved.eq_with hm]
  exact hQ s3.heap s3.toks acc3 c3 (fun b o hb e => hm.heap b o (by simp only [List.mem_cons, List.not_mem_nil, or_false, not_or]; exact ⟨Nat.ne_of_lt (Heap.lt_size e), hb⟩) (Heap.get?_push_of_some _ e)) hS3 hacc
end
section
variable {X : Cx}
theorem vals_rev : ∀ {xs : List V} {us : List Value}, Vals xs us → Vals xs.reverse us.reverse
  | _, _, .nil => .nil
  | _, _, .cons r t => by rw [List.reverse_cons, List.reverse_cons]; exact (vals_rev t).append (.cons r .nil)
theorem items_rev {its : List Value} {acc : Array Value} (h : ItemsOf (fun i v => its.toArray[its.toArray.size - 1 - i]? = some v) acc its.toArray.size) : acc.toList = its.reverse := by
  obtain ⟨h1, h2⟩ := h
  have hl : its.toArray.size = its.length := by simp
  refine List.ext_getElem? fun j => ?_
  by_cases c : j < acc.size
  · have e : acc[j]? = some acc[j] := by simp [c]
    have h3 := h2 j _ e
    rw [Array.getElem?_toList, e, ← h3, hl]
    rw [List.getElem?_reverse (by omega)]
    simp
  · rw [List.getElem?_eq_none (by simp; omega), List.getElem?_eq_none (by simp; omega)]
def tLRev (K : PySem.W.Frag) (ta : TE) : TE := fun σ H Q => ta σ H fun x H1 => ∃ a xs, x = .ref a ∧ SqL K H1 a xs ∧ ∀ p, H1 p = none → Q (.ref p) (upd H1 p (.lst xs.reverse))
theorem pe_listrev {a : Expr} {ta : TE} {p pos p2 pos2 : Pos} (hc : X.calm = true) (hg : Gl X "list") (hm : X.mg "list" = none) (hg2 : Gl X "reversed") (hm2 : X.mg "reversed" = none) (ha : PE X a ta) (hs : starEach [a] X.env = [(false, eval a X.env)] := by rfl)
    (hs2 : starEach [.Call (.Name "reversed" p2) [a] [] pos2] X.env = [(false, eval (.Call (.Name "reversed" p2) [a] [] pos2) X.env)] := by rfl) (hb : bootBuiltins "reversed" = some (.type "reversed") := by decide +kernel) (hb2 : bootBuiltins "list" = some (.type "list") := by decide +kernel) :
    PE X (.Call (.Name "list" p) [.Call (.Name "reversed" p2) [a] [] pos2] [] pos) (tLRev X.K ta) := by
  intro pins s σ H Q I h
  refine Call_ (ld_blt I hg hm hb2 (PyProof.Rows.callWith_type1 ?_ hs2 rfl))
  rw [hs2]
  show wpAny _ _ (spliced ((false, eval (.Call (.Name "reversed" p2) [a] [] pos2) X.env) :: backTo pos [])) _ _ s
  refine Calls.spliced_cons (Call_ (ld_blt I hg2 hm2 hb (PyProof.Rows.callWith_type1 ?_ hs rfl)))
  have pa : PA X [a] (tCons ta tNil) := pa_cons ha pa_nil hs
  refine thn (pa pos2 pins s σ H (fun xs H1 => match xs with | [x] => ∃ a ys, x = .ref a ∧ SqL X.K H1 a ys ∧ ∀ p, H1 p = none → Q (.ref p) (upd H1 p (.lst ys.reverse)) | _ => False) I h) fun us s1 ⟨vs, H1, I1, r1, q1⟩ => ?_
  have one : ∃ x, vs = [x] := by
    match vs, q1 with
    | [x], _ => exact ⟨x, rfl⟩
    | [], q1 => exact q1.elim
    | _ :: _ :: _, q1 => exact q1.elim
  obtain ⟨x, rfl⟩ := one
  obtain ⟨l, ys, rfl, hq, q⟩ := q1
  obtain ⟨u, rfl, ru⟩ := vals1 r1
  cases ru
  obtain ⟨its, rv, pl, hz⟩ := I1.list hq
  have hlen := rv.length
  refine call_reversed_list pl.isList ?_
  have ltL : l < s1.heap.objs.size := by obtain ⟨_, e, _⟩ := pl.isList; exact Heap.lt_size e
  refine Calls.spliced_nil ?_
  have hit : (s1.heap.push (revObj l ((its.toArray.size : Int) - 1))).IsRevIter s1.heap.objs.size l ((its.toArray.size : Int) - 1) := ⟨_, Heap.get?_push_size _ rfl, rfl, rfl⟩
  have hl2 : (s1.heap.push (revObj l ((its.toArray.size : Int) - 1))).IsList l its.toArray := pl.isList.at fun o e => Heap.get?_push_of_some _ e
  refine call_listrev (s := { s1 with heap := s1.heap.push (revObj l ((its.toArray.size : Int) - 1)) }) (I.ok.hd hc) (by simp only [List.size_toArray]; omega) (Nat.ne_of_lt ltL) hit hl2 fun h2 t2 acc c2 kp hN hI => ?_
  have hp : s1.heap.objs.size ≤ (s1.heap.push (revObj l ((its.toArray.size : Int) - 1))).objs.size := by rw [Heap.size_push]; omega
  refine ⟨.ref _, _, I1.laid (h' := h2) (t' := t2) (fun b o e => kp b o (Nat.ne_of_lt (Heap.lt_size e)) (Heap.get?_push_of_some _ e)) hp (show ObjOk X.prog X.w _ h2 _ (.lst ys.reverse) from ⟨by rw [List.length_reverse]; exact hz, its.reverse, c2, vals_rev rv, ?_⟩), rfl, q _ (I1.hok.fresh hp)⟩
  rw [← items_rev hI]
  exact hN
end
end L2
set_option Elab.async false
set_option linter.all false
set_option maxRecDepth 100000
set_option maxHeartbeats 4000000
/-! texts: join of a written text, replace by written texts -/
namespace L2
open PySem PySem.Spec PyProof.Rows
section
variable {X : Cx}
/-- as PE, and some token was given by then -/
def PEp (X : Cx) (e : Expr) (t : TE) : Prop :=
  ∀ (pins : List (Addr × Obj)) (s : Shared) (σ : St) (H : Hp) (Q : VK), Inv X pins σ H s → t σ H Q → wpAny (model X.prog X.w) X.A (eval e X.env) (fun v s' => 1 ≤ s'.toks ∧ EP X pins σ Q v s') X.xe s
variable {o e : Expr} {es : List Expr} {to : TE} {t : TA} {apos cpos : Pos} {z y : Str} {k k1 k2 : Nat} {lp lp1 lp2 : Pos}
end
end L2
set_option Elab.async false
set_option linter.all false
set_option maxRecDepth 100000
set_option maxHeartbeats 4000000
/-! the second level: extend, list(reversed(a list)), str(a text), replace -/
namespace WL
open PySem PySem.Spec PyProof.Rows L2
section
variable {X : Cx} {e o : Expr} {we wo : WE} {p p2 pos pos2 apos cpos : Pos}
/-- list(reversed(e)) -/
def eLRev (e : WE) : WE := fun τ C Q χ => e τ C (fun x C1 => ∃ a xs, x = .ref a ∧ C1 a = some (.lst xs) ∧ ∀ p, C1 p = none → Q (.ref p) (up C1 p (.lst xs.reverse))) χ
theorem d_lrev (hc : X.calm = true) (hg : Gl X "list") (hm : X.mg "list" = none) (hg2 : Gl X "reversed") (hm2 : X.mg "reversed" = none) (he : SdE X e we) (hs : starEach [e] X.env = [(false, eval e X.env)] := by rfl)
    (hs2 : starEach [.Call (.Name "reversed" p2) [e] [] pos2] X.env = [(false, eval (.Call (.Name "reversed" p2) [e] [] pos2) X.env)] := by rfl) :
    SdE X (.Call (.Name "list" p) [.Call (.Name "reversed" p2) [e] [] pos2] [] pos) (eLRev we) := by
  obtain ⟨t, p1, sm⟩ := he
  refine ⟨_, pe_listrev hc hg hm hg2 hm2 p1 hs hs2, fun F H C σ τ Q Q' χ R S h q => ?_⟩
  refine sm F H C σ τ _ _ χ R S h fun x v H1 C1 R1 t1 rx h1 => ?_
  obtain ⟨a, xs, rfl, hC, h1⟩ := h1
  cases of_ref rx
  obtain ⟨ys, hH, rs⟩ := R1.lst hC
  exact ⟨a, ys, rfl, SqL.of hH, fun b hb => q _ _ _ _ (R1.newL hb rs.reverse) (t1.trans (Tx.new hb)) rep_ref (h1 b (R1.free hb))⟩
/-- str(a number or a text) -/
def bStr2 : List T → Hw → WK → Prop := fun vs C Q => (∃ i : Int, vs = [.int i] ∧ i.natAbs.log2 < 1920 ∧ Q (.str (toString i)) C) ∨ ∃ z, vs = [.str z] ∧ Q (.str z) C
/-- as SdE, some token given -/
def SdP (X : Cx) (e : Expr) (w : WE) : Prop := ∃ t, PEp X e t ∧ SimE X.K t w
/-- o.replace(y, z) -/
def eRepl (y z : Str) (o : WE) : WE := fun τ C Q χ => o τ C (fun x C1 => ∃ u, x = .str u ∧ u.length ≤ 1048576 ∧ Q (.str (Txt.replace u y z)) C1) χ
end
end WL
set_option Elab.async false
set_option linter.all false
set_option maxRecDepth 100000
set_option maxHeartbeats 4000000
/-! dicts compared: of unlike sizes, or the same keys in the same order and alike values -/
namespace L2
open PySem PySem.Spec PyProof.Rows
section
variable {prog : Program} {w : World} {A : Around} {E : Value → Shared → Prop} {s : Shared} {a b : Addr} {oa ob : Obj} {ea eb : Array DictEntry} {pa pb : Nat}
theorem shows {d : Addr} {Q : Unit → Shared → Prop} (hd : (d == sysModules) = false) (h : Q () s) : wpAny (model prog w) A (Builtin.Dict.showsAll d) Q E s := by
  unfold Builtin.Dict.showsAll
  rw [if_neg (by rw [hd]; exact Bool.false_ne_true)]
  exact wpAny_pure h
theorem sp_same {K : Type} [DecidableEq K] {knd : KeyKind prog w K} {id : String} {Q : Bool → Shared → Prop} (sa : (a == sysModules) = false) (sb : (b == sysModules) = false) (ha : s.heap.get? a = some oa) (da : oa.data = .dict ea pa) (hb : s.heap.get? b = some ob) (db : ob.data = .dict eb pb)
    (hk : KeysOf knd eb) (hsz : ea.size = eb.size)
    (hv : ∀ i (h1 : i < ea.size) (h2 : i < eb.size), ∃ k, knd.is k ea[i].key = true ∧ ea[i].hash = knd.hash k ∧ (eb.findIdx? fun e => knd.is k e.key) = some i ∧ SeqAt.EqAt A s ea[i].val eb[i].val true) (q : Q true s) :
    wpAny (model prog w) A (Builtin.Dict.samePairs id a b) Q E s := by
  unfold Builtin.Dict.samePairs
  refine wpAny_bind (shows sa (wpAny_bind (shows sb ?_)))
  refine wpAny_bind (wpAny_dictEntries ha da ?_)
  refine wpAny_bind (wpAny_dictEntries hb db ?_)
  rw [if_neg (by simp [hsz])]
  refine wpAny_bind (wpAny_dictEpoch ha da ?_)
  refine wpAny_bind ?_
  rw [Std.Legacy.Range.forIn_eq_forIn_range']
  simp only [Std.Legacy.Range.size, Nat.sub_zero, Nat.add_sub_cancel, Nat.div_one]
  refine wpAny_forIn_list _ (fun rest r s2 => ∃ i, rest = List.range' i (ea.size - i) ∧ i ≤ ea.size ∧ r.1 = none ∧ s2 = s) _ ?_ ?_ _ _ ⟨0, by simp, Nat.zero_le _, rfl, rfl⟩
  · rintro x rest r s2 ⟨i, hr, hi, hr1, rfl⟩
    have hlt : i < ea.size := by
      rcases Nat.lt_or_ge i ea.size with h | h
      · exact h
      · rw [Nat.sub_eq_zero_of_le h] at hr; simp at hr
    obtain ⟨rfl, hrest⟩ : x = i ∧ rest = List.range' (i + 1) (ea.size - (i + 1)) := by
      have e : ea.size - i = (ea.size - (i + 1)) + 1 := by omega
      rw [e, List.range'_succ] at hr
      injection hr with h1 h2
      exact ⟨h1, h2⟩
    have hltb : x < eb.size := by omega
    obtain ⟨k, k1, k2, k3, k4⟩ := hv x hlt hltb
    refine wpAny_bind (wpAny_dictEntries ha da ?_)
    rw [Array.getElem?_eq_getElem hlt]
    refine wpAny_bind (wpAny_holding ?_)
    rw [k2]
    refine wpAny_bind (wpAny_dictFind_of k1 hb db hk ?_)
    rw [k3]
    refine wpAny_bind (wpAny_dictEntries hb db ?_)
    rw [Array.getElem?_eq_getElem hltb]
    refine wpAny_holding (k4 prog w _ _ ?_)
    rw [if_neg (by decide)]
    refine wpAny_bind (wpAny_dictEpoch ha da ?_)
    rw [if_neg (by simp)]
    exact wpAny_pure ⟨x + 1, hrest, hlt, rfl, rfl⟩
  · rintro r s2 ⟨i, hr, hi, hr1, rfl⟩
    rw [hr1]
    exact wpAny_pure q
theorem eq_meet (wanted : Bool) {k : Bool} {R : Result → Shared → Prop} (ha : s.TypeIs (.ref a) "dict") (hb : s.TypeIs (.ref b) "dict")
    (hs : ∀ (id : String) (Q : Bool → Shared → Prop), Q k s → wpAny (model prog w) A.in1 (Builtin.Dict.samePairs id a b) Q (fun e s2 => R (.error e) s2) s) (h : R (.ok (.ret (.bool (k == wanted)))) s) :
    wpAny (model prog w) A.in1 ((if wanted then Builtin.«dict.__eq__» else Builtin.«dict.__ne__») ⟨[.ref a, .ref b], []⟩)
      (fun fin s2 => match fin with | .done f => R (.ok f) s2 | .again c2 => c2.quiet = true ∧ codeAny (model prog w) A c2 R s2) (fun e s2 => R (.error e) s2) s := by
  cases wanted
  · rw [if_neg (by decide)]
    unfold Builtin.«dict.__ne__»
    wp_delta
    unfold Builtin.Dict.dictSlotArgs
    refine wpAny_bind (wpAny_bind (wpAny_notOrdered_dict ha ?_))
    refine wpAny_bind (wpAny_of_eq (a := (Value.ref a, [Value.ref b])) rfl (wpAny_pure ?_))
    refine wpAny_bind (wpAny_isInstance (T := "dict") (b := true) hb (by rw [isSubtype_type]; kernel_rfl) ?_)
    rw [if_neg (by decide)]
    refine wpAny_bind (wpAny_pure (wpAny_bind (wpAny_pure (wpAny_bind (hs _ _ ?_)))))
    exact wpAny_pure h
  · rw [if_pos rfl]
    unfold Builtin.«dict.__eq__»
    wp_delta
    unfold Builtin.Dict.dictSlotArgs
    refine wpAny_bind (wpAny_bind (wpAny_notOrdered_dict ha ?_))
    refine wpAny_bind (wpAny_of_eq (a := (Value.ref a, [Value.ref b])) rfl (wpAny_pure ?_))
    refine wpAny_bind (wpAny_isInstance (T := "dict") (b := true) hb (by rw [isSubtype_type]; kernel_rfl) ?_)
    rw [if_neg (by decide)]
    refine wpAny_bind (wpAny_pure (wpAny_bind (wpAny_pure (wpAny_bind (hs _ _ ?_)))))
    exact wpAny_pure h
theorem dict_eq {k : Bool} {Q : Value → Shared → Prop} (hu : A.units < cLine) (ha : s.TypeIs (.ref a) "dict") (hb : s.TypeIs (.ref b) "dict")
    (hs : ∀ (E : Value → Shared → Prop) (id : String) (Q : Bool → Shared → Prop), Q k s → wpAny (model prog w) A.in1 (Builtin.Dict.samePairs id a b) Q E s) (h : Q (.bool (k == true)) s) : wpAny (model prog w) A (richCompare .Eq (.ref a) (.ref b)) Q E s :=
  wpAny_richCompare_same_room ha hb PySem.F.slot_dict_eq (wpAny_call (codeAny_call_builtin PySem.F.slot_dict_eq.plain PySem.F.entry_dict_eq (PySem.F.slot_dict_eq.check _ _ _ _ _ _ _ _ ha (PySem.F.args_dict_eq_2 _ _)
    (eq_meet (R := fun r s2 => match r with | .ok (.ret v) => v ≠ .notImplemented ∧ Q v s2 | .ok _ => False | .error e => E e s2) true ha hb (fun id Q q => hs _ id Q q) ⟨(fun z => nomatch z), h⟩)))) hu
theorem dict_ne {k : Bool} {Q : Value → Shared → Prop} (hu : A.units < cLine) (ha : s.TypeIs (.ref a) "dict") (hb : s.TypeIs (.ref b) "dict")
    (hs : ∀ (E : Value → Shared → Prop) (id : String) (Q : Bool → Shared → Prop), Q k s → wpAny (model prog w) A.in1 (Builtin.Dict.samePairs id a b) Q E s) (h : Q (.bool (k == false)) s) : wpAny (model prog w) A (richCompare .NotEq (.ref a) (.ref b)) Q E s :=
  wpAny_richCompare_same_room ha hb PySem.F.slot_dict_ne (wpAny_call (codeAny_call_builtin PySem.F.slot_dict_ne.plain PySem.F.entry_dict_ne (PySem.F.slot_dict_ne.check _ _ _ _ _ _ _ _ ha (PySem.F.args_dict_ne_2 _ _)
    (eq_meet (R := fun r s2 => match r with | .ok (.ret v) => v ≠ .notImplemented ∧ Q v s2 | .ok _ => False | .error e => E e s2) false ha hb (fun id Q q => hs _ id Q q) ⟨(fun z => nomatch z), h⟩)))) hu
end
end L2
set_option Elab.async false
set_option linter.all false
set_option maxRecDepth 100000
set_option maxHeartbeats 4000000
/-! zip of a tuple and a list, of two tuples: both of one length -/
namespace L2
open PySem PySem.Spec PyProof.Rows
section
variable {prog : Program} {w : World} {A : Around} {E : Value → Shared → Prop} {s : Shared}
end
/-- what stands apart -/
structure ZAp (z TI TO i1 i2 : Addr) (f1 f2 : List Addr) : Prop where
  m1 : i1 ∈ f1
  m2 : i2 ∈ f2
  z1 : z ∉ f1
  z2 : z ∉ f2
  o1 : TO ∉ f1
  o2 : TO ∉ f2
  a12 : i1 ∉ f2
  a21 : i2 ∉ f1
  tz : TI ≠ z
  oz : TO ≠ z
  io : TI ≠ TO
  t1 : TI ≠ i1
  t2 : TI ≠ i2
section
variable {prog : Program} {w : World} {A : Around} {E : Value → Shared → Prop} {s : Shared} {z TI TO i1 i2 : Addr} {f1 f2 : List Addr} {n : Nat} {P1 P2 : Nat → Value → Prop} {S1 S2 : Nat → Heap → Prop}
end
end L2
set_option Elab.async false
set_option linter.all false
set_option maxRecDepth 100000
set_option maxHeartbeats 4000000
/-! for a, b in zip(..) -/
namespace L2
open PySem PySem.Spec PyProof.Rows Builtin
abbrev itOb (c : String) (l : Addr) : Obj := { cls := .type c, data := .fields #[.ref l, .int 0 0] }
def SrX (b : Bool) (h : Heap) (l : Addr) (its : Array Value) : Prop := if b then h.IsList l its else h.IsTuple l its
/-- what stands behind a zip made new -/
structure ZNew (h h2 : Heap) (c1 : String) (l1 : Addr) (c2 : String) (l2 : Addr) : Prop where
  zip : IsZip h2 (h.objs.size + 4) (h.objs.size + 2) (h.objs.size + 3) .none
  its : IsPair h2 (h.objs.size + 2) (.ref h.objs.size) (.ref (h.objs.size + 1))
  own : IsPair h2 (h.objs.size + 3) .none .none
  i1 : h2.get? h.objs.size = some (itOb c1 l1)
  i2 : h2.get? (h.objs.size + 1) = some (itOb c2 l2)
  keep : ∀ c o, h.get? c = some o → h2.get? c = some o
section
variable {prog : Program} {w : World} {A : Around} {E : Value → Shared → Prop} {s : Shared}
end
/-! ### the walk, by values -/
/-- the second one is a list (true) or a tuple -/
def SqX (b : Bool) (K : PySem.W.Frag) (H : Hp) (a : Addr) (xs : List V) : Prop := if b then SqL K H a xs else SqT K H a xs
def ItX (b : Bool) (h : Heap) (it l : Addr) (i : Nat) : Prop := if b then h.IsListIter it l i else h.IsTupleIter it l i
section
variable {X : Cx} {pins : List (Addr × Obj)} {σ : St} {H : Hp} {s : Shared}
end
section
variable {X : Cx} {elts : List Expr} {ek : Nat} {epos : Pos}
end
end L2
set_option Elab.async false
set_option linter.all false
set_option maxRecDepth 100000
set_option maxHeartbeats 4000000
/-! the second level: any, dict(d), d.pop(k, x), dicts compared, zip -/
namespace L2
open PySem PySem.Spec PyProof.Rows
section
variable {X : Cx}
end
/-! keys found -/
section
variable {prog : Program} {w : World} {K : Type} [DecidableEq K] {knd : KeyKind prog w K}
theorem pairs_at : ∀ {es : List DictEntry} {kvs : List (K × Value)} {i : Nat} {e : DictEntry}, Pairs knd es kvs → es[i]? = some e → ∃ kv, kvs[i]? = some kv ∧ knd.is kv.1 e.key = true ∧ e.val = kv.2
  | _, _, _, _, .nil, h => by simp at h
  | _, _, 0, _, .cons a b _, h => by simp at h; subst h; exact ⟨_, rfl, a, b⟩
  | _, _, i + 1, e, .cons _ _ t, h => by
    obtain ⟨kv, h1, h2⟩ := pairs_at (i := i) (e := e) t (by simpa using h)
    exact ⟨kv, by simpa using h1, h2⟩
theorem find_at {es : Array DictEntry} {kvs : List (K × Value)} (hp : Pairs knd es.toList kvs) (hn : (kvs.map (·.1)).Nodup) {i : Nat} {kv : K × Value} (hi : kvs[i]? = some kv) (hl : i < es.size) : (es.findIdx? fun e => knd.is kv.1 e.key) = some i := by
  rw [Array.findIdx?_eq_some_iff_getElem]
  have at_ : ∀ j (hj : j < es.size), ∃ kv', kvs[j]? = some kv' ∧ knd.is kv'.1 es[j].key = true := fun j hj => by
    obtain ⟨kv', h1, h2, _⟩ := pairs_at (i := j) (e := es[j]) hp (by simp [hj])
    exact ⟨kv', h1, h2⟩
  refine ⟨hl, ?_, fun j hj => ?_⟩
  · obtain ⟨kv', h1, h2⟩ := at_ i hl
    rw [hi] at h1; cases h1; exact h2
  · obtain ⟨kv', h1, h2⟩ := at_ j (by omega)
    rw [KeyKind.is_eq_decide h2]
    intro z
    have hk : kv.1 = kv'.1 := by simpa using z
    have e1 : (kvs.map (·.1))[i]? = some kv.1 := by rw [List.getElem?_map, hi]; rfl
    have e2 : (kvs.map (·.1))[j]? = some kv.1 := by rw [List.getElem?_map, h1, hk]; rfl
    have := (List.getElem?_inj (by rw [List.length_map]; exact (List.getElem?_eq_some_iff.mp hi).1) hn).mp (e1.trans e2.symm)
    omega
end
end L2
namespace WL
open PySem PySem.Spec PyProof.Rows L2
section
variable {X : Cx} {e o a b f : Expr} {we wo wa wb wi wd : WE} {wA : WA} {p p2 pos pos2 apos cpos : Pos}
def dropT (kvs : List (Key × T)) (k : Key) : List (Key × T) := kvs.filter fun kv => decide (kv.1 ≠ k)
/-- o.pop(i, d) -/
def eDpop2 (o i d : WE) : WE := fun τ C Q χ => o τ C (fun x C1 => (∃ a kvs, x = .ref a ∧ C1 a = some (.dic kvs)) ∧ i τ C1 (fun y C2 => d τ C2 (fun z C3 => ∃ a kvs k, x = .ref a ∧ kT y = some k ∧ C3 a = some (.dic kvs) ∧
  (∀ v, getT kvs k = some v → Q v (up C3 a (.dic (dropT kvs k)))) ∧ (getT kvs k = none → Q z C3)) χ) χ) χ
/-! dicts compared -/
theorem pr_at {K : PySem.W.Frag} {H : Hp} : ∀ {ks : List (Key × V)} {kvs : List (Key × T)} {i : Nat} {p : Key × V}, PR K H ks kvs → ks[i]? = some p → ∃ q, kvs[i]? = some q ∧ p.1 = q.1 ∧ Rep K H p.2 q.2
  | _, _, _, _, .nil, h => by simp at h
  | _, _, 0, _, .cons a _, h => by simp at h; subst h; exact ⟨_, rfl, a.1, a.2⟩
  | _, _, i + 1, p, .cons _ t, h => by
    obtain ⟨q, h1, h2⟩ := pr_at (i := i) (p := p) t (by simpa using h)
    exact ⟨q, by simpa using h1, h2⟩
theorem kv_at : ∀ {ks : List (Key × V)} {vs : List (Key × Value)} {i : Nat} {p : Key × Value}, KV ks vs → vs[i]? = some p → ∃ q, ks[i]? = some q ∧ q.1 = p.1 ∧ RelV q.2 p.2
  | _, _, _, _, .nil, h => by simp at h
  | _, _, 0, _, .cons a _, h => by simp at h; subst h; exact ⟨_, rfl, a.1, a.2⟩
  | _, _, i + 1, p, .cons _ t, h => by
    obtain ⟨q, h1, h2⟩ := kv_at (i := i) (p := p) t (by simpa using h)
    exact ⟨q, by simpa using h1, h2⟩
/-! ### zip -/
end
end WL
set_option Elab.async false
set_option linter.all false
set_option maxRecDepth 100000
set_option maxHeartbeats 4000000
/-! for k in a dict: from then on the dict is read alone -/
namespace L2
open PySem PySem.Spec PyProof.Rows
section
variable {X : Cx} {pins : List (Addr × Obj)} {σ : St} {H : Hp} {s : Shared}
theorem Inv.freeze {d : Addr} {o : Obj} {ks : List (Key × V)} (I : Inv X pins σ H s) (hd : H d = some (.dK ks)) (ho : s.heap.get? d = some o) : Inv X pins σ (upd H d (.frz o (.dK ks))) s := by
  have ne : ∀ {b : Addr} {u : HO}, H b = some u → u ≠ .dK ks → b ≠ d := fun q n e => by subst e; rw [hd] at q; exact n (Option.some.inj q).symm
  have nn : ∀ {b : Addr}, H b = none → b ≠ d := fun q e => by subst e; rw [hd] at q; cases q
  refine I.step (h' := s.heap) (g' := s.gens) (d' := s.drawn) (t' := s.toks) (ch := []) (fun _ z => nomatch z) (fun b o _ _ _ e _ => e) (fun b o _ _ _ e _ => ⟨o.slots, e⟩) (fun b o _ _ n => by rw [upd_ne (nn n)]; exact n) (fun b o _ e => ⟨o, e⟩)
    (fun b xs q => by rw [upd_ne (ne q (fun z => nomatch z))]; exact q) (fun b o u q => by rw [upd_ne (ne q (fun z => nomatch z))]; exact q) (fun b ps q => ⟨#[], by rw [upd_ne (ne q (fun z => nomatch z)), q]; simp⟩) (fun m hm => hm) (fun b u q => ?_) I.bare
  have ow : ∀ {a c : Addr}, H c = some (.own a) → upd H d (.frz o (.dK ks)) c = some (.own a) := fun q => by rw [upd_ne (ne q (fun z => nomatch z))]; exact q
  have tu : ∀ {c : Addr} {xs : List V}, H c = some (.tup xs) → upd H d (.frz o (.dK ks)) c = some (.tup xs) := fun q => by rw [upd_ne (ne q (fun z => nomatch z))]; exact q
  by_cases hb : b = d
  · subst hb
    rw [upd_same] at q; cases q
    exact ⟨ho, (I.hok b _ hd).stay (fun c v _ r => r) (fun c r => ow r) fun c xs r => tu r⟩
  · rw [upd_ne hb] at q
    exact (I.hok b u q).stay (fun c v _ r => r) (fun c r => ow r) fun c xs r => tu r
end
theorem is_kV {P : Program} {w : World} {k : Key} {u : Value} (h : (mixKind P w).is k u = true) : RelV (kV k) u := by
  rcases keyIs_shape (show keyIs k u = true from h) with ⟨i, t, rfl, rfl⟩ | ⟨x, t, rfl, rfl⟩
  · exact ⟨t, rfl⟩
  · exact ⟨t, rfl⟩
def Itd (o : Obj) (d : Addr) (ks : List (Key × V)) : It :=
  ⟨fun i H => H d = some (.frz o (.dK ks)) ∧ i < ks.length, fun i H x H' => H' = H ∧ ∃ kv, ks[i]? = some kv ∧ x = kV kv.1, fun i H => H d = some (.frz o (.dK ks)) ∧ i = ks.length⟩
section
variable {X : Cx} {tg e : Expr}
/-- for k in e, e a dict -/
def iDic (td : TE) : TI := fun σ H R => td σ H fun x H1 => ∃ d ks, x = .ref d ∧ Rd H1 d (.dK ks) ∧ ∀ o, (∀ o', H1 d = some (.frz o' (.dK ks)) → o' = o) → R (Itd o d ks) (upd H1 d (.frz o (.dK ks)))
end
end L2
set_option Elab.async false
set_option linter.all false
set_option maxRecDepth 100000
set_option maxHeartbeats 4000000
/-! the second level: dicts that are read, walked -/
namespace WL
open PySem PySem.Spec PyProof.Rows L2
/-- a dict that may be read -/
def RdC (C : Hw) (a : Addr) (kvs : List (Key × T)) : Prop := C a = some (.dic kvs) ∨ C a = some (.fdic kvs)
theorem Rl.rd {K : PySem.W.Frag} {F H : Hp} {C : Hw} (R : Rl K F H C) {a : Addr} {kvs : List (Key × T)} (h : RdC C a kvs) : ∃ ks, Rd H a (.dK ks) ∧ PR K H ks kvs := by
  rcases h with h | h
  · obtain ⟨ks, hH, pr⟩ := R.dic h; exact ⟨ks, .inl hH, pr⟩
  · exact R.obj a _ h
def rD (kvs : List (Key × T)) : List T := kvs.map fun kv => tK kv.1
theorem rep_tK {K : PySem.W.Frag} {H : Hp} (k : Key) : Rep K H (kV k) (tK k) := by
  cases k with
  | inl i => exact rep_int
  | inr x => exact rep_str
section
variable {X : Cx} {e o a b c f i : Expr} {we wo wa wb wi wd : WE} {wA : WA} {p p2 pos pos2 apos cpos : Pos} {tg : Expr}
/-! reading -/
def wRget : W2 := fun x y C Q => ∃ a kvs k v, x = .ref a ∧ kT y = some k ∧ RdC C a kvs ∧ getT kvs k = some v ∧ Q v C
def wRinG (neg : Bool) : W2 := fun y x C Q => ∃ a kvs k, x = .ref a ∧ kT y = some k ∧ RdC C a kvs ∧ Q (.bl (if neg then !(getT kvs k).isSome else (getT kvs k).isSome)) C
abbrev wRin : W2 := wRinG false
abbrev wRnotin : W2 := wRinG true
theorem d_rget (hu : X.A.units + 150 < cLine) (ha : SdE X a wa) (hb : SdE X b wb) (hs : NoSl b) : SdE X (.Subscript a b pos) (eBin wRget wa wb) := by
  obtain ⟨ta, p1, s1⟩ := ha
  obtain ⟨tb, p2, s2⟩ := hb
  refine ⟨_, pe_dget (by omega) p1 p2 hs, fun F H C σ τ Q Q' χ R S h q => ?_⟩
  refine s1 F H C σ τ _ _ χ R S h fun x v H1 C1 R1 t1 rx h1 => ?_
  refine s2 F H1 C1 σ τ _ _ χ R1 (S.tx t1) h1 fun y u H2 C2 R2 t2 ry h2 => ?_
  obtain ⟨l, kvs, k, w, rfl, hk, hC, hg, h2⟩ := h2
  cases of_ref rx
  obtain ⟨ks, hH, pr⟩ := R2.rd hC
  obtain ⟨z, hz, rz⟩ := (PR.get pr k).2 w hg
  cases rep_key hk ry
  exact ⟨l, z, rfl, .inl ⟨ks, k, hH, rfl, hz.symm⟩, q _ _ H2 C2 R2 (t1.trans t2) rz h2⟩
theorem o_rinG (neg : Bool) (hu : X.A.units + 150 < cLine) : OpS X (compareOp (if neg then .NotIn else .In)) (wRinG neg) := ⟨_, op_dir, fun F H C y x u v Q Q' R ry rx h q pins s σ u' v' I r1 r2 => by
  obtain ⟨l, kvs, k, rfl, hk, hC, h⟩ := h
  cases of_ref rx
  cases r2
  obtain ⟨ks, hH, pr⟩ := R.rd hC
  cases rep_key hk ry
  have e : (valV ks k).isSome = (getT kvs k).isSome := by
    cases hg : getT kvs k with
    | none => rw [(PR.get pr k).1 hg]; rfl
    | some w => obtain ⟨z, hz, _⟩ := (PR.get pr k).2 w hg; rw [hz]; rfl
  have fin := q _ _ H C R (Tx.refl H) rep_bl h
  rw [← e] at fin
  have g : DGet H l (kV k) (valV ks k) := .inl ⟨ks, k, hH, rfl, rfl⟩
  cases neg with
  | true => exact d_notIn (by omega) I g r1 fun s' I' => ⟨.bl _, H, I', rfl, fin⟩
  | false => exact d_in (by omega) I g r1 fun s' I' => ⟨.bl _, H, I', rfl, fin⟩⟩
theorem o_rin (hu : X.A.units + 150 < cLine) : OpS X (compareOp .In) wRin := o_rinG false hu
theorem o_rnotin (hu : X.A.units + 150 < cLine) : OpS X (compareOp .NotIn) wRnotin := o_rinG true hu
/-! ### for k in a dict -/
theorem Rl.frz {K : PySem.W.Frag} {F H : Hp} {C : Hw} (R : Rl K F H C) {d : Addr} {o : Obj} {ks : List (Key × V)} {kvs : List (Key × T)} (hC : RdC C d kvs) (hH : Rd H d (.dK ks)) (ho : ∀ o', H d = some (.frz o' (.dK ks)) → o' = o) (pr : PR K H ks kvs) :
    Rl K F (upd H d (.frz o (.dK ks))) (up C d (.fdic kvs)) ∧ Tx H (upd H d (.frz o (.dK ks))) := by
  have t : Tx H (upd H d (.frz o (.dK ks))) := fun b u q st => by
    by_cases e : b = d
    · subst e
      rcases hH with h | ⟨o', h⟩
      · rw [h] at q; cases q; exact st.elim
      · rw [h] at q
        cases q
        rw [upd_same, ho o' h]
    · rw [upd_ne e]; exact q
  refine ⟨⟨fun a v e => ?_, fun a v e => ?_⟩, t⟩
  · by_cases q : a = d
    · subst q
      rw [up_same] at e; cases e
      exact ⟨ks, .inr ⟨o, upd_same⟩, pr_tx t pr⟩
    · rw [up_ne q] at e
      exact (R.obj a v e).stay t (upd_ne q)
  · have z := R.frm a v e
    have q : a ≠ d := fun y => by
      subst y
      rcases hC with h | h <;> (rw [h] at z; cases z.2)
    rw [upd_ne q, up_ne q]; exact z
end
end WL
set_option Elab.async false
set_option linter.all false
set_option maxRecDepth 100000
set_option maxHeartbeats 4000000
/-! the second level: get with one argument of a dict that is read -/
namespace WL
open PySem PySem.Spec PyProof.Rows L2
section
variable {X : Cx} {e o : Expr} {we wo wi : WE} {apos cpos : Pos}
end
end WL
set_option Elab.async false
set_option linter.all false
set_option maxRecDepth 100000
set_option maxHeartbeats 4000000
/-! the second level: objects of own classes -/
namespace WL
open PySem PySem.Spec PyProof.Rows L2
/-! ### attributes -/
def putFT (f : Str) (v : T) : List (Str × T) → List (Str × T)
  | [] => [(f, v)]
  | (g, x) :: r => if g = f then (g, v) :: r else (g, x) :: putFT f v r
section
variable {K : PySem.W.Frag} {H : Hp}
end
/-- the class of the name -/
abbrev ClsAt (K : PySem.W.Frag) (cn : Str) (Cl : Addr) : Prop := PySem.W.nsIn K mainGlobals cn = some (some (.ref Cl))
/-- what a class must have, and no class of it has the name f -/
structure KF (K : PySem.W.Frag) (f cn : Str) : Prop where
  ex : ∃ Cl, ClsAt K cn Cl ∧ Cls K Cl ∧ NoAttr K Cl f
def eFld (cs : List Str) (f : Str) (o : WE) : WE := fun τ C Q χ => o τ C (fun x C1 => ∃ a cn fs v, x = .ref a ∧ C1 a = some (.ins cn fs) ∧ cn ∈ cs ∧ fs.lookup f = some v ∧ Q v C1) χ
def gFd (cs : List Str) (f : Str) (o : WE) : WG := fun v τ C Q χ => o τ C (fun x C1 => ∃ a cn fs, x = .ref a ∧ C1 a = some (.ins cn fs) ∧ cn ∈ cs ∧ fs.length < 1000 ∧ Q τ (up C1 a (.ins cn (putFT f v fs)))) χ
theorem Rl.ins {K : PySem.W.Frag} {F H : Hp} {C : Hw} (R : Rl K F H C) {a : Addr} {cn : Str} {fs : List (Str × T)} (h : C a = some (.ins cn fs)) : ∃ Cl dx ks, ClsAt K cn Cl ∧ H a = some (.ins Cl dx ks) ∧ PR K H ks fs := R.obj a _ h
section
variable {X : Cx} {e o value : Expr} {we wo wv : WE} {f : Str} {cs : List Str} {pos pos' apos cpos : Pos}
end
/-! ### methods -/
/-- o.m(..), by the class of o -/
def tMethD (MT : Addr → L2.Sp → Prop) (m : Str) (E : XK) (ta : TE) (t : TA) : TE := fun σ H Q => ta σ H fun x H1 => ∃ a C dx fs sp, x = .ref a ∧ H1 a = some (.ins C dx fs) ∧ MT C sp ∧ fs.lookup m = none ∧ t σ H1 fun vs H2 => sp (x :: vs) H2 Q E
section
variable {X : Cx} {k : Nat} {E : XK} {m : Str} {p pos apos : Pos} {e o : Expr} {es : List Expr} {ta : TE} {t : TA} {MT : Addr → L2.Sp → Prop}
end
/-- a method's promise -/
def Cm (P : Program) (w : World) (K : PySem.W.Frag) (mg : Str → Option Value) (base : Heap) (n : Nat) (cn m : Str) (ps : List Str) (sp : L2.Sp) : Prop :=
  ∃ Cl f fd, ClsAt K cn Cl ∧ Cls K Cl ∧ Meth K Cl m f ∧ FnOk P w K mg base CX0 n f fd ps sp ∧ Binds K fd ps []
/-- the methods of the name m, by classes -/
def MTb (P : Program) (w : World) (K : PySem.W.Frag) (mg : Str → Option Value) (base : Heap) (n : Nat) (pr : List Df) (m : Str) (tb : List (Str × Nat)) : Prop := ∀ cn i, tb.lookup cn = some i → ∃ ps, Cm P w K mg base n cn m ps (spW K pr n i)
section
variable {P : Program} {w : World} {K : PySem.W.Frag} {mg : Str → Option Value} {base : Heap} {n : Nat} {pr : List Df} {m : Str} {tb : List (Str × Nat)}
end
def eMth (P : Calls) (tb : List (Str × Nat)) (m : Str) (o : WE) (a : WA) : WE := fun τ C Q χ => o τ C (fun x C1 => ∃ ad cn fs i, x = .ref ad ∧ C1 ad = some (.ins cn fs) ∧ tb.lookup cn = some i ∧ fs.lookup m = none ∧ a τ C1 (fun vs C2 => P i (x :: vs) C2 Q χ) χ) χ
section
variable {X : Cx} {k : Nat} {m : Str} {p pos apos : Pos} {e o : Expr} {es : List Expr} {wo : WE} {wA : WA} {tb : List (Str × Nat)} {pr : List Df}
end
/-! ### a class called -/
/-- the def that makes an object: it is no def of the text -/
def wNew (cn : Str) (i : Nat) (P : Calls) : WS := fun D τ C => ∃ vs, τ = vs.map some ∧ ∀ p, C p = none → P i (.ref p :: vs) (up C p (.ins cn [])) (fun v C2 => v = .non ∧ D.rt (.ref p) C2) D.xc
/-- a class's promise: the j-th def makes its objects, the i-th is __init__ -/
def Cn (P : Program) (w : World) (K : PySem.W.Frag) (mg : Str → Option Value) (base : Heap) (n : Nat) (pr : List Df) (cn : Str) (i j : Nat) : Prop :=
  (∃ ar, pr[j]? = some ⟨ar, ar, wNew cn i⟩) ∧ ∃ Cl f, ClsAt K cn Cl ∧ mg cn = some (.ref Cl) ∧ L2.Mk K Cl f ∧ (n = 0 ∨ ∃ k fd ps, n = k + 1 ∧ FnOk P w K mg base CX0 k f fd ps (spW K pr k i) ∧ Binds K fd ps [])
section
variable {X : Cx} {k i j : Nat} {cn : Str} {p pos : Pos} {e : Expr} {es : List Expr} {wA : WA} {pr : List Df}
end
/-! ### the promises -/
theorem fn_okQ {P : Program} {w : World} {K : PySem.W.Frag} {mg : Str → Option Value} {base : Heap} {x qual : Str} {st : Stmt} {f : Addr} {fd : FuncData} {N ps : List Str} {pr : List Df} {n i : Nat} {d : Df} (F : Fun K x qual st f fd) (S : FnScope N ps (defScope st)) (hd : pr[i]? = some d) (hn : d.n = N.length) (har : d.ar = ps.length)
    (hb : ∀ (cdv : Value) (A : Around) (outer : List Env) (s : Shared) (H : Hp) (E : XK), Room n (A.deeper (envOfC qual (defScope st) s.heap.objs.size f cdv)) → SdB (cxOf CX0 P w K mg base N qual (defScope st) f cdv A outer s H E).nox (defBody st) (d.body (wpc pr n))) :
    FnOk P w K mg base CX0 (n + 1) f fd ps (spW K pr (n + 1) i) := by
  refine F.ok S (fun vs H Q E h => ?_) (fun cdv A outer s H vs Q E hr h => ?_)
  · obtain ⟨F', C, vs', Q', χ, R, rs, ⟨d', e1, e2, _⟩, _⟩ := h
    rw [hd] at e1; cases e1
    rw [rs.length, e2, har]
  · obtain ⟨F', C, vs', Q', χ, R, rs, ⟨d', e1, e2, h⟩, q⟩ := h
    rw [hd] at e1; cases e1
    obtain ⟨t, p, sm⟩ := hb cdv A outer s H E hr
    refine ⟨t, p, sm F' H C _ _ _ _ R (RepS.start rs N _ (by rw [rs.length, e2, hn])) h ⟨fun σ τ H' C' R' t' _ h' => q .non .non H' C' R' t' rep_non h', q, fun _ _ _ _ _ _ _ z => z.elim, fun _ _ _ _ _ _ _ z => z.elim⟩⟩
/-- what of the text a class must have -/
structure Kl (K : PySem.W.Frag) (mg : Str → Option Value) (cn : Str) (Cl : Addr) : Prop where
  at_ : ClsAt K cn Cl
  mg : mg cn = some (.ref Cl)
  cls : Cls K Cl
end WL
set_option Elab.async false
set_option linter.all false
set_option maxRecDepth 100000
set_option maxHeartbeats 4000000
/-! the second level: == of tuples and lists with lists in them; calls with defaults -/
namespace WL
open PySem PySem.Spec PyProof.Rows L2
/-- v == w is b, nested at most n deep -/
def EqH (C : Hw) : Nat → T → T → Bool → Prop
  | 0, v, w, b => flat v 0 = true ∧ flat w 0 = true ∧ b = eqT v w
  | n + 1, v, w, b => (flat v n = true ∧ flat w n = true ∧ b = eqT v w) ∨
      (∃ (xs ys : List T) (e : Nat → Bool), v = .tup xs ∧ w = .tup ys ∧ (∀ j x y, xs[j]? = some x → ys[j]? = some y → EqH C n x y (e j)) ∧ b = ((List.range (min xs.length ys.length)).all e && xs.length == ys.length)) ∨
      (∃ (a a' : Addr) (xs ys : List T) (e : Nat → Bool), v = .ref a ∧ w = .ref a' ∧ C a = some (.lst xs) ∧ C a' = some (.lst ys) ∧ (xs.length = ys.length → ∀ j x y, xs[j]? = some x → ys[j]? = some y → EqH C n x y (e j)) ∧
        b = (if xs.length = ys.length then (List.range xs.length).all e else false))
section
variable {X : Cx} {pins : List (Addr × Obj)} {σ : L2.St} {F H : Hp} {s : Shared} {C : Hw}
theorem all_true {e : Nat → Bool} {n : Nat} (h : ∀ j, j < n → e j = true) : (List.range n).all e = true := by
  rw [List.all_eq_true]; intro j hj; exact h j (List.mem_range.mp hj)
/-- the same thing is == itself -/
theorem eqH_same (I : Inv X pins σ H s) (R : Rl X.K F H C) : ∀ (n : Nat) {v w : T} {x : V} {b : Bool}, EqH C n v w b → Rep X.K H x v → Rep X.K H x w → b = true := by
  intro n
  induction n with
  | zero =>
    intro v w x b h rv rw'
    obtain ⟨f1, f2, rfl⟩ := h
    rw [rep_inj I 0 f1 f2 rv rw']
    exact eqT_refl _ f2
  | succ n ih =>
    intro v w x b h rv rw'
    have lists : ∀ {zs : List V} {xs ys : List T} {e : Nat → Bool}, Reps X.K H zs xs → Reps X.K H zs ys → (∀ j x y, xs[j]? = some x → ys[j]? = some y → EqH C n x y (e j)) → xs.length = ys.length ∧ ∀ j, j < xs.length → e j = true := by
      intro zs xs ys e r1 r2 he
      have l1 := r1.length
      have l2 := r2.length
      refine ⟨by omega, fun j hj => ?_⟩
      have i1 : xs[j]? = some (xs[j]'hj) := by simp [hj]
      have i2 : ys[j]? = some (ys[j]'(by omega)) := by simp
      obtain ⟨u1, g1, q1⟩ := r1.get i1
      obtain ⟨u2, g2, q2⟩ := r2.get i2
      rw [g1] at g2; cases g2
      exact ih (he j _ _ i1 i2) q1 q2
    rcases h with ⟨f1, f2, rfl⟩ | ⟨xs, ys, e, rfl, rfl, he, rfl⟩ | ⟨a, a', xs, ys, e, rfl, rfl, h1, h2, he, rfl⟩
    · rw [rep_inj I n f1 f2 rv rw']
      exact eqT_refl _ f2
    · obtain ⟨a, zs, rfl, hq, r⟩ := of_tup rv
      obtain ⟨b, zs', eb, hq', r'⟩ := of_tup rw'
      cases eb
      have := I.tuple_inj hq hq'
      subst this
      obtain ⟨hl, ha⟩ := lists r r' he
      rw [hl, Nat.min_self, beq_self_eq_true, Bool.and_true]
      exact all_true fun j hj => ha j (by omega)
    · cases of_ref rv
      cases of_ref rw'
      rw [h1] at h2; cases h2
      obtain ⟨zs, hz, r⟩ := R.lst h1
      obtain ⟨hl, ha⟩ := lists r r (he rfl)
      rw [if_pos rfl]
      exact all_true ha
theorem itemsH {ts us : List T} {ys zs : List V} {its its' : List Value} {A : Around} {e : Nat → Bool} (r : Reps X.K H ys ts) (r' : Reps X.K H zs us) (rI : Vals ys its) (rI' : Vals zs its')
    (he : ∀ j x y, ts[j]? = some x → us[j]? = some y → ∀ {x1 x2 : V} {u u' : Value}, Rep X.K H x1 x → Rep X.K H x2 y → RelV x1 u → RelV x2 u' → SeqAt.EqAt A s u u' (e j)) :
    ∀ j (h1 : j < its.toArray.size) (h2 : j < its'.toArray.size), SeqAt.EqAt A s its.toArray[j] its'.toArray[j] (e j) := fun j h1 h2 => by
  have l1 : its.toArray.size = ts.length := by rw [List.size_toArray, ← rI.length, r.length]
  have l2 : its'.toArray.size = us.length := by rw [List.size_toArray, ← rI'.length, r'.length]
  have i1 : ts[j]? = some (ts[j]'(by omega)) := by simp [l1 ▸ h1]
  have i2 : us[j]? = some (us[j]'(by omega)) := by simp [l2 ▸ h2]
  obtain ⟨x1, g1, q1⟩ := r.get i1
  obtain ⟨x2, g2, q2⟩ := r'.get i2
  obtain ⟨u1, k1, z1⟩ := rI.get g1
  obtain ⟨u2, k2, z2⟩ := rI'.get g2
  have e1 : its.toArray[j] = u1 := by
    have : its[j]? = some its.toArray[j] := by simp
    rw [k1] at this; exact (Option.some.inj this).symm
  have e2 : its'.toArray[j] = u2 := by
    have : its'[j]? = some its'.toArray[j] := by simp
    rw [k2] at this; exact (Option.some.inj this).symm
  rw [e1, e2]
  exact he j _ _ i1 i2 q1 q2 z1 z2
theorem eqAtH (I : Inv X pins σ H s) (R : Rl X.K F H C) : ∀ (n : Nat) {v w : T} {x y : V} {u u' : Value} {A : Around} {b : Bool}, EqH C n v w b → Rep X.K H x v → Rep X.K H y w → RelV x u → RelV y u' → A.units + n < cLine → SeqAt.EqAt A s u u' b := by
  intro n
  induction n with
  | zero =>
    intro v w x y u u' A b h rv rw' ru ru' hu
    obtain ⟨f1, f2, rfl⟩ := h
    exact eqAtT I 0 f1 f2 rv rw' ru ru' hu
  | succ n ih =>
    intro v w x y u u' A b h rv rw' ru ru' hu
    have hu0 : A.units < cLine := by omega
    have h0 := h
    rcases h with ⟨f1, f2, rfl⟩ | ⟨xs, ys, e, rfl, rfl, he, rfl⟩ | ⟨a, a', xs, ys, e, rfl, rfl, h1, h2, he, rfl⟩
    · exact eqAtT I n f1 f2 rv rw' ru ru' (by omega)
    · obtain ⟨a, zs, rfl, hq, r⟩ := of_tup rv
      obtain ⟨b, zs', rfl, hq', r'⟩ := of_tup rw'
      cases ru
      cases ru'
      by_cases hne : a = b
      · subst hne
        have := eqH_same I R (n + 1) h0 rv rw'
        rw [this]
        exact SeqAt.EqAt.same _
      · obtain ⟨its, rI, p, _⟩ := I.tuple hq
        obtain ⟨its', rI', p', _⟩ := I.tuple hq'
        have l1 : its.toArray.size = xs.length := by rw [List.size_toArray, ← rI.length, r.length]
        have l2 : its'.toArray.size = ys.length := by rw [List.size_toArray, ← rI'.length, r'.length]
        have key := SeqAt.EqAt.of_refs hne (SeqAt.RcAt.tuples (A := A) p p' hu0 (itemsH (A := A.in1) r r' rI rI' fun j x y hx hy {x1 x2 u u'} q1 q2 z1 z2 => ih (he j x y hx hy) q1 q2 z1 z2 (by show A.units + 1 + n < cLine; omega)))
        rw [l1, l2] at key
        exact key
    · cases of_ref rv
      cases of_ref rw'
      cases ru
      cases ru'
      by_cases hne : a = a'
      · subst hne
        have := eqH_same I R (n + 1) h0 rv rw'
        rw [this]
        exact SeqAt.EqAt.same _
      · obtain ⟨zs, hz, r⟩ := R.lst h1
        obtain ⟨zs', hz', r'⟩ := R.lst h2
        obtain ⟨its, rI, p, _⟩ := I.list (SqL.of hz)
        obtain ⟨its', rI', p', _⟩ := I.list (SqL.of hz')
        have l1 : its.toArray.size = xs.length := by rw [List.size_toArray, ← rI.length, r.length]
        have l2 : its'.toArray.size = ys.length := by rw [List.size_toArray, ← rI'.length, r'.length]
        by_cases hl : xs.length = ys.length
        · rw [if_pos hl]
          have key := SeqAt.EqAt.of_refs hne (SeqAt.RcAt.lists (A := A) p.isList p'.isList (by rw [l1, l2, hl]) hu0 (itemsH (A := A.in1) r r' rI rI' fun j x y hx hy {x1 x2 u u'} q1 q2 z1 z2 => ih (he hl j x y hx hy) q1 q2 z1 z2 (by show A.units + 1 + n < cLine; omega)))
          rw [l1] at key
          exact key
        · rw [if_neg hl]
          exact SeqAt.EqAt.of_refs hne (SeqAt.RcAt.lists_lengths p.isList p'.isList (by rw [l1, l2]; exact bne_iff_ne.mpr hl) hu0)
end
section
variable {X : Cx}
end
/-! ### defaults -/
structure FunD (K : PySem.W.Frag) (x qual : Str) (st : Stmt) (f : Addr) (fd : FuncData) : Prop where
  ex : ∃ (oc : Value) (od : Option Addr) (dV kV doc pm : Value) (an : Option Addr) (cdv ct : Value) (osl : Array (Option Value)),
    fd = PySem.W.fnOf x qual (defArgs st) (defBody st) (defScope st) dV kV doc pm an cdv ct ∧ K.lookup f = some ⟨oc, od, .func fd, osl⟩ ∧ PySem.W.codeIn K cdv qual = true
  kp : PySem.W.keepIn K (.ref f) = true
/-- a def's promise; ds: the defaults of the last parameters, whole numbers -/
def CaD (P : Program) (w : World) (K : PySem.W.Frag) (mg : Str → Option Value) (base : Heap) (n : Nat) (x : Str) (ps : List Str) (ds : List Int) (sp : L2.Sp) : Prop :=
  ∃ f fd, FnOk P w K mg base CX0 n f fd ps sp ∧ (∃ us : List Value, Vals (ds.map V.int) us ∧ ∀ j, j ≤ ds.length → Binds K fd ps (us.drop j)) ∧ PySem.W.keepIn K (.ref f) = true ∧ mg x = some (.ref f)
def aApp (ws : List T) (a : WA) : WA := fun τ C Q χ => a τ C (fun vs C1 => Q (vs ++ ws) C1) χ
end WL
set_option Elab.async false
set_option linter.all false
set_option maxRecDepth 100000
set_option maxHeartbeats 4000000
/-! dict(zip(a, b)) -/
namespace PySem
open Sem (wp)
namespace F
end F
section
variable {z : Addr}
end
end PySem
set_option Elab.async false
set_option linter.all false
set_option maxRecDepth 100000
set_option maxHeartbeats 4000000
/-! a zip walked, its tuples kept -/
namespace L2
open PySem PySem.Spec PyProof.Rows
/-- a zip whose owned tuple was handed out -/
abbrev IsZipB (h : Heap) (z TI TO T : Addr) (b : Bool) : Prop :=
  h.get? z = some { cls := .type "zip", dict := none, data := .fields #[rawInt T, .bool b, .bool false, .ref TI, .ref TO], slots := #[] }
section
variable {prog : Program} {w : World} {A : Around} {E : Value → Shared → Prop} {s : Shared} {z TI TO i1 i2 : Addr} {f1 f2 : List Addr} {n : Nat} {P1 P2 : Nat → Value → Prop} {S1 S2 : Nat → Heap → Prop}
end
end L2
set_option Elab.async false
set_option linter.all false
set_option maxRecDepth 100000
set_option maxHeartbeats 4000000
namespace PySem.F
end PySem.F
namespace L2
open PySem PySem.Spec PyProof.Rows
/-- a zip of two tuples (lists: zb), i items drawn -/
structure ZS (zb : Bool) (z TI TO i1 i2 l1 l2 : Addr) (xs ys : Array Value) (i : Nat) (h : Heap) : Prop where
  zip : IsZip h z TI TO .none ∨ ∃ T b, IsZipB h z TI TO T b ∧ (∃ o, h.get? T = some o) ∧ T ≠ z ∧ T ≠ TO ∧ T ≠ i1 ∧ T ≠ i2
  its : IsPair h TI (.ref i1) (.ref i2)
  own : ∃ a b, IsPair h TO a b
  s1 : ItX zb h i1 l1 i ∧ SrX zb h l1 xs
  s2 : ItX zb h i2 l2 i ∧ SrX zb h l2 ys
section
variable {prog : Program} {w : World} {A : Around} {E : Value → Shared → Prop} {s : Shared} {zb : Bool} {z TI TO i1 i2 l1 l2 : Addr} {xs ys : Array Value}
end
end L2
set_option Elab.async false
set_option linter.all false
set_option maxRecDepth 100000
set_option maxHeartbeats 4000000
namespace L2
open PySem PySem.Spec PyProof.Rows
/-- the table of keys and values, one after another -/
def dzK {α : Type} (put : List (Key × α) → Key → α → List (Key × α)) (ks : List Key) (ys : List α) : List (Key × α) := (ks.zip ys).foldl (fun a kv => put a kv.1 kv.2) []
section
variable {X : Cx}
end
end L2
set_option Elab.async false
set_option linter.all false
set_option maxRecDepth 100000
set_option maxHeartbeats 4000000
/-! the second level: dict(zip(a, b)) of two tuples -/
namespace WL
open PySem PySem.Spec PyProof.Rows L2
section
variable {X : Cx} {a c : Expr} {wA : WA} {p pos p2 pos2 : Pos}
end
end WL
set_option Elab.async false
set_option linter.all false
set_option maxRecDepth 100000
set_option maxHeartbeats 4000000
/-! texts laid together in place: f"{a}.{b}" -/
namespace L2
open PySem PySem.Spec PyProof.Rows
section
variable {X : Cx}
/-- {e} of a text or a whole number -/
def tFv (te : TE) : TE := fun σ H Q => te σ H fun x H1 => (∃ z : Str, x = .str z ∧ z.length ≤ sizeLine ∧ Q (.str z) H1) ∨ ∃ i : Int, x = .int i ∧ i.natAbs.log2 < 1920 ∧ Q (.str (toString i)) H1
def tJ : List TE → Str → TE
  | [], out => fun _ H Q => Q (.str out) H
  | t :: ts, out => fun σ H Q => t σ H fun x H1 => ∃ z : Str, x = .str z ∧ (out ++ z).length ≤ sizeLine ∧ tJ ts (out ++ z) σ H1 Q
inductive PEs (X : Cx) : List Expr → List TE → Prop
  | nil : PEs X [] []
  | cons {e : Expr} {es : List Expr} {t : TE} {ts : List TE} (h : PE X e t) (r : PEs X es ts) : PEs X (e :: es) (t :: ts)
end
end L2
set_option Elab.async false
set_option linter.all false
set_option maxRecDepth 100000
set_option maxHeartbeats 4000000
/-! the second level: f"{a}.{b}", {k: v} -/
namespace WL
open PySem PySem.Spec PyProof.Rows L2
def eJ : List WE → Str → WE
  | [], out => fun _ C Q _ => Q (.str out) C
  | w :: ws, out => fun τ C Q χ => w τ C (fun v C1 => ∃ z : Str, v = .str z ∧ (out ++ z).length ≤ sizeLine ∧ eJ ws (out ++ z) τ C1 Q χ) χ
section
variable {X : Cx} {e k v : Expr} {we wk wv : WE} {pos : Pos}
/-- the parts of a text -/
def SdJ (X : Cx) (es : List Expr) (ws : List WE) : Prop := ∃ ts, PEs X es ts ∧ ∀ (out : Str), SimE X.K (tJ ts out) (eJ ws out)
/-- {k: v} -/
def eDisp1 (k v : WE) : WE := fun τ C Q χ => ∀ p, C p = none → k τ (up C p (.dic [])) (fun x C1 => v τ C1 (fun y C2 => ∃ kk, kT x = some kk ∧ C2 p = some (.dic []) ∧ Q (.ref p) (up C2 p (.dic [(kk, y)]))) χ) χ
end
end WL
set_option Elab.async false
set_option linter.all false
set_option maxRecDepth 100000
set_option maxHeartbeats 4000000
/-! list.insert at a place within the list or at its end -/
namespace L2
open PySem PySem.Spec PyProof.Rows
section
variable {X : Cx}
def rInsert : V → List V → Hp → VK → Prop := fun x vs H Q => ∃ l xs i y, x = .ref l ∧ vs = [.int i, y] ∧ H l = some (.lst xs) ∧ 0 ≤ i ∧ i.toNat ≤ xs.length ∧ xs.length < sizeLine ∧ Q .non (upd H l (.lst (xs.take i.toNat ++ y :: xs.drop i.toNat)))
theorem ins_eq {its : List Value} {w : Value} {i : Int} {k : Nat} (h0 : 0 ≤ i) (hk : i.toNat = k) (hl : k ≤ its.length) :
    (its.toArray.extract 0 (if i < 0 then (i + (its.toArray.size : Int)).toNat else min i.toNat its.toArray.size)).push w ++ its.toArray.extract (if i < 0 then (i + (its.toArray.size : Int)).toNat else min i.toNat its.toArray.size) = (its.take k ++ w :: its.drop k).toArray := by
  rw [if_neg (by omega), hk, List.size_toArray, Nat.min_eq_left hl]
  apply Array.toList_inj.mp
  simp
  exact List.take_of_length_le (by rw [List.length_drop]; omega)
theorem mt_insert : MtM X "list.insert" rInsert := by
  intro pins s σ H x vs v us Q I rx rv h
  obtain ⟨l, xs, i, y, rfl, rfl, hH, h0, hk, hz, q⟩ := h
  cases rx
  obtain ⟨u, w, rfl, ru, rw'⟩ := rv.two
  obtain ⟨t, rfl⟩ := ru
  obtain ⟨z, its, n, r, hl, e⟩ := I.lstM hH
  have hfit : Builtin.List.listFitsIndex i = true := by
    have h1 : -(2 ^ 63 : Int) ≤ i := by omega
    have h2 : i < 2 ^ 63 := by
      have : sizeLine < 2 ^ 63 := by decide
      omega
    exact fitsIndex_both h1 h2
  refine call_meets F.slot_list_insert ⟨_, e, rfl⟩ F.entry_list_insert (F.args_list_insert_3 _ _ _) (PySem.AutoSeq1.list_insert_list_int_val_1 l its.toArray n i t w (by simp [hfit]) (by rw [List.size_toArray]; omega)) ⟨e, ?_⟩
  refine ⟨.non, _, I.lset (its' := its.take i.toNat ++ w :: its.drop i.toNat) hH e (ins_eq h0 rfl (by omega)) ((r.take i.toNat).append (.cons rw' (r.drop i.toNat))) ?_, rfl, q⟩
  simp
  omega
end
end L2
set_option Elab.async false
set_option linter.all false
set_option maxRecDepth 100000
set_option maxHeartbeats 4000000
/-! the second level: list.insert -/
namespace WL
open PySem PySem.Spec PyProof.Rows L2
section
variable {X : Cx}
def mInsert : T → List T → Hw → WK → Prop := fun x vs C Q => ∃ a xs i y, x = .ref a ∧ vs = [.int i, y] ∧ C a = some (.lst xs) ∧ 0 ≤ i ∧ i.toNat ≤ xs.length ∧ xs.length < sizeLine ∧ Q .non (up C a (.lst (xs.take i.toNat ++ y :: xs.drop i.toNat)))
theorem m_insert : MtS X "list.insert" mInsert := ⟨_, mt_insert, fun F H C x v xs vs Q Q' R rx rs h q => by
  obtain ⟨a, ts, i, y, rfl, rfl, hx, h0, hk, hl, h⟩ := h
  cases of_ref rx
  obtain ⟨z1, z2, rfl, r1, r2⟩ := of_two rs
  cases of_int r1
  obtain ⟨ys, hy, r⟩ := R.lst hx
  obtain ⟨R', t⟩ := R.putL hx ((r.take i.toNat).app (reps_cons r2 (r.drop i.toNat)))
  exact ⟨a, ys, i, z2, rfl, rfl, hy, h0, by rw [r.length]; exact hk, by rw [r.length]; exact hl, q _ _ _ _ R' t rep_non h⟩⟩
end
end WL
set_option Elab.async false
set_option linter.all false
set_option maxRecDepth 100000
set_option maxHeartbeats 4000000
/-! enumerate(a tuple, start=1) -/
namespace L2
open PySem PySem.Spec PyProof.Rows
open AutoSeq1 (wpAny_loadPart')
end L2
set_option Elab.async false
set_option linter.all false
set_option maxRecDepth 100000
set_option maxHeartbeats 4000000
/-! the call enumerate(a tuple, start=1) -/
namespace L2
open PySem PySem.Spec PyProof.Rows
section
variable {prog : Program} {w : World} {A : Around} {E : Value → Shared → Prop} {s : Shared}
end
end L2
set_option Elab.async false
set_option linter.all false
set_option maxRecDepth 100000
set_option maxHeartbeats 4000000
/-! for k, x in enumerate(a tuple, start=1) -/
namespace L2
open PySem PySem.Spec PyProof.Rows
section
variable {prog : Program} {w : World} {A : Around} {E : Value → Shared → Prop} {s : Shared}
end
end L2
set_option Elab.async false
set_option linter.all false
set_option maxRecDepth 100000
set_option maxHeartbeats 4000000
/-! enumerate(a, start=1) as what a for walks -/
namespace L2
open PySem PySem.Spec PyProof.Rows
section
variable {X : Cx} {elts : List Expr} {ek : Nat} {epos : Pos}
end
end L2
set_option Elab.async false
set_option linter.all false
set_option maxRecDepth 100000
set_option maxHeartbeats 4000000
/-! the second level: for k, x in enumerate(a tuple, start=1) -/
namespace WL
open PySem PySem.Spec PyProof.Rows L2
/-- a row's things with their places, from 1 on -/
def numz (z : Nat) (xs : List T) : List T := xs.zipIdx.map fun c => T.tup [.int ((c.2 + z : Nat) : Int), c.1]
section
variable {X : Cx} {a : Expr} {wA : WA} {p pos kp kc : Pos} {j : Nat}
end
end WL
set_option Elab.async false
set_option linter.all false
set_option maxRecDepth 100000
set_option maxHeartbeats 4000000
/-! the second level: a call with nothing given -/
namespace WL
open PySem PySem.Spec PyProof.Rows L2
end WL
set_option Elab.async false
set_option linter.all false
set_option maxRecDepth 100000
set_option maxHeartbeats 4000000
/-! the second level: a list times a number -/
namespace WL
open PySem PySem.Spec PyProof.Rows L2
section
variable {X : Cx}
end
end WL
set_option Elab.async false
set_option linter.all false
set_option maxRecDepth 100000
set_option maxHeartbeats 4000000
/-! d.update(d') -/
namespace L2
open PySem PySem.Spec PyProof.Rows
section
variable {X : Cx} {pins : List (Addr × Obj)} {σ : St} {H : Hp} {s : Shared} {a b : Addr} {kvs more : List (Key × V)} {A : Around} {E : Value → Shared → Prop}
end
section
variable {X : Cx} {o e : Expr} {apos cpos : Pos} {td ty : TE}
end
end L2
set_option Elab.async false
set_option linter.all false
set_option maxRecDepth 100000
set_option maxHeartbeats 4000000
/-! the second level: a dict of many pairs, d.update(d') -/
namespace WL
open PySem PySem.Spec PyProof.Rows L2
abbrev WPs := Sw → Hw → (List (Key × T) → Hw → Prop) → WX → Prop
section
variable {X : Cx} {pos apos cpos : Pos} {k v o e : Expr} {ks : List (Option Expr)} {vs : List Expr} {wk wv wo we : WE} {w : WPs}
end
end WL
set_option Elab.async false
set_option linter.all false
set_option maxRecDepth 100000
set_option maxHeartbeats 4000000
/-! // by a great divisor, ** of a great number -/
namespace L2
open PySem PySem.Spec PyProof.Rows
section
variable {X : Cx}
end
end L2
namespace WL
open PySem PySem.Spec PyProof.Rows L2
section
variable {X : Cx}
end
end WL
set_option Elab.async false
set_option linter.all false
set_option maxRecDepth 100000
set_option maxHeartbeats 4000000
/-! the second level: what is known of a def at its place, in one -/
namespace WL
open PySem PySem.Spec PyProof.Rows L2
section
variable {P : Program} {w : World} {K : PySem.W.Frag} {mg : Str → Option Value} {base h : Heap} {x q cn : Str} {st : Stmt} {ps : List Str} {pr : List Df} {n i j ar : Nat} {sp : Sp} {Cl : Addr}
def Fg (K : PySem.W.Frag) (x : Str) (st : Stmt) : Prop := ∃ f fd, PySem.W.nsIn K mainGlobals x = some (some (.ref f)) ∧ Fun K x x st f fd
def Ld (K : PySem.W.Frag) (mg : Str → Option Value) (x : Str) (st : Stmt) (ps : List Str) : Prop := ∃ f fd, Fun K x x st f fd ∧ Binds K fd ps [] ∧ mg x = some (.ref f)
/-- how a call binds -/
def Bq (x q : Str) (st : Stmt) (ps : List Str) : Prop := ∀ (kV doc pm : Value) (an : Option Addr) (cdv ct : Value) (us : List Value), us.length = ps.length → bindArgs (PySem.W.fnOf x q (defArgs st) (defBody st) (defScope st) .none kV doc pm an cdv ct) ⟨us, []⟩ = pure (ps.zip us)
theorem ld_mk (X : K.In h) (G : h.Ns mainGlobals mg) (l : Fg K x st) (hb : Bq x x st ps) : Ld K mg x st ps := by
  obtain ⟨f, fd, a, F⟩ := l
  exact ⟨f, fd, F, F.binds hb, PySem.W.mg_of X G a⟩
theorem ld0 (L : Ld K mg x st ps) : Ca P w K mg base 0 x ps (spW K pr 0 i) := by
  obtain ⟨f, fd, F, B, M⟩ := L
  exact ca_zero F B M
theorem ld1 (L : Ld K mg x st ps) (G : ∀ {f fd}, Fun K x x st f fd → FnOk P w K mg base CX0 n f fd ps sp) : Ca P w K mg base n x ps sp := by
  obtain ⟨f, fd, F, B, M⟩ := L
  exact ca_succ F B M (G F)
theorem cP {X : Cx} {e : Expr} {wA : WA} {k : Nat} {Q : Calls} (hP : wpc pr k = Q) (h : SdE X e (eCall (wpc pr k) i wA)) : SdE X e (eCall Q i wA) := hP ▸ h
end
end WL
set_option Elab.async false
set_option linter.all false
set_option maxRecDepth 100000
set_option maxHeartbeats 4000000
/-! list(zip(a, b)): a new list of new tuples -/
namespace L2
open PySem PySem.Spec PyProof.Rows
section
variable {prog : Program} {w : World} {A : Around} {E : Value → Shared → Prop} {s : Shared} {zb : Bool} {z TI TO i1 i2 l1 l2 : Addr} {xs ys : Array Value}
/-- tuples that were made -/
abbrev Prs (h : Heap) (as : List Addr) (ps : List (Value × Value)) : Prop := Paired (fun a p => IsPair h a p.1 p.2) as ps
end
section
variable {X : Cx} {pins : List (Addr × Obj)} {σ : St} {H : Hp} {s : Shared}
/-- many objects laid at once -/
theorem Inv.laids {H' : Hp} {h' : Heap} {t' : Nat} (I : Inv X pins σ H s) (k : ∀ b u, s.heap.get? b = some u → h'.get? b = some u) (old : ∀ a o, H a = some o → H' a = some o) (low : ∀ a, a < s.heap.objs.size → H' a = H a)
    (new : ∀ a o, s.heap.objs.size ≤ a → H' a = some o → ObjOk X.prog X.w H' h' a o) : Inv X pins σ H' { s with heap := h', toks := t' } := by
  refine I.un ⟨fun b o q _ _ _ => k b o q, fun b o q _ _ _ => ⟨o.slots, k b o q⟩, fun b o q n _ => (low b (Heap.lt_size q)).trans n, fun b o q _ => ⟨o, k b o q⟩, fun b xs q => old b _ q, fun b o u q => old b _ q, fun b ps q => ⟨#[], by rw [old b _ q]; simp⟩⟩ fun a o e => ?_
  by_cases c : s.heap.objs.size ≤ a
  · exact new a o c e
  · rw [low a (by omega)] at e
    exact (I.hok a o e).stay (fun b u _ q => k b u q) (fun b q => old b _ q) fun b xs q => old b _ q
/-- the new tuples -/
def updP (H : Hp) : List Addr → List (V × V) → Hp
  | a :: as, p :: ps => updP (upd H a (.tup [p.1, p.2])) as ps
  | _, _ => H
theorem updP_ne {a : Addr} : ∀ {as : List Addr} {ps : List (V × V)} {H : Hp}, a ∉ as → updP H as ps a = H a
  | [], _, _, _ => by unfold updP; rfl
  | _ :: _, [], _, _ => by unfold updP; rfl
  | b :: as, p :: ps, H, h => by
    unfold updP
    rw [updP_ne fun z => h (List.mem_cons_of_mem _ z)]
    exact upd_ne fun z => h (by rw [z]; exact List.mem_cons_self ..)
theorem updP_at {a : Addr} {o : HO} : ∀ {as : List Addr} {ps : List (V × V)} {H : Hp}, as.Nodup → a ∈ as → as.length = ps.length → updP H as ps a = some o → ∃ (i : Nat) (p : V × V), as[i]? = some a ∧ ps[i]? = some p ∧ o = .tup [p.1, p.2]
  | [], _, _, _, h, _, _ => by cases h
  | _ :: _, [], _, _, _, h, _ => by cases h
  | b :: as, p :: ps, H, nd, h, hl, e => by
    unfold updP at e
    obtain ⟨n1, n2⟩ := List.nodup_cons.mp nd
    by_cases c : a ∈ as
    · obtain ⟨i, p', h1, h2, h3⟩ := updP_at n2 c (by simpa using hl) e
      exact ⟨i + 1, p', by simpa using h1, by simpa using h2, h3⟩
    · obtain rfl : a = b := (List.mem_cons.mp h).resolve_right c
      rw [updP_ne c, upd_same] at e
      exact ⟨0, p, rfl, rfl, (Option.some.inj e).symm⟩
end
end L2
set_option Elab.async false
set_option linter.all false
set_option maxRecDepth 100000
set_option maxHeartbeats 4000000
/-! the second level: list(zip(a, b)) of two tuples -/
namespace WL
open PySem PySem.Spec PyProof.Rows L2
def prT (xs ys : List T) : List T := (xs.zip ys).map fun z => .tup [z.1, z.2]
theorem lz_sim {K : PySem.W.Frag} {F : Hp} {C : Hw} : ∀ {as : List Addr} {vs us : List V} {xs ys : List T} {H : Hp}, as.Nodup → as.length = vs.length → vs.length = us.length → (∀ a ∈ as, H a = none) → Rl K F H C → Reps K H vs xs → Reps K H us ys →
    Rl K F (updP H as (vs.zip us)) C ∧ Tx H (updP H as (vs.zip us)) ∧ Reps K (updP H as (vs.zip us)) (as.map V.ref) (prT xs ys)
  | [], vs, us, xs, ys, H, _, h1, h2, _, R, r1, r2 => by
    cases vs with
    | cons _ _ => cases h1
    | nil =>
      have e : xs = [] := by have := r1.length; exact List.length_eq_zero_iff.mp this.symm
      subst e
      unfold updP
      exact ⟨R, Tx.refl H, reps_nil⟩
  | a :: as, [], us, xs, ys, H, _, h1, _, _, _, _, _ => by cases h1
  | a :: as, v :: vs, [], xs, ys, H, _, _, h2, _, _, _, _ => by cases h2
  | a :: as, v :: vs, u :: us, xs, ys, H, nd, h1, h2, hn, R, r1, r2 => by
    cases xs with
    | nil => have := r1.length; cases this
    | cons x xs =>
    cases ys with
    | nil => have := r2.length; cases this
    | cons y ys =>
    obtain ⟨_, _, e1, a1, b1⟩ := of_cons r1
    cases e1
    obtain ⟨_, _, e2, a2, b2⟩ := of_cons r2
    cases e2
    obtain ⟨n1, n2⟩ := List.nodup_cons.mp nd
    have hp := hn a (List.mem_cons_self ..)
    have tn : Tx H (upd H a (.tup [v, u])) := Tx.new hp
    rw [List.zip_cons_cons]
    show Rl K F (updP (upd H a (.tup [v, u])) as (vs.zip us)) C ∧ Tx H (updP (upd H a (.tup [v, u])) as (vs.zip us)) ∧ Reps K (updP (upd H a (.tup [v, u])) as (vs.zip us)) (V.ref a :: as.map V.ref) (.tup [x, y] :: prT xs ys)
    obtain ⟨q1, q2, q3⟩ := lz_sim (as := as) (vs := vs) (us := us) (H := upd H a (.tup [v, u])) n2 (by simpa using h1) (by simpa using h2) (fun b hb => by
      rw [upd_ne fun z => n1 (by rw [← z]; exact hb)]; exact hn b (List.mem_cons_of_mem _ hb)) (R.hid hp) (b1.tx tn) (b2.tx tn)
    refine ⟨q1, tn.trans q2, reps_cons ?_ q3⟩
    exact (rep_tup (SqT.of upd_same) (reps_cons (a1.tx tn) (reps_cons (a2.tx tn) reps_nil))).tx q2
section
variable {X : Cx} {a c : Expr} {wA : WA} {p pos p2 pos2 : Pos}
end
end WL
set_option Elab.async false
set_option linter.all false
set_option maxRecDepth 100000
set_option maxHeartbeats 4000000
/-! d.setdefault(k, x) -/
namespace L2
open PySem PySem.Spec PyProof.Rows
section
variable {X : Cx} {pins : List (Addr × Obj)} {σ : St} {H : Hp} {s : Shared} {a : Addr} {kvs : List (Key × V)} {A : Around} {E : Value → Shared → Prop} {k : Key} {u r : Value} {y : V}
end
section
variable {X : Cx} {o e f : Expr} {apos cpos : Pos} {td ty tx : TE}
end
end L2
set_option Elab.async false
set_option linter.all false
set_option maxRecDepth 100000
set_option maxHeartbeats 4000000
/-! the second level: d.setdefault(k, x) -/
namespace WL
open PySem PySem.Spec PyProof.Rows L2
section
variable {X : Cx} {o e f : Expr} {wo wi wd : WE} {apos cpos : Pos}
/-- o.setdefault(i, d) -/
def eDsd (o i d : WE) : WE := fun τ C Q χ => o τ C (fun x C1 => (∃ a kvs, x = .ref a ∧ C1 a = some (.dic kvs)) ∧ i τ C1 (fun y C2 => d τ C2 (fun z C3 => ∃ a kvs k, x = .ref a ∧ kT y = some k ∧ C3 a = some (.dic kvs) ∧ kvs.length < sizeLine ∧
  (∀ v, getT kvs k = some v → Q v C3) ∧ (getT kvs k = none → Q z (up C3 a (.dic (putT kvs k z))))) χ) χ) χ
end
end WL
set_option Elab.async false
set_option linter.all false
set_option maxRecDepth 100000
set_option maxHeartbeats 4000000
/-! the second level: C() without arguments -/
namespace WL
open PySem PySem.Spec PyProof.Rows L2
section
variable {X : Cx} {k i j : Nat} {pr : List Df} {cn : Str} {p pos : Pos}
end
end WL
set_option Elab.async false
set_option linter.all false
set_option maxRecDepth 100000
set_option maxHeartbeats 4000000
/-! t[lo:hi] that is the whole of a tuple: the tuple itself -/
namespace HT
open PySem PySem.Spec PyProof.Rows
section
variable {prog : Program} {w : World} {A : Around} {E : Value → Shared → Prop} {s : Shared}
end
end HT
namespace L2
open PySem PySem.Spec PyProof.Rows
section
variable {X : Cx}
end
end L2
set_option Elab.async false
set_option linter.all false
set_option maxRecDepth 100000
set_option maxHeartbeats 4000000
/-! the second level: t[lo:hi] of a tuple, the whole of it too -/
namespace WL
open PySem PySem.Spec PyProof.Rows L2
section
variable {X : Cx} {a : Expr} {wa : WE} {pos : Pos}
end
end WL
set_option Elab.async false
set_option linter.all false
set_option maxRecDepth 100000
set_option maxHeartbeats 4000000
/-! for a, b in d.items(): from then on the dict is read alone -/
namespace L2
open PySem PySem.Spec PyProof.Rows
theorem KV.at {κ : Type} [DecidableEq κ] {kvs : List (κ × V)} {vs : List (κ × Value)} (r : KV kvs vs) : ∀ {i : Nat} {x : κ × V} {y : κ × Value}, kvs[i]? = some x → vs[i]? = some y → x.1 = y.1 ∧ RelV x.2 y.2 := by
  unfold KV at r
  induction r with
  | nil => intro i x y h; cases h
  | cons h t ih =>
    intro i x y h1 h2
    cases i with
    | zero => cases h1; cases h2; exact h
    | succ i => exact ih h1 h2
def Iti (o : Obj) (d : Addr) (ks : List (Key × V)) : It :=
  ⟨fun i H => H d = some (.frz o (.dK ks)) ∧ i < ks.length, fun i H x H' => ∃ kv T, ks[i]? = some kv ∧ x = .ref T ∧ H T = none ∧ H' = upd H T (.tup [kV kv.1, kv.2]), fun i H => H d = some (.frz o (.dK ks)) ∧ i = ks.length⟩
theorem entry_itemiter : entryFor table "dict_itemiterator.__iter__" = some Builtin.«dict_keyiterator.__iter__» :=
  entryFor_alias (id' := "dict_keyiterator.__iter__") (by kernel_rfl) rfl (by decide +kernel) (by kernel_rfl)
theorem turn_items {P : Program} {w : World} {K : PySem.W.Frag} {elts : List Expr} {ek : Nat} {epos : Pos} {d it : Addr} {o : Obj} {es : Array DictEntry} {ep : Nat} {ks : List (Key × V)} (hod : o.data = .dict es ep) :
    Turn P w K (.Tuple elts ek epos) (Iti o d ks) [it] it (fun i h => ∃ a b, IsItemIter h it d i ks.length ep a b) where
  mem := by simp
  obj := fun i h st b hb => by
    have e : b = it := by simpa using hb
    subst e
    obtain ⟨u, v, st⟩ := st
    exact ⟨_, st, fun v z => by have z' : Data.fields _ = Data.cell v := z; cases z'⟩
  keep := fun i h h' st k => by
    obtain ⟨u, v, st⟩ := st
    exact ⟨u, v, k it (by simp) _ st⟩
  item := by
    intro X hP hw hK hc i pins s σ H E I hf st hg
    subst hP hw hK
    obtain ⟨hH, hi⟩ := hg
    obtain ⟨ho, z, sm, vs, rel, o', es', ep', e', xd, dd, kk, pp, nn⟩ := (show ObjOk X.prog X.w H s.heap d (.frz o (.dK ks)) from I.hok d _ hH)
    rw [ho] at e'
    cases e'
    rw [hod] at dd
    cases dd
    have hD : s.heap.DictAt (mixKind X.prog X.w) d vs ep := ⟨o, es, ho, xd, hod, kk, pp, nn⟩
    have hl : ks.length = vs.length := rel.length
    obtain ⟨⟨k1, v1⟩, hx⟩ : ∃ y, vs[i]? = some y := ⟨vs[i]'(by omega), by simp [show i < vs.length by omega]⟩
    have hk : ks[i]? = some ks[i] := by simp [hi]
    obtain ⟨r1, r2⟩ := rel.at hk hx
    obtain ⟨f0, f1, f2, f3, f4, f5⟩ := hf it (by simp)
    obtain ⟨a0, b0, st⟩ := st
    rw [hl] at st
    refine wpAny_pyNext_items_item st hD hx fun key h' hkey st' htup hsz kk1 => ⟨_, rfl, wpAny_letOwnedTupleGo_items st' fun h2 st2 sb2 => ?_⟩
    have hTi : s.heap.objs.size ≠ it := Nat.ne_of_gt (Heap.lt_size st)
    have k2 : ∀ c o, c ≠ it → s.heap.get? c = some o → h2.get? c = some o := fun c o hb q => sb2.extBut c o hb (kk1 c o hb q)
    have htup2 : h2.get? s.heap.objs.size = some { cls := .type "tuple", data := .seq #[key, v1] } := sb2.extBut _ _ hTi htup
    have hTn : H s.heap.objs.size = none := I.hok.fresh (Nat.le_refl _)
    have hne : ∀ c, c < s.heap.objs.size → c ≠ s.heap.objs.size := fun c hb => Nat.ne_of_lt hb
    have tracked : ∀ c u, H c = some u → c ≠ s.heap.objs.size ∧ c ≠ it := fun c u q => ⟨hne c (I.hok.lt q), fun z => by rw [z, f0] at q; cases q⟩
    have I1 : Inv X pins σ (upd H s.heap.objs.size (.tup [kV ks[i].1, ks[i].2])) { s with heap := h2, gens := s.gens, drawn := s.drawn, toks := s.toks } := by
      refine I.step (ch := [it]) (fun c hb => ?_) (fun c o _ _ hc q _ => k2 c o (by simpa using hc) q) (fun c o _ _ hc q _ => ⟨o.slots, k2 c o (by simpa using hc) q⟩) (fun c o hc q n => by rw [upd_ne (hne c (Heap.lt_size q))]; exact n) (fun c o hc q => ⟨o, k2 c o (by simpa using hc) q⟩)
        (fun c xs q => by rw [upd_ne (tracked c _ q).1]; exact q) (fun c o u q => by rw [upd_ne (tracked c _ q).1]; exact q) (fun c ps q => ⟨#[], by rw [upd_ne (tracked c _ q).1, q]; simp⟩) (fun m hm => ?_) (fun c u q => ?_) I.bare
      · obtain ⟨f0, f1, f2, f3, f4, f5⟩ := hf c hb
        exact ⟨f3, f1, f4, f5⟩
      · obtain ⟨o, es, ep, ho, r⟩ := hm
        exact ⟨o, es, ep, k2 _ o (fun z => f1 z.symm) ho, r⟩
      · by_cases hb : c = s.heap.objs.size
        · subst hb
          rw [upd_same] at q; cases q
          refine ⟨Nat.le_trans (by decide : 2 ≤ 1000) (Nat.le_of_lt (small1000 (Nat.le_refl _))), [key, v1], .cons ?_ (.cons r2 .nil), ⟨_, htup2, rfl, _, rfl⟩⟩
          rw [r1]
          exact is_kV hkey
        · rw [upd_ne hb] at q
          refine (I.hok c u q).stay (fun d v hd r => k2 d v ?_ r) (fun d r => by rw [upd_ne (tracked d _ r).1]; exact r) fun d xs r => by rw [upd_ne (tracked d _ r).1]; exact r
          rcases hd with rfl | hd
          · exact (tracked d _ q).2
          · exact (tracked d _ hd).2
    rw [← hl] at st2
    refine ⟨.ref s.heap.objs.size, _, I1, rfl, ⟨_, _, hk, rfl, hTn, rfl⟩, ⟨_, _, st2⟩, fun c hb => ?_⟩
    have e : c = it := by simpa using hb
    subst e
    rw [upd_ne hTi.symm]; exact f0
  done := by
    intro X hP hw hK hc i pins s σ H E I hf st hg
    subst hP hw hK
    obtain ⟨hH, hi⟩ := hg
    obtain ⟨ho, z, sm, vs, rel, o', es', ep', e', xd, dd, kk, pp, nn⟩ := (show ObjOk X.prog X.w H s.heap d (.frz o (.dK ks)) from I.hok d _ hH)
    rw [ho] at e'
    cases e'
    rw [hod] at dd
    cases dd
    have hD : s.heap.DictAt (mixKind X.prog X.w) d vs ep := ⟨o, es, ho, xd, hod, kk, pp, nn⟩
    have hl : ks.length = vs.length := rel.length
    obtain ⟨f0, f1, f2, f3, f4, f5⟩ := hf it (by simp)
    obtain ⟨a0, b0, st⟩ := st
    rw [hl] at st
    exact wpAny_pyNext_items_end (I.ok.hd hc) st hD (by simp; omega) fun h' eb => ⟨rfl, I.turned (t' := s.toks) (fun b o hb e => eb b o hb e) f0 f1 f3 f4 f5⟩
  self := fun A i s Q E st h => by
    obtain ⟨a, b, st⟩ := st
    have hT : s.TypeIs (.ref it) "dict_itemiterator" := ⟨_, st, rfl⟩
    refine wpAny_pyIter_slot hT PySem.F.slot_dict_itemiterator_iter (wpAny_call_entry PySem.F.slot_dict_itemiterator_iter hT entry_itemiter ?_ (PySem.F.args_dict_itemiterator_iter_1 _))
    show wpAny _ _ (ret (.ref it)) _ _ s
    exact wpAny_pure ⟨_, rfl, "dict_itemiterator", _, hT, PySem.F.slot_dict_itemiterator_next.lookup, h⟩
section
variable {X : Cx} {e : Expr} {elts : List Expr} {ek : Nat} {epos apos cpos : Pos}
/-- for a, b in e.items(), e a dict -/
def iDit (td : TE) : TI := fun σ H R => td σ H fun x H1 => ∃ d ks, x = .ref d ∧ Rd H1 d (.dK ks) ∧ ∀ o, (∀ o', H1 d = some (.frz o' (.dK ks)) → o' = o) → R (Iti o d ks) (upd H1 d (.frz o (.dK ks)))
theorem pi_items {td : TE} (he : PE X e td) (hbase : attributeBase e "items" X.env (eval e X.env) = eval e X.env := by rfl) (hline : (apos.endLine == cpos.line) = true := by rfl) :
    PI X (.Tuple elts ek epos) (.Call (.Attribute e "items" apos) [] [] cpos) (iDit td) := by
  intro pins s σ H R I h
  refine wpAny_Call_method0_late hbase hline (thn (he pins s σ H _ I h) fun v s1 ⟨x, H1, I1, r1, q1⟩ => ?_)
  obtain ⟨d, ks, rfl, hr, q⟩ := q1
  cases r1
  obtain ⟨t1, t2, hdS⟩ := isD_at I1 (.inl ⟨ks, hr⟩)
  refine ⟨"dict", "dict.items", PySem.F.plainAttrs_dict, PySem.F.slot_dict_items, PySem.F.type_dict_items, t1, t2, Calls.callWith_builtin rfl (PySem.evalArgs_none ?_)⟩
  obtain ⟨z, sm, vs, rel, o, es, ep, ho, xd, dd, kk, pp, nn⟩ := dk_rd I1.hok hr
  have hD : s1.heap.DictAt (mixKind X.prog X.w) d vs ep := ⟨o, es, ho, xd, dd, kk, pp, nn⟩
  have hl : ks.length = vs.length := rel.length
  have huniq : ∀ o', H1 d = some (.frz o' (.dK ks)) → o' = o := fun o' e => by
    have := (show ObjOk X.prog X.w H1 s1.heap d (.frz o' (.dK ks)) from I1.hok d _ e).1
    rw [ho] at this; exact (Option.some.inj this).symm
  have I2 : Inv X pins σ (upd H1 d (.frz o (.dK ks))) s1 := by
    rcases hr with hr | ⟨o', hr⟩
    · exact I1.freeze hr ho
    · have e := huniq o' hr
      subst e
      have : upd H1 d (.frz o' (.dK ks)) = H1 := by
        funext b
        by_cases hb : b = d
        · subst hb; rw [upd_same, hr]
        · rw [upd_ne hb]
      rw [this]; exact I1
  refine call_meetsIn PySem.F.slot_dict_items t1 PySem.F.entry_dict_items (PySem.F.args_dict_items_1 _) (meets_dict_items (mixKind X.prog X.w) d hdS) ⟨⟨vs, o, es, ep, ho, xd, dd, kk, pp, nn⟩, ?_⟩
  have hV : Heap.IsItemsView (s1.heap.push { cls := .type "dict_items", data := .fields #[.ref d] }) s1.heap.objs.size d := ⟨_, Heap.get?_push_size _ rfl, rfl, rfl⟩
  have hD2 : Heap.DictAt (mixKind X.prog X.w) (s1.heap.push { cls := .type "dict_items", data := .fields #[.ref d] }) d vs ep := hD.at' fun o e => Heap.get?_push_of_some _ e
  have I3 : Inv X pins σ (upd H1 d (.frz o (.dK ks))) { s1 with heap := s1.heap.push { cls := .type "dict_items", data := .fields #[.ref d] } } := I2.kept (t' := s1.toks) fun b o e => Heap.get?_push_of_some _ e
  refine wpAny_pyIter_items (s := { s1 with heap := s1.heap.push { cls := .type "dict_items", data := .fields #[.ref d] } }) hV hD2 ?_
  refine ⟨_, [_], _, _, _, rfl, I3.kept (t' := s1.toks) fun b o e => Heap.get?_push_of_some _ e, turn_items dd, ?_, fun b hb => ?_, q o huniq⟩
  · rw [hl]
    exact ⟨_, _, Heap.get?_push_size _ rfl⟩
  · have e := List.mem_singleton.mp hb
    subst e
    exact I3.fpOk (Nat.le_refl _) (I3.hok.fresh (Nat.le_refl _))
end
end L2
set_option Elab.async false
set_option linter.all false
set_option maxRecDepth 100000
set_option maxHeartbeats 4000000
/-! for a, b in d.items() -/
namespace WL
open PySem PySem.Spec PyProof.Rows L2
section
variable {X : Cx} {e : Expr} {we : WE}
def rI (kvs : List (Key × T)) : List T := kvs.map fun kv => .tup [tK kv.1, kv.2]
def iDi (e : WE) : WI := fun τ C R χ => e τ C (fun x C1 => ∃ d kvs, x = .ref d ∧ RdC C1 d kvs ∧ R (rI kvs) (fun C2 => C2 d = some (.fdic kvs)) (up C1 d (.fdic kvs))) χ
theorem it_items {K : PySem.W.Frag} {F H0 : Hp} {d : Addr} {o : Obj} {ks : List (Key × V)} {kvs : List (Key × T)} (hH : H0 d = some (.frz o (.dK ks))) (pr : PR K H0 ks kvs) : ItRel K F H0 (Iti o d ks) (rI kvs) (fun C => C d = some (.fdic kvs)) := fun i H C R t ok => by
  have h1 : H d = some (.frz o (.dK ks)) := t d _ hH trivial
  have hl : ks.length = kvs.length := PR.length pr
  have hr : (rI kvs).length = kvs.length := by unfold rI; simp
  refine ⟨fun hi => ⟨⟨h1, by omega⟩, fun x H' h => ?_⟩, fun hi => ⟨h1, by omega⟩⟩
  obtain ⟨kv, Tt, hk, rfl, hT, rfl⟩ := h
  obtain ⟨q, h2, h3, h4⟩ := pr_at pr hk
  refine ⟨.tup [tK kv.1, q.2], ?_, R.hid hT, Tx.new hT, rep_tup (SqT.of upd_same) (reps_cons ((rep_tK _).tx (Tx.new hT)) (reps_cons ((h4.tx t).tx (Tx.new hT)) reps_nil))⟩
  unfold rI
  rw [List.getElem?_map, h2, h3]; rfl
theorem di_items {elts : List Expr} {ek : Nat} {epos apos cpos : Pos} (he : SdE X e we) (hbase : attributeBase e "items" X.env (eval e X.env) = eval e X.env := by rfl) (hline : (apos.endLine == cpos.line) = true := by rfl) :
    SdI X (.Tuple elts ek epos) (.Call (.Attribute e "items" apos) [] [] cpos) (iDi we) := by
  obtain ⟨t, p1, s⟩ := he
  refine ⟨_, pi_items p1 hbase hline, fun F H C σ τ R R' χ Rr S h q => ?_⟩
  refine s F H C σ τ _ _ χ Rr S h fun x v H1 C1 R1 t1 rx h1 => ?_
  obtain ⟨d, kvs, rfl, hC, h1⟩ := h1
  cases of_ref rx
  obtain ⟨ks, hH, pr⟩ := R1.rd hC
  refine ⟨d, ks, rfl, hH, fun o ho => ?_⟩
  obtain ⟨R2, t2⟩ := R1.frz hC hH ho pr
  exact q _ _ _ _ _ R2 (t1.trans t2) (fun F' => it_items upd_same (pr_tx t2 pr)) h1
end
end WL
set_option Elab.async false
set_option linter.all false
set_option maxRecDepth 100000
set_option maxHeartbeats 4000000
/-! sum of a list of whole numbers, of any size -/
namespace L2
open PySem PySem.Spec PyProof.Rows
end L2
set_option Elab.async false
set_option linter.all false
set_option maxRecDepth 100000
set_option maxHeartbeats 4000000
/-! the second level: sum of a list of whole numbers, of any size -/
namespace WL
open PySem PySem.Spec PyProof.Rows L2
section
variable {X : Cx}
end
end WL
set_option Elab.async false
set_option linter.all false
set_option maxRecDepth 100000
set_option maxHeartbeats 4000000
/-! the second level: list.clear -/
namespace WL
open PySem PySem.Spec PyProof.Rows L2
section
variable {X : Cx}
def mClear : T → List T → Hw → WK → Prop := fun x vs C Q => ∃ a xs, x = .ref a ∧ vs = [] ∧ C a = some (.lst xs) ∧ Q .non (up C a (.lst []))
theorem m_clear : MtS X "list.clear" mClear := ⟨_, mt_clear, fun F H C x v xs vs Q Q' R rx rs h q => by
  obtain ⟨a, ts, rfl, rfl, hx, h⟩ := h
  cases of_ref rx
  cases of_nil rs
  obtain ⟨ys, hy, r⟩ := R.lst hx
  obtain ⟨R', t⟩ := R.putL hx reps_nil
  exact ⟨a, ys, rfl, rfl, hy, q _ _ _ _ R' t rep_non h⟩⟩
end
end WL
set_option Elab.async false
set_option linter.all false
set_option maxRecDepth 100000
set_option maxHeartbeats 4000000
/-! for k, x in enumerate(a list) -/
namespace L2
open PySem PySem.Spec PyProof.Rows
open AutoSeq1 (wpAny_loadPart')
section
variable {prog : Program} {w : World} {A : Around} {E : Value → Shared → Prop} {s : Shared}
end
section
variable {X : Cx} {elts : List Expr} {ek : Nat} {epos : Pos}
end
end L2
set_option Elab.async false
set_option linter.all false
set_option maxRecDepth 100000
set_option maxHeartbeats 4000000
/-! the second level: for k, x in enumerate(a list) -/
namespace WL
open PySem PySem.Spec PyProof.Rows L2
section
variable {X : Cx} {a : Expr} {wA : WA} {p pos : Pos}
end
end WL
set_option Elab.async false
set_option linter.all false
set_option maxRecDepth 100000
set_option maxHeartbeats 4000000
/-! zip where the first one may be the shorter -/
namespace L2
open PySem PySem.Spec PyProof.Rows Builtin
section
variable {prog : Program} {w : World} {A : Around} {E : Value → Shared → Prop} {s : Shared} {z TI TO i1 i2 : Addr} {f1 f2 : List Addr} {n n2 : Nat} {P1 P2 : Nat → Value → Prop} {S1 S2 : Nat → Heap → Prop}
end
section
variable {X : Cx} {elts : List Expr} {ek : Nat} {epos : Pos}
end
end L2
set_option Elab.async false
set_option linter.all false
set_option maxRecDepth 100000
set_option maxHeartbeats 4000000
/-! the second level: zip where the first one may be the shorter -/
namespace WL
open PySem PySem.Spec PyProof.Rows L2
section
variable {X : Cx} {a b : Expr} {wA : WA} {p pos : Pos}
end
end WL
set_option Elab.async false
set_option linter.all false
set_option maxRecDepth 100000
set_option maxHeartbeats 400000
/-! classes: made without an __init__, a method taken from the class, isinstance of own classes -/
namespace L2
open PySem PySem.Spec PyProof.Rows
section
variable {X : Cx} {C : Addr} {x : Str} {p pos : Pos}
structure Mk0 (K : PySem.W.Frag) (C : Addr) : Prop where
  makes : PySem.W.makesIn K C = true
  init : PySem.W.findIn K (.ref C) "__init__" = some (some (.builtin "object.__init__"))
  kp : PySem.W.keepIn K (.ref C) = true
end
section
variable {X : Cx} {CX : CXT} {k : Nat} {f C : Addr} {fd : FuncData} {ps : List Str} {sp : Sp} {E : XK} {x m : Str} {p pos apos : Pos} {e : Expr} {es : List Expr} {t : TA} {ds : List Value} {dvs : List V}
/-- what a class must have to be asked for a method -/
structure Ck (K : PySem.W.Frag) (C : Addr) (m : Str) (f : Addr) : Prop where
  ga : PySem.W.specialIn K (.ref C) "__getattribute__" = some (some (.builtin "type.__getattribute__"))
  rd : ∃ mc, PySem.W.readsIn K C mc = true ∧ PySem.W.findCls K (.ref C) mc m = some (.val (.ref f))
  kp : PySem.W.keepIn K (.ref f) = true
end
section
variable {X : Cx}
/-- what a class must have for isinstance of its objects -/
structure Ik (K : PySem.W.Frag) (C : Addr) : Prop where
  pg : PySem.W.plainGet K C "__class__" = true
  hd : PySem.W.hasDictIn K C = true
  at_ : PySem.W.findIn K (.ref C) "__class__" = some (some (.builtin "object.__class__"))
  gt : PySem.W.specialIn K (.builtin "object.__class__") "__get__" = some (some (.builtin "getset_descriptor.__get__"))
  tk : PySem.W.takesIn K (.builtin "object.__class__") = some true
  ob : PySem.W.mroIn K C (.type "object") = some true
end
end L2
set_option Elab.async false
set_option linter.all false
set_option maxRecDepth 100000
set_option maxHeartbeats 4000000
/-! for x in range(a, b, c), c a small number above 0 -/
namespace L2
open PySem PySem.Spec PyProof.Rows
/-- how many numbers range(a, b, c) has -/
def many3 (lo hi c : Int) : Nat := if lo < hi then ((hi - lo - 1) / c + 1).toNat else 0
section
variable {X : Cx} {tg : Expr}
end
end L2
set_option Elab.async false
set_option linter.all false
set_option maxRecDepth 100000
set_option maxHeartbeats 4000000
namespace L2
open PySem PySem.Spec PyProof.Rows
section
variable {X : Cx} {tg : Expr}
end
end L2
set_option Elab.async false
set_option linter.all false
set_option maxRecDepth 100000
set_option maxHeartbeats 4000000
/-! the second level: for x in range(a, b, c) -/
namespace WL
open PySem PySem.Spec PyProof.Rows L2
section
variable {X : Cx} {a b d tg : Expr} {wA : WA} {p pos : Pos}
end
end WL
set_option Elab.async false
set_option linter.all false
set_option maxRecDepth 100000
set_option maxHeartbeats 4000000
/-! a text times a number -/
namespace L2
open PySem PySem.Spec PyProof.Rows
end L2
set_option Elab.async false
set_option linter.all false
set_option maxRecDepth 100000
set_option maxHeartbeats 4000000
/-! the second level: a text times a number -/
namespace WL
open PySem PySem.Spec PyProof.Rows L2
section
variable {X : Cx}
end
end WL
set_option Elab.async false
set_option linter.all false
set_option maxRecDepth 100000
set_option maxHeartbeats 4000000
/-! sum of a list of whole numbers -/
namespace L2
open PySem PySem.Spec PyProof.Rows
end L2
set_option Elab.async false
set_option linter.all false
set_option maxRecDepth 100000
set_option maxHeartbeats 4000000
/-! the second level: sum of a list of whole numbers -/
namespace WL
open PySem PySem.Spec PyProof.Rows L2
theorem reps_ints' {K : PySem.W.Frag} {H : Hp} : ∀ {ns : List Int} {ys : List V}, Reps K H ys (ns.map T.int) → ys = ns.map V.int
  | [], ys, h => by cases of_nil h; rfl
  | n :: ns, ys, h => by
    have hl := h.length
    match ys, hl with
    | y :: ys, _ =>
      obtain ⟨y', e, r⟩ := h.get (i := 0) rfl
      cases e
      cases of_int r
      have := reps_ints' (ns := ns) (h.drop 1)
      have e2 : ys = ns.map V.int := this
      rw [e2]; rfl
section
variable {X : Cx}
end
end WL
set_option Elab.async false
set_option linter.all false
set_option maxRecDepth 100000
set_option maxHeartbeats 4000000
/-! x[lo:hi:c] of a list -/
namespace L2
open PySem PySem.Spec PyProof.Rows
/-- the things of xs[lo:hi:c] -/
def stepCut {α : Type} (xs : List α) (lo hi st : Option Int) : List α :=
  (sliceRange (sliceBounds lo hi st xs.length).1 (sliceBounds lo hi st xs.length).2.1 (sliceBounds lo hi st xs.length).2.2).filterMap (xs[·]?)
section
variable {X : Cx} {e : Expr} {te : TE} {lo hi : Option Expr} {st : Expr} {tl th tc : TO} {pos p2 : Pos}
end
end L2
set_option Elab.async false
set_option linter.all false
set_option maxRecDepth 100000
set_option maxHeartbeats 4000000
/-! the second level: x[lo:hi:c] of a list -/
namespace WL
open PySem PySem.Spec PyProof.Rows L2
section
variable {X : Cx} {a st : Expr} {wa : WE} {pos p2 : Pos}
end
end WL
set_option Elab.async false
set_option linter.all false
set_option maxRecDepth 100000
set_option maxHeartbeats 400000
/-! the second level: classes over classes: C() without an __init__, B.__init__(self, ..), isinstance of own classes -/
namespace WL
open PySem PySem.Spec PyProof.Rows L2
/-- an object of the class, without attributes -/
def eMk0 (cn : Str) : WE := fun _ C Q _ => ∀ p, C p = none → Q (.ref p) (up C p (.ins cn []))
def C0 (K : PySem.W.Frag) (mg : Str → Option Value) (cn : Str) : Prop := ∃ Cl, ClsAt K cn Cl ∧ mg cn = some (.ref Cl) ∧ Mk0 K Cl
/-- a method taken from the class of the name cn -/
def Cb (P : Program) (w : World) (K : PySem.W.Frag) (mg : Str → Option Value) (base : Heap) (n : Nat) (cn m : Str) (ps : List Str) (sp : L2.Sp) : Prop :=
  ∃ Cl f fd, mg cn = some (.ref Cl) ∧ Ck K Cl m f ∧ FnOk P w K mg base CX0 n f fd ps sp ∧ Binds K fd ps []
/-- isinstance(e, c), e an object of an own class: by its class's name -/
def eIsI (tab : List (Str × Bool)) (a : WE) : WE := fun τ C Q χ => a τ C (fun y C1 => ∃ p cn fs b, y = .ref p ∧ C1 p = some (.ins cn fs) ∧ tab.lookup cn = some b ∧ Q (.bl b) C1) χ
section
variable {K : PySem.W.Frag} {D Cl : Addr} {c : Str} {b : Bool} {tab : List (Str × Bool)}
end
section
variable {X : Cx} {k i : Nat} {x cn m : Str} {ps : List Str} {pr : List Df} {p pos apos q2 : Pos} {a e : Expr} {es : List Expr} {wa : WE} {wA : WA} {tab : List (Str × Bool)}
end
end WL
set_option Elab.async false
set_option linter.all false
set_option maxRecDepth 100000
set_option maxHeartbeats 400000
/-! list.index on a list of ints -/
namespace L2
open PySem PySem.Spec PyProof.Rows
section
variable {X : Cx}
theorem ints_vals {vs : List Value} : ∀ {xs : List Int}, Vals (xs.map V.int) vs → IntsAre vs xs := by
  intro xs h
  induction xs generalizing vs with
  | nil => cases h; exact .nil
  | cons x r ih =>
    cases h with
    | cons a b =>
      obtain ⟨t, rfl⟩ := a
      exact .cons x t (ih b)
end
end L2
set_option Elab.async false
set_option linter.all false
set_option maxRecDepth 100000
set_option maxHeartbeats 400000
/-! list(d.values()) -/
namespace L2
open PySem PySem.Spec PyProof.Rows
section
variable {X : Cx} {e : Expr}
end
end L2
set_option Elab.async false
set_option linter.all false
set_option maxRecDepth 100000
set_option maxHeartbeats 400000
/-! the second level: list.index of ints -/
namespace WL
open PySem PySem.Spec PyProof.Rows L2
variable {X : Cx}
/-- list(d.values()) -/
def eLvs (o : WE) : WE := fun τ C Q χ => o τ C (fun x C1 => ∃ a kvs, x = .ref a ∧ RdC C1 a kvs ∧ ∀ p, C1 p = none → Q (.ref p) (up C1 p (.lst (kvs.map (·.2))))) χ
/-- C(..) with the last of its values by default: v -/
def CnD (P : Program) (w : World) (K : PySem.W.Frag) (mg : Str → Option Value) (base : Heap) (n : Nat) (pr : List Df) (cn : Str) (i j : Nat) (v : Int) : Prop :=
  (∃ ar, pr[j]? = some ⟨ar, ar, wNew cn i⟩) ∧ ∃ Cl f, ClsAt K cn Cl ∧ mg cn = some (.ref Cl) ∧ L2.Mk K Cl f ∧ (n = 0 ∨ ∃ k fd ps u, n = k + 1 ∧ FnOk P w K mg base CX0 k f fd ps (spW K pr k i) ∧ RelV (V.int v) u ∧ Binds K fd ps [u])
section
variable {k i j : Nat} {pr : List Df} {cn : Str} {p pos : Pos} {e : Expr} {es : List Expr} {wA : WA} {v : Int}
/-- __init__ and its default -/
def CmD (P : Program) (w : World) (K : PySem.W.Frag) (mg : Str → Option Value) (base : Heap) (n : Nat) (cn : Str) (ps : List Str) (sp : L2.Sp) (v : Int) : Prop :=
  ∃ Cl f fd u, ClsAt K cn Cl ∧ Meth K Cl "__init__" f ∧ FnOk P w K mg base CX0 n f fd ps sp ∧ RelV (V.int v) u ∧ Binds K fd ps [u]
end
end WL
set_option Elab.async false
set_option linter.all false
set_option maxRecDepth 100000
set_option maxHeartbeats 4000000
/-! the second level: list(zip(a, b)) of two lists -/
namespace WL
open PySem PySem.Spec PyProof.Rows L2
section
variable {X : Cx} {a c : Expr} {wA : WA} {p pos p2 pos2 : Pos}
end
end WL
set_option Elab.async false
set_option linter.all false
set_option maxRecDepth 100000
set_option maxHeartbeats 4000000
/-! sorted(set(l)) of a list without items -/
namespace L2
open PySem PySem.Spec PyProof.Rows
def byTx0 (w : World) : Bool := w.params.followText "set-order"
section
variable {prog : Program} {w : World} {A : Around} {E : Value → Shared → Prop} {s : Shared}
abbrev freshSet0 (w : World) : Obj := { cls := .type "set", dict := none, data := .set #[] 0 (.fresh 0 0 (!byTx0 w)) }
end
section
variable {prog : Program} {w : World} {A : Around} {E : Value → Shared → Prop} {s : Shared}
end
section
variable {X : Cx} {pins : List (Addr × Obj)} {s : Shared} {σ : St} {H : Hp}
/-- a set without items -/
def setE (w : World) (a : Addr) : HO := .ext fun h => h.get? a = some (freshSet0 w)
end
end L2
set_option Elab.async false
set_option linter.all false
set_option maxRecDepth 100000
set_option maxHeartbeats 4000000
/-! sorted(set(l)) of a list that is empty -/
namespace WL
open PySem PySem.Spec PyProof.Rows L2
section
variable {X : Cx} {e : Expr} {we : WE} {pos p p2 pos2 : Pos}
end
end WL
set_option Elab.async false
set_option linter.all false
set_option maxRecDepth 100000
set_option maxHeartbeats 4000000
/-! list(range(a, b)) -/
namespace L2
open PySem PySem.Spec PyProof.Rows
section
variable {X : Cx}
end
end L2
set_option Elab.async false
set_option linter.all false
set_option maxRecDepth 100000
set_option maxHeartbeats 4000000
/-! the second level: list.reverse, list(range(a, b)) -/
namespace WL
open PySem PySem.Spec PyProof.Rows L2
section
variable {X : Cx} {a b : Expr} {wA : WA} {p pos p2 pos2 : Pos}
/-- x, y = a, b with two names -/
def sPar (i j : Nat) (wa : WA) : WS := fun D τ C => wa τ C (fun vs C1 => ∃ v w, vs = [v, w] ∧ D.nx ((τ.set i (some v)).set j (some w)) C1) D.xc
end
end WL
set_option Elab.async false
set_option linter.all false
set_option maxRecDepth 100000
set_option maxHeartbeats 400000
/-! sorted(l, key=lambda x: x * m % (k + y)), y a name of the def around -/
namespace L2
open PySem PySem.Spec PyProof.Rows
section
variable {prog : Program} {w : World} {A : Around} {s : Shared}
/-- what a key's function has done: nothing but new objects -/
def KeyEnd (k : Int) (s : Shared) (v : Value) (s' : Shared) : Prop :=
  ∃ h' tk t', s' = { s with heap := h', toks := tk } ∧ v = .int k t' ∧ ∀ b o, s.heap.get? b = some o → h'.get? b = some o
theorem lam_call {f c' cc : Addr} {x y qual : Str} {params : Arguments} {scope : Scope} {cl : List (Str × Addr)} {pm ctv : Value} {n out m k : Int} {t to : Tok} {k1 k2} {p1 p2 p3 p4 p5 p6 p7 : Pos}
    (ho : s.heap.get? f = some (PySem.W.kla_obj "<lambda>" qual params (.BinOp (.BinOp (.Name x p1) .Mult (.Constant (.int m) k1 p2) p3) .Mod (.BinOp (.Constant (.int k) k2 p4) .Add (.Name y p5) p6) p7) scope cl pm c' ctv))
    (hcd : s.heap.CodeRec (.ref c') qual) (hroom : A.depth < recursionLimit) (hlim : s.heap.NoLimit) (hco : scope.isCoroutine = false) (hgen : scope.isGenerator = false) (hk : scope.kind = .function) (hc : ∀ z ∈ scope.names, z.2 ≠ .cell)
    (hx : scope.names.lookup x = some .local) (hy : scope.names.lookup y = some .free) (hcl : cl.lookup y = some cc) (hcell : s.heap.IsCell cc (some (.int out to)))
    (hbind : ∀ v : Value, bindArgs (PySem.W.kla_fn "<lambda>" qual params (.BinOp (.BinOp (.Name x p1) .Mult (.Constant (.int m) k1 p2) p3) .Mod (.BinOp (.Constant (.int k) k2 p4) .Add (.Name y p5) p6) p7) scope cl pm (.ref c') ctv) ⟨[v], []⟩ = pure [(x, v)])
    (hm : -(2 ^ 64) < m ∧ m < 2 ^ 64) (hpos : 0 < k + out) (dx : (x == ("__debug__" : Str)) = false) (dy : (y == ("__debug__" : Str)) = false) (cy : (y == ("__classdict__" : Str)) = false) :
    wpAny (model prog w) A (call (.ref f) [.int n t]) (KeyEnd (n * m % (k + out)) s) (fun _ _ => False) s := by
  refine wpAny_call (PySem.W.kla_callFunE hroom ho rfl hco hgen rfl hcd ?_)
  rw [hbind]
  refine wpAny_pure ?_
  refine wpAny_newFunctionEnv hc (fun z hz => by rw [List.mem_singleton.mp hz]; exact hx) (fun h' hns hsb => ?_) hk
  have keep : ∀ b o, s.heap.get? b = some o → h'.get? b = some o := fun b o e => (hsb.2 b (Nat.ne_of_lt (Heap.lt_size e))).trans (Heap.get?_push_of_some _ e)
  have hcell' : h'.IsCell cc (some (.int out to)) := by
    obtain ⟨o, e, d⟩ := hcell
    exact ⟨o, keep _ _ e, d⟩
  refine ⟨hlim.keeps keep, PySem.W.kla_codeExpr ?_⟩
  refine wpAny_BinOp (wpAny_BinOp (wpAny_Name (wpAny_loadName_local (m := fun z => [(x, Value.int n t)].reverse.lookup z) hk hx hns (v := .int n t) (by simp) ?_) dx))
  refine wpAny_Constant_int ?_
  refine mul_int ?_ (CMul.ok (.inr hm))
  refine wpAny_BinOp (wpAny_Constant_int (wpAny_Name (wpAny_loadName_free hk hy hcl hcell' ?_ cy) dy))
  refine add_int ?_
  refine mod_int' (by omega) ?_
  rw [Int.fmod_eq_emod_of_nonneg _ (by omega)]
  exact ⟨h', _, _, rfl, rfl, keep⟩
/-- all objects but one -/
def others (h : Heap) (L : Addr) : List (Addr × Obj) := (List.range h.objs.size).filterMap fun b => if b = L then none else (h.get? b).map fun o => (b, o)
theorem mem_others {h : Heap} {L b : Addr} {o : Obj} (e : h.get? b = some o) (n : b ≠ L) : (b, o) ∈ others h L :=
  List.mem_filterMap.mpr ⟨b, List.mem_range.mpr (Heap.lt_size e), by rw [if_neg n, e]; rfl⟩
theorem of_others {h : Heap} {L : Addr} {p : Addr × Obj} (m : p ∈ others h L) : h.get? p.1 = some p.2 ∧ p.1 ≠ L := by
  obtain ⟨b, _, e⟩ := List.mem_filterMap.mp m
  by_cases n : b = L
  · rw [if_pos n] at e; cases e
  · rw [if_neg n] at e
    cases q : h.get? b with
    | none => rw [q] at e; cases e
    | some o => rw [q] at e; cases e; exact ⟨q, n⟩
theorem sort_key {L f l : Addr} {m : Str → Option Value} {vs : List Value} {ns : List Int} {E : Value → Shared → Prop} {Q : Value → Shared → Prop} (g : Int → Int) (hL : s.heap.Ns L m) (hl : s.heap.IsList l vs.toArray) (hi : IntsAre vs ns) (h64 : ns.length < 64)
    (turn : ∀ (n : Int) (t : Tok) (h : Heap) (tk : Nat), n ∈ ns → (∀ b o, b ≠ L → s.heap.get? b = some o → h.get? b = some o) → h.Ns L m → wpAny (model prog w) A.in1.in1 (call (.ref f) [.int n t]) (KeyEnd (g n) { s with heap := h, toks := tk }) (fun _ _ => False) { s with heap := h, toks := tk })
    (done : ∀ D vs' ns' c h' tk, (∀ b o, b ≠ L → s.heap.get? b = some o → h'.get? b = some o) → h'.Ns L m → D ≠ L → s.heap.get? D = none → h'.get? D = some (PySem.W.listOf (List.toArray vs') c) → IntsAre vs' ns' → ns'.Perm ns → Q (.ref D) { s with heap := h', toks := tk }) :
    wpAny (model prog w) A (call (.builtin "sorted") [.ref l] [(Str.ofString "key", .ref f)]) Q E s := by
  have h0 : ∀ b, ({ s.heap with objs := #[] } : Heap).get? b = none := fun b => Heap.get?_none_of_le (Nat.zero_le _)
  have keepO : ∀ (h : Heap) (own : List (Addr × Obj)), News { s.heap with objs := #[] } L h (others s.heap L ++ own) → ∀ b o, b ≠ L → s.heap.get? b = some o → h.get? b = some o := fun h own N b o n e => (N (b, o) (List.mem_append_left _ (mem_others e n))).1
  refine PyProof.Rows.ksk_letter (b := false) (f := .ref f) (h₀ := { s.heap with objs := #[] }) (L := L) (m := m) (news := others s.heap L) g ⟨hL, fun b o e => (by rw [h0] at e; cases e), Nat.zero_le _⟩ (fun p hp => ⟨(of_others hp).1, (of_others hp).2, h0 _⟩) hl hi h64 (PyProof.Rows.ksk_s1 _ _) (fun x => PyProof.Rows.ksk_l1 _ _) (fun x => PyProof.Rows.ksk_t1 f x) ?_ ?_
  · intro n t h tk own hn F N
    refine wpAny_mono (turn n t h tk hn (keepO h own N) F.ns) (fun v s' he => ?_) fun _ _ z => z
    obtain ⟨h', tk', t', rfl, rfl, keep⟩ := he
    obtain ⟨o, es, ep, e1, r⟩ := F.ns
    exact ⟨h', tk', t', rfl, rfl, ⟨⟨o, es, ep, keep _ _ e1, r⟩, fun b o e => (by rw [h0] at e; cases e), Nat.zero_le _⟩, fun p hp => ⟨keep _ _ (N p hp).1, (N p hp).2⟩⟩
  · intro D vs' ns' c h' tk F N lt hI _ hP _ _
    have nD := N (D, PySem.W.listOf (List.toArray vs') c) (List.mem_cons_self ..)
    refine done D vs' ns' c h' tk (fun b o n e => (N (b, o) (List.mem_cons_of_mem _ (mem_others e n))).1) F.ns nD.2.1 ?_ nD.1 hI hP
    cases q : s.heap.get? D with
    | none => rfl
    | some o => exact absurd (lt (D, o) (mem_others q nD.2.1)) (Nat.lt_irrefl _)
end
/-- the builtins' module, as a new function asks for it -/
def Bm (mg : Str → Option Value) (h : Heap) : Prop := ∃ bm ob, mg "__builtins__" = some (.ref bm) ∧ bm ≠ builtinsNs ∧ h.get? bm = some ob ∧ ob.cls = .type "module" ∧ ob.dict = some builtinsNs ∧ ob.data = .plain
/-- the table of a code stands at P -/
def TbK (K : PySem.W.Frag) (cdv : Value) (P : Addr) : Prop := ∃ c, cdv = .ref c ∧ PySem.W.codeHdIn K c P = true
def skQ (P : Addr) (j : Nat) (k : Int) (σ : St) (Q : VK) (x : V) (H1 : Hp) : Prop := ∃ (a : Addr) (ns : List Int) (out : Int), x = .ref a ∧ H1 a = some (.lst (ns.map V.int)) ∧ ns.length < 64 ∧ σ[j]? = some (some (.int out)) ∧ 0 < k + out ∧ H1 P = some (.tbl #[]) ∧
  ∀ q ns' tb, H1 q = none → List.Perm ns' ns → Q (.ref q) (upd (upd H1 P (.tbl tb)) q (.lst (ns'.map V.int)))
def tSortKey (P : Addr) (j : Nat) (k : Int) (ta : TE) : TE := fun σ H Q => ta σ H fun x H1 => skQ P j k σ Q x H1
section
variable {X : Cx} {e : Expr} {ta : TE} {pins : List (Addr × Obj)} {σ : St} {H : Hp} {s : Shared}
theorem ObjOk.some {P : Program} {w : World} {H : Hp} {h : Heap} {a : Addr} {o : HO} (x : ObjOk P w H h a o) : ∃ ob, h.get? a = Option.some ob := by
  cases o with
  | lst xs => obtain ⟨_, _, _, _, e⟩ := x; exact ⟨_, e⟩
  | tup xs => obtain ⟨_, _, _, ⟨o, e, _⟩⟩ := x; exact ⟨_, e⟩
  | dK kvs => obtain ⟨_, _, _, _, o, _, _, e, _⟩ := x; exact ⟨_, e⟩
  | dT kvs => obtain ⟨_, _, _, _, o, _, _, e, _⟩ := x; exact ⟨_, e⟩
  | set S n => obtain ⟨o, _, _, _, e, _⟩ := x; exact ⟨_, e⟩
  | ins C dx fs => obtain ⟨_, _, _, e, _⟩ := x; exact ⟨_, e⟩
  | own y => obtain ⟨_, e⟩ := x; exact ⟨_, e⟩
  | xd fs => obtain ⟨_, ⟨_, _, _, e, _⟩, _⟩ := x; exact ⟨_, e⟩
  | rng lo hi => obtain ⟨_, _, _, e⟩ := x; exact ⟨_, e⟩
  | frz ob u => obtain ⟨e, _⟩ := x; exact ⟨_, e⟩
  | tbl ps => exact ⟨_, show h.get? a = Option.some _ from x⟩
  | met f y => exact ⟨_, show h.get? a = Option.some _ from x⟩
  | ext φ => obtain ⟨_, ⟨_, e⟩, _⟩ := x; exact ⟨_, e⟩
/-- the table has grown -/
theorem Inv.grow {P : Addr} {tb : Array Value} {h' : Heap} {t' : Nat} (I : Inv X pins σ H s) (hP : H P = some (.tbl #[])) (k : ∀ b o, b ≠ P → s.heap.get? b = some o → h'.get? b = some o) (g : h'.get? P = some { cls := .none, data := .fields tb }) :
    Inv X pins σ (upd H P (.tbl tb)) { s with heap := h', toks := t' } := by
  have np : ∀ b, H b = none → b ≠ P := fun b n z => by rw [z, hP] at n; cases n
  have no : ∀ b u, H b = some u → u ≠ .tbl #[] → b ≠ P := fun b u e n z => by rw [z, hP] at e; cases e; exact n rfl
  refine I.step (g' := s.gens) (d' := s.drawn) (ch := []) (fun _ z => nomatch z) (fun b o _ _ _ e n => k b o (np b n) e) (fun b o _ _ _ e n => ⟨o.slots, k b o (np b n) e⟩) (fun b o _ e n => by rw [upd_ne (np b n)]; exact n) (fun b o _ e => ?_)
    (fun b xs e => by rw [upd_ne (no b _ e (by simp))]; exact e) (fun b o u e => by rw [upd_ne (no b _ e (by simp))]; exact e) (fun b ps e => ?_) (fun m hm => ?_) (fun b u e => ?_) I.bare
  · by_cases hb : b = P
    · exact ⟨_, hb ▸ g⟩
    · exact ⟨o, k b o hb e⟩
  · by_cases hb : b = P
    · subst hb
      rw [hP] at e; cases e
      exact ⟨tb, by rw [upd_same]; simp⟩
    · exact ⟨#[], by rw [upd_ne hb, e]; simp⟩
  · obtain ⟨o, es, ep, ho, r⟩ := hm
    exact ⟨o, es, ep, k _ o (np _ I.free) ho, r⟩
  · by_cases hb : b = P
    · subst hb
      rw [upd_same] at e; cases e
      exact g
    · rw [upd_ne hb] at e
      refine (I.hok b u e).stay (fun c v hc q => k c v ?_ q) (fun c q => by rw [upd_ne (no c _ q (by simp))]; exact q) fun c xs q => by rw [upd_ne (no c _ q (by simp))]; exact q
      rcases hc with rfl | hc
      · exact hb
      · exact no c _ hc (by simp)
/-- a new list, the frame's map kept -/
theorem Inv.newL {D : Addr} {xs : List V} {its : List Value} {n : Nat} {m : Str → Option Value} {h' : Heap} {t' : Nat} (I : Inv X pins σ H s) (hm : s.heap.Ns X.env.locals m) (hm' : h'.Ns X.env.locals m) (k : ∀ b o, b ≠ X.env.locals → s.heap.get? b = some o → h'.get? b = some o)
    (nD : D ≠ X.env.locals) (fD : s.heap.get? D = none) (g : h'.get? D = some { cls := .type "list", data := .seq its.toArray n }) (r : Vals xs its) (hl : xs.length ≤ sizeLine) :
    H D = none ∧ Inv X pins σ (upd H D (.lst xs)) { s with heap := h', toks := t' } := by
  have hD : H D = none := by
    cases q : H D with
    | none => rfl
    | some u =>
      obtain ⟨o, e⟩ := (I.hok D u q).some
      rw [fD] at e; cases e
  have nb : ∀ b o, s.heap.get? b = some o → b ≠ D := fun b o e z => by rw [z, fD] at e; cases e
  have nh : ∀ b u, H b = some u → b ≠ D := fun b u e z => by rw [z, hD] at e; cases e
  have uni : ∀ m', s.heap.Ns X.env.locals m' → m' = m := fun m' hn => by
    obtain ⟨o, es, ep, e, d, _, f⟩ := hn
    obtain ⟨o2, es2, ep2, e2, d2, _, f2⟩ := hm
    rw [e] at e2; cases e2
    rw [d] at d2; cases d2
    funext x
    rw [← f, ← f2]
  refine ⟨hD, I.step (g' := s.gens) (d' := s.drawn) (ch := []) (fun _ z => nomatch z) (fun b o n _ _ e _ => k b o n e) (fun b o n _ _ e _ => ⟨o.slots, k b o n e⟩) (fun b o _ e n => by rw [upd_ne (nb b o e)]; exact n) (fun b o _ e => ?_)
    (fun b xs e => by rw [upd_ne (nh b _ e)]; exact e) (fun b o u e => by rw [upd_ne (nh b _ e)]; exact e) (fun b ps e => ⟨#[], by rw [upd_ne (nh b _ e), e]; simp⟩) (fun m' hn => by rw [uni m' hn]; exact hm') (fun b u e => ?_) I.bare⟩
  · by_cases hb : b = X.env.locals
    · obtain ⟨o', _, _, e', _⟩ := hm'
      exact ⟨o', hb ▸ e'⟩
    · exact ⟨o, k b o hb e⟩
  · by_cases hb : b = D
    · subst hb
      rw [upd_same] at e; cases e
      exact ⟨hl, its, n, r, g⟩
    · rw [upd_ne hb] at e
      refine (I.hok b u e).stay (fun c v hc q => k c v ?_ q) (fun c q => by rw [upd_ne (nh c _ q)]; exact q) fun c xs q => by rw [upd_ne (nh c _ q)]; exact q
      rintro rfl
      rcases hc with rfl | hc
      · rw [I.free] at e; cases e
      · rw [I.free] at hc; cases hc
theorem pe_sortKey {P : Addr} {j : Nat} {x y : Str} {params : Arguments} {scope : Scope} {m k : Int} {k1 k2} {p p1 p2 p3 p4 p5 p6 p7 lp kp pos : Pos}
    (hT : TbK X.K X.env.code P) (hB : Bm X.mg X.base) (ha : PE X e ta) (hg : Gl X "sorted") (hmg : X.mg "sorted" = none)
    (hN : X.N[j]? = some y) (hvy : X.env.scope.names.lookup y = some .cell) (hdef : defaultsOf params X.env = ([], []))
    (hco : scope.isCoroutine = false) (hgen : scope.isGenerator = false) (hk : scope.kind = .function) (hc : scope.names.all (fun z => z.2 != .cell) = true) (hf : (scope.names.all fun z => z.2 != .free || X.env.scope.names.lookup z.1 == some .cell) = true)
    (hx : scope.names.lookup x = some .local) (hy : scope.names.lookup y = some .free) (hym : (y, NameKind.free) ∈ scope.names)
    (hbind : ∀ (qual : Str) (cl : List (Str × Addr)) (pm c' ctv v : Value), bindArgs (PySem.W.kla_fn "<lambda>" qual params (.BinOp (.BinOp (.Name x p1) .Mult (.Constant (.int m) k1 p2) p3) .Mod (.BinOp (.Constant (.int k) k2 p4) .Add (.Name y p5) p6) p7) scope cl pm c' ctv) ⟨[v], []⟩ = pure [(x, v)])
    (hm : -(2 ^ 64) < m ∧ m < 2 ^ 64) (hdp : X.A.depth < recursionLimit) (dx : (x == ("__debug__" : Str)) = false) (dy : (y == ("__debug__" : Str)) = false) (cy : (y == ("__classdict__" : Str)) = false)
    (hst : starEach [e] X.env = (false, eval e X.env) :: starEach [] X.env := by rfl) (he : backTo pos (starEach [e] X.env) = (false, eval e X.env) :: backTo pos (starEach [] X.env) := by rfl) (hpl : (backTo pos (starEach [e] X.env)).any (·.1) = false := by rfl) :
    PE X (.Call (.Name "sorted" p) [e] [⟨some "key", .Lambda params (.BinOp (.BinOp (.Name x p1) .Mult (.Constant (.int m) k1 p2) p3) .Mod (.BinOp (.Constant (.int k) k2 p4) .Add (.Name y p5) p6) p7) scope lp, kp⟩] pos) (tSortKey P j k ta) := by
  intro pins s σ H Q I h
  have hbs : bootBuiltins "sorted" = some (.builtin "sorted") := by decide +kernel
  refine wpAny_Call_Name_kw (ld_blt I hg hmg hbs ?_)
  refine PyProof.Rows.callWith_kw ?_ he hpl
  have pa : PA X [e] (tCons ta tNil) := pa_cons ha pa_nil hst
  refine thn (pa pos pins s σ H (fun vs H1 => match vs with | [x] => skQ P j k σ Q x H1 | _ => False) I h) fun us s1 ⟨vs, H1, I1, r1, q1⟩ => ?_
  match vs, r1, q1 with
  | [], _, q1 => exact q1.elim
  | _ :: _ :: _, _, q1 => exact q1.elim
  | [v], r1, q1 =>
  obtain ⟨a, ns, out, rfl, hal, h64, hσ, hpos, hP, q⟩ := q1
  obtain ⟨u, rfl, ru⟩ := vals1 r1
  cases ru
  clear r1
  show wpAny _ _ (evalAll [do let v ← eval _ X.env; standAt pos; pure v]) _ _ s1
  refine wpAny_evalAll_cons (wpAny_bind (PySem.W.kla_eval hdef ?_))
  obtain ⟨c, hcode, hcd⟩ := hT
  have hfr : ∀ n, (n, NameKind.free) ∈ scope.names → ∃ c, X.env.cells.lookup n = some c := fun n hn => by
    have := List.all_eq_true.mp hf _ hn
    simp only [bne_self_eq_false, Bool.false_or, beq_iff_eq] at this
    exact I.ok.has n (.inl this)
  have hgn : s1.heap.Ns mainGlobals X.mg := I1.mod.glob.keeps I1.bk
  have hPo : s1.heap.get? P = some (PySem.W.tabObj #[]) := I1.hok P _ hP
  have hgP : mainGlobals ≠ P := fun z => by
    obtain ⟨o, es, ep, e1, d, _⟩ := hgn
    rw [z, hPo] at e1; cases e1; cases d
  have hbm : s1.heap.BuiltinsAt X.mg P := by
    obtain ⟨bm, ob, b1, b2, b3, b4, b5, b6⟩ := hB
    have b3' := I1.bk _ _ b3
    refine ⟨bm, ob, b1, b2, fun z => ?_, fun z => ?_, b3', b4, b5, b6⟩
    · obtain ⟨o, es, ep, e1, d, _⟩ := hgn
      rw [z, e1] at b3'; cases b3'; rw [d] at b6; cases b6
    · rw [z, hPo] at b3'; cases b3'; cases b4
  refine PySem.W.kla_makeFunction (mg := X.mg) (closureFor_of hfr) I.ok.glob hgn hcode (PySem.W.codeHd_of_K I1.kIn hcd) hPo trivial rfl hgP hbm fun c' ctv h' tk hext hge hlt hrec htab => ?_
  refine wpAny_bind (wpAny_standAt (wpAny_pure ?_))
  refine wpAny_evalAll_nil ?_
  -- the function is made
  have hP2 : (h'.push (PySem.W.kla_obj "<lambda>" (X.env.qual ++ "<lambda>") params (.BinOp (.BinOp (.Name x p1) .Mult (.Constant (.int m) k1 p2) p3) .Mod (.BinOp (.Constant (.int k) k2 p4) .Add (.Name y p5) p6) p7) scope (closOf X.env.cells scope.names []) ((X.mg "__name__").getD .none) c' ctv)).get? P = some { cls := .none, data := .fields (#[] ++ #[rawInt lp.line, rawInt lp.col, .ref c']) } := Heap.get?_push_of_some _ htab
  have hfo := Heap.get?_push_size h' (o := PySem.W.kla_obj "<lambda>" (X.env.qual ++ "<lambda>") params (.BinOp (.BinOp (.Name x p1) .Mult (.Constant (.int m) k1 p2) p3) .Mod (.BinOp (.Constant (.int k) k2 p4) .Add (.Name y p5) p6) p7) scope (closOf X.env.cells scope.names []) ((X.mg "__name__").getD .none) c' ctv) rfl
  have I2 := I1.grow (t' := tk) hP (fun b o n e => Heap.get?_push_of_some _ (hext b o n e)) hP2
  have hrec2 : (h'.push (PySem.W.kla_obj "<lambda>" (X.env.qual ++ "<lambda>") params (.BinOp (.BinOp (.Name x p1) .Mult (.Constant (.int m) k1 p2) p3) .Mod (.BinOp (.Constant (.int k) k2 p4) .Add (.Name y p5) p6) p7) scope (closOf X.env.cells scope.names []) ((X.mg "__name__").getD .none) c' ctv)).CodeRec (.ref c') (X.env.qual ++ "<lambda>") := by
    obtain ⟨c2, oc, vs, t, e1, e2, e3, e4⟩ := hrec
    exact ⟨c2, oc, vs, t, e1, Heap.get?_push_of_some _ e2, e3, e4⟩
  have naP : a ≠ P := fun z => by rw [z, hP] at hal; cases hal
  have hal2 : upd H1 P (.tbl (#[] ++ #[rawInt lp.line, rawInt lp.col, .ref c'])) a = some (.lst (ns.map V.int)) := by rw [upd_ne naP]; exact hal
  show wpAny (model X.prog X.w) X.A (call (.builtin "sorted") [.ref a] [(Str.ofString "key", .ref h'.objs.size)]) _ _ { s1 with heap := h'.push (PySem.W.kla_obj "<lambda>" (X.env.qual ++ "<lambda>") params (.BinOp (.BinOp (.Name x p1) .Mult (.Constant (.int m) k1 p2) p3) .Mod (.BinOp (.Constant (.int k) k2 p4) .Add (.Name y p5) p6) p7) scope (closOf X.env.cells scope.names []) ((X.mg "__name__").getD .none) c' ctv), toks := tk }
  generalize hS2 : ({ s1 with heap := h'.push (PySem.W.kla_obj "<lambda>" (X.env.qual ++ "<lambda>") params (.BinOp (.BinOp (.Name x p1) .Mult (.Constant (.int m) k1 p2) p3) .Mod (.BinOp (.Constant (.int k) k2 p4) .Add (.Name y p5) p6) p7) scope (closOf X.env.cells scope.names []) ((X.mg "__name__").getD .none) c' ctv), toks := tk } : Shared) = s2 at I2
  have hfo2 := hfo
  have hH2 : s2.heap = h'.push (PySem.W.kla_obj "<lambda>" (X.env.qual ++ "<lambda>") params (.BinOp (.BinOp (.Name x p1) .Mult (.Constant (.int m) k1 p2) p3) .Mod (.BinOp (.Constant (.int k) k2 p4) .Add (.Name y p5) p6) p7) scope (closOf X.env.cells scope.names []) ((X.mg "__name__").getD .none) c' ctv) := by rw [← hS2]
  rw [← hH2] at hfo2 hrec2
  obtain ⟨its, rv, pl, hz⟩ := I2.list (.inl (.of hal2))
  have hI := intsAre_of rv
  obtain ⟨mL, hL, hlk⟩ := I2.loc
  obtain ⟨uo, ro, lo⟩ := hlk j y (.int out) hN hσ (.inr (.inl hvy))
  obtain ⟨to, rfl⟩ := ro
  obtain ⟨cc, hcc, hcell⟩ : ∃ cc, X.env.cells.lookup y = some cc ∧ s2.heap.IsCell cc (some (.int out to)) := by
    rcases lo with ⟨z, _⟩ | ⟨_, cc, h1, h2⟩
    · have : X.env.scope.names.lookup y = some .local := z
      rw [hvy] at this; cases this
    · exact ⟨cc, h1, h2⟩
  have hcl : (closOf X.env.cells scope.names []).lookup y = some cc := by
    obtain ⟨b, hb⟩ := lookup_of_mem (b := (X.env.cells.lookup y).getD 0) (closOf_mem.mpr (.inr ⟨hym, rfl⟩) : (y, (X.env.cells.lookup y).getD 0) ∈ closOf X.env.cells scope.names [])
    have m := PySem.mem_of_lookup hb
    rw [closOf_mem] at m
    rcases m with m | ⟨m, e⟩
    · cases m
    · simp only [hcc, Option.getD_some] at e
      rw [hb, e]
  have nL : ∀ {b : Addr} {o : Obj}, s2.heap.get? b = some o → (∀ es ep, o.data ≠ .dict es ep) → b ≠ X.env.locals := fun {b o} e d z => by
    obtain ⟨o', es, ep, e', d', _⟩ := hL
    rw [z, e'] at e; cases e
    exact d _ _ d'
  refine sort_key (L := X.env.locals) (m := mL) (fun n => n * m % (k + out)) hL (by simpa using pl.isList) hI h64 (fun n t h tk2 hn kp2 hns => ?_) fun D vs' ns' cD hD tk2 kp2 hns nD fD gD hi' hp' => ?_
  · refine lam_call (cc := cc) (to := to) (kp2 _ _ (nL hfo2 (by intro es ep z; cases z)) hfo2) ?_ hdp ?_ hco hgen hk (fun z hz => by have := List.all_eq_true.mp hc z hz; simpa using this) hx hy hcl ?_ (fun v => hbind _ _ _ _ _ v) hm hpos dx dy cy
    · obtain ⟨c2, oc, vs, t, e1, e2, e3, e4⟩ := hrec2
      exact ⟨c2, oc, vs, t, e1, kp2 _ _ (nL e2 (by rw [e3]; intro es ep z; cases z)) e2, e3, e4⟩
    · refine I2.ok.mod.nolimit.keeps fun b o e => kp2 b o (Nat.ne_of_lt (Nat.lt_of_lt_of_le (Heap.lt_size (I2.ok.bs b o e).1) I2.ok.above)) (I2.bk b o e)
    · obtain ⟨o, e1, d⟩ := hcell
      exact ⟨o, kp2 _ _ (nL e1 (by rw [d]; intro es ep z; cases z)) e1, d⟩
  · obtain ⟨hD0, I3⟩ := I2.newL (t' := tk2) (n := cD) hL hns kp2 nD fD gD (vals_ints hi') (by rw [List.length_map, hp'.length_eq]; exact Nat.le_trans (Nat.le_of_lt h64) (by decide))
    refine ⟨.ref D, _, I3, rfl, q D ns' _ ?_ hp'⟩
    by_cases z : D = P
    · rw [z, upd_same] at hD0; cases hD0
    · rw [upd_ne z] at hD0; exact hD0
end
end L2
set_option Elab.async false
set_option linter.all false
set_option maxRecDepth 100000
set_option maxHeartbeats 4000000
/-! the second level: sorted(l, key=lambda x: x * m % (k + y)) -/
namespace WL
open PySem PySem.Spec PyProof.Rows L2
def eSortKey (P : Addr) (j : Nat) (k : Int) (we : WE) : WE := fun τ C Q χ => we τ C (fun v C1 => ∃ (a : Addr) (ns : List Int) (out : Int), v = .ref a ∧ C1 a = some (.lst (ns.map T.int)) ∧ ns.length < 64 ∧ τ[j]? = some (some (.int out)) ∧ 0 < k + out ∧ C1 P = some (.tab true) ∧
  ∀ q (ns' : List Int), C1 q = none → ns'.Perm ns → Q (.ref q) (up (up C1 P (.tab false)) q (.lst (ns'.map T.int)))) χ
section
variable {X : Cx} {e : Expr} {we : WE}
theorem d_sortKey {P : Addr} {j : Nat} {x y : Str} {params : Arguments} {scope : Scope} {m k : Int} {k1 k2} {p p1 p2 p3 p4 p5 p6 p7 lp kp pos : Pos}
    (hT : TbK X.K X.env.code P) (hB : Bm X.mg X.base) (ha : SdE X e we) (hg : Gl X "sorted") (hmg : X.mg "sorted" = none)
    (hN : X.N[j]? = some y) (hvy : X.env.scope.names.lookup y = some .cell) (hdef : defaultsOf params X.env = ([], []))
    (hco : scope.isCoroutine = false) (hgen : scope.isGenerator = false) (hk : scope.kind = .function) (hc : scope.names.all (fun z => z.2 != .cell) = true) (hf : (scope.names.all fun z => z.2 != .free || X.env.scope.names.lookup z.1 == some .cell) = true)
    (hx : scope.names.lookup x = some .local) (hy : scope.names.lookup y = some .free) (hym : (y, NameKind.free) ∈ scope.names)
    (hbind : ∀ (qual : Str) (cl : List (Str × Addr)) (pm c' ctv v : Value), bindArgs (PySem.W.kla_fn "<lambda>" qual params (.BinOp (.BinOp (.Name x p1) .Mult (.Constant (.int m) k1 p2) p3) .Mod (.BinOp (.Constant (.int k) k2 p4) .Add (.Name y p5) p6) p7) scope cl pm c' ctv) ⟨[v], []⟩ = pure [(x, v)])
    (hm : -(2 ^ 64) < m ∧ m < 2 ^ 64) (hdp : X.A.depth < recursionLimit) (dx : (x == ("__debug__" : Str)) = false) (dy : (y == ("__debug__" : Str)) = false) (cy : (y == ("__classdict__" : Str)) = false)
    (hst : starEach [e] X.env = (false, eval e X.env) :: starEach [] X.env := by rfl) (he : backTo pos (starEach [e] X.env) = (false, eval e X.env) :: backTo pos (starEach [] X.env) := by rfl) (hpl : (backTo pos (starEach [e] X.env)).any (·.1) = false := by rfl) :
    SdE X (.Call (.Name "sorted" p) [e] [⟨some "key", .Lambda params (.BinOp (.BinOp (.Name x p1) .Mult (.Constant (.int m) k1 p2) p3) .Mod (.BinOp (.Constant (.int k) k2 p4) .Add (.Name y p5) p6) p7) scope lp, kp⟩] pos) (eSortKey P j k we) := by
  obtain ⟨t, pt, sm⟩ := ha
  refine ⟨_, pe_sortKey hT hB pt hg hmg hN hvy hdef hco hgen hk hc hf hx hy hym hbind hm hdp dx dy cy hst he hpl, fun F H C σ τ Q Q' χ R S h q => ?_⟩
  refine sm F H C σ τ _ _ χ R S h fun u v H1 C1 R1 t1 rx h1 => ?_
  obtain ⟨a, ns, out, rfl, hC, h64, hτ, hpos, hP, h1⟩ := h1
  cases of_ref rx
  obtain ⟨ys, hH, rs⟩ := R1.lst hC
  cases reps_ints' rs
  obtain ⟨z, hz, rz⟩ := S.2 j _ hτ
  cases of_int rz
  obtain ⟨ps, hps, hp0⟩ := (show ORel X.K H1 P (.tab true) from R1.obj P _ hP)
  cases hp0 rfl
  refine ⟨a, ns, out, rfl, hH, h64, hz, hpos, hps, fun q' ns' tb hq hp => ?_⟩
  obtain ⟨R2, t2⟩ := R1.put (u := .tbl tb) (o' := .tab false) hP ⟨tb, upd_same, fun z => by cases z⟩
  have hq2 : upd H1 P (.tbl tb) q' = none := by rw [upd_ne (fun z => by rw [z, hps] at hq; cases hq)]; exact hq
  exact q _ _ _ _ (R2.newL hq2 (reps_ints ns')) ((t1.trans t2).trans (Tx.new hq2)) rep_ref (h1 q' ns' (R1.free hq) hp)
end
end WL
set_option Elab.async false
set_option linter.all false
set_option maxRecDepth 100000
set_option maxHeartbeats 400000
/-! list(d.items()); max of a list of ints; tuples of ints by <= -/
namespace L2
open PySem PySem.Spec PyProof.Rows
section
variable {X : Cx} {e : Expr}
def tLit (td : TE) : TE := fun σ H Q => td σ H fun x H1 => ∃ (d : Addr) (ks : List (Key × V)), x = .ref d ∧ Rd H1 d (.dK ks) ∧ ∀ (as : List Addr) (p : Addr), as.length = ks.length → as.Nodup → p ∉ as → H1 p = none → (∀ a ∈ as, H1 a = none) →
  Q (.ref p) (upd (updP H1 as ((ks.map fun k => kV k.1).zip (ks.map (·.2)))) p (.lst (as.map V.ref)))
theorem vals_refs : ∀ (as : List Addr), Vals (as.map V.ref) (as.map Value.ref)
  | [] => .nil
  | _ :: as => .cons rfl (vals_refs as)
theorem pe_listitems {td : TE} {p pos apos cpos : Pos} (hc : X.calm = true) (hg : Gl X "list") (hm : X.mg "list" = none) (he : PE X e td) (hbase : attributeBase e "items" X.env (eval e X.env) = eval e X.env := by rfl) (hline : (apos.endLine == cpos.line) = true := by rfl)
    (hs2 : starEach [.Call (.Attribute e "items" apos) [] [] cpos] X.env = [(false, eval (.Call (.Attribute e "items" apos) [] [] cpos) X.env)] := by rfl) (hb2 : bootBuiltins "list" = some (.type "list") := by decide +kernel) :
    PE X (.Call (.Name "list" p) [.Call (.Attribute e "items" apos) [] [] cpos] [] pos) (tLit td) := by
  intro pins s σ H Q I h
  refine Call_ (ld_blt I hg hm hb2 (PyProof.Rows.callWith_type1 ?_ hs2 rfl))
  rw [hs2]
  show wpAny _ _ (spliced ((false, eval (.Call (.Attribute e "items" apos) [] [] cpos) X.env) :: backTo pos [])) _ _ s
  refine Calls.spliced_cons (wpAny_Call_method0_late hbase hline (thn (he pins s σ H _ I h) fun v s1 ⟨x, H1, I1, r1, q1⟩ => ?_))
  obtain ⟨d, ks, rfl, hr, q⟩ := q1
  cases r1
  obtain ⟨t1, t2, hdS⟩ := isD_at I1 (.inl ⟨ks, hr⟩)
  refine ⟨"dict", "dict.items", PySem.F.plainAttrs_dict, PySem.F.slot_dict_items, PySem.F.type_dict_items, t1, t2, Calls.callWith_builtin rfl (PySem.evalArgs_none ?_)⟩
  obtain ⟨z, sm, vs, rel, o, es, ep, ho, xd, dd, kk, pp, nn⟩ := dk_rd I1.hok hr
  have hD : s1.heap.DictAt (mixKind X.prog X.w) d vs ep := ⟨o, es, ho, xd, dd, kk, pp, nn⟩
  have hl : ks.length = vs.length := rel.length
  refine call_meetsIn PySem.F.slot_dict_items t1 PySem.F.entry_dict_items (PySem.F.args_dict_items_1 _) (meets_dict_items (mixKind X.prog X.w) d hdS) ⟨⟨vs, o, es, ep, ho, xd, dd, kk, pp, nn⟩, ?_⟩
  have hV : Heap.IsItemsView (s1.heap.push { cls := .type "dict_items", data := .fields #[.ref d] }) s1.heap.objs.size d := ⟨_, Heap.get?_push_size _ rfl, rfl, rfl⟩
  have hD2 : Heap.DictAt (mixKind X.prog X.w) (s1.heap.push { cls := .type "dict_items", data := .fields #[.ref d] }) d vs ep := hD.at' fun o e => Heap.get?_push_of_some _ e
  refine Calls.spliced_nil ?_
  refine PySem.W.kdx_call (s := { s1 with heap := s1.heap.push { cls := .type "dict_items", data := .fields #[.ref d] } }) (I.ok.hd hc) hV hD2 (by omega) fun h' tk acc c as k hN la hG hacc => ?_
  have hsz : (s1.heap.push { cls := .type "dict_items", data := .fields #[.ref d] }).objs.size = s1.heap.objs.size + 1 := Heap.size_push ..
  rw [hsz] at hN hG
  have fr : ∀ a, s1.heap.objs.size ≤ a → H1 a = none := fun a e => I1.hok.fresh e
  have ab : ∀ a ∈ as, s1.heap.objs.size + 1 < a := hG.above
  have pa : s1.heap.objs.size + 1 ∉ as := fun z => Nat.lt_irrefl _ (ab _ z)
  have nd : as.Nodup := hG.rise.imp fun h => Nat.ne_of_lt h
  have lz : as.length = ((ks.map fun k => kV k.1).zip (ks.map (·.2))).length := by rw [List.length_zip, List.length_map, List.length_map]; omega
  have ea : as.map Value.ref = acc.toList := hacc.symm
  show EP X pins σ Q _ _
  rw [hsz]
  refine ⟨.ref _, _, I1.laids (H' := upd (updP H1 as ((ks.map fun k => kV k.1).zip (ks.map (·.2)))) (s1.heap.objs.size + 1) (.lst (as.map V.ref))) (h' := h') (t' := tk) (fun b o e => k b o (Heap.get?_push_of_some _ e)) (fun a o e => ?_) (fun a e => ?_) (fun a o e q2 => ?_), rfl,
    q as _ (by omega) nd pa (fr _ (Nat.le_succ _)) fun a e => fr a (Nat.le_of_lt (Nat.lt_trans (Nat.lt_succ_self _) (ab a e)))⟩
  · have e1 : a ≠ s1.heap.objs.size + 1 := ne_of_none e (fr _ (Nat.le_succ _))
    rw [upd_ne e1, updP_ne fun z => ?_]
    · exact e
    · rw [fr a (Nat.le_of_lt (Nat.lt_trans (Nat.lt_succ_self _) (ab a z)))] at e; cases e
  · have e1 : a ≠ s1.heap.objs.size + 1 := Nat.ne_of_lt (Nat.lt_succ_of_lt e)
    rw [upd_ne e1, updP_ne fun z => Nat.lt_irrefl a (Nat.lt_trans (Nat.lt_trans e (Nat.lt_succ_self _)) (ab a z))]
  · by_cases c' : a = s1.heap.objs.size + 1
    · subst c'
      rw [upd_same] at q2
      cases q2
      refine ⟨by rw [List.length_map]; omega, as.map Value.ref, c, vals_refs as, ?_⟩
      rw [ea, Array.toArray_toList]; exact hN
    · rw [upd_ne c'] at q2
      by_cases ha : a ∈ as
      · obtain ⟨i, pr, h1, h2, rfl⟩ := updP_at nd ha lz q2
        obtain ⟨key, kx, x, h3, h4, h5⟩ := hG.pairs i a h1
        have hi : i < ks.length := by
          have := (List.getElem?_eq_some_iff.mp h3).1
          omega
        have hk : ks[i]? = some ks[i] := by simp [hi]
        obtain ⟨r1, r2⟩ := rel.at hk h3
        have e2 : pr = (kV ks[i].1, ks[i].2) := by
          rw [List.getElem?_zip_eq_some] at h2
          rw [List.getElem?_map, List.getElem?_map, hk] at h2
          simp only [Option.map_some, Option.some.injEq] at h2
          exact Prod.ext h2.1.symm h2.2.symm
        subst e2
        refine ⟨Nat.le_trans (by decide : 2 ≤ 1000) (Nat.le_of_lt (small1000 (Nat.le_refl _))), [key, x], .cons ?_ (.cons r2 .nil), ⟨_, h5, rfl, _, rfl⟩⟩
        rw [r1]
        exact is_kV h4
      · rw [updP_ne ha, fr a e] at q2; cases q2
/-- all kept but the frame's own object, its map kept -/
theorem Inv.keptL {pins : List (Addr × Obj)} {σ : St} {H : Hp} {s : Shared} {m : Str → Option Value} {h' : Heap} {t' : Nat} (I : Inv X pins σ H s) (hm : s.heap.Ns X.env.locals m) (hm' : h'.Ns X.env.locals m) (k : ∀ b o, b ≠ X.env.locals → s.heap.get? b = some o → h'.get? b = some o) :
    Inv X pins σ H { s with heap := h', toks := t' } := by
  have uni : ∀ m', s.heap.Ns X.env.locals m' → m' = m := fun m' hn => by
    obtain ⟨o, es, ep, e, d, _, f⟩ := hn
    obtain ⟨o2, es2, ep2, e2, d2, _, f2⟩ := hm
    rw [e] at e2; cases e2
    rw [d] at d2; cases d2
    funext x
    rw [← f, ← f2]
  refine I.step (g' := s.gens) (d' := s.drawn) (ch := []) (fun _ z => nomatch z) (fun b o n _ _ e _ => k b o n e) (fun b o n _ _ e _ => ⟨o.slots, k b o n e⟩) (fun b o _ e n => n) (fun b o _ e => ?_)
    (fun b xs e => e) (fun b o u e => e) (fun b ps e => ⟨#[], by rw [e]; simp⟩) (fun m' hn => by rw [uni m' hn]; exact hm') (fun b u e => ?_) I.bare
  · by_cases hb : b = X.env.locals
    · obtain ⟨o', _, _, e', _⟩ := hm'
      exact ⟨o', hb ▸ e'⟩
    · exact ⟨o, k b o hb e⟩
  · refine (I.hok b u e).stay (fun c v hc q => k c v ?_ q) (fun c q => q) fun c xs q => q
    rintro rfl
    rcases hc with rfl | hc
    · rw [I.free] at e; cases e
    · rw [I.free] at hc; cases hc
theorem call_maxL (hc : X.calm = true) : CallR X (.builtin "max") (fun xs H Q => ∃ (p : Addr) (ts : List Int), xs = [.ref p] ∧ SqL X.K H p (ts.map V.int) ∧ 0 < ts.length ∧ ∀ M, M ∈ ts → (∀ a ∈ ts, a ≤ M) → Q (.int M) H) := by
  intro pins s σ H xs us Q I r h
  obtain ⟨p, ts, rfl, hp, hb, q⟩ := h
  obtain ⟨u, rfl, ru⟩ := vals1 r
  cases ru
  obtain ⟨its, rv, pl, hz⟩ := I.list hp
  obtain ⟨mL, hL, _⟩ := id I.loc
  have h0 : ∀ b, ({ s.heap with objs := #[] } : Heap).get? b = none := fun b => Heap.get?_none_of_le (Nat.zero_le _)
  refine max_list_N (h₀ := { s.heap with objs := #[] }) (L := X.env.locals) (m := mL) (news := others s.heap X.env.locals) (I.ok.hd hc) ⟨hL, fun b o e => (by rw [h0] at e; cases e), Nat.zero_le _⟩ (fun p hp => ⟨(of_others hp).1, (of_others hp).2, h0 _⟩) (by simpa using pl.isList) (intsAre_of rv) hb fun h' M t tk F N hM hmx => ?_
  exact ⟨.int M, H, I.keptL (t' := tk) hL F.ns fun b o n e => (N (b, o) (mem_others e n)).1, ⟨t, rfl⟩, q M hM hmx⟩
theorem vals_by : ∀ {xs : List V} {us : List Value}, xs.length = us.length → (∀ (i : Nat) x u, xs[i]? = some x → us[i]? = some u → RelV x u) → Vals xs us
  | [], [], _, _ => .nil
  | [], _ :: _, h, _ => by cases h
  | _ :: _, [], h, _ => by cases h
  | x :: xs, u :: us, h, r => .cons (r 0 x u rfl rfl) (vals_by (by simpa using h) fun i y v e1 e2 => r (i + 1) y v (by simpa using e1) (by simpa using e2))
theorem call_listK (hc : X.calm = true) : CallR X (.type "list") (fun xs H Q => ∃ (p : Addr) (kvs : List (Key × V)), xs = [.ref p] ∧ Rd H p (.dK kvs) ∧ ∀ q, H q = none → Q (.ref q) (upd H q (.lst (kvs.map fun k => kV k.1)))) := by
  intro pins s σ H xs us Q I r h
  obtain ⟨p, kvs, rfl, hp, q⟩ := h
  obtain ⟨u, rfl, ru⟩ := vals1 r
  cases ru
  obtain ⟨hz, lo, vs, hkv, hD⟩ := hp.ok I.hok
  obtain ⟨ep, hat⟩ := hD.dictAt
  have hlen2 : kvs.length = vs.length := Paired.length hkv
  refine PySem.W.kdl_call (PySem.W.kdl_dict (knd := mixKind X.prog X.w) (kvs := vs) (ep := ep) lo) (I.ok.hd hc) hat (by omega) fun h' tk acc c k hN hI => ?_
  have hS : Vals (kvs.map fun k => kV k.1) acc.toList := by
    refine vals_by (by have e1 := hI.1; have e2 : acc.toList.length = acc.size := Array.length_toList; rw [List.length_map]; omega) fun j x v hx hv => ?_
    obtain ⟨k, x', hx', hi⟩ := hI.2 j v (by rw [← Array.getElem?_toList]; exact hv)
    rw [List.getElem?_map] at hx
    cases e : kvs[j]? with
    | none => rw [e] at hx; cases hx
    | some kv =>
      rw [e] at hx
      cases hx
      obtain ⟨r1, _⟩ := KV.at hkv e hx'
      show RelV (kV kv.1) v
      rw [r1]
      exact is_kV hi
  refine ⟨.ref _, _, I.laid (h' := h') (t' := tk) (fun b o e => k b o e) (Nat.le_refl _) (show ObjOk X.prog X.w _ h' _ (.lst (kvs.map fun k => kV k.1)) from ⟨by rw [List.length_map]; omega, acc.toList, c, hS, hN⟩), rfl, q _ (I.hok.fresh (Nat.le_refl _))⟩
end
end L2
set_option Elab.async false
set_option linter.all false
set_option maxRecDepth 100000
set_option maxHeartbeats 4000000
/-! tuples of ints by <= (made of Lay's text for <) -/
namespace HT
open PySem PySem.Spec PyProof.Rows
def lexLe : List Int → List Int → Bool
  | [], _ => true
  | _ :: _, [] => false
  | a :: r, c :: r' => if a = c then lexLe r r' else decide (a ≤ c)
theorem lexLe_nil {l : List Int} : lexLe [] l = true := by unfold lexLe; rfl
theorem lexLe_cons_nil {a : Int} {r : List Int} : lexLe (a :: r) [] = false := by unfold lexLe; rfl
theorem lexLe_cons {a c : Int} {r r' : List Int} : lexLe (a :: r) (c :: r') = if a = c then lexLe r r' else decide (a ≤ c) := by rw [lexLe]
theorem rcLe_int (A : Around) (s : Shared) (a : Int) (t : Tok) (c : Int) (u : Tok) (prog : Program) (w : World) (E : Value → Shared → Prop) (Q : Value → Shared → Prop) (h : Q (.bool (decide (a ≤ c))) s) :
    wpAny (model prog w) A (richCompare .LtE (.int a t) (.int c u)) Q E s :=
  (PyProof.Rows.le_int h : wpAny (model prog w) A (compareOp .LtE (.int a t) (.int c u)) Q E s)
section
open PySem.SeqAt
open PySem.AutoSeq1 (wpAny_loadPart')
open PySem.MeetsSeq PySem.MeetsSeq2 PySem.MeetsSeq3
theorem tuple_le_ints (l b : Addr) (items items2 : Array Value) (n n2 : Nat) (dd dd2 : Option Addr) (sl sl2 : Array (Option Value)) (ns ms : List Int) (hi : IntsAre items.toList ns) (hj : IntsAre items2.toList ms) :
    Meets (Builtin.«tuple.__le__» ⟨[.ref l, .ref b], []⟩)
      (fun _ R s => s.heap.get? l = some { cls := .type "tuple", dict := dd, data := .seq items n, slots := sl } ∧ s.heap.get? b = some { cls := .type "tuple", dict := dd2, data := .seq items2 n2, slots := sl2 } ∧
        R (.ok (.ret (.bool (lexLe ns ms)))) s) :=
  .of_wp fun prog w A R s h => by
    obtain ⟨hp, g, d, tk, os⟩ := s; obtain ⟨hl, hb, h⟩ := h
    have f2 := AutoSeq1.sub_tuple_tuple
    have z1 : items.size = ns.length := by rw [← hi.length]; simp
    have z2 : items2.size = ms.length := by rw [← hj.length]; simp
    wp_walk using wpAny_loadPart' hl, wpAny_loadPart' hb, wpAny_forIn_list _ (fun rest b s' => b.1 = none ∧ s' = ⟨hp, g, d, tk, os⟩ ∧ ∃ (vs ws : List Value) (ns' ms' : List Int), rest = vs.zip ws ∧
      IntsAre vs ns' ∧ IntsAre ws ms' ∧ ns'.length + items2.size = ms'.length + items.size ∧ R (.ok (.ret (.bool (lexLe ns' ms')))) ⟨hp, g, d, tk, os⟩) _
    case turn =>
      rintro ⟨y, x⟩ rest b s' ⟨hb', rfl, vs, ws, ns', ms', hz, hvi, hwi, hlen, hR⟩
      cases hvi with
      | nil => rw [List.zip_nil_left] at hz; cases hz
      | cons a t hvi' =>
        cases hwi with
        | nil => rw [List.zip_nil_right] at hz; cases hz
        | cons c u hwi' =>
          rw [List.zip_cons_cons] at hz
          injection hz with hyx hrest
          injection hyx with hy hx
          subst hy hx
          rw [lexLe_cons] at hR
          simp only [List.length_cons] at hlen
          obtain ⟨e, he, hiff⟩ := eqAt_int A.in1 ⟨hp, g, d, tk, os⟩ a t c u
          refine wpAny_bind (he prog w _ _ ?_)
          cases e with
          | true =>
            rw [if_pos (hiff.mp rfl)] at hR
            wp_walk
            exact ⟨rfl, rfl, _, _, _, _, hrest, hvi', hwi', by omega, hR⟩
          | false =>
            rw [if_neg (fun q => absurd (hiff.mpr q) Bool.false_ne_true)] at hR
            have hri := rcLe_int A.in1 ⟨hp, g, d, tk, os⟩ a t c u prog w
            wp_walk using hri
            exact ⟨_, rfl, by simpa using hR⟩
    case fin =>
      rintro ⟨b1, b2⟩ s' ⟨hb', rfl, vs, ws, ns', ms', hz, hvi, hwi, hlen, hR⟩
      simp only at hb'
      subst hb'
      have hv : lexLe ns' ms' = decide (items.size ≤ items2.size) := by
        cases hvi with
        | nil =>
          cases hwi with
          | nil =>
            simp only [List.length_nil] at hlen
            rw [lexLe_nil]
            exact (decide_eq_true (by omega)).symm
          | cons c u hw =>
            simp only [List.length_nil, List.length_cons] at hlen
            rw [lexLe_nil]
            exact (decide_eq_true (by omega)).symm
        | cons a t hv =>
          cases hwi with
          | nil =>
            simp only [List.length_nil, List.length_cons] at hlen
            rw [lexLe_cons_nil]
            exact (decide_eq_false (by omega)).symm
          | cons c u hw =>
            rw [List.zip_cons_cons] at hz
            cases hz
      rw [hv] at hR
      wp_walk
      exact ⟨_, rfl, by simpa [Builtin.Tuple.tupleCompareSizes] using hR⟩
    case h =>
      exact ⟨rfl, rfl, items.toList, items2.toList, ns, ms, rfl, hi, hj, by omega, h⟩
end
section
variable {prog : Program} {w : World} {A : Around} {E : Value → Shared → Prop} {s : Shared}
theorem le_tupInts {l b : Addr} {items items2 : Array Value} {ns ms : List Int} {Q : Value → Shared → Prop} (hl : IsTup s.heap l items) (hb : IsTup s.heap b items2) (hi : IntsAre items.toList ns) (hj : IntsAre items2.toList ms)
    (hu : A.units < cLine) (h : Q (.bool (lexLe ns ms)) s) : wpAny (model prog w) A (compareOp .LtE (.ref l) (.ref b)) Q E s := by
  obtain ⟨⟨cls, dd, data, sl⟩, ho, hc, n, hd⟩ := id hl
  obtain ⟨⟨cls2, dd2, data2, sl2⟩, ho2, hc2, n2, hd2⟩ := id hb
  simp only at hc hd hc2 hd2
  subst hc hd hc2 hd2
  exact richCompare_meets_room (op := .LtE) ⟨_, ho, rfl⟩ ⟨_, ho2, rfl⟩ PySem.F.slot_tuple_le PySem.F.entry_tuple_le (PySem.F.args_tuple_le_2 _ _) (tuple_le_ints l b items items2 n n2 dd dd2 sl sl2 ns ms hi hj)
    ⟨ho, ho2, show Value.bool (lexLe ns ms) ≠ Value.notImplemented ∧ Q (.bool (lexLe ns ms)) s from ⟨(fun x => nomatch x), h⟩⟩ hu
end
end HT
namespace L2
open PySem PySem.Spec PyProof.Rows
section
variable {X : Cx}
def rLeT (K : PySem.W.Frag) : R2 := fun x y H Q => ∃ a b ns ms, x = .ref a ∧ y = .ref b ∧ SqT K H a (ns.map V.int) ∧ SqT K H b (ms.map V.int) ∧ Q (.bl (HT.lexLe ns ms)) H
theorem op_leT (hu : X.A.units < cLine) : OpR X (compareOp .LtE) (rLeT X.K) := by
  intro pins s σ H x y v u Q I rx ry h
  obtain ⟨a, b, ns, ms, rfl, rfl, ha, hb, q⟩ := h
  cases rx
  cases ry
  obtain ⟨its, r1, p1, _⟩ := I.tuple ha
  obtain ⟨its2, r2, p2, _⟩ := I.tuple hb
  exact HT.le_tupInts p1 p2 (intsAre_of r1) (intsAre_of r2) hu ⟨.bl (HT.lexLe ns ms), H, I, rfl, q⟩
end
end L2
set_option Elab.async false
set_option linter.all false
set_option maxRecDepth 100000
set_option maxHeartbeats 400000
/-! list.index on a list of great ints -/
namespace L2
open PySem PySem.Spec PyProof.Rows
theorem lay_allB : ∀ {ns : List Int}, (∀ n ∈ ns, n.natAbs < 2 ^ 70) → PyData.canLayAll0 (ns.map PyData.int) = true ∧ PyData.depthAll (ns.map PyData.int) ≤ 1 ∧ PyData.weightAll (ns.map PyData.int) ≤ 100 * ns.length
  | [], _ => ⟨by simp [PyData.canLayAll0], by simp [PyData.depthAll], by simp [PyData.weightAll]⟩
  | n :: ns, h => by
    obtain ⟨h1, h2, h3⟩ := lay_allB (ns := ns) fun m hm => h m (List.mem_cons_of_mem _ hm)
    have b := h n (List.mem_cons_self ..)
    rw [List.map_cons]
    simp only [PyData.canLayAll0, PyData.depthAll, PyData.weightAll, PyData.canLay0, PyData.depth, PyData.weight]
    have hw : (if (n == 0) = true then 0 else n.natAbs.log2 + 1) ≤ 71 := by
      split
      · exact Nat.zero_le _
      · rename_i z
        have n0 : n.natAbs ≠ 0 := fun e => z (by rw [Int.natAbs_eq_zero.mp e]; rfl)
        have := (Nat.log2_lt n0).mpr b
        omega
    refine ⟨by rw [h1]; rfl, by omega, ?_⟩
    rw [List.length_cons]
    omega
theorem lay_intsB {ns : List Int} (h : ∀ n ∈ ns, n.natAbs < 2 ^ 70) (hl : ns.length ≤ 2000) : (PyData.list (ns.map PyData.int)).layable0 = true := by
  obtain ⟨h1, h2, h3⟩ := lay_allB h
  have a1 : (PyData.list (ns.map PyData.int)).canLay0 = true := by simp only [PyData.canLay0]; exact h1
  have a2 : (PyData.list (ns.map PyData.int)).depth ≤ 64 := by simp only [PyData.depth]; omega
  have a3 : (PyData.list (ns.map PyData.int)).weight ≤ 2 ^ 20 := by simp only [PyData.weight]; omega
  unfold PyData.layable0
  rw [a1, decide_eq_true a2, decide_eq_true a3]
  rfl
section
variable {X : Cx}
def rIndexB (K : PySem.W.Frag) : V → List V → Hp → VK → Prop := fun x vs H Q => ∃ (l : Addr) (ns : List Int) (k : Int), x = .ref l ∧ vs = [.int k] ∧ SqL K H l (ns.map V.int) ∧ (∀ n ∈ ns, n.natAbs < 2 ^ 70) ∧ ns.length ≤ 2000 ∧ k ∈ ns ∧ Q (.int (ns.idxOf k : Nat)) H
theorem mt_indexB : MtM X "list.index" (rIndexB X.K) := by
  intro pins s σ H x vs v us Q I rx rv h
  obtain ⟨l, ns, k, rfl, rfl, hH, hn, hl, hk, q⟩ := h
  cases rx
  obtain ⟨u, rfl, ru⟩ := rv.one
  obtain ⟨t, rfl⟩ := ru
  obtain ⟨its, r, pl, hz⟩ := I.list hH
  exact index_list_ints (vs := its) pl.isList (ints_vals r) (lay_intsB hn hl) hk ⟨.int _, H, I.tok _, ⟨_, rfl⟩, q⟩
end
end L2
namespace WL
end WL
set_option Elab.async false
set_option linter.all false
set_option maxRecDepth 100000
set_option maxHeartbeats 4000000
/-! the second level: list(d), list(d.items()), max of a list, tuples of ints by <=, dicts of lists compared -/
namespace WL
open PySem PySem.Spec PyProof.Rows L2
def bListK : List T → Hw → WK → Prop := fun vs C Q => ∃ (a : Addr) (kvs : List (Key × T)), vs = [.ref a] ∧ RdC C a kvs ∧ ∀ q, C q = none → Q (.ref q) (up C q (.lst (rD kvs)))
def bMaxL : List T → Hw → WK → Prop := fun vs C Q => ∃ (a : Addr) (ns : List Int), vs = [.ref a] ∧ C a = some (.lst (ns.map T.int)) ∧ 0 < ns.length ∧ ∀ M, M ∈ ns → (∀ a ∈ ns, a ≤ M) → Q (.int M) C
def wLeT : W2 := fun x y C Q => ∃ ns ms : List Int, x = .tup (ns.map T.int) ∧ y = .tup (ms.map T.int) ∧ Q (.bl (HT.lexLe ns ms)) C
def eLit (we : WE) : WE := fun τ C Q χ => we τ C (fun v C1 => ∃ (a : Addr) (kvs : List (Key × T)), v = .ref a ∧ RdC C1 a kvs ∧ ∀ q, C1 q = none → Q (.ref q) (up C1 q (.lst (rI kvs)))) χ
theorem reps_keys {K : PySem.W.Frag} {H : Hp} : ∀ {ks : List (Key × V)} {kvs : List (Key × T)}, PR K H ks kvs → Reps K H (ks.map fun k => kV k.1) (rD kvs)
  | _, _, .nil => reps_nil
  | _, _, .cons h t => by
    rw [List.map_cons]
    refine reps_cons ?_ (reps_keys t)
    rw [h.1]; exact rep_tK _
theorem reps_valsK {K : PySem.W.Frag} {H : Hp} : ∀ {ks : List (Key × V)} {kvs : List (Key × T)}, PR K H ks kvs → Reps K H (ks.map (·.2)) (kvs.map (·.2))
  | _, _, .nil => reps_nil
  | _, _, .cons h t => reps_cons h.2 (reps_valsK t)
section
variable {X : Cx} {e : Expr} {we : WE}
theorem b_listK (hc : X.calm = true) : CallS X (.type "list") bListK := ⟨_, call_listK hc, fun F H C xs vs Q Q' R rs h q => by
  obtain ⟨a, kvs, rfl, hC, h⟩ := h
  obtain ⟨z, rfl, rz⟩ := of_one rs
  cases of_ref rz
  obtain ⟨ks, hH, pr⟩ := R.rd hC
  exact ⟨a, ks, rfl, hH, fun p hp => q _ _ _ _ (R.newL hp (reps_keys pr)) (Tx.new hp) rep_ref (h p (R.free hp))⟩⟩
theorem b_maxL (hc : X.calm = true) : CallS X (.builtin "max") bMaxL := ⟨_, call_maxL hc, fun F H C xs vs Q Q' R rs h q => by
  obtain ⟨a, ns, rfl, hC, hl, h⟩ := h
  obtain ⟨x, rfl, rx⟩ := of_one rs
  cases of_ref rx
  obtain ⟨ks, hH, pr⟩ := R.lst hC
  cases reps_ints' pr
  exact ⟨a, ns, rfl, .inl (.inl hH), hl, fun M m1 m2 => q _ _ H C R (Tx.refl H) rep_int (h M m1 m2)⟩⟩
theorem o_leT (hu : X.A.units < cLine) : OpS X (compareOp .LtE) wLeT := ⟨_, op_leT hu, fun F H C x y v u Q Q' R rx ry h q => by
  obtain ⟨ns, ms, rfl, rfl, h⟩ := h
  obtain ⟨a1, ys1, rfl, sq1, e1⟩ := of_tup rx
  obtain ⟨a2, ys2, rfl, sq2, e2⟩ := of_tup ry
  cases reps_ints' e1
  cases reps_ints' e2
  exact ⟨a1, a2, ns, ms, rfl, rfl, sq1, sq2, q _ _ H C R (Tx.refl H) rep_bl h⟩⟩
theorem d_lit {p pos apos cpos : Pos} (hc : X.calm = true) (hg : Gl X "list") (hm : X.mg "list" = none) (he : SdE X e we) (hbase : attributeBase e "items" X.env (eval e X.env) = eval e X.env := by rfl) (hline : (apos.endLine == cpos.line) = true := by rfl)
    (hs2 : starEach [.Call (.Attribute e "items" apos) [] [] cpos] X.env = [(false, eval (.Call (.Attribute e "items" apos) [] [] cpos) X.env)] := by rfl) :
    SdE X (.Call (.Name "list" p) [.Call (.Attribute e "items" apos) [] [] cpos] [] pos) (eLit we) := by
  obtain ⟨t, p1, s⟩ := he
  refine ⟨_, pe_listitems hc hg hm p1 hbase hline hs2, fun F H C σ τ Q Q' χ R S h q => ?_⟩
  refine s F H C σ τ _ _ χ R S h fun x v H1 C1 R1 t1 rx h1 => ?_
  obtain ⟨a, kvs, rfl, hC, h1⟩ := h1
  cases of_ref rx
  obtain ⟨ks, hH, pr⟩ := R1.rd hC
  refine ⟨a, ks, rfl, hH, fun as pp la nd np hpp hn => ?_⟩
  obtain ⟨g1, g2, g3⟩ := lz_sim nd (by rw [List.length_map]; exact la) (by rw [List.length_map, List.length_map]) hn R1 (reps_keys pr) (reps_valsK pr)
  have hp' : updP H1 as ((ks.map fun k => kV k.1).zip (ks.map (·.2))) pp = none := by rw [updP_ne np]; exact hpp
  have e : prT (rD kvs) (kvs.map (·.2)) = rI kvs := by
    unfold prT rD rI
    rw [List.zip_map', List.map_map]; rfl
  rw [e] at g3
  exact q _ _ _ _ (g1.newL hp' g3) (t1.trans (g2.trans (Tx.new hp'))) rep_ref (h1 pp (R1.free hpp))
/-- two dicts with the same keys in the same order, values == deep -/
def wReqH (neg : Bool) : W2 := fun x y C Q => ∃ a b ka kb, x = .ref a ∧ y = .ref b ∧ RdC C a ka ∧ RdC C b kb ∧ ka.map (·.1) = kb.map (·.1) ∧ (∀ (i : Nat) (u v : Key × T), ka[i]? = some u → kb[i]? = some v → EqH C 90 u.2 v.2 true) ∧ Q (.bl (!neg)) C
theorem o_reqH (neg : Bool) (hu : X.A.units + 150 < cLine) : OpS X (compareOp (if neg then .NotEq else .Eq)) (wReqH neg) := ⟨_, op_dir, fun F H C x y u v Q Q' R rx ry h q pins s σ u' v' I r1 r2 => by
  obtain ⟨a, b, ka, kb, rfl, rfl, ha, hb, hkk, hd, h⟩ := h
  cases of_ref rx
  cases of_ref ry
  cases r1
  cases r2
  obtain ⟨ks, hH, pr⟩ := R.rd ha
  obtain ⟨ls, hL, pl⟩ := R.rd hb
  obtain ⟨z1, sa, va, rela, oa, ea, pa, hoa, xa, da, kka, pra, na⟩ := dk_rd I.hok hH
  obtain ⟨z2, sb, vb, relb, ob, eb, pb, hob, xb, db, kkb, prb, nb⟩ := dk_rd I.hok hL
  have hkl : ka.length = kb.length := by have := congrArg List.length hkk; simpa using this
  have hsa : ea.size = ka.length := by rw [← PR.length pr, rela.length, ← Pairs.length pra]; simp
  have hsb : eb.size = kb.length := by rw [← PR.length pl, relb.length, ← Pairs.length prb]; simp
  have Ta : s.TypeIs (.ref a) "dict" := ⟨_, hoa, xa.1⟩
  have Tb : s.TypeIs (.ref b) "dict" := ⟨_, hob, xb.1⟩
  have fin : ∀ k : Bool, (∀ (E : Value → Shared → Prop) (id : String) (Q : Bool → Shared → Prop), Q k s → wpAny (model X.prog X.w) X.A.in1 (Builtin.Dict.samePairs id a b) Q E s) → Q (.bl (if neg then !k else k)) H →
      wpAny (model X.prog X.w) X.A (compareOp (if neg then .NotEq else .Eq) (.ref a) (.ref b)) (EP X pins σ Q) X.xe s := fun k hs hq => by
    cases neg with
    | true => exact dict_ne (k := k) (by omega) Ta Tb hs ⟨.bl (!k), H, I, by cases k <;> rfl, hq⟩
    | false => exact dict_eq (k := k) (by omega) Ta Tb hs ⟨.bl k, H, I, by cases k <;> rfl, hq⟩
  refine fin true (fun E id Q' q' => sp_same sa sb hoa da hob db kkb (by rw [hsa, hsb, hkl]) (fun i h1 h2 => ?_) q') ?_
  · obtain ⟨kva, e1, e2, e3⟩ := pairs_at (i := i) (e := ea[i]) pra (by simp [h1])
    obtain ⟨kvb, f1, f2, f3⟩ := pairs_at (i := i) (e := eb[i]) prb (by simp [h2])
    obtain ⟨qa, g1, g2, g3⟩ := kv_at rela e1
    obtain ⟨qb, g4, g5, g6⟩ := kv_at relb f1
    obtain ⟨ta, j1, j2, j3⟩ := pr_at pr g1
    obtain ⟨tb, j4, j5, j6⟩ := pr_at pl g4
    have ekk : ta.1 = tb.1 := by
      have c1 : (ka.map (·.1))[i]? = some ta.1 := by rw [List.getElem?_map, j1]; rfl
      have c2 : (kb.map (·.1))[i]? = some tb.1 := by rw [List.getElem?_map, j4]; rfl
      rw [hkk, c2] at c1
      exact (Option.some.inj c1).symm
    have ek : kva.1 = kvb.1 := by rw [← g2, ← g5, j2, j5, ekk]
    obtain ⟨k', hk1, hk2⟩ := kka ea[i] (Array.getElem_mem h1)
    have := (mixKind X.prog X.w).inj _ _ _ hk1 e2
    subst this
    refine ⟨kva.1, e2, hk2, by rw [ek]; exact find_at prb nb f1 h2, ?_⟩
    have := eqAtH I R 90 (A := X.A.in1) (hd i ta tb j1 j4) j3 j6 g3 g6 (show X.A.units + 1 + 90 < cLine by omega)
    rw [e3, f3]; exact this
  · have := q _ _ H C R (Tx.refl H) rep_bl h
    cases neg <;> exact this⟩
end
end WL
namespace WL
open PySem PySem.Spec PyProof.Rows L2
abbrev wRneH : W2 := wReqH true
theorem o_rneH {X : Cx} (hu : X.A.units + 150 < cLine) : OpS X (compareOp .NotEq) wRneH := o_reqH true hu
end WL
namespace WL
open PySem PySem.Spec PyProof.Rows L2
def mIndexB : T → List T → Hw → WK → Prop := fun x vs C Q => ∃ (a : Addr) (ns : List Int) (k : Int), x = .ref a ∧ vs = [.int k] ∧ C a = some (.lst (ns.map T.int)) ∧ (∀ n ∈ ns, n.natAbs < 2 ^ 70) ∧ ns.length ≤ 2000 ∧ k ∈ ns ∧ Q (.int (ns.idxOf k : Nat)) C
theorem m_indexB {X : Cx} : MtS X "list.index" mIndexB := ⟨_, mt_indexB, fun F H C x v xs vs Q Q' R rx rs h q => by
  obtain ⟨a, ns, k, rfl, rfl, hx, hn, hl, hk, h⟩ := h
  cases of_ref rx
  obtain ⟨z, rfl, rz⟩ := of_one rs
  cases of_int rz
  obtain ⟨ys, hy, r⟩ := R.lst hx
  cases reps_ints' r
  exact ⟨a, ns, k, rfl, rfl, .inl (.inl hy), hn, hl, hk, q _ _ H C R (Tx.refl H) rep_int h⟩⟩
end WL
set_option Elab.async false
set_option linter.all false
set_option maxRecDepth 100000
set_option maxHeartbeats 4000000
/-! the law's call where a table of code is tracked from the start -/
namespace L2
open PySem PySem.Spec PyProof.Rows
/-- nothing is tracked but the empty table at P and the script -/
def OnlyT (P : Addr) (H : Hp) : Prop := H P = some (.tbl #[]) ∧ ∀ b, b ≠ P → H b = none ∨ ∃ o xs, H b = some (.frz o (.lst xs))
section
variable {Pg : Program} {w : World} {K : PySem.W.Frag} {mg mb : Str → Option Value} {CX : CXT} {k : Nat} {fa a P : Addr} {fd : FuncData} {x : Str} {sp : Sp} {s₁ : Shared} {vs : List Value} {ns : List Int}
theorem law_core {H : Hp} (KX : K.In s₁.heap) (hns : s₁.heap.Ns mainGlobals mg) (hb : s₁.heap.Ns builtinsNs mb) (hbb : ∀ x : Str, x ≠ "__name__" → mb x = bootBuiltins x) (hlim : s₁.heap.NoLimit) (hg : s₁.gens = #[])
    (ha : s₁.heap.get? a = some { cls := .type "list", data := .seq vs.toArray }) (hr : Room k callerA) (hcd : ∃ c, PySem.W.codeHdIn K c P = true) (hPt : s₁.heap.get? P = some (PySem.W.tabObj #[])) (hPK : K.lookup P = none) (hB : Bm mg s₁.heap)
    (F : ∀ base : Heap, K.In base → base.Ns mainGlobals mg → Bm mg base → FnOk Pg w K mg base CX k fa fd [x] sp) (hbind : ∀ (s : Shared) (u : Value), BindsTo s fd ⟨[u], []⟩ [(x, u)])
    (hsp : sp [.ref a] H (fun v _ => v = .bl true) fun _ _ _ => False) (hCX : ∀ H e s', CX [] H s₁ (fun _ _ _ => False) e s' → False)
    (hO : OnlyT P H) (hok : HOk Pg w H s₁.heap) (hA : ∀ b, H b ≠ none → b = a ∨ b = P) (hK : H a ≠ none → K.lookup a = none) :
    codeAny (model Pg w) callerA (.call (.ref fa) ⟨[.ref a], []⟩) (fun r s' => r = .ok (.ret (.bool true)) ∧ OldK s₁.heap s'.heap ∧ s'.os = s₁.os ∧ AllBare s'.gens) s₁ := by
  -- what is no list and no table is not tracked
  have untr : ∀ {b : Addr} {o : Obj}, s₁.heap.get? b = some o → (∀ its n, o.data ≠ .seq its n) → (∀ ps, o.data ≠ .fields ps) → H b = none := fun {b o} e d1 d2 => by
    cases q : H b with
    | none => rfl
    | some u =>
      rcases hA b (by rw [q]; simp) with rfl | rfl
      · rw [ha] at e; cases e; exact absurd rfl (d1 _ _)
      · rw [hPt] at e; cases e; exact absurd rfl (d2 _)
  have nsK : ∀ {b : Addr} {m : Str → Option Value}, s₁.heap.Ns b m → (hidT s₁.heap H).Ns b m := fun {b m} ⟨o, es, ep, e, d, r⟩ => ⟨o, es, ep, hidT_get e (untr e (by rw [d]; intro _ _ z; cases z) (by rw [d]; intro _ z; cases z)), d, r⟩
  have hKb : K.In (hidT s₁.heap H) := fun b o e => hidT_get (KX b o e) (by
    cases q : H b with
    | none => rfl
    | some u =>
      rcases hA b (by rw [q]; simp) with rfl | rfl
      · rw [hK (by rw [q]; simp)] at e; cases e
      · rw [hPK] at e; cases e)
  have hBb : Bm mg (hidT s₁.heap H) := by
    obtain ⟨bm, ob, b1, b2, b3, b4, b5, b6⟩ := hB
    exact ⟨bm, ob, b1, b2, hidT_get b3 (untr b3 (by rw [b6]; intro _ _ z; cases z) (by rw [b6]; intro _ z; cases z)), b4, b5, b6⟩
  have hM : Mod K mg (hidT s₁.heap H) := ⟨hKb, nsK hns, ⟨mb, nsK hb, hbb⟩, let ⟨mc, h1, h2⟩ := hlim; ⟨mc, nsK h1, h2⟩⟩
  have e0 : Env0 Pg w K mg (hidT s₁.heap H) callerA [] s₁ H := ⟨rfl, hM, fun b o e => of_hidT e, Nat.le_of_eq (hidT_size _ _), trivial, fun b hb => absurd (show b ∈ ([] : List Addr) from hb) (by simp), hok, .of_eq hg⟩
  refine codeAny_mono ((F _ hKb (nsK hns) hBb).run callerA [] s₁ H ⟨[.ref a], []⟩ [.ref a] [.ref a] _ _ hr e0 (hbind s₁ (.ref a)) (.cons rfl .nil) hsp) fun r s' h => ?_
  match r, h with
  | .error e, h => exact (hCX H e s' h).elim
  | .ok .next, h => exact False.elim h
  | .ok .brk, h => exact False.elim h
  | .ok .cont, h => exact False.elim h
  | .ok (.ret u), h =>
    obtain ⟨v, H', os, bare, un, hok', r', q⟩ := h
    have q' : v = .bl true := q
    subst q'
    obtain rfl : u = Value.bool true := r'
    obtain ⟨c, hc⟩ := hcd
    have htab := (PySem.W.codeHd_of_K KX hc).tab hPt
    obtain ⟨more, hmore⟩ := un.tbls P #[] hO.1
    have hP' : s'.heap.get? P = some { cls := .none, data := .fields (#[] ++ more) } := hok' P _ hmore
    have kept : ∀ b o, b ≠ P → s₁.heap.get? b = some o → s'.heap.get? b = some o := fun b o n e => by
      rcases hO.2 b n with q | ⟨ob, xs, q⟩
      · exact un.keep b o e q (by intro z; exact absurd (show b ∈ ([] : List Addr) from z) (by simp)) (by simp)
      · obtain ⟨e1, _⟩ := hok b _ q
        obtain ⟨e2, _⟩ := hok' b _ (un.frzs b ob _ q)
        rw [e] at e1; cases e1
        exact e2
    refine ⟨rfl, ⟨fun b o e => ?_, fun b o e => ?_⟩, os, bare⟩
    · by_cases n : b = P
      · subst n
        rw [hPt] at e; cases e
        exact .inr (.inl ⟨htab.isCodeTable, rfl, #[], more, rfl, hP'⟩)
      · exact .inl (kept b o n e)
    · by_cases n : b = P
      · exact ⟨_, n ▸ hP'⟩
      · exact ⟨o, kept b o n e⟩
theorem law_callT (KX : K.In s₁.heap) (hns : s₁.heap.Ns mainGlobals mg) (hb : s₁.heap.Ns builtinsNs mb) (hbb : ∀ x : Str, x ≠ "__name__" → mb x = bootBuiltins x) (hlim : s₁.heap.NoLimit) (hg : s₁.gens = #[])
    (ha : s₁.heap.get? a = some { cls := .type "list", data := .seq vs.toArray }) (hi : IntsAre vs ns) (hl : ns.length ≤ sizeLine) (hr : Room k callerA) (hcd : ∃ c, PySem.W.codeHdIn K c P = true) (hPt : s₁.heap.get? P = some (PySem.W.tabObj #[])) (hPK : K.lookup P = none) (hB : Bm mg s₁.heap)
    (F : ∀ base : Heap, K.In base → base.Ns mainGlobals mg → Bm mg base → FnOk Pg w K mg base CX k fa fd [x] sp) (hbind : ∀ (s : Shared) (u : Value), BindsTo s fd ⟨[u], []⟩ [(x, u)])
    (hsp : ∀ H : Hp, OnlyT P H → SqL K H a (ns.map V.int) → sp [.ref a] H (fun v _ => v = .bl true) fun _ _ _ => False)
    (hCX : ∀ H e s', CX [] H s₁ (fun _ _ _ => False) e s' → False) :
    codeAny (model Pg w) callerA (.call (.ref fa) ⟨[.ref a], []⟩) (fun r s' => r = .ok (.ret (.bool true)) ∧ OldK s₁.heap s'.heap ∧ s'.os = s₁.os ∧ AllBare s'.gens) s₁ := by
  have rv := vals_ints hi
  have naP : a ≠ P := fun z => by rw [z, hPt] at ha; cases ha
  have tabP : ObjOk Pg w (fun b => if b = P then some (.tbl #[]) else none) s₁.heap P (.tbl #[]) := hPt
  cases hk : K.lookup a with
  | some o =>
    have e := KX a o hk
    rw [ha] at e
    cases e
    refine law_core (H := fun b => if b = P then some (.tbl #[]) else none) KX hns hb hbb hlim hg ha hr hcd hPt hPK hB F hbind (hsp _ ⟨if_pos rfl, fun b n => .inl (if_neg n)⟩ (.inr ⟨_, vs.toArray, _, hk, rfl, rfl, rfl, by rw [List.size_toArray, hi.length]; exact hl, by simpa using rv⟩)) hCX ⟨if_pos rfl, fun b n => .inl (if_neg n)⟩ (fun b u z => ?_) (fun b z => ?_) fun z => absurd (if_neg naP) z
    · by_cases hb : b = P
      · subst hb
        have z' := (if_pos rfl).symm.trans z
        cases z'
        exact hPt
      · have z' := (if_neg hb).symm.trans z
        cases z'
    · by_cases hb : b = P
      · exact .inr hb
      · exact absurd (if_neg hb) z
  | none =>
    have hH : ∀ b, (fun b => if b = P then some (HO.tbl #[]) else if b = a then some (.frz { cls := .type "list", data := .seq vs.toArray } (.lst (ns.map V.int))) else none : Hp) b = if b = P then some (HO.tbl #[]) else if b = a then some (.frz { cls := .type "list", data := .seq vs.toArray } (.lst (ns.map V.int))) else none := fun _ => rfl
    have hHa : (fun b => if b = P then some (HO.tbl #[]) else if b = a then some (.frz { cls := .type "list", data := .seq vs.toArray } (.lst (ns.map V.int))) else none : Hp) a = some (.frz { cls := .type "list", data := .seq vs.toArray } (.lst (ns.map V.int))) := by rw [hH, if_neg naP, if_pos rfl]
    have hO : OnlyT P (fun b => if b = P then some (HO.tbl #[]) else if b = a then some (.frz { cls := .type "list", data := .seq vs.toArray } (.lst (ns.map V.int))) else none : Hp) := ⟨if_pos rfl, fun b n => by
      rw [hH, if_neg n]
      by_cases hb : b = a
      · exact .inr ⟨_, _, if_pos hb⟩
      · exact .inl (if_neg hb)⟩
    refine law_core KX hns hb hbb hlim hg ha hr hcd hPt hPK hB F hbind (hsp _ hO (.inl (.inr ⟨_, hHa⟩))) hCX hO (fun b u z => ?_) (fun b z => ?_) fun _ => hk
    · try rw [hH] at z
      by_cases hb : b = P
      · subst hb
        rw [if_pos rfl] at z
        cases z
        exact hPt
      · rw [if_neg hb] at z
        by_cases hb2 : b = a
        · subst hb2
          rw [if_pos rfl] at z
          cases z
          exact ⟨ha, by rw [List.length_map]; exact hl, vs, _, rv, ha⟩
        · rw [if_neg hb2] at z; cases z
    · try rw [hH] at z
      by_cases hb : b = P
      · exact .inr hb
      · rw [if_neg hb] at z
        by_cases hb2 : b = a
        · exact .inl hb2
        · rw [if_neg hb2] at z; exact absurd rfl z
end
/-- the goal that k_head leaves, from the law's promise, with a table at P -/
theorem walk_ofT {l : PySem.W.OpenLaw} {n k : Nat} {q : Program} {loose : List Str} {XP : (Str → Option Value) → Heap → Prop} {YP : World → Heap → Prop} {d : DefRec} {K : Params → PySem.W.Frag} {CX : CXT} {sp : PySem.W.Frag → Sp} {x : Str} {P : Addr}
    (hn : l.most = some n) (hn2 : n ≤ sizeLine) (hdf : d.params.defaults = []) (hr : Room k callerA)
    (hY : ∀ (w : World) (h : Heap), YP w h → (K w.params).In h ∧ h.get? P = some (PySem.W.tabObj #[])) (hcd : ∀ w : World, ∃ c, PySem.W.codeHdIn (K w.params) c P = true) (hPK : ∀ w : World, (K w.params).lookup P = none)
    (F : ∀ (w : World) (mg : Str → Option Value) (fa : Addr) (h : Heap), (K w.params).In h → h.Ns mainGlobals mg → mg d.name = some (.ref fa) →
      ∃ fd : FuncData, (∀ (s : Shared) (u : Value), BindsTo s fd ⟨[u], []⟩ [(x, u)]) ∧
        ∀ base : Heap, (K w.params).In base → base.Ns mainGlobals mg → Bm mg base → FnOk l.prog w (K w.params) mg base CX k fa fd [x] (sp (K w.params)))
    (hsp : ∀ (K : PySem.W.Frag) (H : Hp) (a : Addr) (ns : List Int), ns.length ≤ n → OnlyT P H → SqL K H a (ns.map V.int) → sp K [.ref a] H (fun v _ => v = .bl true) fun _ _ _ => False)
    (hCX : ∀ (H : Hp) (s : Shared) (e : Value) (s' : Shared), CX [] H s (fun _ _ _ => False) e s' → False) :
    PySem.W.WalkO q loose XP YP l.row.toRowW d [] (fun f vs => PySem.call f vs) := by
  refine Att.attach_call hn hdf fun w s₀ s₁ mg mb fa o pm cd doc a vs ns G Y ho hd hcd' hmg hobj hints hlen hg => ?_
  obtain ⟨KX, hPt⟩ := hY w _ Y
  obtain ⟨fd, hb, hF⟩ := F w mg fa _ KX G.T.g hmg
  exact law_callT KX G.T.g G.T.b G.T.builtins G.T.nolimit hg hobj hints (Nat.le_trans hlen hn2) hr (hcd w) hPt (hPK w) G.T.bmain hF hb (fun H hO hS => hsp (K w.params) H a ns hlen hO hS) fun H e s' => hCX H s₁ e s'
end L2
set_option Elab.async false
set_option linter.all false
set_option maxRecDepth 100000
set_option maxHeartbeats 4000000
/-! the law's start with a table of code; a def whose table is known -/
namespace WL
open PySem PySem.Spec PyProof.Rows L2
/-- the heap at the start: the empty table alone -/
def CT (P : Addr) : Hw := fun b => if b = P then some (.tab true) else none
theorem law_spT {K : PySem.W.Frag} {pr : List Df} {n i : Nat} {H : Hp} {a P : Addr} {ns : List Int} (hO : OnlyT P H) (hS : SqL K H a (ns.map V.int)) (h : wpc pr n i [.cl (ns.map T.int)] (CT P) (fun v _ => v = .bl true) (fun _ _ => False)) :
    spW K pr n i [.ref a] H (fun v _ => v = .bl true) (fun _ _ _ => False) := by
  have hq : SqC K H a (ns.map V.int) := by
    rcases hS with (z | ⟨o, z⟩) | z
    · by_cases e : a = P
      · rw [e, hO.1] at z; cases z
      · rcases hO.2 a e with e | ⟨o, xs, e⟩
        · rw [e] at z; cases z
        · rw [e] at z; cases z
    · exact .inl ⟨o, z⟩
    · exact .inr z
  refine ⟨fun _ => none, CT P, [.cl (ns.map T.int)], _, _, ⟨fun b o e => ?_, fun _ _ e => by cases e⟩, reps_cons ?_ reps_nil, h, fun x v H' C' R t r e => ?_⟩
  · unfold CT at e
    by_cases hb : b = P
    · subst hb
      rw [if_pos rfl] at e; cases e
      exact ⟨#[], hO.1, fun _ => rfl⟩
    · rw [if_neg hb] at e; cases e
  · unfold Rep
    exact ⟨a, _, rfl, hq, reps_ints ns⟩
  · subst e; exact of_bl r
section
variable {Pg : Program} {w : World} {K : PySem.W.Frag} {mg : Str → Option Value} {base : Heap} {x q : Str} {st : Stmt} {f P : Addr} {fd : FuncData} {N ps : List Str} {pr : List Df} {n i : Nat} {d : Df} {h : Heap} {sp : Sp}
theorem fn_okT (F : Fun K x q st f fd) (hT : TbK K fd.code P) (S : FnScope N ps (defScope st)) (hd : pr[i]? = some d) (hn : d.n = N.length) (har : d.ar = ps.length)
    (hb : ∀ (cdv : Value) (A : Around) (outer : List Env) (s : Shared) (H : Hp) (E : XK), TbK K cdv P → Room n (A.deeper (envOfC q (defScope st) s.heap.objs.size f cdv)) → SdB (cxOf CX0 Pg w K mg base N q (defScope st) f cdv A outer s H E).nox (defBody st) (d.body (wpc pr n))) :
    FnOk Pg w K mg base CX0 (n + 1) f fd ps (spW K pr (n + 1) i) := by
  obtain ⟨oc, od, kV, doc, pm, an, cdv, ct, osl, rfl, lk, hcd⟩ := F.ex
  refine fn_of lk hcd S (fun vs H Q E h => ?_) fun A outer s H vs Q E hr h => ?_
  · obtain ⟨F', C, vs', Q', χ, R, rs, ⟨d', e1, e2, _⟩, _⟩ := h
    rw [hd] at e1; cases e1
    rw [rs.length, e2, har]
  · obtain ⟨F', C, vs', Q', χ, R, rs, ⟨d', e1, e2, h⟩, q⟩ := h
    rw [hd] at e1; cases e1
    obtain ⟨t, p, sm⟩ := hb cdv A outer s H E hT hr
    refine ⟨t, p.nox, sm F' H C _ _ _ _ R (RepS.start rs N _ (by rw [rs.length, e2, hn])) h ⟨fun σ τ H' C' R' t' _ h' => q .non .non H' C' R' t' rep_non h', q, fun _ _ _ _ _ _ _ z => z.elim, fun _ _ _ _ _ _ _ z => z.elim⟩⟩
def FgT (K : PySem.W.Frag) (x : Str) (st : Stmt) (P : Addr) : Prop := ∃ f fd, PySem.W.nsIn K mainGlobals x = some (some (.ref f)) ∧ Fun K x x st f fd ∧ TbK K fd.code P
def LdT (K : PySem.W.Frag) (mg : Str → Option Value) (x : Str) (st : Stmt) (ps : List Str) (P : Addr) : Prop := ∃ f fd, Fun K x x st f fd ∧ Binds K fd ps [] ∧ mg x = some (.ref f) ∧ TbK K fd.code P
theorem ld_mkT (X : K.In h) (G : h.Ns mainGlobals mg) (l : FgT K x st P) (hb : Bq x x st ps) : LdT K mg x st ps P := by
  obtain ⟨f, fd, a, F, t⟩ := l
  exact ⟨f, fd, F, F.binds hb, PySem.W.mg_of X G a, t⟩
theorem ld0T (L : LdT K mg x st ps P) : Ca Pg w K mg base 0 x ps (spW K pr 0 i) := by
  obtain ⟨f, fd, F, B, M, _⟩ := L
  exact ca_zero F B M
theorem ld1T (L : LdT K mg x st ps P) (G : ∀ {f fd}, Fun K x x st f fd → TbK K fd.code P → FnOk Pg w K mg base CX0 n f fd ps sp) : Ca Pg w K mg base n x ps sp := by
  obtain ⟨f, fd, F, B, M, t⟩ := L
  exact ca_succ F B M (G F t)
end
end WL
set_option Elab.async false
set_option linter.all false
set_option maxRecDepth 100000
set_option maxHeartbeats 4000000
namespace K51
open PySem PySem.Spec PyProof.Rows L2 WL
def top (i : Nat) : Stmt := PySem.Challenge.pw_idlegraph_k51_reached.main.body.getD i (.Pass ⟨0, 0, 0, 0⟩)
structure Txt (w : World) (K : PySem.W.Frag) (mg : Str → Option Value) : Prop where
  n_bool : mg "bool" = none
  n_isinstance : mg "isinstance" = none
  n_len : mg "len" = none
  n_list : mg "list" = none
  n_max : mg "max" = none
  n_min : mg "min" = none
  n_range : mg "range" = none
  n_reversed : mg "reversed" = none
  n_sorted : mg "sorted" = none
  n_tuple : mg "tuple" = none
structure Cs (Pg : Program) (w : World) (K : PySem.W.Frag) (mg : Str → Option Value) (base : Heap) (n : Nat) (pr : List Df) : Prop where
  c_reached : Ca Pg w K mg base n "reached" ["links", "roots"] (spW K pr n 0)
  c_leaders_of : Ca Pg w K mg base n "leaders_of" ["links", "roots"] (spW K pr n 1)
  c__law_cell_at : Ca Pg w K mg base n "_law_cell_at" ["_law_script", "_law_k"] (spW K pr n 2)
  c__law_numbers : Ca Pg w K mg base n "_law_numbers" ["_law_cell"] (spW K pr n 3)
  c__law_links : Ca Pg w K mg base n "_law_links" ["_law_script", "_law_numbers_here"] (spW K pr n 4)
  c__law_roots : Ca Pg w K mg base n "_law_roots" ["_law_cell", "_law_numbers_here"] (spW K pr n 5)
  c__law_copy : Ca Pg w K mg base n "_law_copy" ["_law_links_here"] (spW K pr n 6)
  c__law_first : Ca Pg w K mg base n "_law_first" ["_law_links_here", "_law_roots_here"] (spW K pr n 7)
  c__law_led : Ca Pg w K mg base n "_law_led" ["_law_links_here", "_law_rows", "_law_k"] (spW K pr n 8)
  c__law_walked : Ca Pg w K mg base n "_law_walked" ["_law_links_here", "_law_roots_here", "_law_rows"] (spW K pr n 9)
  c__law_chain : Ca Pg w K mg base n "_law_chain" ["_law_cell"] (spW K pr n 10)
  c_law : Ca Pg w K mg base n "law" ["_law_script"] (spW K pr n 11)
  bm : Bm mg base
def SX (j : Nat) (st : Stmt) (N : List Str) (q : Str) (Wx : Calls → WS) : Prop := ∀ {Pg : Program} {w : World} {K : PySem.W.Frag} {mg : Str → Option Value} {base : Heap} {n : Nat} {pr : List Df} {P : Calls} {f : Addr} {cdv : Value} {A : Around} {outer : List Env} {s : Shared} {H : Hp} {E : XK}, wpc pr n = P → Txt w K mg → Cs Pg w K mg base n pr →
  Room n (A.deeper (envOfC q (defScope st) s.heap.objs.size f cdv)) → SdB (cxOf CX0 Pg w K mg base N q (defScope st) f cdv A outer s H E).nox ((defBody st).drop j) (Wx P)
def SXT (Pt : Addr) (j : Nat) (st : Stmt) (N : List Str) (q : Str) (Wx : Calls → WS) : Prop := ∀ {Pg : Program} {w : World} {K : PySem.W.Frag} {mg : Str → Option Value} {base : Heap} {n : Nat} {pr : List Df} {P : Calls} {f : Addr} {cdv : Value} {A : Around} {outer : List Env} {s : Shared} {H : Hp} {E : XK}, wpc pr n = P → Txt w K mg → Cs Pg w K mg base n pr → TbK K cdv Pt →
  Room n (A.deeper (envOfC q (defScope st) s.heap.objs.size f cdv)) → SdB (cxOf CX0 Pg w K mg base N q (defScope st) f cdv A outer s H E).nox ((defBody st).drop j) (Wx P)
abbrev st_reached : Stmt := top 1
theorem sc_reached : FnScope ["links", "roots"] ["links", "roots"] (defScope st_reached) := ⟨rfl, rfl, rfl, by decide +kernel, rfl, by decide +kernel, by decide +kernel⟩
def D_reached : {W // SX 0 st_reached ["links", "roots"] "reached" W} := ⟨_, fun hP T S hr => by
    exact (db_one (ds_ret (d_lit rfl (by rfl) T.n_list (cP hP (d_call S.c_leaders_of hr (by rfl) (da_cons (d_var 0) (da_cons (d_var 1) da_nil)))))))⟩
abbrev st_leaders_of : Stmt := top 2
theorem sc_leaders_of : FnScope ["links", "roots", "leaders", "number", "order", "place", "leader"] ["links", "roots"] (defScope st_leaders_of) := ⟨rfl, rfl, rfl, by decide +kernel, rfl, by decide +kernel, by decide +kernel⟩
def D_leaders_of : {W // SX 0 st_leaders_of ["links", "roots", "leaders", "number", "order", "place", "leader"] "leaders_of" W} := ⟨_, fun hP T S hr => by
    have nd := sc_leaders_of.nd
    have hu := hu150 hr
    exact (db_cons (ds_set (i := 2) nd d_dict0)
      (db_cons (ds_for PassesOwn.never rfl (di_seq (d_var 1)) (dg_name (i := 3) nd)
      (db_one (ds_if (dt_cmp (o_rin hu) (d_var 3) (d_var 0) (by rfl)) (db_one (ds_asg d_non (dg_subD hu (d_var 2) (d_var 3)))) db_nil)))
      (db_cons (ds_set (i := 4) nd (d_ty (b_listK rfl) (by rfl) T.n_list bt_list (da_cons (d_var 2) da_nil)))
      (db_cons (ds_set (i := 5) nd d_int)
      (db_cons (ds_while PassesOwn.never (dt_cmp o_lt (d_var 5) (d_bi b_len (by rfl) T.n_len PySem.boot_len (da_cons (d_var 4) da_nil)) (nomark _))
      (db_cons (ds_set (i := 6) nd (d_ix (d_var 4) (d_var 5) (fun _ _ => rfl)))
      (db_cons (ds_for PassesOwn.never rfl (di_seq (d_rget hu (d_var 0) (d_var 6) (fun _ _ => rfl))) (dg_name (i := 3) nd)
      (db_one (ds_if (dt_w (dw_and (dt_cmp (o_rnotin hu) (d_var 3) (d_var 2) (by rfl)) (dw_and1 (dt_cmp (o_rin hu) (d_var 3) (d_var 0) (by rfl))))) (db_cons (ds_asg (d_var 6) (dg_subD hu (d_var 2) (d_var 3)))
      (db_one (ds_expr (d_mt PySem.F.plainAttrs_list PySem.F.slot_list_append PySem.F.type_list_append ty_list m_append (d_var 4) (da_cons (d_var 3) da_nil))))) db_nil)))
      (db_one (ds_set (i := 5) nd (d_op o_add (d_var 5) d_int))))))
      (db_one (ds_ret (d_var 2))))))))⟩
abbrev st__law_cell_at : Stmt := top 4
theorem sc__law_cell_at : FnScope ["_law_script", "_law_k", "_law_number", "_law_cell"] ["_law_script", "_law_k"] (defScope st__law_cell_at) := ⟨rfl, rfl, rfl, by decide +kernel, rfl, by decide +kernel, by decide +kernel⟩
def D__law_cell_at : {W // SX 0 st__law_cell_at ["_law_script", "_law_k", "_law_number", "_law_cell"] "_law_cell_at" W} := ⟨_, fun hP T S hr => by
    have nd := sc__law_cell_at.nd
    exact (db_cons (ds_set (i := 2) nd (d_op o_add (d_op o_mul (d_var 1) d_int) d_int))
      (db_cons (ds_if (dt_cmp o_gt (d_bi b_len (by rfl) T.n_len PySem.boot_len (da_cons (d_var 0) da_nil)) d_int (nomark _)) (db_cons (ds_set (i := 3) nd (d_op o_mod (d_ix (d_var 0) (d_op o_mod (d_var 1) (d_bi b_len (by rfl) T.n_len PySem.boot_len (da_cons (d_var 0) da_nil))) (fun _ _ => rfl)) d_int))
      (db_one (ds_set (i := 2) nd (d_op o_add (d_var 2) (d_op o_mul (d_var 3) (d_op o_add d_int (d_op o_div (d_var 1) (d_bi b_len (by rfl) T.n_len PySem.boot_len (da_cons (d_var 0) da_nil))))))))) db_nil)
      (db_one (ds_ret (d_op o_mod (d_op o_mul (d_var 2) d_int) d_int)))))⟩
abbrev st__law_numbers : Stmt := top 5
theorem sc__law_numbers : FnScope ["_law_cell", "_law_found", "_law_k", "_law_number"] ["_law_cell"] (defScope st__law_numbers) := ⟨rfl, rfl, rfl, by decide +kernel, rfl, by decide +kernel, by decide +kernel⟩
def D__law_numbers : {W // SX 0 st__law_numbers ["_law_cell", "_law_found", "_law_k", "_law_number"] "_law_numbers" W} := ⟨_, fun hP T S hr => by
    have nd := sc__law_numbers.nd
    have hu := hu150 hr
    exact (db_cons (ds_set (i := 1) nd (d_lst da_nil))
      (db_cons (ds_for PassesOwn.never rfl (di_r1 (by rfl) T.n_range (da_cons (d_op o_add d_int (d_op o_mod (d_var 0) d_int)) da_nil)) (dg_name (i := 2) nd)
      (db_cons (ds_set (i := 3) nd (d_op o_add (d_var 2) (d_op o_mod (d_op o_div (d_var 0) d_int) d_int)))
      (db_cons (ds_if (dt_cmp (o_eq hu) (d_op o_mod (d_op o_div (d_var 0) d_int) d_int) d_int (nomark _)) (db_one (ds_set (i := 3) nd (d_op o_mod (d_op o_mul (d_op o_add (d_op o_mul (d_var 2) d_int) (d_op o_div (d_var 0) d_int)) d_int) d_int))) db_nil)
      (db_cons (ds_if (dt_w (dw_and (dt_cmp (o_eq hu) (d_op o_mod (d_op o_div (d_var 0) d_int) d_int) d_int (nomark _)) (dw_and1 (dt_cmp (o_eq hu) (d_op o_mod (d_var 2) d_int) (d_op o_mod (d_op o_div (d_var 0) d_int) d_int) (nomark _))))) (db_one (ds_set (i := 3) nd (d_op o_sub (d_op o_pow d_int d_int) (d_op o_mul (d_var 2) (d_op o_add d_int (d_op o_mod (d_op o_div (d_var 0) d_int) d_int)))))) db_nil)
      (db_one (ds_if (dt_cmp (o_notIn hu) (d_var 3) (d_var 1) (by rfl)) (db_one (ds_expr (d_mt PySem.F.plainAttrs_list PySem.F.slot_list_append PySem.F.type_list_append ty_list m_append (d_var 1) (da_cons (d_var 3) da_nil)))) db_nil))))))
      (db_one (ds_ret (d_var 1)))))⟩
abbrev st__law_links : Stmt := top 6
theorem sc__law_links : FnScope ["_law_script", "_law_numbers_here", "_law_links_here", "_law_out", "_law_order", "_law_k", "_law_keys", "_law_cell", "_law_goal", "_law_place"] ["_law_script", "_law_numbers_here"] (defScope st__law_links) := ⟨rfl, rfl, rfl, by decide +kernel, rfl, by decide +kernel, by decide +kernel⟩
def D__law_links_t1 : {W // SXT 44 6 st__law_links ["_law_script", "_law_numbers_here", "_law_links_here", "_law_out", "_law_order", "_law_k", "_law_keys", "_law_cell", "_law_goal", "_law_place"] "_law_links" W} := ⟨_, fun hP T S hT hr => by
    exact (db_one (ds_ret (d_var 2)))⟩
def D__law_links_t2 : {W // SXT 44 4 st__law_links ["_law_script", "_law_numbers_here", "_law_links_here", "_law_out", "_law_order", "_law_k", "_law_keys", "_law_cell", "_law_goal", "_law_place"] "_law_links" W} := ⟨_, fun hP T S hT hr => by
    have nd := sc__law_links.nd
    have hu := hu150 hr
    exact (db_cons (ds_set (i := 6) nd (d_ty (b_listK rfl) (by rfl) T.n_list bt_list (da_cons (d_var 2) da_nil)))
      (db_cons (ds_for PassesOwn.never rfl (di_r2 (by rfl) T.n_range (da_cons d_int (da_cons (d_bi (b_min rfl) (by rfl) T.n_min bt_min (da_cons d_int (da_cons (d_bi (b_max rfl) (by rfl) T.n_max bt_max (da_cons d_int (da_cons (d_bi b_len (by rfl) T.n_len PySem.boot_len (da_cons (d_var 0) da_nil)) da_nil))) da_nil))) da_nil))) (dg_name (i := 5) nd)
      (db_cons (ds_set (i := 7) nd (cP hP (d_call S.c__law_cell_at hr (by rfl) (da_cons (d_var 0) (da_cons (d_var 5) da_nil)))))
      (db_cons (ds_set (i := 8) nd (d_ix (d_var 1) (d_op o_mod (d_op o_div (d_var 7) d_int) (d_bi b_len (by rfl) T.n_len PySem.boot_len (da_cons (d_var 1) da_nil))) (fun _ _ => rfl)))
      (db_cons (ds_set (i := 9) nd (d_op o_add (d_op o_mul (d_var 5) (d_op o_mod (d_var 7) d_int)) (d_op o_div (d_var 7) d_int)))
      (db_one (ds_expr (d_mt PySem.F.plainAttrs_list PySem.F.slot_list_append PySem.F.type_list_append ty_list m_append (d_rget hu (d_var 2) (d_ix (d_var 6) (d_op o_mod (d_var 9) (d_bi b_len (by rfl) T.n_len PySem.boot_len (da_cons (d_var 6) da_nil))) (fun _ _ => rfl)) (fun _ _ => rfl)) (da_cons (d_var 8) da_nil))))))))
      (D__law_links_t1.2 hP T S hT hr)))⟩
def D__law_links : {W // SXT 44 0 st__law_links ["_law_script", "_law_numbers_here", "_law_links_here", "_law_out", "_law_order", "_law_k", "_law_keys", "_law_cell", "_law_goal", "_law_place"] "_law_links" W} := ⟨_, fun hP T S hT hr => by
    have nd := sc__law_links.nd
    have hu := hu150 hr
    exact (db_cons (ds_set (i := 2) nd d_dict0)
      (db_cons (ds_set (i := 3) nd (d_op o_mod (cP hP (d_call S.c__law_cell_at hr (by rfl) (da_cons (d_var 0) (da_cons d_int da_nil)))) (d_op o_mul d_int (d_bi b_len (by rfl) T.n_len PySem.boot_len (da_cons (d_var 1) da_nil)))))
      (db_cons (ds_set (i := 4) nd (d_sortKey (j := 3) hT S.bm (d_var 1) (by rfl) T.n_sorted rfl (by rfl) rfl rfl rfl rfl (by decide +kernel) (by rfl) (by decide +kernel) (by decide +kernel) (by decide +kernel) (fun _ _ _ _ _ _ => rfl) ⟨by decide, by decide⟩ hr.depth rfl rfl rfl))
      (db_cons (ds_for PassesOwn.never rfl (di_r1 (by rfl) T.n_range (da_cons (d_bi b_len (by rfl) T.n_len PySem.boot_len (da_cons (d_var 4) da_nil)) da_nil)) (dg_name (i := 5) nd)
      (db_one (ds_if (dt_cmp (o_ne hu) (d_var 5) (d_var 3) (nomark _)) (db_one (ds_asg (d_lst da_nil) (dg_subD hu (d_var 2) (d_ix (d_var 4) (d_var 5) (fun _ _ => rfl))))) db_nil)))
      (D__law_links_t2.2 hP T S hT hr)))))⟩
abbrev st__law_roots : Stmt := top 7
theorem sc__law_roots : FnScope ["_law_cell", "_law_numbers_here", "_law_found", "_law_k"] ["_law_cell", "_law_numbers_here"] (defScope st__law_roots) := ⟨rfl, rfl, rfl, by decide +kernel, rfl, by decide +kernel, by decide +kernel⟩
def D__law_roots : {W // SX 0 st__law_roots ["_law_cell", "_law_numbers_here", "_law_found", "_law_k"] "_law_roots" W} := ⟨_, fun hP T S hr => by
    have nd := sc__law_roots.nd
    have hu := hu150 hr
    exact (db_cons (ds_set (i := 2) nd (d_lst da_nil))
      (db_cons (ds_for PassesOwn.never rfl (di_r1 (by rfl) T.n_range (da_cons (d_op o_mod (d_var 0) d_int) da_nil)) (dg_name (i := 3) nd)
      (db_one (ds_expr (d_mt PySem.F.plainAttrs_list PySem.F.slot_list_append PySem.F.type_list_append ty_list m_append (d_var 2) (da_cons (d_ix (d_var 1) (d_op o_mod (d_op o_div (d_var 0) (d_op o_add d_int (d_op o_mul (d_var 3) (d_var 3)))) (d_bi b_len (by rfl) T.n_len PySem.boot_len (da_cons (d_var 1) da_nil))) (fun _ _ => rfl)) da_nil)))))
      (db_cons (ds_if (dt_w (dw_and (dt_cmp (o_eq hu) (d_op o_mod (d_op o_div (d_var 0) d_int) d_int) d_int (nomark _)) (dw_and1 (dt_cmp o_gt (d_bi b_len (by rfl) T.n_len PySem.boot_len (da_cons (d_var 2) da_nil)) d_int (nomark _))))) (db_one (ds_expr (d_mt PySem.F.plainAttrs_list PySem.F.slot_list_insert PySem.F.type_list_insert ty_list m_insert (d_var 2) (da_cons (d_op o_mod (d_op o_div (d_var 0) d_int) (d_bi b_len (by rfl) T.n_len PySem.boot_len (da_cons (d_var 2) da_nil))) (da_cons (d_op o_add (d_bi (b_maxL rfl) (by rfl) T.n_max bt_max (da_cons (d_var 1) da_nil)) d_int) da_nil))))) db_nil)
      (db_one (ds_ret (d_var 2))))))⟩
abbrev st__law_copy : Stmt := top 8
theorem sc__law_copy : FnScope ["_law_links_here", "_law_found", "_law_number", "_law_row"] ["_law_links_here"] (defScope st__law_copy) := ⟨rfl, rfl, rfl, by decide +kernel, rfl, by decide +kernel, by decide +kernel⟩
def D__law_copy : {W // SX 0 st__law_copy ["_law_links_here", "_law_found", "_law_number", "_law_row"] "_law_copy" W} := ⟨_, fun hP T S hr => by
    have nd := sc__law_copy.nd
    have hu := hu150 hr
    exact (db_cons (ds_set (i := 1) nd d_dict0)
      (db_cons (ds_for PassesOwn.never rfl (di_items (d_var 0)) (dg_tup (n := 2) rfl (dg_cons (dg_name (i := 2) nd) (dg_cons (dg_name (i := 3) nd) dg_nil)) (gl_cons1 (gl_cons1 gl_nil)))
      (db_one (ds_asg (d_ty b_list (by rfl) T.n_list bt_list (da_cons (d_var 3) da_nil)) (dg_subD hu (d_var 1) (d_var 2)))))
      (db_one (ds_ret (d_var 1)))))⟩
abbrev st__law_first : Stmt := top 9
theorem sc__law_first : FnScope ["_law_links_here", "_law_roots_here", "_law_found", "_law_number"] ["_law_links_here", "_law_roots_here"] (defScope st__law_first) := ⟨rfl, rfl, rfl, by decide +kernel, rfl, by decide +kernel, by decide +kernel⟩
def D__law_first : {W // SX 0 st__law_first ["_law_links_here", "_law_roots_here", "_law_found", "_law_number"] "_law_first" W} := ⟨_, fun hP T S hr => by
    have nd := sc__law_first.nd
    have hu := hu150 hr
    exact (db_cons (ds_set (i := 2) nd (d_lst da_nil))
      (db_cons (ds_for PassesOwn.never rfl (di_seq (d_var 1)) (dg_name (i := 3) nd)
      (db_one (ds_if (dt_w (dw_and (dt_cmp (o_rin hu) (d_var 3) (d_var 0) (by rfl)) (dw_and1 (dt_cmp (o_notIn hu) (d_var 3) (d_var 2) (by rfl))))) (db_one (ds_expr (d_mt PySem.F.plainAttrs_list PySem.F.slot_list_append PySem.F.type_list_append ty_list m_append (d_var 2) (da_cons (d_var 3) da_nil)))) db_nil)))
      (db_one (ds_ret (d_var 2)))))⟩
abbrev st__law_led : Stmt := top 10
theorem sc__law_led : FnScope ["_law_links_here", "_law_rows", "_law_k", "_law_number", "_law_by", "_law_before", "_law_place", "_law_one"] ["_law_links_here", "_law_rows", "_law_k"] (defScope st__law_led) := ⟨rfl, rfl, rfl, by decide +kernel, rfl, by decide +kernel, by decide +kernel⟩
def D__law_led_t1 : {W // SX 5 st__law_led ["_law_links_here", "_law_rows", "_law_k", "_law_number", "_law_by", "_law_before", "_law_place", "_law_one"] "_law_led" W} := ⟨_, fun hP T S hr => by
    have hu := hu150 hr
    exact (db_one (ds_ret (d_tup (da_cons (d_var 6) (da_cons (d_mt PySem.F.plainAttrs_list PySem.F.slot_list_index PySem.F.type_list_index ty_list m_indexB (d_rget hu (d_var 0) (d_var 4) (fun _ _ => rfl)) (da_cons (d_var 3) da_nil)) da_nil)))))⟩
def D__law_led_t2 : {W // SX 3 st__law_led ["_law_links_here", "_law_rows", "_law_k", "_law_number", "_law_by", "_law_before", "_law_place", "_law_one"] "_law_led" W} := ⟨_, fun hP T S hr => by
    have nd := sc__law_led.nd
    have hu := hu150 hr
    exact (db_cons (ds_set (i := 6) nd (d_mt PySem.F.plainAttrs_list PySem.F.slot_list_index PySem.F.type_list_index ty_list m_indexB (d_var 5) (da_cons (d_var 4) da_nil)))
      (db_cons (ds_for PassesOwn.never rfl (di_seq (d_sl (d_var 5) do_none (do_some (d_var 6)))) (dg_name (i := 7) nd)
      (db_one (ds_if (dt_cmp (o_in hu) (d_var 3) (d_rget hu (d_var 0) (d_var 7) (fun _ _ => rfl)) (by rfl)) (db_one (ds_ret d_non)) db_nil)))
      (D__law_led_t1.2 hP T S hr)))⟩
def D__law_led : {W // SX 0 st__law_led ["_law_links_here", "_law_rows", "_law_k", "_law_number", "_law_by", "_law_before", "_law_place", "_law_one"] "_law_led" W} := ⟨_, fun hP T S hr => by
    have nd := sc__law_led.nd
    have hu := hu150 hr
    exact (db_cons (ds_asg (d_ix (d_var 1) (d_var 2) (fun _ _ => rfl)) (dg_tup (n := 2) rfl (dg_cons (dg_name (i := 3) nd) (dg_cons (dg_name (i := 4) nd) dg_nil)) (gl_cons1 (gl_cons1 gl_nil))))
      (db_cons (ds_setComp (k := 5) (cN := ["_law_row"]) (cap := [none]) (cl := []) (js := [0]) (g := (gName 0)) nd rfl rfl rfl  ⟨rfl, (fun _ => compOk0 rfl (by decide +kernel) (by decide +kernel) rfl (by decide)), (di_seq (d_sl (d_var 1) do_none (do_some (d_var 2)))), (fun _ _ _ => pg_name (i := 0) (show (["_law_row"] : List Str).Nodup by decide +kernel) rfl (Or.inl rfl)), gm_name, gk_name, sg_name, by decide +kernel, fun _ _ _ => dif_nil, fun _ _ _ => (d_ix (d_var 0) d_int (fun _ _ => rfl)), fun _ => rfl⟩)
      (db_cons (ds_if (dt_w (dw_or (dt_cmp (o_notIn hu) (d_var 4) (d_var 5) (by rfl)) (dw_or (dt_cmp (o_in hu) (d_var 3) (d_var 5) (by rfl)) (dw_or (dt_cmp (o_rnotin hu) (d_var 3) (d_var 0) (by rfl)) (dw_or1 (dt_cmp (o_notIn hu) (d_var 3) (d_rget hu (d_var 0) (d_var 4) (fun _ _ => rfl)) (by rfl))))))) (db_one (ds_ret d_non)) db_nil)
      (D__law_led_t2.2 hP T S hr))))⟩
abbrev st__law_walked : Stmt := top 11
theorem sc__law_walked : FnScope ["_law_links_here", "_law_roots_here", "_law_rows", "_law_first_here", "_law_last", "_law_k", "_law_led_here", "_law_come", "_law_one", "_law_number"] ["_law_links_here", "_law_roots_here", "_law_rows"] (defScope st__law_walked) := ⟨rfl, rfl, rfl, by decide +kernel, rfl, by decide +kernel, by decide +kernel⟩
def D__law_walked_t1 : {W // SX 6 st__law_walked ["_law_links_here", "_law_roots_here", "_law_rows", "_law_first_here", "_law_last", "_law_k", "_law_led_here", "_law_come", "_law_one", "_law_number"] "_law_walked" W} := ⟨_, fun hP T S hr => by
    exact (db_one (ds_ret d_bl))⟩
def D__law_walked_t2 : {W // SX 4 st__law_walked ["_law_links_here", "_law_roots_here", "_law_rows", "_law_first_here", "_law_last", "_law_k", "_law_led_here", "_law_come", "_law_one", "_law_number"] "_law_walked" W} := ⟨_, fun hP T S hr => by
    have nd := sc__law_walked.nd
    have hu := hu150 hr
    exact (db_cons (ds_setComp (k := 7) (cN := ["_law_row"]) (cap := [none]) (cl := []) (js := [0]) (g := (gName 0)) nd rfl rfl rfl  ⟨rfl, (fun _ => compOk0 rfl (by decide +kernel) (by decide +kernel) rfl (by decide)), (di_seq (d_var 2)), (fun _ _ _ => pg_name (i := 0) (show (["_law_row"] : List Str).Nodup by decide +kernel) rfl (Or.inl rfl)), gm_name, gk_name, sg_name, by decide +kernel, fun _ _ _ => dif_nil, fun _ _ _ => (d_ix (d_var 0) d_int (fun _ _ => rfl)), fun _ => rfl⟩)
      (db_cons (ds_for PassesOwn.never rfl (di_seq (d_var 7)) (dg_name (i := 8) nd)
      (db_one (ds_for PassesOwn.never rfl (di_seq (d_rget hu (d_var 0) (d_var 8) (fun _ _ => rfl))) (dg_name (i := 9) nd)
      (db_one (ds_if (dt_w (dw_and (dt_cmp (o_rin hu) (d_var 9) (d_var 0) (by rfl)) (dw_and1 (dt_cmp (o_notIn hu) (d_var 9) (d_var 7) (by rfl))))) (db_one (ds_ret d_bl)) db_nil)))))
      (D__law_walked_t1.2 hP T S hr)))⟩
def D__law_walked_t3 : {W // SX 2 st__law_walked ["_law_links_here", "_law_roots_here", "_law_rows", "_law_first_here", "_law_last", "_law_k", "_law_led_here", "_law_come", "_law_one", "_law_number"] "_law_walked" W} := ⟨_, fun hP T S hr => by
    have nd := sc__law_walked.nd
    have hu := hu150 hr
    exact (db_cons (ds_set (i := 4) nd (d_tup (da_cons (d_neg d_int) (da_cons (d_neg d_int) da_nil))))
      (db_cons (ds_for PassesOwn.never rfl (di_r2 (by rfl) T.n_range (da_cons (d_bi b_len (by rfl) T.n_len PySem.boot_len (da_cons (d_var 3) da_nil)) (da_cons (d_bi b_len (by rfl) T.n_len PySem.boot_len (da_cons (d_var 2) da_nil)) da_nil))) (dg_name (i := 5) nd)
      (db_cons (ds_if (dt_w (dw_or (dt_not (dt_tru (d_isi (by rfl) T.n_isinstance (by rfl) T.n_tuple bt_tuple (by decide) (d_ix (d_var 2) (d_var 5) (fun _ _ => rfl))))) (dw_or (dt_cmp (o_ne hu) (d_bi b_len (by rfl) T.n_len PySem.boot_len (da_cons (d_ix (d_var 2) (d_var 5) (fun _ _ => rfl)) da_nil)) d_int (nomark _)) (dw_or1 (dt_tru (d_isi (by rfl) T.n_isinstance (by rfl) T.n_bool bt_bool (by decide) (d_ix (d_ix (d_var 2) (d_var 5) (fun _ _ => rfl)) d_int (fun _ _ => rfl)))))))) (db_one (ds_ret d_bl)) db_nil)
      (db_cons (ds_set (i := 6) nd (cP hP (d_call S.c__law_led hr (by rfl) (da_cons (d_var 0) (da_cons (d_var 2) (da_cons (d_var 5) da_nil))))))
      (db_cons (ds_if (dt_w (dw_or (dt_cmp o_isN (d_var 6) d_non (nomark _)) (dw_or1 (dt_cmp (o_leT (Nat.lt_of_le_of_lt (Nat.le_add_right _ _) hu)) (d_var 6) (d_var 4) (nomark _))))) (db_one (ds_ret d_bl)) db_nil)
      (db_one (ds_set (i := 4) nd (d_var 6)))))))
      (D__law_walked_t2.2 hP T S hr)))⟩
def D__law_walked : {W // SX 0 st__law_walked ["_law_links_here", "_law_roots_here", "_law_rows", "_law_first_here", "_law_last", "_law_k", "_law_led_here", "_law_come", "_law_one", "_law_number"] "_law_walked" W} := ⟨_, fun hP T S hr => by
    have nd := sc__law_walked.nd
    have hu := hu150 hr
    exact (db_cons (ds_set (i := 3) nd (cP hP (d_call S.c__law_first hr (by rfl) (da_cons (d_var 0) (da_cons (d_var 1) da_nil)))))
      (db_cons (ds_if (dt_cmp (o_ne hu) (d_sl (d_var 2) do_none (do_some (d_bi b_len (by rfl) T.n_len PySem.boot_len (da_cons (d_var 3) da_nil)))) (d_comp (cN := ["_law_number"]) (cap := [none]) (cl := []) (js := [0]) (g := (gName 0)) ⟨rfl, (fun _ => compOk0 rfl (by decide +kernel) (by decide +kernel) rfl (by decide)), (di_seq (d_var 3)), (fun _ _ _ => pg_name (i := 0) (show (["_law_number"] : List Str).Nodup by decide +kernel) rfl (Or.inl rfl)), gm_name, gk_name, sg_name, by decide +kernel, fun _ _ _ => dif_nil, fun _ _ _ => (d_tup (da_cons (d_var 0) (da_cons d_non da_nil))), fun _ => rfl⟩) (nomark _)) (db_one (ds_ret d_bl)) db_nil)
      (D__law_walked_t3.2 hP T S hr)))⟩
abbrev st__law_chain : Stmt := top 12
theorem sc__law_chain : FnScope ["_law_cell", "_law_links_here", "_law_far", "_law_k", "_law_rows"] ["_law_cell"] (defScope st__law_chain) := ⟨rfl, rfl, rfl, by decide +kernel, rfl, by decide +kernel, by decide +kernel⟩
def D__law_chain_t1 : {W // SX 6 st__law_chain ["_law_cell", "_law_links_here", "_law_far", "_law_k", "_law_rows"] "_law_chain" W} := ⟨_, fun hP T S hr => by
    exact (db_one (ds_ret d_bl))⟩
def D__law_chain_t2 : {W // SX 5 st__law_chain ["_law_cell", "_law_links_here", "_law_far", "_law_k", "_law_rows"] "_law_chain" W} := ⟨_, fun hP T S hr => by
    have nd := sc__law_chain.nd
    have hu := hu150 hr
    exact (db_cons (ds_for PassesOwn.never rfl (di_r2 (by rfl) T.n_range (da_cons d_int (da_cons d_int da_nil))) (dg_name (i := 3) nd)
      (db_one (ds_if (dt_cmp (o_ne hu) (d_ix (d_var 4) (d_var 3) (fun _ _ => rfl)) (d_tup (da_cons (d_op o_add (d_op o_mul (d_var 3) (d_var 2)) (d_op o_mod (d_var 0) d_int)) (da_cons (d_op o_add (d_op o_sub (d_op o_mul (d_var 3) (d_var 2)) (d_var 2)) (d_op o_mod (d_var 0) d_int)) da_nil))) (nomark _)) (db_one (ds_ret d_bl)) db_nil)))
      (D__law_chain_t1.2 hP T S hr))⟩
def D__law_chain_t3 : {W // SX 3 st__law_chain ["_law_cell", "_law_links_here", "_law_far", "_law_k", "_law_rows"] "_law_chain" W} := ⟨_, fun hP T S hr => by
    have nd := sc__law_chain.nd
    have hu := hu150 hr
    exact (db_cons (ds_set (i := 4) nd (cP hP (d_call S.c_reached hr (by rfl) (da_cons (d_var 1) (da_cons (d_lst (da_cons (d_op o_mod (d_var 0) d_int) da_nil)) da_nil)))))
      (db_cons (ds_if (dt_w (dw_or (dt_not (dt_tru (d_isi (by rfl) T.n_isinstance (by rfl) T.n_list bt_list (by decide) (d_var 4)))) (dw_or (dt_cmp (o_ne hu) (d_bi b_len (by rfl) T.n_len PySem.boot_len (da_cons (d_var 4) da_nil)) d_int (nomark _)) (dw_or1 (dt_cmp (o_ne hu) (d_ix (d_var 4) d_int (fun _ _ => rfl)) (d_tup (da_cons (d_op o_mod (d_var 0) d_int) (da_cons d_non da_nil))) (nomark _)))))) (db_one (ds_ret d_bl)) db_nil)
      (D__law_chain_t2.2 hP T S hr)))⟩
def D__law_chain : {W // SX 0 st__law_chain ["_law_cell", "_law_links_here", "_law_far", "_law_k", "_law_rows"] "_law_chain" W} := ⟨_, fun hP T S hr => by
    have nd := sc__law_chain.nd
    have hu := hu150 hr
    exact (db_cons (ds_set (i := 1) nd d_dict0)
      (db_cons (ds_set (i := 2) nd (d_op o_add d_int (d_op o_mod (d_var 0) d_int)))
      (db_cons (ds_for PassesOwn.never rfl (di_r1 (by rfl) T.n_range (da_cons d_int da_nil)) (dg_name (i := 3) nd)
      (db_one (ds_asg (d_lst (da_cons (d_op o_add (d_op o_add (d_op o_mul (d_var 3) (d_var 2)) (d_var 2)) (d_op o_mod (d_var 0) d_int)) da_nil)) (dg_subD hu (d_var 1) (d_op o_add (d_op o_mul (d_var 3) (d_var 2)) (d_op o_mod (d_var 0) d_int))))))
      (D__law_chain_t3.2 hP T S hr))))⟩
abbrev st_law : Stmt := top 13
theorem sc_law : FnScope ["_law_script", "_law_numbers_here", "_law_links_here", "_law_roots_here", "_law_handed", "_law_begin", "_law_rows", "_law_kept", "_law_other", "_law_cell"] ["_law_script"] (defScope st_law) := ⟨rfl, rfl, rfl, by decide +kernel, rfl, by decide +kernel, by decide +kernel⟩
def D_law_t1 : {W // SX 12 st_law ["_law_script", "_law_numbers_here", "_law_links_here", "_law_roots_here", "_law_handed", "_law_begin", "_law_rows", "_law_kept", "_law_other", "_law_cell"] "law" W} := ⟨_, fun hP T S hr => by
    have nd := sc_law.nd
    exact (db_cons (ds_set (i := 9) nd (cP hP (d_call S.c__law_cell_at hr (by rfl) (da_cons (d_var 0) (da_cons d_int da_nil)))))
      (db_one (ds_ret (d_or (d_cmp o_gt (d_op o_mod (d_op o_div (d_var 9) d_int) d_int) d_int (nomark _)) (d_one (cP hP (d_call S.c__law_chain hr (by rfl) (da_cons (d_op o_div (d_var 9) d_int) da_nil))))))))⟩
def D_law_t2 : {W // SX 11 st_law ["_law_script", "_law_numbers_here", "_law_links_here", "_law_roots_here", "_law_handed", "_law_begin", "_law_rows", "_law_kept", "_law_other", "_law_cell"] "law" W} := ⟨_, fun hP T S hr => by
    have hu := hu150 hr
    exact (db_cons (ds_if (dt_w (dw_or (dt_cmp (o_ne hu) (cP hP (d_call S.c_reached hr (by rfl) (da_cons (d_var 4) (da_cons (d_var 5) da_nil)))) (d_var 7) (nomark _)) (dw_or1 (dt_cmp (o_ne hu) (cP hP (d_call S.c_reached hr (by rfl) (da_cons (d_var 2) (da_cons (d_lst da_nil) da_nil)))) (d_lst da_nil) (nomark _))))) (db_one (ds_ret d_bl)) db_nil)
      (D_law_t1.2 hP T S hr))⟩
def D_law_t3 : {W // SX 7 st_law ["_law_script", "_law_numbers_here", "_law_links_here", "_law_roots_here", "_law_handed", "_law_begin", "_law_rows", "_law_kept", "_law_other", "_law_cell"] "law" W} := ⟨_, fun hP T S hr => by
    have nd := sc_law.nd
    have hu := hu150 hr
    exact (db_cons (ds_set (i := 7) nd (d_ty b_list (by rfl) T.n_list bt_list (da_cons (d_var 6) da_nil)))
      (db_cons (ds_expr (d_mt0 PySem.F.plainAttrs_list PySem.F.slot_list_clear PySem.F.type_list_clear ty_list m_clear (d_var 6)))
      (db_cons (ds_set (i := 8) nd (cP hP (d_call S.c_reached hr (by rfl) (da_cons (cP hP (d_call S.c__law_copy hr (by rfl) (da_cons (d_var 2) da_nil))) (da_cons (d_lrev rfl (by rfl) T.n_list (by rfl) T.n_reversed (d_var 3)) da_nil)))))
      (db_cons (ds_if (dt_w (dw_or (dt_not (dt_tru (cP hP (d_call S.c__law_walked hr (by rfl) (da_cons (d_var 2) (da_cons (d_lrev rfl (by rfl) T.n_list (by rfl) T.n_reversed (d_var 3)) (da_cons (d_var 8) da_nil))))))) (dw_or1 (dt_cmp (o_ne hu) (cP hP (d_call S.c_reached hr (by rfl) (da_cons d_dict0 (da_cons (d_ty b_list (by rfl) T.n_list bt_list (da_cons (d_var 3) da_nil)) da_nil)))) (d_lst da_nil) (nomark _))))) (db_one (ds_ret d_bl)) db_nil)
      (D_law_t2.2 hP T S hr)))))⟩
def D_law : {W // SX 0 st_law ["_law_script", "_law_numbers_here", "_law_links_here", "_law_roots_here", "_law_handed", "_law_begin", "_law_rows", "_law_kept", "_law_other", "_law_cell"] "law" W} := ⟨_, fun hP T S hr => by
    have nd := sc_law.nd
    have hu := hu150 hr
    exact (db_cons (ds_set (i := 1) nd (cP hP (d_call S.c__law_numbers hr (by rfl) (da_cons (cP hP (d_call S.c__law_cell_at hr (by rfl) (da_cons (d_var 0) (da_cons d_int da_nil)))) da_nil))))
      (db_cons (ds_set (i := 2) nd (cP hP (d_call S.c__law_links hr (by rfl) (da_cons (d_var 0) (da_cons (d_var 1) da_nil)))))
      (db_cons (ds_set (i := 3) nd (cP hP (d_call S.c__law_roots hr (by rfl) (da_cons (cP hP (d_call S.c__law_cell_at hr (by rfl) (da_cons (d_var 0) (da_cons d_int da_nil)))) (da_cons (d_var 1) da_nil)))))
      (db_cons (ds_set (i := 4) nd (cP hP (d_call S.c__law_copy hr (by rfl) (da_cons (d_var 2) da_nil))))
      (db_cons (ds_set (i := 5) nd (d_ty b_list (by rfl) T.n_list bt_list (da_cons (d_var 3) da_nil)))
      (db_cons (ds_set (i := 6) nd (cP hP (d_call S.c_reached hr (by rfl) (da_cons (d_var 4) (da_cons (d_var 5) da_nil)))))
      (db_cons (ds_if (dt_w (dw_or (dt_not (dt_tru (d_isi (by rfl) T.n_isinstance (by rfl) T.n_list bt_list (by decide) (d_var 6)))) (dw_or (dt_cmp (o_rneH hu) (d_var 4) (d_var 2) (nomark _)) (dw_or (dt_cmp (o_ne hu) (d_var 5) (d_var 3) (nomark _)) (dw_or1 (dt_not (dt_tru (cP hP (d_call S.c__law_walked hr (by rfl) (da_cons (d_var 2) (da_cons (d_var 3) (da_cons (d_var 6) da_nil)))))))))))) (db_one (ds_ret d_bl)) db_nil)
      (D_law_t3.2 hP T S hr))))))))⟩
end K51
set_option Elab.async false
set_option linter.all false
set_option maxRecDepth 100000
set_option maxHeartbeats 4000000
namespace K51
open PySem PySem.Spec PyProof.Rows L2 WL
/-- slots: 0:links 1:roots -/
def w_reached : Calls → WS := D_reached.1
/-- slots: 0:links 1:roots 2:leaders 3:number 4:order 5:place 6:leader -/
def w_leaders_of : Calls → WS := D_leaders_of.1
/-- slots: 0:_law_script 1:_law_k 2:_law_number 3:_law_cell -/
def w__law_cell_at : Calls → WS := D__law_cell_at.1
/-- slots: 0:_law_cell 1:_law_found 2:_law_k 3:_law_number -/
def w__law_numbers : Calls → WS := D__law_numbers.1
def w__law_links_t1 : Calls → WS := D__law_links_t1.1
def w__law_links_t2 : Calls → WS := D__law_links_t2.1
/-- slots: 0:_law_script 1:_law_numbers_here 2:_law_links_here 3:_law_out 4:_law_order 5:_law_k 6:_law_keys 7:_law_cell 8:_law_goal 9:_law_place -/
def w__law_links : Calls → WS := D__law_links.1
/-- slots: 0:_law_cell 1:_law_numbers_here 2:_law_found 3:_law_k -/
def w__law_roots : Calls → WS := D__law_roots.1
/-- slots: 0:_law_links_here 1:_law_found 2:_law_number 3:_law_row -/
def w__law_copy : Calls → WS := D__law_copy.1
/-- slots: 0:_law_links_here 1:_law_roots_here 2:_law_found 3:_law_number -/
def w__law_first : Calls → WS := D__law_first.1
def w__law_led_t1 : Calls → WS := D__law_led_t1.1
def w__law_led_t2 : Calls → WS := D__law_led_t2.1
/-- slots: 0:_law_links_here 1:_law_rows 2:_law_k 3:_law_number 4:_law_by 5:_law_before 6:_law_place 7:_law_one -/
def w__law_led : Calls → WS := D__law_led.1
def w__law_walked_t1 : Calls → WS := D__law_walked_t1.1
def w__law_walked_t2 : Calls → WS := D__law_walked_t2.1
def w__law_walked_t3 : Calls → WS := D__law_walked_t3.1
/-- slots: 0:_law_links_here 1:_law_roots_here 2:_law_rows 3:_law_first_here 4:_law_last 5:_law_k 6:_law_led_here 7:_law_come 8:_law_one 9:_law_number -/
def w__law_walked : Calls → WS := D__law_walked.1
def w__law_chain_t1 : Calls → WS := D__law_chain_t1.1
def w__law_chain_t2 : Calls → WS := D__law_chain_t2.1
def w__law_chain_t3 : Calls → WS := D__law_chain_t3.1
/-- slots: 0:_law_cell 1:_law_links_here 2:_law_far 3:_law_k 4:_law_rows -/
def w__law_chain : Calls → WS := D__law_chain.1
def w_law_t1 : Calls → WS := D_law_t1.1
def w_law_t2 : Calls → WS := D_law_t2.1
def w_law_t3 : Calls → WS := D_law_t3.1
/-- slots: 0:_law_script 1:_law_numbers_here 2:_law_links_here 3:_law_roots_here 4:_law_handed 5:_law_begin 6:_law_rows 7:_law_kept 8:_law_other 9:_law_cell -/
def w_law : Calls → WS := D_law.1
abbrev i_reached : Nat := 0
abbrev i_leaders_of : Nat := 1
abbrev i__law_cell_at : Nat := 2
abbrev i__law_numbers : Nat := 3
abbrev i__law_links : Nat := 4
abbrev i__law_roots : Nat := 5
abbrev i__law_copy : Nat := 6
abbrev i__law_first : Nat := 7
abbrev i__law_led : Nat := 8
abbrev i__law_walked : Nat := 9
abbrev i__law_chain : Nat := 10
abbrev i_law : Nat := 11
def pr : List Df := [⟨2, 2, w_reached⟩, ⟨7, 2, w_leaders_of⟩, ⟨4, 2, w__law_cell_at⟩, ⟨4, 1, w__law_numbers⟩, ⟨10, 2, w__law_links⟩, ⟨4, 2, w__law_roots⟩, ⟨4, 1, w__law_copy⟩, ⟨4, 2, w__law_first⟩, ⟨8, 3, w__law_led⟩, ⟨10, 3, w__law_walked⟩, ⟨5, 1, w__law_chain⟩, ⟨10, 1, w_law⟩]
theorem u_reached {n : Nat} {vs : List T} {C : Hw} {Q : WK} {χ : WX} (hl : vs.length = 2) (h : w_reached (wpc pr n) { nx := fun _ C' => Q .non C', rt := Q, xc := χ } (vs.map some ++ List.replicate 0 none) C) : wpc pr (n + 1) 0 vs C Q χ := ⟨_, rfl, hl, h⟩
theorem u_leaders_of {n : Nat} {vs : List T} {C : Hw} {Q : WK} {χ : WX} (hl : vs.length = 2) (h : w_leaders_of (wpc pr n) { nx := fun _ C' => Q .non C', rt := Q, xc := χ } (vs.map some ++ List.replicate 5 none) C) : wpc pr (n + 1) 1 vs C Q χ := ⟨_, rfl, hl, h⟩
theorem u__law_cell_at {n : Nat} {vs : List T} {C : Hw} {Q : WK} {χ : WX} (hl : vs.length = 2) (h : w__law_cell_at (wpc pr n) { nx := fun _ C' => Q .non C', rt := Q, xc := χ } (vs.map some ++ List.replicate 2 none) C) : wpc pr (n + 1) 2 vs C Q χ := ⟨_, rfl, hl, h⟩
theorem u__law_numbers {n : Nat} {vs : List T} {C : Hw} {Q : WK} {χ : WX} (hl : vs.length = 1) (h : w__law_numbers (wpc pr n) { nx := fun _ C' => Q .non C', rt := Q, xc := χ } (vs.map some ++ List.replicate 3 none) C) : wpc pr (n + 1) 3 vs C Q χ := ⟨_, rfl, hl, h⟩
theorem u__law_links {n : Nat} {vs : List T} {C : Hw} {Q : WK} {χ : WX} (hl : vs.length = 2) (h : w__law_links (wpc pr n) { nx := fun _ C' => Q .non C', rt := Q, xc := χ } (vs.map some ++ List.replicate 8 none) C) : wpc pr (n + 1) 4 vs C Q χ := ⟨_, rfl, hl, h⟩
theorem u__law_roots {n : Nat} {vs : List T} {C : Hw} {Q : WK} {χ : WX} (hl : vs.length = 2) (h : w__law_roots (wpc pr n) { nx := fun _ C' => Q .non C', rt := Q, xc := χ } (vs.map some ++ List.replicate 2 none) C) : wpc pr (n + 1) 5 vs C Q χ := ⟨_, rfl, hl, h⟩
theorem u__law_copy {n : Nat} {vs : List T} {C : Hw} {Q : WK} {χ : WX} (hl : vs.length = 1) (h : w__law_copy (wpc pr n) { nx := fun _ C' => Q .non C', rt := Q, xc := χ } (vs.map some ++ List.replicate 3 none) C) : wpc pr (n + 1) 6 vs C Q χ := ⟨_, rfl, hl, h⟩
theorem u__law_first {n : Nat} {vs : List T} {C : Hw} {Q : WK} {χ : WX} (hl : vs.length = 2) (h : w__law_first (wpc pr n) { nx := fun _ C' => Q .non C', rt := Q, xc := χ } (vs.map some ++ List.replicate 2 none) C) : wpc pr (n + 1) 7 vs C Q χ := ⟨_, rfl, hl, h⟩
theorem u__law_led {n : Nat} {vs : List T} {C : Hw} {Q : WK} {χ : WX} (hl : vs.length = 3) (h : w__law_led (wpc pr n) { nx := fun _ C' => Q .non C', rt := Q, xc := χ } (vs.map some ++ List.replicate 5 none) C) : wpc pr (n + 1) 8 vs C Q χ := ⟨_, rfl, hl, h⟩
theorem u__law_walked {n : Nat} {vs : List T} {C : Hw} {Q : WK} {χ : WX} (hl : vs.length = 3) (h : w__law_walked (wpc pr n) { nx := fun _ C' => Q .non C', rt := Q, xc := χ } (vs.map some ++ List.replicate 7 none) C) : wpc pr (n + 1) 9 vs C Q χ := ⟨_, rfl, hl, h⟩
theorem u__law_chain {n : Nat} {vs : List T} {C : Hw} {Q : WK} {χ : WX} (hl : vs.length = 1) (h : w__law_chain (wpc pr n) { nx := fun _ C' => Q .non C', rt := Q, xc := χ } (vs.map some ++ List.replicate 4 none) C) : wpc pr (n + 1) 10 vs C Q χ := ⟨_, rfl, hl, h⟩
theorem u_law {n : Nat} {vs : List T} {C : Hw} {Q : WK} {χ : WX} (hl : vs.length = 1) (h : w_law (wpc pr n) { nx := fun _ C' => Q .non C', rt := Q, xc := χ } (vs.map some ++ List.replicate 9 none) C) : wpc pr (n + 1) 11 vs C Q χ := ⟨_, rfl, hl, h⟩
end K51
set_option Elab.async false
set_option linter.all false
set_option maxRecDepth 100000
set_option maxHeartbeats 4000000
namespace K51
open PySem PySem.Spec PyProof.Rows L2 WL
section
variable {Pg : Program} {w : World} {K : PySem.W.Frag} {mg : Str → Option Value} {base : Heap} {f : Addr} {fd : FuncData} {n i : Nat} {pr : List Df} {x q : Str} {N ps : List Str} {st : Stmt}
theorem okQ (D : {W // SX 0 st N q W}) (T : Txt w K mg) (S : Cs Pg w K mg base n pr) (sc : FnScope N ps (defScope st)) (hd : pr[i]? = some ⟨N.length, ps.length, D.1⟩) (F : Fun K x q st f fd) : FnOk Pg w K mg base CX0 (n + 1) f fd ps (spW K pr (n + 1) i) := fn_okQ F sc hd rfl rfl fun _ _ _ _ _ _ hr => D.2 rfl T S hr
theorem okT {P : Addr} (D : {W // SXT P 0 st N q W}) (T : Txt w K mg) (S : Cs Pg w K mg base n pr) (sc : FnScope N ps (defScope st)) (hd : pr[i]? = some ⟨N.length, ps.length, D.1⟩) (F : Fun K x q st f fd) (hT : TbK K fd.code P) : FnOk Pg w K mg base CX0 (n + 1) f fd ps (spW K pr (n + 1) i) := fn_okT F hT sc hd rfl rfl fun _ _ _ _ _ _ ht hr => D.2 rfl T S ht hr
end
theorem bn0 {C : List Value → Prop} (h : C []) : ∀ us : List Value, us.length = 0 → C us
  | [], _ => h
theorem bn1 {C : List Value → Prop} (h : ∀ a, C [a]) : ∀ us : List Value, us.length = 1 → C us
  | [a], _ => h a
theorem bn2 {C : List Value → Prop} (h : ∀ a b, C [a, b]) : ∀ us : List Value, us.length = 2 → C us
  | [a, b], _ => h a b
theorem bn3 {C : List Value → Prop} (h : ∀ a b c, C [a, b, c]) : ∀ us : List Value, us.length = 3 → C us
  | [a, b, c], _ => h a b c
theorem bn4 {C : List Value → Prop} (h : ∀ a b c d, C [a, b, c, d]) : ∀ us : List Value, us.length = 4 → C us
  | [a, b, c, d], _ => h a b c d
theorem bn5 {C : List Value → Prop} (h : ∀ a b c d e, C [a, b, c, d, e]) : ∀ us : List Value, us.length = 5 → C us
  | [a, b, c, d, e], _ => h a b c d e
theorem bn6 {C : List Value → Prop} (h : ∀ a b c d e f, C [a, b, c, d, e, f]) : ∀ us : List Value, us.length = 6 → C us
  | [a, b, c, d, e, f], _ => h a b c d e f
theorem all_mk {l : PySem.W.OpenLaw} {w : World} {K : PySem.W.Frag} {h : Heap} {mg : Str → Option Value} {fa  : Addr} (X : K.In h) (G : h.Ns mainGlobals mg) (hfa : mg "law" = some (.ref fa))
    (l0 : Fg K "reached" st_reached)
    (l1 : Fg K "leaders_of" st_leaders_of)
    (l2 : Fg K "_law_cell_at" st__law_cell_at)
    (l3 : Fg K "_law_numbers" st__law_numbers)
    (l4 : FgT K "_law_links" st__law_links 44)
    (l5 : Fg K "_law_roots" st__law_roots)
    (l6 : Fg K "_law_copy" st__law_copy)
    (l7 : Fg K "_law_first" st__law_first)
    (l8 : Fg K "_law_led" st__law_led)
    (l9 : Fg K "_law_walked" st__law_walked)
    (l10 : Fg K "_law_chain" st__law_chain)
    (l11 : Fg K "law" st_law)
    (z_bool : PySem.W.nsIn K mainGlobals "bool" = some none)
    (z_isinstance : PySem.W.nsIn K mainGlobals "isinstance" = some none)
    (z_len : PySem.W.nsIn K mainGlobals "len" = some none)
    (z_list : PySem.W.nsIn K mainGlobals "list" = some none)
    (z_max : PySem.W.nsIn K mainGlobals "max" = some none)
    (z_min : PySem.W.nsIn K mainGlobals "min" = some none)
    (z_range : PySem.W.nsIn K mainGlobals "range" = some none)
    (z_reversed : PySem.W.nsIn K mainGlobals "reversed" = some none)
    (z_sorted : PySem.W.nsIn K mainGlobals "sorted" = some none)
    (z_tuple : PySem.W.nsIn K mainGlobals "tuple" = some none)
    : ∃ fd : FuncData, (∀ (s : Shared) (v : Value), BindsTo s fd ⟨[v], []⟩ [("_law_script", v)]) ∧ ∀ base : Heap, K.In base → base.Ns mainGlobals mg → Bm mg base → FnOk l.prog w K mg base CX0 60 fa fd ["_law_script"] (spW K pr 60 11) := by
  have L11 := ld_mk (ps := ["_law_script"]) X G l11 fun _ _ _ _ _ _ => bn1 fun _ => rfl
  obtain ⟨f11, _, a11, ⟨oc, od, kV, dc, pm, an, cd, ct, sl, rfl, ll, lc⟩, lk⟩ := l11
  have F11 := fun_mk (st := st_law) ll lc lk
  have e := hfa.symm.trans (PySem.W.mg_of X G a11)
  cases e
  have T : Txt w K mg := ⟨PySem.W.mg_none_of X G z_bool, PySem.W.mg_none_of X G z_isinstance, PySem.W.mg_none_of X G z_len, PySem.W.mg_none_of X G z_list, PySem.W.mg_none_of X G z_max, PySem.W.mg_none_of X G z_min, PySem.W.mg_none_of X G z_range, PySem.W.mg_none_of X G z_reversed, PySem.W.mg_none_of X G z_sorted, PySem.W.mg_none_of X G z_tuple⟩
  have L0 := ld_mk (ps := ["links", "roots"]) X G l0 fun _ _ _ _ _ _ => bn2 fun _ _ => rfl
  have L1 := ld_mk (ps := ["links", "roots"]) X G l1 fun _ _ _ _ _ _ => bn2 fun _ _ => rfl
  have L2 := ld_mk (ps := ["_law_script", "_law_k"]) X G l2 fun _ _ _ _ _ _ => bn2 fun _ _ => rfl
  have L3 := ld_mk (ps := ["_law_cell"]) X G l3 fun _ _ _ _ _ _ => bn1 fun _ => rfl
  have L4 := ld_mkT (ps := ["_law_script", "_law_numbers_here"]) X G l4 fun _ _ _ _ _ _ => bn2 fun _ _ => rfl
  have L5 := ld_mk (ps := ["_law_cell", "_law_numbers_here"]) X G l5 fun _ _ _ _ _ _ => bn2 fun _ _ => rfl
  have L6 := ld_mk (ps := ["_law_links_here"]) X G l6 fun _ _ _ _ _ _ => bn1 fun _ => rfl
  have L7 := ld_mk (ps := ["_law_links_here", "_law_roots_here"]) X G l7 fun _ _ _ _ _ _ => bn2 fun _ _ => rfl
  have L8 := ld_mk (ps := ["_law_links_here", "_law_rows", "_law_k"]) X G l8 fun _ _ _ _ _ _ => bn3 fun _ _ _ => rfl
  have L9 := ld_mk (ps := ["_law_links_here", "_law_roots_here", "_law_rows"]) X G l9 fun _ _ _ _ _ _ => bn3 fun _ _ _ => rfl
  have L10 := ld_mk (ps := ["_law_cell"]) X G l10 fun _ _ _ _ _ _ => bn1 fun _ => rfl
  refine ⟨PySem.W.fnOf "law" "law" (defArgs st_law) (defBody st_law) (defScope st_law) .none kV dc pm an cd ct, fun s v => .of_eq rfl, fun base _ _ hB => ?_⟩
  have CS : ∀ n, Cs l.prog w K mg base n pr := fun n => by
    induction n with
    | zero => exact ⟨ld0 L0, ld0 L1, ld0 L2, ld0 L3, ld0T L4, ld0 L5, ld0 L6, ld0 L7, ld0 L8, ld0 L9, ld0 L10, ld0 L11, hB⟩
    | succ n ih => exact ⟨ld1 L0 (okQ D_reached T ih sc_reached rfl), ld1 L1 (okQ D_leaders_of T ih sc_leaders_of rfl), ld1 L2 (okQ D__law_cell_at T ih sc__law_cell_at rfl), ld1 L3 (okQ D__law_numbers T ih sc__law_numbers rfl), ld1T L4 (okT D__law_links T ih sc__law_links rfl), ld1 L5 (okQ D__law_roots T ih sc__law_roots rfl), ld1 L6 (okQ D__law_copy T ih sc__law_copy rfl), ld1 L7 (okQ D__law_first T ih sc__law_first rfl), ld1 L8 (okQ D__law_led T ih sc__law_led rfl), ld1 L9 (okQ D__law_walked T ih sc__law_walked rfl), ld1 L10 (okQ D__law_chain T ih sc__law_chain rfl), ld1 L11 (okQ D_law T ih sc_law rfl), hB⟩
  exact okQ D_law T (CS (59)) sc_law rfl F11
end K51
set_option Elab.async false
set_option linter.all false
set_option maxRecDepth 100000
set_option maxHeartbeats 4000000
/-! the second level's own words: reading a def, loops, what stays -/
namespace WL
open PySem PySem.Spec PyProof.Rows L2
/-- what stood stands -/
def Ex (C C' : Hw) : Prop := ∀ a o, C a = some o → C' a = some o
theorem Ex.trans {C C1 C2 : Hw} (a : Ex C C1) (b : Ex C1 C2) : Ex C C2 := fun c o h => b c o (a c o h)
theorem cne {C : Hw} {a b : Addr} {o : O} (h : C a = some o) (h' : C b = none) : a ≠ b := fun e => by subst e; rw [h] at h'; cases h'
theorem Ex.new {C : Hw} {p : Addr} {o : O} (h : C p = none) : Ex C (up C p o) := fun a u e => by rw [up_ne (cne e h)]; exact e
theorem Ex.up {C C' : Hw} {p : Addr} {o : O} (e : Ex C C') (h : C p = none) : Ex C (up C' p o) := fun a u q => by rw [up_ne (cne q h)]; exact e a u q
theorem fr1 {C : Hw} {p q : Addr} {o : O} (h : up C p o q = none) : q ≠ p ∧ C q = none := by
  have n : q ≠ p := fun z => by subst z; rw [up_same] at h; cases h
  rw [up_ne n] at h
  exact ⟨n, h⟩
theorem Ex.free {C C' : Hw} (e : Ex C C') {p : Addr} (h : C' p = none) : C p = none := by
  cases q : C p with
  | none => rfl
  | some o => rw [e p o q] at h; cases h
/-- what stood stands, but for one -/
def ExB (p : Addr) (C C' : Hw) : Prop := ∀ a o, a ≠ p → C a = some o → C' a = some o
theorem flat_str {x : Str} {n : Nat} : flat (.str x) n = true := by unfold flat; rfl
theorem flat_int {x : Int} {n : Nat} : flat (.int x) n = true := by unfold flat; rfl
theorem flat_bl {x : Bool} {n : Nat} : flat (.bl x) n = true := by unfold flat; rfl
theorem isFlat_str {x : Str} : isFlat (.str x) = True := eq_true flat_str
theorem isFlat_int {x : Int} : isFlat (.int x) = True := eq_true flat_int
theorem isFlat_bl {x : Bool} : isFlat (.bl x) = True := eq_true flat_bl
section
variable {n : Bool} {C : Hw} {Q : WK}
theorem wEq_str {a b : Str} : wEqG n (.str a) (.str b) C Q = Q (.bl (if n = true then !(a == b) else a == b)) C := by
  show (isFlat _ ∧ isFlat _ ∧ Q (.bl (if n = true then !eqT (.str a) (.str b) else eqT (.str a) (.str b))) C) = _
  rw [isFlat_str, isFlat_str, true_and, true_and, show eqT (.str a) (.str b) = (a == b) by unfold eqT; rfl]
theorem wEq_int {a b : Int} : wEqG n (.int a) (.int b) C Q = Q (.bl (if n = true then !(a == b) else a == b)) C := by
  show (isFlat _ ∧ isFlat _ ∧ Q (.bl (if n = true then !eqT (.int a) (.int b) else eqT (.int a) (.int b))) C) = _
  rw [isFlat_int, isFlat_int, true_and, true_and, show eqT (.int a) (.int b) = (a == b) by unfold eqT; rfl]
theorem wEq_bl {a b : Bool} : wEqG n (.bl a) (.bl b) C Q = Q (.bl (if n = true then !(a == b) else a == b)) C := by
  show (isFlat _ ∧ isFlat _ ∧ Q (.bl (if n = true then !eqT (.bl a) (.bl b) else eqT (.bl a) (.bl b))) C) = _
  rw [isFlat_bl, isFlat_bl, true_and, true_and, show eqT (.bl a) (.bl b) = (a == b) by unfold eqT; rfl]
end
section
variable {α : Type} {a b c d e : α} {xs : List α}
theorem erase0 : (a :: xs).eraseIdx 0 = xs := rfl
theorem atI_0 : atI (a :: xs) 0 = some a := atI_nat (j := 0) rfl
theorem atI_1 : atI (a :: b :: xs) 1 = some b := atI_nat (j := 1) rfl
theorem atI_2 : atI (a :: b :: c :: xs) 2 = some c := atI_nat (j := 2) rfl
theorem atI_3 : atI (a :: b :: c :: d :: xs) 3 = some d := atI_nat (j := 3) rfl
theorem atI_4 : atI (a :: b :: c :: d :: e :: xs) 4 = some e := atI_nat (j := 4) rfl
theorem atI_m1 : atI [a] (-1) = some a := rfl
theorem atI_m2 : atI [a, b] (-1) = some b := rfl
theorem atI_m3 : atI [a, b, c] (-1) = some c := rfl
theorem atI_m4 : atI [a, b, c, d] (-1) = some d := rfl
end
/-- a loop by what holds of the turns done; N is whatever the next turn wants -/
theorem for_inv {g : WG} {b : WS} {ok : Hw → Prop} {D : We} {xs : List T} (Pv : Nat → Sw → Hw → Prop) {τ : Sw} {C : Hw} (h0 : Pv 0 τ C) (hok : ∀ i τ C, i ≤ xs.length → Pv i τ C → ok C)
    (hs : ∀ i x τ C (N : Sw → Hw → Prop), xs[i]? = some x → Pv i τ C → (∀ τ' C', Pv (i + 1) τ' C' → N τ' C') → g x τ C (fun τ2 C2 => b { D with nx := N, ct := N, bk := D.nx } τ2 C2) D.xc)
    (hd : ∀ τ C, Pv xs.length τ C → D.nx τ C) : forW g b ok D xs τ C := by
  have key : ∀ (k i : Nat) (τ : Sw) (C : Hw), xs.length - i = k → i ≤ xs.length → Pv i τ C → forW g b ok D (xs.drop i) τ C := by
    intro k
    induction k with
    | zero =>
      intro i τ C hk hi hp
      have e : i = xs.length := by omega
      subst e
      rw [List.drop_length]
      exact ⟨hok _ τ C (Nat.le_refl _) hp, hd τ C hp⟩
    | succ k ih =>
      intro i τ C hk hi hp
      have hlt : i < xs.length := by omega
      rw [List.drop_eq_getElem_cons hlt]
      exact ⟨hok i τ C hi hp, hs i _ τ C _ (by simp [hlt]) hp fun τ' C' h => ih (i + 1) τ' C' (by omega) hlt h⟩
  exact key xs.length 0 τ C (by simp) (Nat.zero_le _) h0
theorem rng_len (lo : Int) (n : Nat) : (rng lo n).length = n := by unfold rng; simp
theorem rng_get {lo : Int} {n i : Nat} {x : T} (h : (rng lo n)[i]? = some x) : i < n ∧ x = .int (lo + i) := by
  have hi : i < n := by
    have := (List.getElem?_eq_some_iff.mp h).1
    rw [rng_len] at this; exact this
  unfold rng at h
  rw [List.getElem?_map, List.getElem?_range hi] at h
  cases h
  exact ⟨hi, rfl⟩
/-- over a range -/
theorem for_rng {g : WG} {b : WS} {ok : Hw → Prop} {D : We} {lo : Int} {n : Nat} (Pv : Nat → Sw → Hw → Prop) {τ : Sw} {C : Hw} (h0 : Pv 0 τ C) (hok : ∀ C, ok C)
    (hs : ∀ i τ C (N : Sw → Hw → Prop), i < n → Pv i τ C → (∀ τ' C', Pv (i + 1) τ' C' → N τ' C') → g (.int (lo + i)) τ C (fun τ2 C2 => b { D with nx := N, ct := N, bk := D.nx } τ2 C2) D.xc)
    (hd : ∀ τ C, Pv n τ C → D.nx τ C) : forW g b ok D (rng lo n) τ C := by
  refine for_inv Pv h0 (fun _ _ C _ _ => hok C) (fun i x τ C N hx hp hN => ?_) (fun τ C h => hd τ C (by rw [rng_len] at h; exact h))
  obtain ⟨hi, rfl⟩ := rng_get hx
  exact hs i τ C N hi hp hN
theorem comp_inv {g : WG} {c : WT} {e : WE} {ok : Hw → Prop} {τ : Sw} {Q : List T → Hw → Prop} {χ : WX} {xs : List T} (Pv : Nat → List T → Hw → Prop) {C : Hw} (h0 : Pv 0 [] C) (hok : ∀ i acc C, i ≤ xs.length → Pv i acc C → ok C)
    (hs : ∀ i x acc C (N : List T → Hw → Prop), xs[i]? = some x → Pv i acc C → (∀ acc' C', Pv (i + 1) acc' C' → N acc' C') →
      g x τ C (fun τ2 C2 => c τ2 C2 (fun b C3 => if b = true then e τ2 C3 (fun v C4 => acc.length < sizeLine ∧ N (acc ++ [v]) C4) χ else N acc C3) χ) χ)
    (hd : ∀ acc C, Pv xs.length acc C → Q acc C) : compW g c e ok τ Q χ xs [] C := by
  have key : ∀ (k i : Nat) (acc : List T) (C : Hw), xs.length - i = k → i ≤ xs.length → Pv i acc C → compW g c e ok τ Q χ (xs.drop i) acc C := by
    intro k
    induction k with
    | zero =>
      intro i acc C hk hi hp
      have e : i = xs.length := by omega
      subst e
      rw [List.drop_length]
      exact ⟨hok _ acc C (Nat.le_refl _) hp, hd acc C hp⟩
    | succ k ih =>
      intro i acc C hk hi hp
      have hlt : i < xs.length := by omega
      rw [List.drop_eq_getElem_cons hlt]
      exact ⟨hok i acc C hi hp, hs i _ acc C _ (by simp [hlt]) hp fun acc' C' h => ih (i + 1) acc' C' (by omega) hlt h⟩
  exact key xs.length 0 [] C (by simp) (Nat.zero_le _) h0
/-- each item gives a value, the heap stays -/
theorem comp_pure {g : WG} {e : WE} {ok : Hw → Prop} {τ : Sw} {Q : List T → Hw → Prop} {χ : WX} {xs : List T} (f : T → T) {C : Hw} (hok : ok C) (hl : xs.length ≤ sizeLine)
    (hs : ∀ x ∈ xs, ∀ R : WK, R (f x) C → g x τ C (fun τ2 C2 => e τ2 C2 R χ) χ) (hd : Q (xs.map f) C) : compW g tYes e ok τ Q χ xs [] C := by
  refine comp_inv (fun i acc C' => C' = C ∧ acc = (xs.take i).map f) ⟨rfl, rfl⟩ (fun i acc C' _ h => by rw [h.1]; exact hok) (fun i x acc C' N hx hp hN => ?_) (fun acc C' h => ?_)
  · obtain ⟨rfl, rfl⟩ := hp
    have hi : i < xs.length := (List.getElem?_eq_some_iff.mp hx).1
    refine hs x (List.mem_of_getElem? hx) _ ⟨?_, hN _ _ ⟨rfl, ?_⟩⟩
    · rw [List.length_map, List.length_take]; omega
    · rw [List.take_add_one, hx, List.map_append]; rfl
  · obtain ⟨rfl, rfl⟩ := h
    rw [List.take_length]; exact hd
theorem atT_ints {ds : List Int} {i : Int} (h0 : 0 ≤ i) (h1 : i < (ds.length : Int)) : ∃ d, atI (ds.map T.int) i = some (.int d) ∧ d ∈ ds := by
  obtain ⟨v, h, m⟩ := atI_in (xs := ds.map T.int) h0 (by simpa using h1)
  obtain ⟨d, hd, rfl⟩ := List.mem_map.mp m
  exact ⟨d, h, hd⟩
theorem small63 {n : Nat} (h : n ≤ 100000) : n ≤ sizeLine := Nat.le_trans h (by decide)
theorem small63' {n : Nat} (h : n ≤ 100000) : n < sizeLine := Nat.lt_of_le_of_lt h (by decide)
end WL
set_option Elab.async false
set_option linter.all false
set_option maxRecDepth 100000
set_option maxHeartbeats 400000
namespace K51
/-! ### what is reached, as functions -/
abbrev Dd := List (Int × List Int)
abbrev Ls := List (Int × Option Int)
def ks (D : Dd) : List Int := D.map (·.1)
def kl (ls : Ls) : List Int := ls.map (·.1)
def add (D : Dd) (b : Int) (ls : Ls) (x : Int) : Ls := if x ∉ kl ls ∧ x ∈ ks D then ls ++ [(x, some b)] else ls
def exp (D : Dd) (ls : Ls) (b : Int) : Ls := ((D.lookup b).getD []).foldl (add D b) ls
def bfs (D : Dd) : Nat → Ls → Nat → Ls
  | 0, ls, _ => ls
  | n + 1, ls, p => match ls[p]? with
    | none => ls
    | some q => bfs D n (exp D ls q.1) (p + 1)
def fir1 (D : Dd) (f : List Int) (x : Int) : List Int := if x ∈ ks D ∧ x ∉ f then f ++ [x] else f
def fir (D : Dd) (rs : List Int) : List Int := rs.foldl (fir1 D) []
def rch (D : Dd) (rs : List Int) : Ls := bfs D D.length ((fir D rs).map fun x => (x, none)) 0
/-- the order of pairs -/
def lx (a b : Nat × Nat) : Prop := a.1 < b.1 ∨ (a.1 = b.1 ∧ a.2 < b.2)
/-- so far: the rows 0 .. i - 1 gone through, of row i the first j -/
structure Bs (D : Dd) (f : List Int) (ls : Ls) (ws : List (Nat × Nat)) (i j : Nat) : Prop where
  nd : (kl ls).Nodup
  sub : ∀ x ∈ kl ls, x ∈ ks D
  len : ls.length = f.length + ws.length
  fst : ls.take f.length = f.map fun x => (x, none)
  wsr : ws.Pairwise lx
  wlt : ∀ w ∈ ws, lx w (i, j)
  at_ : ∀ t w, ws[t]? = some w → ∃ n b row o, ls[f.length + t]? = some (n, some b) ∧ ls[w.1]? = some (b, o) ∧ D.lookup b = some row ∧ row[w.2]? = some n ∧ n ∉ row.take w.2 ∧ w.1 < f.length + t ∧
    ∀ i' q row', i' < w.1 → ls[i']? = some q → D.lookup q.1 = some row' → n ∉ row'
  cl : ∀ i' q row, i' < i → ls[i']? = some q → D.lookup q.1 = some row → ∀ x ∈ row, x ∈ ks D → x ∈ kl ls
  clj : ∀ q row, ls[i]? = some q → D.lookup q.1 = some row → ∀ x ∈ row.take j, x ∈ ks D → x ∈ kl ls
theorem kl_app {ls : Ls} {x : Int} {o : Option Int} : kl (ls ++ [(x, o)]) = kl ls ++ [x] := by unfold kl; rw [List.map_append]; rfl
theorem get_app {ls : Ls} {q : Int × Option Int} {i : Nat} (h : i < ls.length) : (ls ++ [q])[i]? = ls[i]? := List.getElem?_append_left h
theorem lt_of_get {α : Type} {l : List α} {i : Nat} {x : α} (h : l[i]? = some x) : i < l.length := (List.getElem?_eq_some_iff.mp h).1
/-- one more of row i -/
theorem Bs.step {D : Dd} {f : List Int} {ls : Ls} {ws : List (Nat × Nat)} {i j : Nat} {b : Int} {o : Option Int} {row : List Int} {x : Int} (h : Bs D f ls ws i j) (hi : ls[i]? = some (b, o)) (hr : D.lookup b = some row) (hx : row[j]? = some x) :
    ∃ ws', Bs D f (add D b ls x) ws' i (j + 1) ∧ (add D b ls x)[i]? = some (b, o) := by
  have til := lt_of_get hi
  have take1 : row.take (j + 1) = row.take j ++ [x] := by rw [List.take_add_one, hx]; rfl
  have wl : ∀ w ∈ ws, lx w (i, j + 1) := fun w hw => by
    rcases h.wlt w hw with z | ⟨z1, z2⟩
    · exact .inl z
    · exact .inr ⟨z1, Nat.lt_succ_of_lt z2⟩
  unfold add
  by_cases c : x ∉ kl ls ∧ x ∈ ks D
  · rw [if_pos c]
    refine ⟨ws ++ [(i, j)], ⟨?_, ?_, ?_, ?_, ?_, ?_, ?_, ?_, ?_⟩, by rw [get_app til]; exact hi⟩
    · rw [kl_app]
      exact List.nodup_append.mpr ⟨h.nd, by simp, fun a ha b' hb => by rw [List.mem_singleton.mp hb]; exact fun e => c.1 (e ▸ ha)⟩
    · intro y hy
      rw [kl_app] at hy
      rcases List.mem_append.mp hy with hy | hy
      · exact h.sub y hy
      · rw [List.mem_singleton.mp hy]; exact c.2
    · rw [List.length_append, List.length_append, h.len]; show _ + _ + 1 = _ + (_ + 1); omega
    · rw [List.take_append_of_le_length (by rw [h.len]; omega)]; exact h.fst
    · exact List.pairwise_append.mpr ⟨h.wsr, by simp, fun a ha b' hb => by rw [List.mem_singleton.mp hb]; exact h.wlt a ha⟩
    · intro w hw
      rcases List.mem_append.mp hw with hw | hw
      · exact wl w hw
      · rw [List.mem_singleton.mp hw]; exact .inr ⟨rfl, Nat.lt_succ_self _⟩
    · intro t w hw
      by_cases ht : t < ws.length
      · rw [List.getElem?_append_left ht] at hw
        obtain ⟨n, b', row', o', e1, e2, e3, e4, e5, e6, e7⟩ := h.at_ t w hw
        refine ⟨n, b', row', o', by rw [get_app (lt_of_get e1)]; exact e1, by rw [get_app (lt_of_get e2)]; exact e2, e3, e4, e5, e6, fun i' q row'' hi' hq => ?_⟩
        rw [get_app (Nat.lt_trans hi' (lt_of_get e2))] at hq
        exact e7 i' q row'' hi' hq
      · have ht' : t = ws.length := by
          have := lt_of_get hw
          rw [List.length_append] at this
          have : t < ws.length + 1 := this
          omega
        subst ht'
        rw [List.getElem?_append_right (Nat.le_refl _), Nat.sub_self] at hw
        cases hw
        refine ⟨x, b, row, o, ?_, by rw [get_app til]; exact hi, hr, hx, fun z => c.1 (h.clj _ row hi hr x z c.2), by rw [← h.len]; exact til, fun i' q row' hi' hq hq2 z => ?_⟩
        · rw [← h.len, List.getElem?_append_right (Nat.le_refl _), Nat.sub_self]; rfl
        · rw [get_app (Nat.lt_trans hi' til)] at hq
          exact c.1 (h.cl i' q row' hi' hq hq2 x z c.2)
    · intro i' q row' hi' hq hq2 y hy hk
      rw [get_app (Nat.lt_trans hi' til)] at hq
      rw [kl_app]
      exact List.mem_append_left _ (h.cl i' q row' hi' hq hq2 y hy hk)
    · intro q row' hq hq2 y hy hk
      rw [get_app til, hi] at hq
      cases hq
      rw [hr] at hq2; cases hq2
      rw [take1] at hy
      rw [kl_app]
      rcases List.mem_append.mp hy with hy | hy
      · exact List.mem_append_left _ (h.clj _ row hi hr y hy hk)
      · exact List.mem_append_right _ hy
  · rw [if_neg c]
    refine ⟨ws, ⟨h.nd, h.sub, h.len, h.fst, h.wsr, wl, h.at_, h.cl, ?_⟩, hi⟩
    intro q row' hq hq2 y hy hk
    rw [hi] at hq
    cases hq
    rw [hr] at hq2; cases hq2
    rw [take1] at hy
    rcases List.mem_append.mp hy with hy | hy
    · exact h.clj _ row hi hr y hy hk
    · rw [List.mem_singleton.mp hy] at hk ⊢
      by_cases d : x ∈ kl ls
      · exact d
      · exact absurd ⟨d, hk⟩ c
theorem Bs.rows {D : Dd} {f : List Int} {i : Nat} {b : Int} {o : Option Int} {row : List Int} (hr : D.lookup b = some row) : ∀ (suf pre : List Int) (ls : Ls) (ws : List (Nat × Nat)), row = pre ++ suf → Bs D f ls ws i pre.length → ls[i]? = some (b, o) →
    ∃ ws', Bs D f (suf.foldl (add D b) ls) ws' i row.length ∧ (suf.foldl (add D b) ls)[i]? = some (b, o)
  | [], pre, ls, ws, e, h, hi => ⟨ws, by rw [e, List.append_nil]; exact h, hi⟩
  | x :: suf, pre, ls, ws, e, h, hi => by
    obtain ⟨ws', h', hi'⟩ := h.step hi hr (x := x) (by rw [e, List.getElem?_append_right (Nat.le_refl _), Nat.sub_self]; rfl)
    rw [List.foldl_cons]
    exact Bs.rows hr suf (pre ++ [x]) _ ws' (by rw [e]; simp) (by rw [List.length_append]; exact h') hi'
theorem Bs.next {D : Dd} {f : List Int} {ls : Ls} {ws : List (Nat × Nat)} {i : Nat} {b : Int} {o : Option Int} (h : Bs D f ls ws i 0) (hi : ls[i]? = some (b, o)) : ∃ ws', Bs D f (exp D ls b) ws' (i + 1) 0 := by
  have hb : b ∈ ks D := h.sub b (List.mem_map.mpr ⟨(b, o), List.mem_of_getElem? hi, rfl⟩)
  obtain ⟨row, hr⟩ : ∃ row, D.lookup b = some row := by
    obtain ⟨q, hq, rfl⟩ := List.mem_map.mp hb
    exact L2.lookup_of_mem (b := q.2) hq
  unfold exp
  rw [hr]
  obtain ⟨ws', h', hi'⟩ := Bs.rows hr row [] ls ws rfl h hi
  refine ⟨ws', h'.nd, h'.sub, h'.len, h'.fst, h'.wsr, fun w hw => ?_, h'.at_, fun i' q row' hl hq hq2 y hy hk => ?_, fun q row' hq hq2 y hy => by simp at hy⟩
  · rcases h'.wlt w hw with z | ⟨z1, z2⟩
    · exact .inl (Nat.lt_succ_of_lt z)
    · exact .inl (by rw [z1]; exact Nat.lt_succ_self _)
  · by_cases e : i' = i
    · subst e
      refine h'.clj q row' hq hq2 y ?_ hk
      have hq' : q = (b, o) := Option.some.inj (hq.symm.trans hi')
      subst hq'
      rw [hr] at hq2; cases hq2
      rw [List.take_length]; exact hy
    · exact h'.cl i' q row' (by omega) hq hq2 y hy hk
/-- the end -/
theorem Bs.fin {D : Dd} {f : List Int} {ls : Ls} {ws : List (Nat × Nat)} {i : Nat} (h : Bs D f ls ws i 0) (hi : ls.length ≤ i) : Bs D f ls ws ls.length 0 := by
  refine ⟨h.nd, h.sub, h.len, h.fst, h.wsr, fun w hw => ?_, h.at_, fun i' q row hl => h.cl i' q row (by omega), fun q row hq => ?_⟩
  · obtain ⟨t, ht⟩ := List.mem_iff_getElem?.mp hw
    obtain ⟨n, b, row, o, e1, e2, _⟩ := h.at_ t w ht
    exact .inl (lt_of_get e2)
  · have := lt_of_get hq
    exact absurd this (Nat.lt_irrefl _)
theorem Bs.small {D : Dd} {f : List Int} {ls : Ls} {ws : List (Nat × Nat)} {i j : Nat} (h : Bs D f ls ws i j) : ls.length ≤ D.length := by
  have := h.nd.length_le_of_subset h.sub
  unfold kl ks at this
  rw [List.length_map, List.length_map] at this
  exact this
theorem bfs_bs {D : Dd} {f : List Int} : ∀ (n : Nat) (ls : Ls) (ws : List (Nat × Nat)) (i : Nat), Bs D f ls ws i 0 → D.length ≤ n + i → ∃ ws', Bs D f (bfs D n ls i) ws' (bfs D n ls i).length 0
  | 0, ls, ws, i, h, hl => ⟨ws, h.fin (by have := h.small; omega)⟩
  | n + 1, ls, ws, i, h, hl => by
    unfold bfs
    cases e : ls[i]? with
    | none => exact ⟨ws, h.fin (List.getElem?_eq_none_iff.mp e)⟩
    | some q =>
      obtain ⟨ws', h'⟩ := h.next e
      exact bfs_bs n _ ws' (i + 1) h' (by omega)
theorem fir_ok {D : Dd} : ∀ (rs f : List Int), f.Nodup → (∀ x ∈ f, x ∈ ks D) → (rs.foldl (fir1 D) f).Nodup ∧ ∀ x ∈ rs.foldl (fir1 D) f, x ∈ ks D
  | [], f, h1, h2 => ⟨h1, h2⟩
  | r :: rs, f, h1, h2 => by
    rw [List.foldl_cons]
    unfold fir1
    by_cases c : r ∈ ks D ∧ r ∉ f
    · rw [if_pos c]
      exact fir_ok rs _ (List.nodup_append.mpr ⟨h1, by simp, fun a ha b hb => by rw [List.mem_singleton.mp hb]; exact fun e => c.2 (e ▸ ha)⟩) fun x hx => by
        rcases List.mem_append.mp hx with hx | hx
        · exact h2 x hx
        · rw [List.mem_singleton.mp hx]; exact c.1
    · rw [if_neg c]
      exact fir_ok rs f h1 h2
theorem kl_none {f : List Int} : kl (f.map fun x => (x, none)) = f := by
  unfold kl
  rw [List.map_map]
  exact List.map_id' f
theorem rch_bs {D : Dd} {rs : List Int} : ∃ ws, Bs D (fir D rs) (rch D rs) ws (rch D rs).length 0 := by
  obtain ⟨h1, h2⟩ := fir_ok (D := D) rs [] List.nodup_nil fun x hx => by cases hx
  refine bfs_bs D.length _ [] 0 ⟨?_, ?_, ?_, ?_, List.Pairwise.nil, fun w hw => (by cases hw), fun t w hw => (by simp at hw), fun i' q row hi => absurd hi (Nat.not_lt_zero _), fun q row _ _ y hy => (by simp at hy)⟩ (Nat.le_refl _)
  · rw [kl_none]; exact h1
  · rw [kl_none]; exact h2
  · rw [List.length_map]; rfl
  · rw [List.take_of_length_le (by rw [List.length_map]; exact Nat.le_refl _)]
end K51
set_option Elab.async false
set_option linter.all false
set_option maxRecDepth 100000
set_option maxHeartbeats 400000
namespace K51
open PySem PySem.Spec PyProof.Rows L2 WL
theorem ite_t {p q : Prop} (h : p) : if true = true then p else q := h
theorem ite_f {p q : Prop} (h : q) : if false = true then p else q := h
theorem ite_k {p q : Prop} {b : Bool} (h1 : b = true → p) (h2 : b = false → q) : if b = true then p else q := by cases b; exact h2 rfl; exact h1 rfl
section
variable {C : Hw} {Q : WK} {χ : WX} {τ : Sw}
theorem eqI {a b : Int} {v : Bool} (h : (a == b) = v) (q : Q (.bl v) C) : wEqG false (.int a) (.int b) C Q := by rw [wEq_int, if_neg (by decide), h]; exact q
theorem neI {a b : Int} {v : Bool} (h : (a == b) = v) (q : Q (.bl (!v)) C) : wEqG true (.int a) (.int b) C Q := by rw [wEq_int, if_pos rfl, h]; exact q
theorem eqIc {a b : Int} {v : Bool} (h : (a == b) = v) (q : Q (.bl v) C) : eC (.int b) τ C (fun y C2 => wEq (.int a) y C2 Q) χ := eqI h q
end
/-! ### how a dict of lists stands -/
def oT : Option Int → T
  | none => .non
  | some b => .int b
def ldK (ls : Ls) : List (Key × T) := ls.map fun q => (.inl q.1, oT q.2)
inductive Rw (C : Hw) : List (Key × T) → Dd → Prop
  | nil : Rw C [] []
  | cons {k : Int} {a : Addr} {row : List Int} {kvs : List (Key × T)} {D : Dd} (h : C a = some (.lst (row.map T.int))) : Rw C kvs D → Rw C ((.inl k, .ref a) :: kvs) ((k, row) :: D)
theorem Rw.len {C : Hw} {kvs : List (Key × T)} {D : Dd} (h : Rw C kvs D) : kvs.length = D.length := by
  induction h with
  | nil => rfl
  | cons _ _ ih => rw [List.length_cons, List.length_cons, ih]
theorem Rw.ex {C C' : Hw} {kvs : List (Key × T)} {D : Dd} (h : Rw C kvs D) (e : ∀ a xs, C a = some (.lst xs) → C' a = some (.lst xs)) : Rw C' kvs D := by
  induction h with
  | nil => exact .nil
  | cons h _ ih => exact .cons (e _ _ h) ih
theorem Rw.get {C : Hw} {kvs : List (Key × T)} {D : Dd} (h : Rw C kvs D) (x : Int) : (D.lookup x = none ∧ getT kvs (.inl x) = none) ∨ ∃ row a, D.lookup x = some row ∧ getT kvs (.inl x) = some (.ref a) ∧ C a = some (.lst (row.map T.int)) := by
  induction h with
  | nil => exact .inl ⟨rfl, rfl⟩
  | @cons k a row kvs D h _ ih =>
    by_cases e : x = k
    · subst e
      refine .inr ⟨row, a, by simp, ?_, h⟩
      unfold getT
      simp
    · have e1 : List.lookup x ((k, row) :: D) = D.lookup x := by rw [List.lookup_cons, beq_eq_false_iff_ne.mpr e]
      have e2 : getT ((Sum.inl k, T.ref a) :: kvs) (.inl x) = getT kvs (.inl x) := by
        unfold getT
        rw [List.find?_cons_of_neg (by simp; exact fun z => e z.symm)]
      rw [e1, e2]
      exact ih
theorem of_look {x : Int} {row : List Int} : ∀ {D : Dd}, D.lookup x = some row → (x, row) ∈ D
  | [], h => by cases h
  | q :: D, h => by
    rw [List.lookup_cons] at h
    by_cases e : x = q.1
    · subst e
      rw [beq_self_eq_true] at h
      cases h
      exact List.mem_cons_self ..
    · rw [beq_eq_false_iff_ne.mpr e] at h
      exact List.mem_cons_of_mem _ (of_look h)
theorem mem_look {D : Dd} {x : Int} : x ∈ ks D ↔ ∃ row, D.lookup x = some row := by
  constructor
  · intro h
    obtain ⟨q, hq, rfl⟩ := List.mem_map.mp h
    exact lookup_of_mem (b := q.2) hq
  · rintro ⟨row, h⟩
    exact List.mem_map.mpr ⟨(x, row), of_look h, rfl⟩
theorem Rw.isIn {C : Hw} {kvs : List (Key × T)} {D : Dd} (h : Rw C kvs D) (x : Int) : (getT kvs (.inl x)).isSome = decide (x ∈ ks D) := by
  rcases h.get x with ⟨h1, h2⟩ | ⟨row, a, h1, h2, _⟩
  · rw [h2, decide_eq_false (fun z => by obtain ⟨r, e⟩ := mem_look.mp z; rw [h1] at e; cases e)]; rfl
  · rw [h2, decide_eq_true (mem_look.mpr ⟨row, h1⟩)]; rfl
theorem ld_some {x : Int} : ∀ {ls : Ls}, (getT (ldK ls) (.inl x)).isSome = decide (x ∈ kl ls)
  | [] => by unfold getT ldK kl; simp
  | q :: ls => by
    have ih := ld_some (x := x) (ls := ls)
    by_cases e : x = q.1
    · subst e
      rw [decide_eq_true (show q.1 ∈ kl (q :: ls) from List.mem_cons_self ..)]
      unfold getT ldK
      simp
    · have e2 : getT (ldK (q :: ls)) (.inl x) = getT (ldK ls) (.inl x) := by
        unfold getT ldK
        rw [List.map_cons, List.find?_cons_of_neg (by simp; exact fun z => e z.symm)]
      rw [e2, ih]
      have : x ∈ kl (q :: ls) ↔ x ∈ kl ls := by
        unfold kl
        rw [List.map_cons, List.mem_cons]
        exact ⟨fun z => z.resolve_left e, .inr⟩
      simp [this]
theorem ld_any {x : Int} {ls : Ls} : ((ldK ls).any fun kv => decide (kv.1 = Sum.inl x)) = decide (x ∈ kl ls) := by
  unfold ldK kl
  rw [List.any_map]
  by_cases c : x ∈ ls.map (·.1)
  · rw [decide_eq_true c]
    obtain ⟨q, hq, rfl⟩ := List.mem_map.mp c
    exact List.any_eq_true.mpr ⟨q, hq, by simp⟩
  · rw [decide_eq_false c]
    refine List.any_eq_false.mpr fun q hq => ?_
    simp only [Function.comp, decide_eq_true_eq, Sum.inl.injEq]
    exact fun z => c (z ▸ List.mem_map.mpr ⟨q, hq, rfl⟩)
theorem put_new {x : Int} {o : Option Int} {ls : Ls} (h : x ∉ kl ls) : putT (ldK ls) (.inl x) (oT o) = ldK (ls ++ [(x, o)]) := by
  unfold putT
  rw [ld_any, decide_eq_false h, if_neg (by decide)]
  unfold ldK
  rw [List.map_append]; rfl
theorem put_fir {x : Int} {f : List Int} : putT (ldK (f.map fun y => (y, none))) (.inl x) .non = ldK ((if x ∈ f then f else f ++ [x]).map fun y => (y, none)) := by
  by_cases c : x ∈ f
  · rw [if_pos c]
    unfold putT
    rw [ld_any, decide_eq_true (by rw [kl_none]; exact c), if_pos rfl]
    unfold ldK
    rw [List.map_map, List.map_map, List.map_map]
    refine List.map_congr_left fun y _ => ?_
    show (if (Sum.inl y : Key) = Sum.inl x then ((Sum.inl y : Key), T.non) else (Sum.inl y, oT none)) = _
    split <;> rfl
  · rw [if_neg c]
    have := put_new (o := none) (ls := f.map fun y => (y, none)) (x := x) (by rw [kl_none]; exact c)
    rw [List.map_append]
    exact this
theorem rD_ld {ls : Ls} : rD (ldK ls) = (kl ls).map T.int := by
  unfold rD ldK kl
  rw [List.map_map, List.map_map]; rfl
def rowsT (ls : Ls) : List T := ls.map fun q => .tup [.int q.1, oT q.2]
theorem rI_ld {ls : Ls} : WL.rI (ldK ls) = rowsT ls := by
  unfold WL.rI ldK rowsT
  rw [List.map_map]; rfl
/-- a dict of lists of ints at d -/
structure Dc (C : Hw) (d : Addr) (D : Dd) : Prop where
  ex : ∃ kvs, RdC C d kvs ∧ Rw C kvs D
  nd : (ks D).Nodup
  l : D.length ≤ 2000
  r : ∀ x row, D.lookup x = some row → row.length ≤ 1000
  b1 : ∀ x ∈ ks D, x.natAbs < 2 ^ 70
  b2 : ∀ x row, D.lookup x = some row → ∀ y ∈ row, y.natAbs < 2 ^ 70
theorem RdC.of {C C' : Hw} {d : Addr} {kvs : List (Key × T)} (h : RdC C d kvs) (e : Ex C C') : RdC C' d kvs := by
  rcases h with h | h
  · exact .inl (e _ _ h)
  · exact .inr (e _ _ h)
/-- all is kept, dicts may be frozen -/
def Ez (C C' : Hw) : Prop := ∀ a o, C a = some o → C' a = some o ∨ ∃ kvs, o = .dic kvs ∧ C' a = some (.fdic kvs)
theorem Ez.of {C C' : Hw} (e : Ex C C') : Ez C C' := fun a o h => .inl (e a o h)
theorem Ez.lst {C C' : Hw} (e : Ez C C') {a : Addr} {xs : List T} (h : C a = some (.lst xs)) : C' a = some (.lst xs) := by
  rcases e a _ h with h | ⟨_, z, _⟩
  · exact h
  · cases z
theorem Ez.rd {C C' : Hw} (e : Ez C C') {d : Addr} {kvs : List (Key × T)} (h : RdC C d kvs) : RdC C' d kvs := by
  rcases h with h | h
  · rcases e d _ h with h | ⟨_, z, h⟩
    · exact .inl h
    · cases z; exact .inr h
  · rcases e d _ h with h | ⟨_, z, h⟩
    · exact .inr h
    · cases z
theorem Dc.ofz {C C' : Hw} {d : Addr} {D : Dd} (h : Dc C d D) (e : Ez C C') : Dc C' d D := by
  obtain ⟨⟨kvs, h1, h2⟩, h0, h3, h4, h5, h6⟩ := h
  exact ⟨⟨kvs, e.rd h1, h2.ex fun a xs z => e.lst z⟩, h0, h3, h4, h5, h6⟩
theorem Dc.of {C C' : Hw} {d : Addr} {D : Dd} (h : Dc C d D) (e : Ex C C') : Dc C' d D := h.ofz (Ez.of e)
end K51
set_option Elab.async false
set_option linter.all false
set_option maxRecDepth 100000
set_option maxHeartbeats 400000
namespace K51
open PySem PySem.Spec PyProof.Rows L2 WL
theorem foldl_take {α β : Type} {f : β → α → β} {b : β} {l : List α} {i : Nat} {x : α} (h : l[i]? = some x) : (l.take (i + 1)).foldl f b = f ((l.take i).foldl f b) x := by
  rw [List.take_add_one, h, List.foldl_append]; rfl
theorem get_ints {rs : List Int} {i : Nat} {y : T} (h : (rs.map T.int)[i]? = some y) : ∃ x, rs[i]? = some x ∧ y = .int x := by
  rw [List.getElem?_map] at h
  cases e : rs[i]? with
  | none => rw [e] at h; cases h
  | some x => rw [e] at h; cases h; exact ⟨x, rfl, rfl⟩
theorem add_len {D : Dd} {b x : Int} {ls : Ls} : (add D b ls x).length ≤ ls.length + 1 := by
  unfold add
  split
  · rw [List.length_append]; exact Nat.le_refl _
  · exact Nat.le_succ _
theorem fold_len {D : Dd} {b : Int} : ∀ {xs : List Int} {ls : Ls}, (xs.foldl (add D b) ls).length ≤ ls.length + xs.length
  | [], _ => Nat.le_refl _
  | x :: xs, ls => by
    rw [List.foldl_cons, List.length_cons]
    have h1 := fold_len (D := D) (b := b) (xs := xs) (ls := add D b ls x)
    have h2 := add_len (D := D) (b := b) (x := x) (ls := ls)
    omega
theorem fir_len {D : Dd} : ∀ {xs f : List Int}, (xs.foldl (fir1 D) f).length ≤ f.length + xs.length
  | [], _ => Nat.le_refl _
  | x :: xs, f => by
    rw [List.foldl_cons, List.length_cons]
    have h1 := fir_len (D := D) (xs := xs) (f := fir1 D f x)
    have h2 : (fir1 D f x).length ≤ f.length + 1 := by
      unfold fir1
      split
      · rw [List.length_append]; exact Nat.le_refl _
      · exact Nat.le_succ _
    omega
theorem fir1_yes {D : Dd} {f : List Int} {x : Int} (h : x ∈ ks D) : fir1 D f x = if x ∈ f then f else f ++ [x] := by
  unfold fir1
  by_cases z : x ∈ f
  · rw [if_pos z, if_neg (fun h => h.2 z)]
  · rw [if_neg z, if_pos ⟨h, z⟩]
theorem fir1_no {D : Dd} {f : List Int} {x : Int} (h : x ∉ ks D) : fir1 D f x = f := by
  unfold fir1
  rw [if_neg (fun z => h z.1)]
section
variable {C : Hw} {Q : WK} {χ : WX} {n : Nat} {d r : Addr} {D : Dd} {rs : List Int}
theorem s_leaders (hd : Dc C d D) (hr : C r = some (.lst (rs.map T.int))) (hl : rs.length ≤ 2000) (q : ∀ p C', Ex C C' → C p = none → C' p = some (.dic (ldK (rch D rs))) → Q (.ref p) C') : wpc pr (n + 1) i_leaders_of [.ref d, .ref r] C Q χ := by
  refine u_leaders_of rfl ?_
  intro pl hpl
  have E0 := Ex.new (o := .dic []) hpl
  refine ⟨_, rfl, _, E0 _ _ hr, ?_⟩
  refine for_inv (fun i τ C' => ∃ v3, τ = [some (.ref d), some (.ref r), some (.ref pl), v3, none, none, none] ∧ Ex C C' ∧ C' pl = some (.dic (ldK (((rs.take i).foldl (fir1 D) []).map fun x => (x, none))))) ⟨none, rfl, E0, up_same⟩ (fun i τ C' _ ⟨_, _, e, _⟩ => e _ _ hr) ?_ ?_
  · rintro i y τ C' N hy ⟨v3, rfl, E, hpl'⟩ hN
    obtain ⟨x, hx, rfl⟩ := get_ints hy
    obtain ⟨kvs, h1, h2⟩ := (hd.of E).ex
    have fl := fir_len (D := D) (xs := rs.take i) (f := [])
    have tl : (rs.take i).length ≤ rs.length := by rw [List.length_take]; omega
    refine ⟨_, rfl, _, rfl, d, kvs, .inl x, rfl, rfl, h1, _, rfl, ?_⟩
    rw [if_neg (by decide), h2.isIn x]
    have e1 := foldl_take (f := fir1 D) (b := []) hx
    refine ite_k (fun c => ?_) (fun c => ?_)
    · have c' := of_decide_eq_true c
      refine ⟨_, rfl, _, rfl, pl, _, .inl x, rfl, rfl, hpl', small63' (by unfold ldK; rw [List.length_map, List.length_map]; simp only [List.length_nil] at fl; omega), ?_⟩
      rw [put_fir]
      refine hN _ _ ⟨_, rfl, E.up hpl, ?_⟩
      rw [up_same, e1, fir1_yes c']
    · have c' := of_decide_eq_false c
      refine hN _ _ ⟨_, rfl, E, ?_⟩
      rw [e1, hpl', fir1_no c']
  rintro τ C1 ⟨v3, rfl, E1, h1⟩
  rw [List.length_map, List.take_length] at h1
  change C1 pl = some (.dic (ldK ((fir D rs).map fun x => (x, none)))) at h1
  have fl := fir_len (D := D) (xs := rs) (f := [])
  refine ⟨_, rfl, pl, _, rfl, .inl h1, fun po hpo => ?_⟩
  rw [rD_ld]
  have npo : pl ≠ po := cne h1 hpo
  have cpo : C po = none := E1.free hpo
  obtain ⟨f1, f2⟩ := fir_ok (D := D) rs [] List.nodup_nil fun x hx => by cases hx
  have B0 : Bs D (fir D rs) ((fir D rs).map fun x => (x, none)) [] 0 0 := by
    refine ⟨?_, ?_, ?_, ?_, List.Pairwise.nil, fun w hw => (by cases hw), fun t w hw => (by simp at hw), fun i' q row hi => absurd hi (Nat.not_lt_zero _), fun q row _ _ y hy => (by simp at hy)⟩
    · rw [kl_none]; exact f1
    · rw [kl_none]; exact f2
    · rw [List.length_map]; rfl
    · rw [List.take_of_length_le (by rw [List.length_map]; exact Nat.le_refl _)]
  refine while_inv (m := D.length) (fun m τ C' => ∃ (ls : Ls) (ws : List (Nat × Nat)) (p : Nat) (v3 v6 : Option T), τ = [some (.ref d), some (.ref r), some (.ref pl), v3, some (.ref po), some (.int (p : Int)), v6] ∧ Ex C C' ∧ C' pl = some (.dic (ldK ls)) ∧ C' po = some (.lst ((kl ls).map T.int)) ∧ Bs D (fir D rs) ls ws p 0 ∧ bfs D m ls p = rch D rs ∧ D.length ≤ m + p) ⟨_, [], 0, v3, none, rfl, E1.trans (Ex.new hpo), by rw [up_ne npo]; exact h1, by rw [up_same], B0, rfl, Nat.le_refl _⟩ ?_
  rintro m τ C2 N ⟨ls, ws, p, v3, v6, rfl, E2, hpl2, hpo2, B, hR, hm⟩ hN
  have hsm := B.small
  have hD := hd.l
  have hkl : ((kl ls).map T.int).length = ls.length := by unfold kl; rw [List.length_map, List.length_map]
  refine ⟨_, rfl, _, rfl, _, rfl, _, hpo2, _, rfl, ?_⟩
  rw [hkl]
  refine ite_k (fun c => ?_) (fun c => ?_)
  · have c' : p < ls.length := by have := of_decide_eq_true c; omega
    obtain ⟨⟨b, o⟩, hq⟩ : ∃ q, ls[p]? = some q := ⟨ls[p], by simp [c']⟩
    cases m with
    | zero => omega
    | succ m =>
    have hR' : bfs D m (exp D ls b) (p + 1) = rch D rs := by
      unfold bfs at hR
      rw [hq] at hR
      exact hR
    have hb : atI ((kl ls).map T.int) (p : Int) = some (.int b) := atI_nat (by unfold kl; rw [List.getElem?_map, List.getElem?_map, hq]; rfl)
    refine ⟨_, rfl, _, rfl, _, _, hpo2, hb, ?_⟩
    obtain ⟨kvs, g1, g2⟩ := (hd.of E2).ex
    obtain ⟨row, hrow⟩ : ∃ row, D.lookup b = some row := mem_look.mp (B.sub b (List.mem_map.mpr ⟨(b, o), List.mem_of_getElem? hq, rfl⟩))
    rcases g2.get b with ⟨z, _⟩ | ⟨row', a, z, g3, g4⟩
    · rw [hrow] at z; cases z
    rw [hrow] at z; cases z
    have hrl := hd.r b row hrow
    -- a's list stands in C already
    obtain ⟨kvs0, k1, k2⟩ := hd.ex
    rcases k2.get b with ⟨z, _⟩ | ⟨row', a0, z, k3, k4⟩
    · rw [hrow] at z; cases z
    rw [hrow] at z; cases z
    have ekv : kvs0 = kvs := by
      rcases RdC.of k1 E2 with z | z <;> rcases g1 with z' | z' <;> rw [z] at z' <;> cases z' <;> rfl
    subst ekv
    rw [k3] at g3; cases g3
    refine ⟨_, rfl, _, rfl, d, kvs0, .inl b, _, rfl, rfl, g1, k3, _, g4, ?_⟩
    refine for_inv (fun t τ C' => ∃ v3, τ = [some (.ref d), some (.ref r), some (.ref pl), v3, some (.ref po), some (.int (p : Int)), some (.int b)] ∧ Ex C C' ∧ C' pl = some (.dic (ldK ((row.take t).foldl (add D b) ls))) ∧ C' po = some (.lst ((kl ((row.take t).foldl (add D b) ls)).map T.int))) ⟨v3, rfl, E2, hpl2, hpo2⟩ (fun t τ C' _ ⟨_, _, e, _⟩ => e _ _ k4) ?_ ?_
    · rintro t y τ C3 N' hy ⟨v3, rfl, E3, hpl3, hpo3⟩ hN'
      obtain ⟨x, hx, rfl⟩ := get_ints hy
      have e1 := foldl_take (f := add D b) (b := ls) hx
      have hle := fold_len (D := D) (b := b) (xs := row.take t) (ls := ls)
      have tl : (row.take t).length ≤ row.length := by rw [List.length_take]; omega
      generalize hls : (row.take t).foldl (add D b) ls = ls' at e1 hle hpl3 hpo3
      have hkl' : ((kl ls').map T.int).length = ls'.length := by unfold kl; rw [List.length_map, List.length_map]
      have R3 := RdC.of k1 E3
      have W3 := k2.ex fun a xs z => E3 _ _ z
      refine ⟨_, rfl, _, rfl, pl, _, .inl x, rfl, rfl, .inl hpl3, _, rfl, ?_⟩
      rw [if_pos rfl, ld_some]
      by_cases c1 : x ∈ kl ls'
      · rw [decide_eq_true c1]
        refine ite_f (ite_f ?_)
        refine hN' _ _ ⟨_, rfl, E3, ?_, ?_⟩
        · rw [e1, hpl3]; unfold add; rw [if_neg (fun h => h.1 c1)]
        · rw [e1, hpo3]; unfold add; rw [if_neg (fun h => h.1 c1)]
      · rw [decide_eq_false c1]
        refine ite_t ⟨_, rfl, _, rfl, d, kvs0, .inl x, rfl, rfl, R3, _, rfl, ?_⟩
        rw [if_neg (by decide), W3.isIn x]
        refine ite_k (fun c2 => ?_) (fun c2 => ?_)
        · have c2' := of_decide_eq_true c2
          refine ⟨_, rfl, _, rfl, _, rfl, pl, _, .inl x, rfl, rfl, hpl3, small63' (by unfold ldK; rw [List.length_map]; omega), ?_⟩
          have hpo4 : up C3 pl (.dic (putT (ldK ls') (.inl x) (.int b))) po = some (.lst ((kl ls').map T.int)) := by rw [up_ne npo.symm]; exact hpo3
          refine ⟨_, rfl, ⟨_, _, rfl, hpo4⟩, _, rfl, _, _, _, rfl, rfl, hpo4, small63' (by rw [hkl']; omega), ?_⟩
          refine hN' _ _ ⟨_, rfl, (E3.up hpl).up cpo, ?_, ?_⟩
          · rw [up_ne npo, up_same, e1]
            have := put_new (o := some b) c1
            unfold add
            rw [if_pos ⟨c1, c2'⟩, ← this]; rfl
          · rw [up_same, e1]
            unfold add
            rw [if_pos ⟨c1, c2'⟩, kl_app, List.map_append]; rfl
        · have c2' := of_decide_eq_false c2
          refine hN' _ _ ⟨_, rfl, E3, ?_, ?_⟩
          · rw [e1, hpl3]; unfold add; rw [if_neg (fun h => c2' h.2)]
          · rw [e1, hpo3]; unfold add; rw [if_neg (fun h => c2' h.2)]
    · rintro τ C3 ⟨v3, rfl, E3, hpl3, hpo3⟩
      rw [List.length_map, List.take_length] at hpl3 hpo3
      have ee : row.foldl (add D b) ls = exp D ls b := by unfold exp; rw [hrow]; rfl
      rw [ee] at hpl3 hpo3
      obtain ⟨ws', B'⟩ := B.next hq
      refine ⟨_, rfl, ?_⟩
      exact hN m _ _ (Nat.lt_succ_self _) ⟨exp D ls b, ws', p + 1, _, _, rfl, E3, hpl3, hpo3, B', hR', by omega⟩
  · have c' : ls.length ≤ p := by have := of_decide_eq_false c; omega
    have hRl : ls = rch D rs := by
      cases m with
      | zero => exact hR
      | succ m =>
        unfold bfs at hR
        rw [List.getElem?_eq_none c'] at hR
        exact hR
    exact ⟨_, rfl, q pl C2 E2 hpl (by rw [hpl2, hRl])⟩
theorem s_reached (hd : Dc C d D) (hr : C r = some (.lst (rs.map T.int))) (hl : rs.length ≤ 2000) (q : ∀ p C', Ex C C' → C p = none → C' p = some (.lst (rowsT (rch D rs))) → Q (.ref p) C') : wpc pr (n + 2) i_reached [.ref d, .ref r] C Q χ := by
  refine u_reached rfl ?_
  refine ⟨_, rfl, _, rfl, ?_⟩
  dsimp only [aNil]
  refine s_leaders hd hr hl fun p C' E hp h => ?_
  refine ⟨p, _, rfl, .inl h, fun p2 hp2 => ?_⟩
  rw [rI_ld]
  exact q p2 _ (E.trans (Ex.new hp2)) (E.free hp2) up_same
end
end K51
set_option Elab.async false
set_option linter.all false
set_option maxRecDepth 100000
set_option maxHeartbeats 400000
namespace K51
open PySem PySem.Spec PyProof.Rows L2 WL
theorem inL_ints {z : Int} {zs : List Int} : inL (.int z) (zs.map T.int) = decide (z ∈ zs) := by
  unfold inL
  rw [List.any_map]
  by_cases c : z ∈ zs
  · rw [decide_eq_true c]
    exact List.any_eq_true.mpr ⟨z, c, by unfold Function.comp WL.eqT; simp⟩
  · rw [decide_eq_false c]
    refine List.any_eq_false.mpr fun y hy => ?_
    unfold Function.comp WL.eqT
    simp
    exact fun e => c (e ▸ hy)
theorem flats_ints {m : Nat} : ∀ (ys : List Int), flats (ys.map T.int) m = true
  | [] => by unfold flats; rfl
  | y :: r => by
    show (flat (T.int y) m && flats (r.map T.int) m) = true
    rw [flats_ints r]; rfl
section
variable {C : Hw} {Q : WK} {χ : WX} {n : Nat}
theorem inR {a : Addr} {x : Int} {zs : List Int} (h : C a = some (.lst (zs.map T.int))) (q : Q (.bl (decide (x ∈ zs))) C) : wInG false (.int x) (.ref a) C Q := by
  refine ⟨_, h, rfl, flats_ints zs, ?_⟩
  rw [if_neg (by decide), inL_ints]; exact q
theorem ninR {a : Addr} {x : Int} {zs : List Int} (h : C a = some (.lst (zs.map T.int))) (q : Q (.bl (!decide (x ∈ zs))) C) : wInG true (.int x) (.ref a) C Q := by
  refine ⟨_, h, rfl, flats_ints zs, ?_⟩
  rw [if_pos rfl, inL_ints]; exact q
variable {d r : Addr} {D : Dd} {rs : List Int}
theorem s_first (hd : Dc C d D) (hr : C r = some (.lst (rs.map T.int))) (hl : rs.length ≤ 2000) (q : ∀ p C', Ex C C' → C p = none → C' p = some (.lst ((fir D rs).map T.int)) → Q (.ref p) C') : wpc pr (n + 1) i__law_first [.ref d, .ref r] C Q χ := by
  refine u__law_first rfl ?_
  refine ⟨Nat.le_of_ble_eq_true rfl, fun p hp => ?_⟩
  have E0 := Ex.new (o := .lst []) hp
  refine ⟨_, rfl, _, E0 _ _ hr, ?_⟩
  refine for_inv (fun i τ C' => ∃ v3, τ = [some (.ref d), some (.ref r), some (.ref p), v3] ∧ Ex C C' ∧ C' p = some (.lst (((rs.take i).foldl (fir1 D) []).map T.int))) ⟨none, rfl, E0, up_same⟩ (fun i τ C' _ ⟨_, _, e, _⟩ => e _ _ hr) ?_ ?_
  · rintro i y τ C' N hy ⟨v3, rfl, E, hp'⟩ hN
    obtain ⟨x, hx, rfl⟩ := get_ints hy
    obtain ⟨kvs, h1, h2⟩ := (hd.of E).ex
    have fl := fir_len (D := D) (xs := rs.take i) (f := [])
    have tl : (rs.take i).length ≤ rs.length := by rw [List.length_take]; omega
    have e1 := foldl_take (f := fir1 D) (b := []) hx
    simp only [List.length_nil] at fl
    refine ⟨_, rfl, _, rfl, d, kvs, .inl x, rfl, rfl, h1, _, rfl, ?_⟩
    rw [if_neg (by decide), h2.isIn x]
    refine ite_k (fun c => ?_) (fun c => ite_f ?_)
    · have c' := of_decide_eq_true c
      refine ⟨_, rfl, _, rfl, ninR hp' ⟨_, rfl, ite_k (fun c2 => ?_) (fun c2 => ?_)⟩⟩
      · have c2' : x ∉ (rs.take i).foldl (fir1 D) [] := of_decide_eq_false (by simpa using c2)
        refine ⟨_, rfl, ⟨_, _, rfl, hp'⟩, _, rfl, _, _, _, rfl, rfl, hp', small63' (by rw [List.length_map]; omega), ?_⟩
        refine hN _ _ ⟨_, rfl, E.up hp, ?_⟩
        rw [up_same, e1, fir1_yes c', if_neg c2', List.map_append]; rfl
      · have c2' : x ∈ (rs.take i).foldl (fir1 D) [] := of_decide_eq_true (by simpa using c2)
        refine hN _ _ ⟨_, rfl, E, ?_⟩
        rw [hp', e1, fir1_yes c', if_pos c2']
    · have c' := of_decide_eq_false c
      refine hN _ _ ⟨_, rfl, E, ?_⟩
      rw [hp', e1, fir1_no c']
  · rintro τ C1 ⟨v3, rfl, E1, h1⟩
    rw [List.length_map, List.take_length] at h1
    exact ⟨_, rfl, q p C1 E1 hp h1⟩
end
theorem idx_take {l : List Int} {i k : Nat} {b : Int} (nd : l.Nodup) (h : l[i]? = some b) (hk : i < k) : (l.take k).idxOf b = i := by
  have hi := lt_of_get h
  have e : (l.take k)[i]? = some b := by rw [List.getElem?_take, if_pos hk]; exact h
  have nd' : (l.take k).Nodup := nd.sublist (List.take_sublist k l)
  obtain ⟨h1, h2⟩ := List.getElem?_eq_some_iff.mp e
  rw [← h2]
  exact List.Nodup.idxOf_getElem nd' i h1
theorem idx_first {row : List Int} {j : Nat} {x : Int} (h : row[j]? = some x) (hn : x ∉ row.take j) : row.idxOf x = j := by
  have hj := lt_of_get h
  have e : row = row.take j ++ x :: row.drop (j + 1) := by
    have h1 : row.drop j = x :: row.drop (j + 1) := by rw [List.drop_eq_getElem_cons hj, (List.getElem?_eq_some_iff.mp h).2]
    rw [← h1, List.take_append_drop]
  have : (row.take j ++ x :: row.drop (j + 1)).idxOf x = j := by
    rw [List.idxOf_append, if_neg hn, List.idxOf_cons, beq_self_eq_true]
    show 0 + (row.take j).length = j
    rw [List.length_take]; omega
  rw [← e] at this
  exact this
end K51
set_option Elab.async false
set_option linter.all false
set_option maxRecDepth 100000
set_option maxHeartbeats 400000
namespace K51
open PySem PySem.Spec PyProof.Rows L2 WL
theorem cut_hd {α : Type} {xs : List α} {k : Nat} : cut xs none (some (k : Int)) = xs.take k := by
  unfold cut
  have e : HT.sIx xs.length xs.length (some (k : Int)) = min k xs.length := by
    show (if (k : Int) < 0 then ((k : Int) + (xs.length : Int)).toNat else min (k : Int).toNat xs.length) = _
    rw [if_neg (by omega)]; rfl
  rw [e]
  show (xs.drop 0).take (min k xs.length - 0) = _
  rw [List.drop_zero, Nat.sub_zero]
  by_cases c : k ≤ xs.length
  · rw [Nat.min_eq_left c]
  · rw [Nat.min_eq_right (by omega), List.take_length, List.take_of_length_le (by omega)]
def fstT : T → T
  | .tup (a :: _) => a
  | _ => .non
theorem fst_rows {ls : Ls} : (rowsT ls).map fstT = (kl ls).map T.int := by
  unfold rowsT kl
  rw [List.map_map, List.map_map]; rfl
theorem rows_take {ls : Ls} {k : Nat} : (rowsT ls).take k = rowsT (ls.take k) := by unfold rowsT; rw [List.map_take]
theorem rows_len {ls : Ls} : (rowsT ls).length = ls.length := by unfold rowsT; rw [List.length_map]
theorem rows_get {ls : Ls} {k : Nat} {x : Int} {o : Option Int} (h : ls[k]? = some (x, o)) : (rowsT ls)[k]? = some (.tup [.int x, oT o]) := by unfold rowsT; rw [List.getElem?_map, h]; rfl
theorem kl_get {ls : Ls} {k : Nat} {x : Int} {o : Option Int} (h : ls[k]? = some (x, o)) : (kl ls)[k]? = some x := by unfold kl; rw [List.getElem?_map, h]; rfl
theorem kl_take {ls : Ls} {k : Nat} : kl (ls.take k) = (kl ls).take k := by unfold kl; rw [List.map_take]
theorem kl_len {ls : Ls} : (kl ls).length = ls.length := by unfold kl; rw [List.length_map]
section
variable {C : Hw} {Q : WK} {χ : WX} {n : Nat} {d p : Addr} {D : Dd} {f : List Int} {R : Ls} {ws : List (Nat × Nat)}
/-- a row of the dict -/
theorem Dc.row (hd : Dc C d D) {b : Int} {row : List Int} (h : D.lookup b = some row) : ∃ kvs a, RdC C d kvs ∧ getT kvs (.inl b) = some (.ref a) ∧ C a = some (.lst (row.map T.int)) := by
  obtain ⟨kvs, h1, h2⟩ := hd.ex
  rcases h2.get b with ⟨z, _⟩ | ⟨row', a, z, h3, h4⟩
  · rw [h] at z; cases z
  · rw [h] at z; cases z
    exact ⟨kvs, a, h1, h3, h4⟩
theorem Dc.isIn (hd : Dc C d D) (x : Int) : ∃ kvs, RdC C d kvs ∧ (getT kvs (.inl x)).isSome = decide (x ∈ ks D) := by
  obtain ⟨kvs, h1, h2⟩ := hd.ex
  exact ⟨kvs, h1, h2.isIn x⟩
theorem s_led {t : Nat} {w : Nat × Nat} (hd : Dc C d D) (B : Bs D f R ws R.length 0) (hp : C p = some (.lst (rowsT R))) (ht : ws[t]? = some w) (q : ∀ C', Ex C C' → Q (.tup [.int (w.1 : Nat), .int (w.2 : Nat)]) C') :
    wpc pr (n + 1) i__law_led [.ref d, .ref p, .int ((f.length + t : Nat) : Int)] C Q χ := by
  obtain ⟨x, b, row, o, e1, e2, e3, e4, e5, e6, e7⟩ := B.at_ t w ht
  have hsm := B.small
  have hD := hd.l
  generalize f.length + t = k at e1 e6
  refine u__law_led rfl ?_
  refine ⟨_, rfl, _, rfl, _, _, hp, atI_nat (rows_get e1), _, rfl, _, _, rfl, _, _, rfl, rfl, ?_⟩
  refine ⟨_, rfl, _, rfl, _, rfl, _, hp, fun p2 hp2 => ⟨_, up_same, ?_⟩⟩
  rw [cut_hd, rows_take]
  have E2 := Ex.new (o := .lst (rowsT (R.take k))) hp2
  refine comp_pure fstT up_same (small63 (by rw [rows_len, List.length_take]; omega)) (fun y hy R' hR' => ?_) fun p3 hp3 => ?_
  · obtain ⟨z, _, rfl⟩ := List.mem_map.mp hy
    exact ⟨_, rfl, _, atI_0, hR'⟩
  rw [fst_rows, kl_take]
  have E3 := E2.trans (Ex.new (o := .lst (((kl R).take k).map T.int)) hp3)
  have h3 : up (up C p2 (.lst (rowsT (R.take k)))) p3 (.lst (((kl R).take k).map T.int)) p3 = some (.lst (((kl R).take k).map T.int)) := up_same
  show sSeq _ _ _ _ (up (up C p2 (.lst (rowsT (R.take k)))) p3 (.lst (((kl R).take k).map T.int)))
  generalize up (up C p2 (.lst (rowsT (R.take k)))) p3 (.lst (((kl R).take k).map T.int)) = C3 at E3 h3
  have hd3 := hd.of E3
  have bin : b ∈ (kl R).take k := List.mem_of_getElem? (i := w.1) (by rw [List.getElem?_take, if_pos e6]; exact kl_get e2)
  have xnin : x ∉ (kl R).take k := fun z => by
    obtain ⟨i, hi⟩ := List.mem_iff_getElem?.mp z
    rw [List.getElem?_take] at hi
    split at hi
    · rename_i hik
      have h1 := kl_get e1
      have := (List.getElem?_inj (lt_of_get hi) B.nd).mp (hi.trans h1.symm)
      omega
    · cases hi
  have xin : x ∈ ks D := B.sub x (List.mem_of_getElem? (kl_get e1))
  have xrow : x ∈ row := List.mem_of_getElem? e4
  obtain ⟨kv1, r1, i1⟩ := hd3.isIn x
  obtain ⟨kv2, a, r2, g2, l2⟩ := hd3.row e3
  refine ⟨_, rfl, _, rfl, ninR h3 ⟨_, rfl, ?_⟩⟩
  rw [decide_eq_true bin]
  refine ite_f ⟨_, rfl, _, rfl, inR h3 ⟨_, rfl, ?_⟩⟩
  rw [decide_eq_false xnin]
  refine ite_f ⟨_, rfl, _, rfl, d, kv1, .inl x, rfl, rfl, r1, _, rfl, ?_⟩
  rw [if_pos rfl, i1, decide_eq_true xin]
  refine ite_f ⟨_, rfl, _, rfl, _, rfl, d, kv2, .inl b, _, rfl, rfl, r2, g2, ninR l2 ⟨_, rfl, ?_⟩⟩
  rw [decide_eq_true xrow]
  refine ite_f ?_
  -- the place
  have bnd : ∀ y ∈ (kl R).take k, y.natAbs < 2 ^ 70 := fun y hy => hd.b1 y (B.sub y (List.mem_of_mem_take hy))
  refine ⟨_, rfl, ⟨_, _, rfl, h3⟩, _, rfl, _, (kl R).take k, b, rfl, rfl, h3, bnd, by rw [List.length_take, kl_len]; omega, bin, ?_⟩
  rw [idx_take B.nd (kl_get e2) e6]
  refine ⟨_, rfl, _, rfl, _, rfl, _, h3, fun p4 hp4 => ⟨_, up_same, ?_⟩⟩
  rw [cut_hd]
  have ew : (((kl R).take k).map T.int).take w.1 = ((kl R).take w.1).map T.int := by rw [← List.map_take, List.take_take, Nat.min_eq_left (Nat.le_of_lt e6)]
  rw [ew]
  have E4 := E3.trans (Ex.new (o := .lst (((kl R).take w.1).map T.int)) hp4)
  have h4 : up C3 p4 (.lst (((kl R).take w.1).map T.int)) p4 = some (.lst (((kl R).take w.1).map T.int)) := up_same
  generalize up C3 p4 (.lst (((kl R).take w.1).map T.int)) = C4 at E4 h4
  have hd4 := hd.of E4
  refine for_inv (fun i τ C' => ∃ v7, τ = [some (.ref d), some (.ref p), some (.int (k : Int)), some (.int x), some (.int b), some (.ref p3), some (.int (w.1 : Nat)), v7] ∧ C' = C4) ⟨none, rfl, rfl⟩ (fun i τ C' _ ⟨_, _, z⟩ => z ▸ h4) ?_ ?_
  · rintro i y τ C' N hy ⟨v7, rfl, rfl⟩ hN
    obtain ⟨c, hc, rfl⟩ := get_ints hy
    rw [List.getElem?_take] at hc
    split at hc
    · rename_i hi
      obtain ⟨qq, hq, hqc⟩ : ∃ qq, R[i]? = some qq ∧ qq.1 = c := by
        unfold kl at hc
        rw [List.getElem?_map] at hc
        cases z : R[i]? with
        | none => rw [z] at hc; cases hc
        | some qq => rw [z] at hc; cases hc; exact ⟨qq, rfl, rfl⟩
      subst hqc
      obtain ⟨row', hrow'⟩ := mem_look.mp (B.sub qq.1 (List.mem_of_getElem? (i := i) (by unfold kl; rw [List.getElem?_map, hq]; rfl)))
      obtain ⟨kv5, a5, r5, g5, l5⟩ := hd4.row hrow'
      refine ⟨_, rfl, _, rfl, _, rfl, d, kv5, .inl qq.1, _, rfl, rfl, r5, g5, inR l5 ⟨_, rfl, ?_⟩⟩
      rw [decide_eq_false (e7 i qq row' hi hq hrow')]
      exact ite_f (hN _ _ ⟨_, rfl, rfl⟩)
    · cases hc
  · rintro τ C' ⟨v7, rfl, rfl⟩
    obtain ⟨kv6, a6, r6, g6, l6⟩ := hd4.row e3
    refine ⟨_, rfl, _, rfl, _, rfl, d, kv6, .inl b, _, rfl, rfl, r6, g6, ⟨_, _, rfl, l6⟩, _, rfl, _, row, x, rfl, rfl, l6, hd.b2 b row e3, by have := hd.r b row e3; omega, xrow, Nat.le_of_ble_eq_true rfl, ?_⟩
    rw [idx_first e4 e5]
    exact q _ E4
end
end K51
set_option Elab.async false
set_option linter.all false
set_option maxRecDepth 100000
set_option maxHeartbeats 400000
namespace K51
open PySem PySem.Spec PyProof.Rows L2 WL
theorem flats_rows {m : Nat} : ∀ (ls : Ls), flats (rowsT ls) (m + 1) = true
  | [] => by unfold rowsT flats; rfl
  | q :: r => by
    show (flat (T.tup [.int q.1, oT q.2]) (m + 1) && flats (rowsT r) (m + 1)) = true
    rw [flats_rows r]
    cases h : q.2 with
    | none => simp [oT, flat, flats]
    | some b => simp [oT, flat, flats]
theorem le_no {a b : Nat × Nat} (h : lx a b) : HT.lexLe [(b.1 : Int), (b.2 : Int)] [(a.1 : Int), (a.2 : Int)] = false := by
  rw [HT.lexLe_cons]
  rcases h with h | ⟨h1, h2⟩
  · rw [if_neg (by omega)]
    exact decide_eq_false (by omega)
  · rw [if_pos (by omega), HT.lexLe_cons, if_neg (by omega)]
    exact decide_eq_false (by omega)
theorem le_no0 {b : Nat × Nat} : HT.lexLe [(b.1 : Int), (b.2 : Int)] [-1, -1] = false := by
  rw [HT.lexLe_cons, if_neg (by omega)]
  exact decide_eq_false (by omega)
section
variable {C : Hw} {Q : WK} {χ : WX} {n : Nat} {d r p : Addr} {D : Dd} {rs : List Int} {R : Ls} {ws : List (Nat × Nat)}
theorem neIc {τ : Sw} {a b : Int} {v : Bool} (h : (a == b) = v) (q : Q (.bl (!v)) C) : eC (.int b) τ C (fun y C2 => wNe (.int a) y C2 Q) χ := neI h q
theorem neRefl {a b : Addr} {xs : List T} (h1 : C a = some (.lst xs)) (h2 : C b = some (.lst xs)) (hf : flats xs eqDeep = true) (q : Q (.bl false) C) : wEqG true (.ref a) (.ref b) C Q := by
  refine ⟨xs, xs, h1, h2, fun _ => ⟨hf, hf⟩, ?_⟩
  rw [if_pos rfl, eqTs_refl _ hf]; exact q
theorem s_walked (hd : Dc C d D) (hr : C r = some (.lst (rs.map T.int))) (hl : rs.length ≤ 2000) (B : Bs D (fir D rs) R ws R.length 0) (hp : C p = some (.lst (rowsT R))) (q : ∀ C', Ex C C' → Q (.bl true) C') :
    wpc pr (n + 2) i__law_walked [.ref d, .ref r, .ref p] C Q χ := by
  have hsm := B.small
  have hD := hd.l
  have hlen := B.len
  refine u__law_walked rfl ?_
  refine ⟨_, rfl, _, rfl, ?_⟩
  dsimp only [aNil]
  refine s_first hd hr hl fun p3 C3 E3 f3 h3 => ?_
  have hfst := B.fst
  generalize hf : fir D rs = f at h3 hfst hlen B
  have hp3 := E3 _ _ hp
  refine ⟨_, rfl, _, rfl, _, rfl, _, h3, _, rfl, _, hp3, fun p4 hp4 => ⟨_, rfl, _, Ex.new hp4 _ _ h3, ?_⟩⟩
  have E4 := Ex.new (o := .lst (cut (rowsT R) none (some ((f.map T.int).length : Int)))) hp4
  refine comp_pure (fun t => .tup [t, .non]) (E4 _ _ h3) (small63 (by rw [List.length_map]; omega)) (fun y hy R' hR' => ⟨_, rfl, Nat.le_of_ble_eq_true rfl, hR'⟩) fun p5 hp5 => ?_
  have ecut : cut (rowsT R) none (some ((f.map T.int).length : Int)) = (f.map T.int).map fun t => T.tup [t, .non] := by
    rw [cut_hd, List.length_map, rows_take, hfst]
    unfold rowsT
    rw [List.map_map, List.map_map]; rfl
  have hflat : flats ((f.map T.int).map fun t => T.tup [t, .non]) eqDeep = true := by
    rw [← ecut, cut_hd, rows_take]; exact flats_rows (m := 99) _
  have E5 := E4.trans (Ex.new (o := .lst ((f.map T.int).map fun t => T.tup [t, .non])) hp5)
  refine neRefl (xs := (f.map T.int).map fun t => T.tup [t, .non]) (by rw [up_ne (fr1 hp5).1.symm, up_same, ecut]) up_same hflat ⟨_, rfl, ite_f ?_⟩
  show sSeq _ _ _ _ (up (up C3 p4 (.lst (cut (rowsT R) none (some ((f.map T.int).length : Int))))) p5 (.lst ((f.map T.int).map fun t => T.tup [t, .non])))
  have E35 := E3.trans E5
  have h35 := E5 _ _ h3
  have hp5' := E5 _ _ hp3
  have hd5 := hd.of E35
  generalize up (up C3 p4 (.lst (cut (rowsT R) none (some ((f.map T.int).length : Int))))) p5 (.lst ((f.map T.int).map fun t => T.tup [t, .non])) = C5 at E35 h35 hp5' hd5
  -- the rows behind the first
  refine ⟨Nat.le_of_ble_eq_true rfl, ?_⟩
  refine ⟨_, rfl, _, rfl, _, h35, _, rfl, _, rfl, _, hp5', _, _, rfl, ⟨by omega, by rw [List.length_map]; omega, by omega, by rw [rows_len]; omega⟩, ?_⟩
  rw [List.length_map, rows_len]
  have en : ((R.length : Int) - (f.length : Int)).toNat = ws.length := by omega
  rw [en]
  refine for_rng (n := ws.length) (fun i τ C' => ∃ (a b : Int) (v5 v6 : Option T), τ = [some (.ref d), some (.ref r), some (.ref p), some (.ref p3), some (.tup [.int a, .int b]), v5, v6, none, none, none] ∧ Ex C5 C' ∧ ((i = 0 ∧ a = -1 ∧ b = -1) ∨ ∃ w : Nat × Nat, ws[i - 1]? = some w ∧ 0 < i ∧ a = w.1 ∧ b = w.2)) ⟨-1, -1, none, none, rfl, fun a o e => e, .inl ⟨rfl, rfl, rfl⟩⟩ (fun _ => trivial) ?_ ?_
  · rintro i τ C6 N hi ⟨a, b, v5, v6, rfl, E6, hlast⟩ hN
    have hp6 := E6 _ _ hp5'
    obtain ⟨w, hw⟩ : ∃ w, ws[i]? = some w := ⟨ws[i], by simp [hi]⟩
    obtain ⟨x, bb, row, o, e1, e2, e3, e4, e5, e6, e7⟩ := B.at_ i w hw
    have ek : ((f.length : Int) + (i : Int)) = ((f.length + i : Nat) : Int) := by omega
    rw [ek]
    have hat := atI_nat (rows_get e1)
    refine ⟨_, rfl, _, rfl, _, _, hp6, hat, "tuple", rfl, _, rfl, ite_f ?_⟩
    refine ⟨_, rfl, _, rfl, _, _, hp6, hat, _, rfl, ?_⟩
    refine neIc (v := true) rfl ⟨_, rfl, ite_f ?_⟩
    refine ⟨_, rfl, _, rfl, _, _, hp6, hat, _, atI_0, "int", rfl, _, rfl, ite_f ?_⟩
    refine ⟨_, rfl, _, rfl, _, rfl, ?_⟩
    dsimp only [aNil]
    refine s_led (hd5.of E6) B hp6 hw fun C7 E7 => ?_
    refine ⟨_, rfl, rfl, _, rfl, ite_f ?_⟩
    have hle : HT.lexLe [(w.1 : Int), (w.2 : Int)] [a, b] = false := by
      rcases hlast with ⟨_, rfl, rfl⟩ | ⟨w', hw', h0, rfl, rfl⟩
      · exact le_no0
      · refine le_no ?_
        obtain ⟨h1, h1'⟩ := List.getElem?_eq_some_iff.mp hw'
        obtain ⟨h2, h2'⟩ := List.getElem?_eq_some_iff.mp hw
        rw [← h1', ← h2']
        exact List.pairwise_iff_getElem.mp B.wsr _ _ h1 h2 (by omega)
    refine ⟨_, rfl, _, rfl, [(w.1 : Int), (w.2 : Int)], [a, b], rfl, rfl, _, rfl, ?_⟩
    rw [hle]
    refine ite_f ?_
    refine ⟨_, rfl, ?_⟩
    exact hN _ _ ⟨_, _, _, _, rfl, E6.trans E7, .inr ⟨w, by rw [Nat.add_sub_cancel]; exact hw, Nat.succ_pos _, rfl, rfl⟩⟩
  rintro τ C6 ⟨a, b, v5, v6, rfl, E6, _⟩
  have hp6 := E6 _ _ hp5'
  refine ⟨_, rfl, _, hp6, ?_⟩
  refine comp_pure fstT hp6 (small63 (by rw [rows_len]; omega)) (fun y hy R' hR' => ?_) fun p7 hp7 => ?_
  · obtain ⟨z, _, rfl⟩ := List.mem_map.mp hy
    exact ⟨_, rfl, _, atI_0, hR'⟩
  rw [fst_rows]
  have E7 := (E35.trans E6).trans (Ex.new (o := .lst ((kl R).map T.int)) hp7)
  have h7 : up C6 p7 (.lst ((kl R).map T.int)) p7 = some (.lst ((kl R).map T.int)) := up_same
  show sSeq _ _ _ _ (up C6 p7 (.lst ((kl R).map T.int)))
  generalize up C6 p7 (.lst ((kl R).map T.int)) = C7 at E7 h7
  have hd7 := hd.of E7
  refine ⟨_, rfl, _, h7, ?_⟩
  refine for_inv (fun i τ C' => ∃ v8 v9, τ = [some (.ref d), some (.ref r), some (.ref p), some (.ref p3), some (.tup [.int a, .int b]), v5, v6, some (.ref p7), v8, v9] ∧ C' = C7) ⟨none, none, rfl, rfl⟩ (fun i τ C' _ ⟨_, _, _, z⟩ => z ▸ h7) ?_ ?_
  · rintro i y τ C' N hy ⟨v8, v9, rfl, rfl⟩ hN
    obtain ⟨c, hc, rfl⟩ := get_ints hy
    obtain ⟨qq, hq, hqc⟩ : ∃ qq, R[i]? = some qq ∧ qq.1 = c := by
      unfold kl at hc
      rw [List.getElem?_map] at hc
      cases z : R[i]? with
      | none => rw [z] at hc; cases hc
      | some qq => rw [z] at hc; cases hc; exact ⟨qq, rfl, rfl⟩
    subst hqc
    obtain ⟨row, hrow⟩ := mem_look.mp (B.sub qq.1 (List.mem_of_getElem? hc))
    obtain ⟨kv5, a5, r5, g5, l5⟩ := hd7.row hrow
    refine ⟨_, rfl, _, rfl, d, kv5, .inl qq.1, _, rfl, rfl, r5, g5, _, l5, ?_⟩
    refine for_inv (fun t τ C'' => ∃ v9, τ = [some (.ref d), some (.ref r), some (.ref p), some (.ref p3), some (.tup [.int a, .int b]), v5, v6, some (.ref p7), some (.int qq.1), v9] ∧ C'' = C') ⟨v9, rfl, rfl⟩ (fun t τ C'' _ ⟨_, _, z⟩ => z ▸ l5) ?_ ?_
    · rintro t y τ C'' N' hy' ⟨v9, rfl, rfl⟩ hN'
      obtain ⟨x, hx, rfl⟩ := get_ints hy'
      obtain ⟨kv1, r1, i1⟩ := hd7.isIn x
      refine ⟨_, rfl, _, rfl, d, kv1, .inl x, rfl, rfl, r1, _, rfl, ?_⟩
      rw [if_neg (by decide), i1]
      refine ite_k (fun c => ?_) (fun c => ite_f (hN' _ _ ⟨_, rfl, rfl⟩))
      refine ⟨_, rfl, _, rfl, ninR h7 ⟨_, rfl, ?_⟩⟩
      rw [decide_eq_true (B.cl i qq row (lt_of_get hq) hq hrow x (List.mem_of_getElem? hx) (of_decide_eq_true c))]
      exact ite_f (hN' _ _ ⟨_, rfl, rfl⟩)
    · rintro τ C'' ⟨v9, rfl, rfl⟩
      exact hN _ _ ⟨_, _, rfl, rfl⟩
  · rintro τ C' ⟨v8, v9, rfl, rfl⟩
    exact q _ E7
end
end K51
set_option Elab.async false
set_option linter.all false
set_option maxRecDepth 100000
set_option maxHeartbeats 400000
namespace K51
open PySem PySem.Spec PyProof.Rows L2 WL
section
variable {C : Hw} {Q : WK} {χ : WX} {n : Nat} {ns : List Int}
theorem s_cell {k : Int} (h63 : ns.length ≤ 63) (h0 : 0 ≤ k) (h1 : k ≤ 1000) (q : ∀ x : Int, 0 ≤ x → x < 2147483647 → Q (.int x) C) : wpc pr (n + 1) i__law_cell_at [.cl (ns.map T.int), .int k] C Q χ := by
  refine u__law_cell_at rfl ?_
  refine ⟨_, rfl, .inr ⟨by decide, by decide⟩, ?_⟩
  have hlen : ((ns.map T.int).length : Int) = (ns.length : Int) := by rw [List.length_map]
  have fin : ∀ (u : Int) (v3 : Option T) (D' : We), D'.rt = Q → sRet (eBin wMod (eBin wMul (eVar 2) (eC (.int 48271))) (eC (.int 2147483647))) D' [some (.cl (ns.map T.int)), some (.int k), some (.int u), v3] C := fun u v3 D' hD => by
    refine ⟨_, rfl, .inr ⟨by decide, by decide⟩, by decide, ?_⟩
    rw [hD]
    exact q _ (by omega) (by omega)
  refine ⟨_, rfl, _, rfl, _, rfl, ite_k (fun c => ?_) (fun _ => fin _ _ _ rfl)⟩
  have c' := of_decide_eq_true c
  obtain ⟨x, g1, g2⟩ := atT_ints (ds := ns) (i := k % ((ns.map T.int).length : Int)) (Int.emod_nonneg _ (by omega)) (by rw [hlen]; exact Int.emod_lt_of_pos _ (by omega))
  refine ⟨_, rfl, _, rfl, _, rfl, _, rfl, c', _, g1, by decide, ?_⟩
  refine ⟨_, rfl, _, rfl, _, rfl, _, rfl, _, rfl, ⟨by omega, by omega⟩, .inl ⟨by omega, by omega⟩, ?_⟩
  exact fin _ _ _ rfl
/-- the k-th number -/
def num (x k : Int) : Int := if x / 91 % 3 = 1 then (k * 7919 + x / 273) * 48271 % 1000003 else if x / 91 % 3 = 2 ∧ k % 3 = x / 273 % 3 then 1000000000000000000 - k * (1 + x / 819 % 1000) else k + x / 13 % 7
theorem num_ne {x : Int} (h : 0 ≤ x) : num x 0 ≠ num x 1 := by
  unfold num
  split
  · omega
  · split
    · split
      · omega
      · omega
    · split
      · omega
      · omega
theorem num_b {x k : Int} (h : 0 ≤ x) (h0 : 0 ≤ k) (h1 : k ≤ 20) : (num x k).natAbs < 2 ^ 70 := by
  unfold num
  split
  · omega
  · split
    · have h3 : 0 ≤ 1 + x / 819 % 1000 := by omega
      have h4 : 1 + x / 819 % 1000 ≤ 1000 := by omega
      generalize 1 + x / 819 % 1000 = y at h3 h4
      have h5 : 0 ≤ k * y := Int.mul_nonneg h0 h3
      have h6 : k * y ≤ 20 * 1000 := Int.mul_le_mul h1 h4 h3 (by decide)
      generalize k * y = z at h5 h6
      omega
    · omega
theorem s_numbers {x : Int} (h0 : 0 ≤ x) (h1 : x < 2147483647) (q : ∀ p (ms : List Int) C', Ex C C' → C p = none → C' p = some (.lst (ms.map T.int)) → ms.Nodup → 2 ≤ ms.length → ms.length ≤ 16 → (∀ m ∈ ms, m.natAbs < 2 ^ 70) → Q (.ref p) C') : wpc pr (n + 1) i__law_numbers [.int x] C Q χ := by
  refine u__law_numbers rfl ?_
  refine ⟨Nat.le_of_ble_eq_true rfl, fun p hp => ?_⟩
  refine ⟨_, rfl, by decide, _, rfl, by omega, by omega, ?_⟩
  obtain ⟨M, hM⟩ : ∃ M : Nat, (4 + x % 13).toNat = M := ⟨_, rfl⟩
  rw [hM]
  have hM4 : 4 ≤ M := by omega
  have hM16 : M ≤ 16 := by omega
  refine for_rng (n := M) (fun i τ C' => ∃ (v2 v3 : Option T) (ms : List Int), τ = [some (.int x), some (.ref p), v2, v3] ∧ Ex C C' ∧ C' p = some (.lst (ms.map T.int)) ∧ ms.Nodup ∧ ms.length ≤ i ∧ (∀ m ∈ ms, m.natAbs < 2 ^ 70) ∧ (0 < i → num x 0 ∈ ms) ∧ (1 < i → num x 1 ∈ ms)) ⟨none, none, [], rfl, Ex.new hp, up_same, List.nodup_nil, Nat.le_refl _, fun m hm => (by cases hm), fun h => absurd h (Nat.lt_irrefl _), fun h => absurd h (by omega)⟩ (fun _ => trivial) ?_ ?_
  · rintro i τ C1 N hi ⟨v2, v3, ms, rfl, E, h1', nd, hl, hb, m0, m1⟩ hN
    have ei : (0 : Int) + (i : Int) = (i : Int) := by omega
    rw [ei]
    have fin : ∀ (v : Int) (D' : We), v = num x i → D'.nx = N → sIf (tBl (eBin wNotIn (eVar 3) (eVar 1))) (sExpr (eMt tyL' mAppend (eVar 1) (aCons (eVar 3) aNil))) sPass D' [some (.int x), some (.ref p), some (.int (i : Int)), some (.int v)] C1 := fun v D' hv hD => by
      subst hv
      have k0 : ∀ ms' : List Int, (∀ m ∈ ms, m ∈ ms') → num x i ∈ ms' → (0 < i + 1 → num x 0 ∈ ms') ∧ (1 < i + 1 → num x 1 ∈ ms') := fun ms' s1 s2 => by
        constructor
        · intro _
          by_cases z : i = 0
          · subst z; exact s2
          · exact s1 _ (m0 (by omega))
        · intro h
          by_cases z : i = 1
          · subst z; exact s2
          · exact s1 _ (m1 (by omega))
      refine ⟨_, rfl, _, rfl, ninR h1' ⟨_, rfl, ite_k (fun c => ?_) (fun c => ?_)⟩⟩
      · have c' : num x i ∉ ms := of_decide_eq_false (by simpa using c)
        refine ⟨_, rfl, ⟨_, _, rfl, h1'⟩, _, rfl, _, _, _, rfl, rfl, h1', small63' (by rw [List.length_map]; omega), ?_⟩
        rw [hD]
        obtain ⟨z1, z2⟩ := k0 (ms ++ [num x i]) (fun m hm => List.mem_append_left _ hm) (by simp)
        refine hN _ _ ⟨_, _, ms ++ [num x i], rfl, E.up hp, by rw [up_same, List.map_append]; rfl, List.nodup_append.mpr ⟨nd, by simp, fun a ha b hb' => by rw [List.mem_singleton.mp hb']; exact fun e => c' (e ▸ ha)⟩, by rw [List.length_append]; show ms.length + 1 ≤ _; omega, fun m hm => ?_, z1, z2⟩
        rcases List.mem_append.mp hm with hm | hm
        · exact hb m hm
        · rw [List.mem_singleton.mp hm]; exact num_b h0 (by omega) (by omega)
      · have c' : num x i ∈ ms := of_decide_eq_true (by simpa using c)
        show D'.nx _ _
        rw [hD]
        obtain ⟨z1, z2⟩ := k0 ms (fun m hm => hm) c'
        exact hN _ _ ⟨_, _, ms, rfl, E, h1', nd, by omega, hb, z1, z2⟩
    refine ⟨_, rfl, _, rfl, ⟨by decide, by decide⟩, by decide, ?_⟩
    refine ⟨_, rfl, ⟨by decide, by decide⟩, by decide, eqIc rfl ⟨_, rfl, ite_k (fun c => ?_) (fun c => ?_)⟩⟩
    · have c' : x / 91 % 3 = 1 := by simpa using c
      refine ⟨_, rfl, .inr ⟨by decide, by decide⟩, _, rfl, ⟨by decide, by decide⟩, .inr ⟨by decide, by decide⟩, by decide, ?_⟩
      refine ⟨_, rfl, ⟨by decide, by decide⟩, by decide, eqIc (v := false) (beq_eq_false_iff_ne.mpr (by omega)) ⟨_, rfl, ite_f (ite_f ?_)⟩⟩
      have e : num x i = ((i : Int) * 7919 + x / 273) * 48271 % 1000003 := by unfold num; rw [if_pos c']
      exact fin _ _ e.symm rfl
    · have c' : x / 91 % 3 ≠ 1 := by simpa using c
      refine ⟨_, rfl, ⟨by decide, by decide⟩, by decide, eqIc rfl ⟨_, rfl, ite_k (fun c2 => ?_) (fun c2 => ite_f ?_)⟩⟩
      · have c2' : x / 91 % 3 = 2 := by simpa using c2
        refine ⟨_, rfl, by decide, _, rfl, ⟨by decide, by decide⟩, by decide, eqI rfl ⟨_, rfl, ite_k (fun c3 => ?_) (fun c3 => ?_)⟩⟩
        · have c3' : (i : Int) % 3 = x / 273 % 3 := by simpa using c3
          refine ⟨⟨by decide, by decide, by decide⟩, _, rfl, _, rfl, ⟨by decide, by decide⟩, by decide, .inr ⟨by omega, by omega⟩, ?_⟩
          have e : num x i = 1000000000000000000 - (i : Int) * (1 + x / 819 % 1000) := by unfold num; rw [if_neg c', if_pos ⟨c2', c3'⟩]
          exact fin _ _ e.symm rfl
        · have c3' : (i : Int) % 3 ≠ x / 273 % 3 := by simpa using c3
          have e : num x i = (i : Int) + x / 13 % 7 := by unfold num; rw [if_neg c', if_neg (fun z => c3' z.2)]
          exact fin _ _ e.symm rfl
      · have c2' : x / 91 % 3 ≠ 2 := by simpa using c2
        have e : num x i = (i : Int) + x / 13 % 7 := by unfold num; rw [if_neg c', if_neg (fun z => c2' z.1)]
        exact fin _ _ e.symm rfl
  · rintro τ C1 ⟨v2, v3, ms, rfl, E, h1', nd, hl, hb, m0, m1⟩
    refine ⟨_, rfl, q p ms C1 E hp h1' nd ?_ (by omega) hb⟩
    have a0 := m0 (by omega)
    have a1 := m1 (by omega)
    have ne := num_ne h0
    match ms, a0, a1 with
    | [], a0, _ => cases a0
    | [y], a0, a1 => exact absurd ((List.mem_singleton.mp a0).trans (List.mem_singleton.mp a1).symm) ne
    | _ :: _ :: _, _, _ => simp
end
end K51
set_option Elab.async false
set_option linter.all false
set_option maxRecDepth 100000
set_option maxHeartbeats 400000
namespace K51
open PySem PySem.Spec PyProof.Rows L2 WL
section
variable {C : Hw} {Q : WK} {χ : WX} {n : Nat} {a d : Addr} {ms : List Int} {D : Dd}
theorem s_roots {x : Int} (h0 : 0 ≤ x) (h1 : x < 2147483647) (ha : C a = some (.lst (ms.map T.int))) (hm : 0 < ms.length) (hm2 : ms.length ≤ 16) (q : ∀ p (rs : List Int) C', Ex C C' → C p = none → C' p = some (.lst (rs.map T.int)) → rs.length ≤ 10 → Q (.ref p) C') : wpc pr (n + 1) i__law_roots [.int x, .ref a] C Q χ := by
  refine u__law_roots rfl ?_
  refine ⟨Nat.le_of_ble_eq_true rfl, fun p hp => ?_⟩
  refine ⟨_, rfl, by decide, _, rfl, by omega, by omega, ?_⟩
  obtain ⟨M, hM⟩ : ∃ M : Nat, (x % 6).toNat = M := ⟨_, rfl⟩
  rw [hM]
  have hM6 : M ≤ 6 := by omega
  have hlen : ((ms.map T.int).length : Int) = (ms.length : Int) := by rw [List.length_map]
  refine for_rng (n := M) (fun i τ C' => ∃ (v3 : Option T) (rs : List Int), τ = [some (.int x), some (.ref a), some (.ref p), v3] ∧ Ex C C' ∧ C' p = some (.lst (rs.map T.int)) ∧ rs.length = i) ⟨none, [], rfl, Ex.new hp, up_same, rfl⟩ (fun _ => trivial) ?_ ?_
  · rintro i τ C1 N hi ⟨v3, rs, rfl, E, h1', hl⟩ hN
    have hi6 : (i : Int) ≤ 6 := by omega
    have hsq0 : (0 : Int) ≤ (0 + (i : Int)) * (0 + (i : Int)) := Int.mul_nonneg (by omega) (by omega)
    have hsq1 : (0 + (i : Int)) * (0 + (i : Int)) ≤ 6 * 6 := Int.mul_le_mul (by omega) (by omega) (by omega) (by decide)
    obtain ⟨y, g1, g2⟩ := atT_ints (ds := ms) (i := x / (7 + (0 + (i : Int)) * (0 + (i : Int))) % ((ms.map T.int).length : Int)) (Int.emod_nonneg _ (by omega)) (by rw [hlen]; exact Int.emod_lt_of_pos _ (by omega))
    refine ⟨_, rfl, ⟨_, _, rfl, h1'⟩, _, rfl, _, rfl, _, rfl, _, rfl, .inl ⟨by omega, by omega⟩, ⟨by omega, by omega⟩, _, rfl, _, rfl, _, E _ _ ha, by omega, _, _, E _ _ ha, g1, _, _, _, rfl, rfl, h1', small63' (by rw [List.length_map]; omega), ?_⟩
    exact hN _ _ ⟨_, rs ++ [y], rfl, E.up hp, by rw [up_same, List.map_append]; rfl, by rw [List.length_append, hl]; rfl⟩
  rintro τ C1 ⟨v3, rs, rfl, E, h1', hl⟩
  have fin : ∀ (rs' : List Int) (C' : Hw) (D' : We), D'.rt = Q → Ex C C' → C' p = some (.lst (rs'.map T.int)) → rs'.length ≤ 10 → sRet (eVar 2) D' [some (.int x), some (.ref a), some (.ref p), v3] C' := fun rs' C' D' hD e h l => ⟨_, rfl, by rw [hD]; exact q p rs' C' e hp h l⟩
  refine ⟨_, rfl, ⟨by decide, by decide⟩, by decide, eqIc rfl ⟨_, rfl, ite_k (fun c => ?_) (fun c => ite_f (fin rs C1 _ rfl E h1' (by omega)))⟩⟩
  refine ⟨_, rfl, _, rfl, _, h1', _, rfl, ite_k (fun c2 => ?_) (fun c2 => fin rs C1 _ rfl E h1' (by omega))⟩
  have c2' := of_decide_eq_true c2
  have hrl : ((rs.map T.int).length : Int) = (rs.length : Int) := by rw [List.length_map]
  have hj0 : 0 ≤ x / 30 % ((rs.map T.int).length : Int) := Int.emod_nonneg _ (by omega)
  have hj1 : x / 30 % ((rs.map T.int).length : Int) < ((rs.map T.int).length : Int) := Int.emod_lt_of_pos _ c2'
  generalize hj : x / 30 % ((rs.map T.int).length : Int) = j at hj0 hj1
  refine ⟨_, rfl, ⟨_, _, rfl, h1'⟩, _, rfl, ⟨by decide, by decide⟩, _, rfl, _, rfl, _, h1', c2', _, rfl, _, ms, rfl, E _ _ ha, hm, fun M' hM' _ => ?_⟩
  rw [hj]
  refine ⟨_, _, _, _, rfl, rfl, h1', hj0, by omega, small63' (by rw [List.length_map]; omega), ?_⟩
  refine fin (rs.take j.toNat ++ (M' + 1) :: rs.drop j.toNat) _ _ rfl (E.up hp) ?_ (by rw [List.length_append, List.length_cons, List.length_take, List.length_drop]; omega)
  rw [up_same, List.map_append, List.map_cons, List.map_take, List.map_drop]
theorem Rw.keys {C : Hw} {kvs : List (Key × T)} {D : Dd} (h : Rw C kvs D) : kvs.map (·.1) = (ks D).map Sum.inl := by
  induction h with
  | nil => rfl
  | cons _ _ ih => unfold ks at *; rw [List.map_cons, List.map_cons, List.map_cons, ih]
theorem Rw.snoc {C : Hw} {kvs : List (Key × T)} {D : Dd} {k : Int} {b : Addr} {row : List Int} (h : Rw C kvs D) (hb : C b = some (.lst (row.map T.int))) : Rw C (kvs ++ [(.inl k, .ref b)]) (D ++ [(k, row)]) := by
  induction h with
  | nil => exact .cons hb .nil
  | cons h _ ih => exact .cons h ih
theorem Rw.put {C : Hw} {kvs : List (Key × T)} {D : Dd} {k : Int} {v : T} (h : Rw C kvs D) (hk : k ∉ ks D) : putT kvs (.inl k) v = kvs ++ [(.inl k, v)] := by
  unfold putT
  rw [if_neg]
  intro z
  obtain ⟨kv, h1, h2⟩ := List.any_eq_true.mp z
  have h3 : kv.1 ∈ kvs.map (·.1) := List.mem_map.mpr ⟨kv, h1, rfl⟩
  rw [h.keys, of_decide_eq_true h2] at h3
  obtain ⟨y, hy, e⟩ := List.mem_map.mp h3
  cases e
  exact hk hy
theorem ks_snoc {D : Dd} {k : Int} {row : List Int} : ks (D ++ [(k, row)]) = ks D ++ [k] := by unfold ks; rw [List.map_append]; rfl
theorem Rw.at_ {C : Hw} {kvs : List (Key × T)} {D : Dd} (h : Rw C kvs D) : ∀ {i : Nat} {y : T}, (WL.rI kvs)[i]? = some y → ∃ k b row, y = .tup [.int k, .ref b] ∧ D[i]? = some (k, row) ∧ C b = some (.lst (row.map T.int)) := by
  induction h with
  | nil => intro i y e; cases e
  | @cons k b row kvs D h _ ih =>
    intro i y e
    cases i with
    | zero => cases e; exact ⟨k, b, row, rfl, rfl, h⟩
    | succ i => exact ih e
theorem s_copy (hd : Dc C d D) (q : ∀ p kvs C', Ez C C' → C p = none → C' p = some (.dic kvs) → Rw C' kvs D → Q (.ref p) C') : wpc pr (n + 1) i__law_copy [.ref d] C Q χ := by
  refine u__law_copy rfl ?_
  intro p hp
  obtain ⟨kvs, h1, h2⟩ := hd.ex
  have E0 := Ex.new (o := .dic []) hp
  have ndp : d ≠ p := by
    rcases h1 with h1 | h1
    · exact cne h1 hp
    · exact cne h1 hp
  refine ⟨_, rfl, d, kvs, rfl, RdC.of h1 E0, ?_⟩
  -- what is kept: all but d
  have dno : ∀ {b : Addr} {xs : List T}, C b = some (.lst xs) → b ≠ d := fun {b xs} e z => by
    subst z
    rcases h1 with h1 | h1 <;> rw [h1] at e <;> cases e
  refine for_inv (fun i τ C' => ∃ (v2 v3 : Option T) (kvs' : List (Key × T)), τ = [some (.ref d), some (.ref p), v2, v3] ∧ C' d = some (.fdic kvs) ∧ (∀ b o, b ≠ d → C b = some o → C' b = some o) ∧ C' p = some (.dic kvs') ∧ Rw C' kvs' (D.take i)) ⟨none, none, [], rfl, up_same, fun b o n e => by rw [up_ne n]; exact E0 _ _ e, by rw [up_ne ndp.symm]; exact up_same, .nil⟩ (fun i τ C' _ ⟨_, _, _, _, z, _⟩ => z) ?_ ?_
  · rintro i y τ C1 N hy ⟨v2, v3, kvs', rfl, hd1, K, hp1, W⟩ hN
    obtain ⟨k, b, row, rfl, hD, hb⟩ := h2.at_ hy
    have hi := lt_of_get hD
    have hDl := hd.l
    refine ⟨_, rfl, _, _, rfl, _, _, rfl, rfl, ?_⟩
    have hb1 := K _ _ (dno hb) hb
    refine ⟨_, rfl, _, rfl, _, hb1, fun p2 hp2 => ?_⟩
    have n2p : p ≠ p2 := cne hp1 hp2
    have n2d : d ≠ p2 := cne hd1 hp2
    refine ⟨_, rfl, _, rfl, p, kvs', .inl k, rfl, rfl, by rw [up_ne n2p]; exact hp1, small63' (by rw [W.len, List.length_take]; omega), ?_⟩
    have kn : k ∉ ks (D.take i) := fun z => by
      have e1 : (ks D)[i]? = some k := by unfold ks; rw [List.getElem?_map, hD]; rfl
      have e2 : ks (D.take i) = (ks D).take i := by unfold ks; rw [List.map_take]
      rw [e2] at z
      obtain ⟨j, hj⟩ := List.mem_iff_getElem?.mp z
      rw [List.getElem?_take] at hj
      split at hj
      · have := (List.getElem?_inj (lt_of_get hj) hd.nd).mp (hj.trans e1.symm)
        omega
      · cases hj
    rw [W.put kn]
    have et : D.take (i + 1) = D.take i ++ [(k, row)] := by rw [List.take_add_one, hD]; rfl
    have lk : ∀ (c : Addr) (xs : List T), C1 c = some (.lst xs) → up (up C1 p2 (.lst (row.map T.int))) p (.dic (kvs' ++ [(.inl k, .ref p2)])) c = some (.lst xs) := fun c xs e => by
      have n1 : c ≠ p := fun z => by rw [z, hp1] at e; cases e
      rw [up_ne n1, up_ne (cne e hp2)]; exact e
    refine hN _ _ ⟨_, _, kvs' ++ [(.inl k, .ref p2)], rfl, by rw [up_ne ndp, up_ne n2d]; exact hd1, fun c o nn e => ?_, up_same, ?_⟩
    · have n1 : c ≠ p := cne e hp
      rw [up_ne n1, up_ne (cne (K _ _ nn e) hp2)]
      exact K _ _ nn e
    · rw [et]
      exact (W.ex lk).snoc (by rw [up_ne n2p.symm]; exact up_same)
  · rintro τ C1 ⟨v2, v3, kvs', rfl, hd1, K, hp1, W⟩
    have el : (WL.rI kvs).length = D.length := by unfold WL.rI; rw [List.length_map, h2.len]
    rw [el, List.take_length] at W
    refine ⟨_, rfl, q p kvs' C1 (fun c o e => ?_) hp hp1 W⟩
    by_cases nn : c = d
    · subst nn
      rcases h1 with h1 | h1
      · rw [h1] at e; cases e
        exact .inr ⟨kvs, rfl, hd1⟩
      · rw [h1] at e; cases e
        exact .inl hd1
    · exact .inl (K _ _ nn e)
end
end K51
set_option Elab.async false
set_option linter.all false
set_option maxRecDepth 100000
set_option maxHeartbeats 400000
namespace K51
open PySem PySem.Spec PyProof.Rows L2 WL
theorem ints_inj : ∀ {xs ys : List Int}, xs.map T.int = ys.map T.int → xs = ys
  | [], [], _ => rfl
  | [], _ :: _, h => by cases h
  | _ :: _, [], h => by cases h
  | x :: xs, y :: ys, h => by
    rw [List.map_cons, List.map_cons] at h
    injection h with h1 h2
    injection h1 with h1
    rw [h1, ints_inj h2]
/-- all is kept but the table -/
structure Kt (C C' : Hw) : Prop where
  k : ∀ b o, b ≠ 44 → C b = some o → C' b = some o
  t : ∃ o, C' 44 = some o
theorem Kt.free {C C' : Hw} (h : Kt C C') {p : Addr} (e : C' p = none) : C p = none := by
  cases z : C p with
  | none => rfl
  | some o =>
    by_cases nb : p = 44
    · obtain ⟨o', t⟩ := h.t
      rw [nb, t] at e; cases e
    · rw [h.k _ _ nb z] at e; cases e
theorem Kt.new {C C' : Hw} (h : Kt C C') {p : Addr} {o : O} (e : C' p = none) : Kt C (up C' p o) := by
  refine ⟨fun b u nb z => ?_, ?_⟩
  · rw [up_ne (cne (h.k _ _ nb z) e)]; exact h.k _ _ nb z
  · obtain ⟨o', t⟩ := h.t
    exact ⟨o', by rw [up_ne (cne t e)]; exact t⟩
theorem Kt.up {C C' : Hw} (h : Kt C C') {p : Addr} {o : O} (e : C p = none) : Kt C (up C' p o) := by
  refine ⟨fun b u nb z => ?_, ?_⟩
  · rw [up_ne (cne z e)]; exact h.k _ _ nb z
  · obtain ⟨o', t⟩ := h.t
    by_cases n : (44 : Addr) = p
    · exact ⟨o, by rw [n]; exact up_same⟩
    · exact ⟨o', by rw [up_ne n]; exact t⟩
theorem of_getT {kvs : List (Key × T)} {k : Key} {v : T} (h : getT kvs k = some v) : ∃ kv ∈ kvs, kv.2 = v := by
  unfold getT at h
  cases e : kvs.find? fun kv => decide (kv.1 = k) with
  | none => rw [e] at h; cases h
  | some kv => rw [e] at h; cases h; exact ⟨kv, List.mem_of_find?_eq_some e, rfl⟩
/-- rows within bounds -/
def Bd (L : Nat) (D : Dd) : Prop := ∀ q ∈ D, q.2.length ≤ L ∧ ∀ y ∈ q.2, y.natAbs < 2 ^ 70
theorem Rw.app {C : Hw} {kvs : List (Key × T)} {D : Dd} {a : Addr} {xs : List Int} {g : Int} {L : Nat} (h : Rw C kvs D) (ha : C a = some (.lst (xs.map T.int))) (hb : Bd L D) (hg : g.natAbs < 2 ^ 70) :
    ∃ D', Rw (up C a (.lst ((xs ++ [g]).map T.int))) kvs D' ∧ ks D' = ks D ∧ Bd (L + 1) D' := by
  induction h with
  | nil => exact ⟨[], .nil, rfl, fun q hq => by cases hq⟩
  | @cons k b row kvs D h _ ih =>
    obtain ⟨D', h1, h2, h3⟩ := ih fun q hq => hb q (List.mem_cons_of_mem _ hq)
    obtain ⟨b1, b2⟩ := hb _ (List.mem_cons_self ..)
    by_cases e : b = a
    · subst e
      rw [h] at ha
      have er : row.map T.int = xs.map T.int := by injection ha with ha; injection ha
      have er' : row = xs := ints_inj er
      subst er'
      refine ⟨(k, row ++ [g]) :: D', .cons up_same h1, by unfold ks at *; rw [List.map_cons, List.map_cons, h2], fun q hq => ?_⟩
      rcases List.mem_cons.mp hq with rfl | hq
      · refine ⟨by rw [List.length_append]; show _ + 1 ≤ _; exact Nat.succ_le_succ b1, fun y hy => ?_⟩
        rcases List.mem_append.mp hy with hy | hy
        · exact b2 y hy
        · rw [List.mem_singleton.mp hy]; exact hg
      · exact h3 q hq
    · refine ⟨(k, row) :: D', .cons (by rw [up_ne e]; exact h) h1, by unfold ks at *; rw [List.map_cons, List.map_cons, h2], fun q hq => ?_⟩
      rcases List.mem_cons.mp hq with rfl | hq
      · exact ⟨Nat.le_succ_of_le b1, b2⟩
      · exact h3 q hq
theorem rD_ks {C : Hw} {kvs : List (Key × T)} {D : Dd} (h : Rw C kvs D) : rD kvs = (ks D).map T.int := by
  induction h with
  | nil => rfl
  | cons _ _ ih =>
    unfold rD ks at *
    rw [List.map_cons, List.map_cons, List.map_cons, ih]; rfl
section
variable {C : Hw} {Q : WK} {χ : WX} {n : Nat} {a : Addr} {ns ms : List Int}
theorem s_links (h63 : ns.length ≤ 63) (ha : C a = some (.lst (ms.map T.int))) (nd : ms.Nodup) (hm2 : 2 ≤ ms.length) (hm : ms.length ≤ 16) (hb : ∀ m ∈ ms, m.natAbs < 2 ^ 70) (hT : C 44 = some (.tab true))
    (q : ∀ p kvs D C', Kt C C' → C p = none → C' p = some (.dic kvs) → Rw C' kvs D → (ks D).Nodup → D.length ≤ 16 → Bd 100 D → (∀ x ∈ ks D, x.natAbs < 2 ^ 70) → Q (.ref p) C') : wpc pr (n + 2) i__law_links [.cl (ns.map T.int), .ref a] C Q χ := by
  refine u__law_links rfl ?_
  intro pd hpd
  have E0 := Ex.new (o := .dic []) hpd
  have na44 : a ≠ 44 := fun z => by rw [z, hT] at ha; cases ha
  have npd44 : (44 : Addr) ≠ pd := cne hT hpd
  refine ⟨_, rfl, ?_⟩
  dsimp only [aNil, aCons, eC]
  refine s_cell (k := 1) h63 (by decide) (by decide) fun x x0 x1 => ?_
  have hml : ((ms.map T.int).length : Int) = (ms.length : Int) := by rw [List.length_map]
  refine ⟨_, rfl, _, rfl, _, E0 _ _ ha, .inl ⟨by decide, by decide⟩, by omega, ?_⟩
  obtain ⟨out, hout⟩ : ∃ o : Nat, x % (2 * ((ms.map T.int).length : Int)) = (o : Int) := ⟨(x % (2 * ((ms.map T.int).length : Int))).toNat, by have := Int.emod_nonneg x (show 2 * ((ms.map T.int).length : Int) ≠ 0 by omega); omega⟩
  rw [hout]
  refine ⟨_, rfl, a, ms, (out : Int), rfl, E0 _ _ ha, by omega, rfl, by omega, E0 _ _ hT, fun po os hpo hperm => ?_⟩
  have hol : os.length = ms.length := hperm.length_eq
  have ond : os.Nodup := hperm.nodup_iff.mpr nd
  have npo : pd ≠ po := by
    intro z; subst z; rw [up_same] at hpo; cases hpo
  have cpo : C po = none := E0.free hpo
  have n44o : (44 : Addr) ≠ po := cne hT cpo
  have K0 : Kt C (up (up (up C pd (.dic [])) 44 (.tab false)) po (.lst (os.map T.int))) := by
    refine ⟨fun b o nb e => ?_, ⟨_, by rw [up_ne n44o]; exact up_same⟩⟩
    rw [up_ne (cne e cpo), up_ne nb]; exact E0 _ _ e
  have d0 : up (up (up C pd (.dic [])) 44 (.tab false)) po (.lst (os.map T.int)) pd = some (.dic []) := by rw [up_ne npo, up_ne npd44.symm]; exact up_same
  have o0 : up (up (up C pd (.dic [])) 44 (.tab false)) po (.lst (os.map T.int)) po = some (.lst (os.map T.int)) := up_same
  show sSeq _ _ _ _ (up (up (up C pd (.dic [])) 44 (.tab false)) po (.lst (os.map T.int)))
  generalize up (up (up C pd (.dic [])) 44 (.tab false)) po (.lst (os.map T.int)) = C0 at K0 d0 o0
  refine ⟨_, rfl, _, rfl, _, o0, _, rfl, by omega, by rw [List.length_map]; omega, ?_⟩
  have en : ((os.map T.int).length : Int).toNat = os.length := by rw [List.length_map]; omega
  rw [en]
  refine for_rng (n := os.length) (fun i τ C' => ∃ (v5 : Option T) (kvs : List (Key × T)) (D : Dd), τ = [some (.cl (ns.map T.int)), some (.ref a), some (.ref pd), some (.int (out : Int)), some (.ref po), v5, none, none, none, none] ∧ Kt C C' ∧ C' pd = some (.dic kvs) ∧ C' po = some (.lst (os.map T.int)) ∧ Rw C' kvs D ∧ (∀ y ∈ ks D, y ∈ os.take i) ∧ (ks D).Nodup ∧ D.length ≤ i ∧ i ≤ D.length + 1 ∧ (i ≤ out → D.length = i) ∧ Bd 0 D ∧ ∀ kv ∈ kvs, ∀ b, kv.2 = .ref b → C b = none) ⟨none, [], [], rfl, K0, d0, o0, .nil, fun y hy => (by cases hy), List.nodup_nil, Nat.le_refl _, Nat.le_succ _, fun _ => rfl, fun q hq => (by cases hq), fun kv h => (by cases h)⟩ (fun _ => trivial) ?_ ?_
  · rintro i τ C1 N hi ⟨v5, kvs, D, rfl, K, hd1, ho1, W, hsub, hnd, hl1, hl2, hl3, hB, hF⟩ hN
    have ei : (0 : Int) + (i : Int) = (i : Int) := by omega
    rw [ei]
    obtain ⟨y, hy⟩ : ∃ y, os[i]? = some y := ⟨os[i], by simp [hi]⟩
    have et : os.take (i + 1) = os.take i ++ [y] := by rw [List.take_add_one, hy]; rfl
    refine ⟨_, rfl, _, rfl, neI rfl ⟨_, rfl, ite_k (fun c => ?_) (fun c => ?_)⟩⟩
    · have c' : i ≠ out := fun z => by subst z; simp at c
      refine ⟨Nat.le_of_ble_eq_true rfl, fun p2 hp2 => ?_⟩
      have n2d : pd ≠ p2 := cne hd1 hp2
      have n2o : po ≠ p2 := cne ho1 hp2
      have hat : atI (os.map T.int) (i : Int) = some (.int y) := atI_nat (by rw [List.getElem?_map, hy]; rfl)
      have yn : y ∉ ks D := fun z => by
        have := hsub y z
        obtain ⟨j, hj⟩ := List.mem_iff_getElem?.mp this
        rw [List.getElem?_take] at hj
        split at hj
        · have := (List.getElem?_inj (lt_of_get hj) ond).mp (hj.trans hy.symm)
          omega
        · cases hj
      refine ⟨_, rfl, _, rfl, _, rfl, _, _, by rw [up_ne n2o]; exact ho1, hat, pd, kvs, .inl y, rfl, rfl, by rw [up_ne n2d]; exact hd1, small63' (by rw [W.len]; omega), ?_⟩
      rw [W.put yn]
      have lk : ∀ (c : Addr) (xs : List T), C1 c = some (.lst xs) → up (up C1 p2 (.lst [])) pd (.dic (kvs ++ [(.inl y, .ref p2)])) c = some (.lst xs) := fun c xs e => by
        have n1 : c ≠ pd := fun z => by rw [z, hd1] at e; cases e
        rw [up_ne n1, up_ne (cne e hp2)]; exact e
      refine hN _ _ ⟨_, kvs ++ [(.inl y, .ref p2)], D ++ [(y, [])], rfl, (K.new hp2).up hpd, up_same, by rw [up_ne npo.symm, up_ne n2o]; exact ho1, (W.ex lk).snoc (by rw [up_ne n2d.symm]; exact up_same), ?_, ?_, by rw [List.length_append]; show _ + 1 ≤ _; omega, by rw [List.length_append]; show _ ≤ _ + 1 + 1; omega, fun h => by rw [List.length_append, hl3 (by omega)]; rfl, fun qq hq => ?_, fun kv hkv b e => ?_⟩
      · intro z hz
        rw [ks_snoc] at hz
        rw [et]
        rcases List.mem_append.mp hz with hz | hz
        · exact List.mem_append_left _ (hsub z hz)
        · exact List.mem_append_right _ hz
      · rw [ks_snoc]
        exact List.nodup_append.mpr ⟨hnd, by simp, fun u hu v hv => by rw [List.mem_singleton.mp hv]; exact fun e => yn (e ▸ hu)⟩
      · rcases List.mem_append.mp hq with hq | hq
        · exact hB qq hq
        · rw [List.mem_singleton.mp hq]; exact ⟨Nat.le_refl _, fun u hu => by cases hu⟩
      · rcases List.mem_append.mp hkv with hkv | hkv
        · exact hF kv hkv b e
        · rw [List.mem_singleton.mp hkv] at e
          cases e
          exact K.free hp2
    · have c' : i = out := by have : (i : Int) = (out : Int) := (by simpa using c); omega
      refine hN _ _ ⟨_, kvs, D, rfl, K, hd1, ho1, W, fun z hz => by rw [et]; exact List.mem_append_left _ (hsub z hz), hnd, by omega, by have := hl3 (by omega); omega, fun h => by omega, hB, hF⟩
  rintro τ C1 ⟨v5, kvs, D, rfl, K, hd1, ho1, W, hsub, hnd, hl1, hl2, hl3, hB, hF⟩
  have hD1 : 1 ≤ D.length := by omega
  have hks : (ks D).length = D.length := by unfold ks; rw [List.length_map]
  have hkb : ∀ y ∈ ks D, y.natAbs < 2 ^ 70 := fun y hy => hb y (hperm.mem_iff.mp (List.mem_of_mem_take (hsub y hy)))
  refine ⟨_, rfl, pd, kvs, rfl, .inl hd1, fun pk hpk => ?_⟩
  rw [rD_ks W]
  have nkd : pd ≠ pk := cne hd1 hpk
  have E2 := Ex.new (o := .lst ((ks D).map T.int)) hpk
  have K2 := K.new (o := .lst ((ks D).map T.int)) hpk
  have hd2 := E2 _ _ hd1
  have W2 := W.ex fun c xs e => E2 _ _ e
  have hk2 : up C1 pk (.lst ((ks D).map T.int)) pk = some (.lst ((ks D).map T.int)) := up_same
  have rpk : ∀ k b, getT kvs (.inl k) = some (.ref b) → b ≠ pk := fun k b e => by
    rcases W.get k with ⟨_, z⟩ | ⟨row, b', _, z, z2⟩
    · rw [z] at e; cases e
    · rw [z] at e; cases e
      exact cne z2 hpk
  show sSeq _ _ _ _ (up C1 pk (.lst ((ks D).map T.int)))
  generalize up C1 pk (.lst ((ks D).map T.int)) = C2 at K2 hd2 W2 hk2
  have hnl : ((ns.map T.int).length : Int) = (ns.length : Int) := by rw [List.length_map]
  refine ⟨_, rfl, _, rfl, _, _, rfl, _, _, rfl, ?_⟩
  dsimp only
  obtain ⟨J, hJ, hJ2, hJ47⟩ : ∃ J : Nat, (if (if ((ns.map T.int).length : Int) > 12 then ((ns.map T.int).length : Int) else 12) < 47 then (if ((ns.map T.int).length : Int) > 12 then ((ns.map T.int).length : Int) else 12) else 47) = (J : Int) ∧ 2 ≤ J ∧ J ≤ 47 := by
    refine ⟨(if (if ((ns.map T.int).length : Int) > 12 then ((ns.map T.int).length : Int) else 12) < 47 then (if ((ns.map T.int).length : Int) > 12 then ((ns.map T.int).length : Int) else 12) else 47).toNat, ?_, ?_, ?_⟩
    all_goals (repeat' split) <;> omega
  rw [hJ]
  refine ⟨_, _, rfl, ⟨by decide, by decide, by omega, by omega⟩, ?_⟩
  have eJ : ((J : Int) - 2).toNat = J - 2 := by omega
  rw [eJ]
  refine for_rng (n := J - 2) (fun i τ C' => ∃ (v5 v7 v8 v9 : Option T) (D' : Dd), τ = [some (.cl (ns.map T.int)), some (.ref a), some (.ref pd), some (.int (out : Int)), some (.ref po), v5, some (.ref pk), v7, v8, v9] ∧ Kt C C' ∧ C' pd = some (.dic kvs) ∧ C' pk = some (.lst ((ks D).map T.int)) ∧ Rw C' kvs D' ∧ ks D' = ks D ∧ Bd i D') ⟨v5, none, none, none, D, rfl, K2, hd2, hk2, W2, rfl, hB⟩ (fun _ => trivial) ?_ ?_
  · rintro i τ C3 N hi ⟨v5, v7, v8, v9, D', rfl, K3, hd3, hk3, W3, ek, hB3⟩ hN
    have ei : (2 : Int) + (i : Int) ≤ 1000 := by omega
    refine ⟨_, rfl, _, rfl, ?_⟩
    dsimp only [aNil]
    refine s_cell h63 (by omega) ei fun y y0 y1 => ?_
    have ha3 := K3.k _ _ na44 ha
    obtain ⟨g, g1, g2⟩ := atT_ints (ds := ms) (i := y / 1009 % ((ms.map T.int).length : Int)) (Int.emod_nonneg _ (by omega)) (by rw [hml]; exact Int.emod_lt_of_pos _ (by omega))
    refine ⟨_, rfl, _, rfl, ⟨by decide, by decide⟩, _, rfl, _, rfl, _, ha3, by omega, _, _, ha3, g1, ?_⟩
    refine ⟨_, rfl, _, rfl, by decide, .inl ⟨by omega, by omega⟩, _, rfl, ⟨by decide, by decide⟩, ?_⟩
    have hkl : (((ks D).map T.int).length : Int) = (D.length : Int) := by rw [List.length_map, hks]
    obtain ⟨pl, hpl⟩ : ∃ pl : Int, pl = (2 + (i : Int)) * (y % 2) + y / 2 := ⟨_, rfl⟩
    obtain ⟨kk, k1, k2⟩ := atT_ints (ds := ks D) (i := pl % (((ks D).map T.int).length : Int)) (Int.emod_nonneg _ (by omega)) (by rw [hks, hkl]; exact Int.emod_lt_of_pos _ (by omega))
    rw [hpl] at k1
    obtain ⟨row, hrow⟩ := mem_look.mp (show kk ∈ ks D' by rw [ek]; exact k2)
    rcases W3.get kk with ⟨z, _⟩ | ⟨row', b, z, g3, g4⟩
    · rw [hrow] at z; cases z
    rw [hrow] at z; cases z
    obtain ⟨kv, hkv, ekv⟩ := of_getT g3
    have cb : C b = none := hF kv hkv b ekv
    have nbk : b ≠ pk := rpk kk b g3
    have nbd : b ≠ pd := fun z => by rw [z, hd3] at g4; cases g4
    refine ⟨_, rfl, _, rfl, _, rfl, _, rfl, _, rfl, _, hk3, by omega, _, _, hk3, k1, pd, kvs, .inl kk, _, rfl, rfl, .inl hd3, g3, ⟨_, _, rfl, g4⟩, _, rfl, _, _, _, rfl, rfl, g4, small63' (by rw [List.length_map]; have hh : row.length ≤ i := (hB3 _ (of_look hrow)).1; omega), ?_⟩
    obtain ⟨D'', w1, w2, w3⟩ := W3.app g4 hB3 (hb g g2)
    rw [List.map_append] at w1
    exact hN _ _ ⟨_, _, _, _, D'', rfl, K3.up cb, by rw [up_ne nbd.symm]; exact hd3, by rw [up_ne nbk.symm]; exact hk3, w1, w2.trans ek, w3⟩
  · rintro τ C3 ⟨v5, v7, v8, v9, D', rfl, K3, hd3, hk3, W3, ek, hB3⟩
    have hl' : D'.length = D.length := by have := congrArg List.length ek; unfold ks at this; rw [List.length_map, List.length_map] at this; exact this
    exact ⟨_, rfl, q pd kvs D' C3 K3 hpd hd3 W3 (by rw [ek]; exact hnd) (by omega) (fun qq hq => ⟨by have := (hB3 qq hq).1; omega, (hB3 qq hq).2⟩) (by rw [ek]; exact hkb)⟩
end
end K51
set_option Elab.async false
set_option linter.all false
set_option maxRecDepth 100000
set_option maxHeartbeats 400000
namespace K51
open PySem PySem.Spec PyProof.Rows L2 WL
def chD (g c : Int) (N : Nat) : Dd := (List.range N).map fun k : Nat => ((k : Int) * g + c, [(k : Int) * g + g + c])
def chR (g c : Int) (N : Nat) : Ls := (List.range N).map fun k : Nat => ((k : Int) * g + c, if k = 0 then none else some ((k : Int) * g - g + c))
theorem key_inj {g c : Int} (hg : 0 < g) {i j : Nat} (h : (i : Int) * g + c = (j : Int) * g + c) : i = j := by
  have h1 : (i : Int) * g = (j : Int) * g := by omega
  have := Int.eq_of_mul_eq_mul_right (by omega) h1
  omega
theorem key_succ {g c : Int} {i : Nat} : (i : Int) * g + g + c = ((i + 1 : Nat) : Int) * g + c := by
  have : ((i + 1 : Nat) : Int) * g = (i : Int) * g + g := by rw [Int.natCast_add, Int.add_mul]; simp
  omega
theorem ch_ks {g c : Int} {N : Nat} {x : Int} : x ∈ ks (chD g c N) ↔ ∃ k : Nat, k < N ∧ x = (k : Int) * g + c := by
  unfold ks chD
  rw [List.map_map, List.mem_map]
  constructor
  · rintro ⟨k, hk, rfl⟩; exact ⟨k, List.mem_range.mp hk, rfl⟩
  · rintro ⟨k, hk, rfl⟩; exact ⟨k, List.mem_range.mpr hk, rfl⟩
theorem ch_nd {g c : Int} {N : Nat} (hg : 0 < g) : (ks (chD g c N)).Nodup := by
  unfold ks chD
  rw [List.map_map]
  exact List.pairwise_map.mpr (List.nodup_range.imp fun h e => h (key_inj hg e))
theorem look_of {D : Dd} : ∀ {x : Int} {row : List Int}, (ks D).Nodup → (x, row) ∈ D → D.lookup x = some row := by
  induction D with
  | nil => intro x row _ h; cases h
  | cons q D ih =>
    intro x row nd h
    unfold ks at nd
    rw [List.map_cons] at nd
    obtain ⟨n1, n2⟩ := List.nodup_cons.mp nd
    rw [List.lookup_cons]
    rcases List.mem_cons.mp h with e | h
    · rw [← e, beq_self_eq_true]
    · have : x ≠ q.1 := fun e => n1 (e ▸ List.mem_map.mpr ⟨(x, row), h, rfl⟩)
      rw [beq_eq_false_iff_ne.mpr this]
      exact ih n2 h
theorem ch_look {g c : Int} {N p : Nat} (hg : 0 < g) (hp : p < N) : (chD g c N).lookup ((p : Int) * g + c) = some [(p : Int) * g + g + c] :=
  look_of (ch_nd hg) (List.mem_map.mpr ⟨p, List.mem_range.mpr hp, rfl⟩)
theorem ch_kl {g c : Int} {N : Nat} {x : Int} : x ∈ kl (chR g c N) ↔ ∃ k : Nat, k < N ∧ x = (k : Int) * g + c := by
  unfold kl chR
  rw [List.map_map, List.mem_map]
  constructor
  · rintro ⟨k, hk, rfl⟩; exact ⟨k, List.mem_range.mp hk, rfl⟩
  · rintro ⟨k, hk, rfl⟩; exact ⟨k, List.mem_range.mpr hk, rfl⟩
theorem ch_exp {g c : Int} {N p : Nat} (hg : 0 < g) (hp : p < N) : exp (chD g c N) (chR g c (p + 1)) ((p : Int) * g + c) = if p + 1 < N then chR g c (p + 2) else chR g c (p + 1) := by
  unfold exp
  rw [ch_look hg hp]
  show add (chD g c N) ((p : Int) * g + c) (chR g c (p + 1)) ((p : Int) * g + g + c) = _
  rw [key_succ]
  have n1 : ((p + 1 : Nat) : Int) * g + c ∉ kl (chR g c (p + 1)) := fun z => by
    obtain ⟨k, hk, e⟩ := ch_kl.mp z
    have := key_inj hg e
    omega
  unfold add
  by_cases h : p + 1 < N
  · rw [if_pos h, if_pos ⟨n1, ch_ks.mpr ⟨p + 1, h, rfl⟩⟩]
    unfold chR
    rw [List.range_succ (n := p + 1), List.map_append]
    have e : ((p + 1 : Nat) : Int) * g - g + c = (p : Int) * g + c := by
      have := key_succ (g := g) (c := c) (i := p)
      omega
    show _ = _ ++ [(((p + 1 : Nat) : Int) * g + c, if p + 1 = 0 then none else some (((p + 1 : Nat) : Int) * g - g + c))]
    rw [if_neg (Nat.succ_ne_zero p), e]
  · rw [if_neg h, if_neg]
    rintro ⟨_, z⟩
    obtain ⟨k, hk, e⟩ := ch_ks.mp z
    have := key_inj hg e
    omega
theorem ch_get {g c : Int} {N p : Nat} (h : p < N) : (chR g c N)[p]? = some ((p : Int) * g + c, if p = 0 then none else some ((p : Int) * g - g + c)) := by
  unfold chR
  rw [List.getElem?_map, List.getElem?_range h]; rfl
theorem ch_bfs {g c : Int} {N : Nat} (hg : 0 < g) : ∀ (m p : Nat), p + m = N → p < N → bfs (chD g c N) m (chR g c (p + 1)) p = chR g c N
  | 0, p, h, hp => by omega
  | m + 1, p, h, hp => by
    unfold bfs
    rw [ch_get (Nat.lt_succ_self p)]
    show bfs (chD g c N) m (exp (chD g c N) (chR g c (p + 1)) ((p : Int) * g + c)) (p + 1) = _
    rw [ch_exp hg hp]
    by_cases h2 : p + 1 < N
    · rw [if_pos h2]
      exact ch_bfs hg m (p + 1) (by omega) h2
    · rw [if_neg h2]
      have hm : m = 0 := by omega
      subst hm
      have : N = p + 1 := by omega
      subst this
      rfl
theorem ch_rch {g c : Int} {N : Nat} (hg : 0 < g) (hN : 0 < N) : rch (chD g c N) [c] = chR g c N := by
  have hl : (chD g c N).length = N := by unfold chD; rw [List.length_map, List.length_range]
  have hc : c ∈ ks (chD g c N) := ch_ks.mpr ⟨0, hN, by simp⟩
  have hf : (fir (chD g c N) [c]).map (fun x => (x, (none : Option Int))) = chR g c (0 + 1) := by
    unfold fir
    rw [List.foldl_cons, List.foldl_nil, fir1_yes hc, if_neg (by simp)]
    unfold chR
    simp
  unfold rch
  rw [hf, hl]
  exact ch_bfs hg N 0 (by omega) hN
theorem ch_len {g c : Int} {N : Nat} : (chR g c N).length = N := by unfold chR; rw [List.length_map, List.length_range]
section
variable {C : Hw} {Q : WK} {χ : WX} {n : Nat}
theorem neTup {τ : Sw} {xs : List T} (hf : flat (.tup xs) eqDeep = true) (q : Q (.bl false) C) : wEqG true (.tup xs) (.tup xs) C Q := by
  refine ⟨hf, hf, ?_⟩
  rw [if_pos rfl, eqT_refl _ hf]; exact q
theorem s_chain {x : Int} (h0 : 0 ≤ x) (h1 : x < 2147483647) (q : ∀ C', Q (.bl true) C') : wpc pr (n + 3) i__law_chain [.int x] C Q χ := by
  refine u__law_chain rfl ?_
  intro pd hpd
  refine ⟨_, rfl, by decide, ?_⟩
  obtain ⟨g, hg⟩ : ∃ g : Int, g = 7 + x % 1000 := ⟨_, rfl⟩
  obtain ⟨c, hc⟩ : ∃ c : Int, c = x % 7 := ⟨_, rfl⟩
  have g0 : 0 < g := by omega
  have g1 : g ≤ 1007 := by omega
  have c0 : 0 ≤ c := by omega
  have c1 : c ≤ 7 := by omega
  dsimp only [wAdd]
  rw [← hg]
  refine ⟨_, rfl, by decide, by decide, ?_⟩
  have mb : ∀ i : Nat, i ≤ 1100 → 0 ≤ (i : Int) * g ∧ (i : Int) * g ≤ 1100 * 1007 := fun i hi => ⟨Int.mul_nonneg (by omega) (by omega), Int.mul_le_mul (by omega) g1 (by omega) (by decide)⟩
  refine for_rng (n := 1100) (fun i τ C' => ∃ (v3 : Option T) (kvs : List (Key × T)), τ = [some (.int x), some (.ref pd), some (.int g), v3, none] ∧ Ex C C' ∧ C' pd = some (.dic kvs) ∧ Rw C' kvs (chD g c i)) ⟨none, [], rfl, Ex.new hpd, up_same, .nil⟩ (fun _ => trivial) ?_ ?_
  · rintro i τ C1 N hi ⟨v3, kvs, rfl, E, hd1, W⟩ hN
    have ei : (0 : Int) + (i : Int) = (i : Int) := by omega
    rw [ei]
    obtain ⟨b1, b2⟩ := mb i (by omega)
    have hcd : (chD g c i).length = i := by unfold chD; rw [List.length_map, List.length_range]
    refine ⟨_, rfl, _, rfl, .inl ⟨by omega, by omega⟩, _, rfl, _, rfl, by decide, Nat.le_of_ble_eq_true rfl, fun p2 hp2 => ?_⟩
    rw [← hc]
    have n2 : pd ≠ p2 := cne hd1 hp2
    refine ⟨_, rfl, _, rfl, _, rfl, .inl ⟨by omega, by omega⟩, _, rfl, by decide, pd, kvs, .inl ((i : Int) * g + x % 7), rfl, rfl, by rw [up_ne n2]; exact hd1, small63' (by rw [W.len, hcd]; omega), ?_⟩
    rw [← hc]
    have kn : (i : Int) * g + c ∉ ks (chD g c i) := fun z => by
      obtain ⟨k, hk, e⟩ := ch_ks.mp z
      have := key_inj g0 e
      omega
    rw [W.put kn]
    have lk : ∀ (b : Addr) (xs : List T), C1 b = some (.lst xs) → up (up C1 p2 (.lst [.int ((i : Int) * g + g + c)])) pd (.dic (kvs ++ [(.inl ((i : Int) * g + c), .ref p2)])) b = some (.lst xs) := fun b xs e => by
      have n1 : b ≠ pd := fun z => by rw [z, hd1] at e; cases e
      rw [up_ne n1, up_ne (cne e hp2)]; exact e
    refine hN _ _ ⟨_, _, rfl, (E.trans (Ex.new hp2)).up hpd, up_same, ?_⟩
    have ed : chD g c (i + 1) = chD g c i ++ [((i : Int) * g + c, [(i : Int) * g + g + c])] := by unfold chD; rw [List.range_succ, List.map_append]; rfl
    rw [ed]
    exact (W.ex lk).snoc (by rw [up_ne n2.symm]; exact up_same)
  rintro τ C1 ⟨v3, kvs, rfl, E, hd1, W⟩
  have hcd : (chD g c 1100).length = 1100 := by unfold chD; rw [List.length_map, List.length_range]
  have hlook : ∀ y row, (chD g c 1100).lookup y = some row → row.length ≤ 1000 ∧ ∀ z ∈ row, z.natAbs < 2 ^ 70 := fun y row h => by
    obtain ⟨k, hk, e⟩ := List.mem_map.mp (of_look h)
    have hk' := List.mem_range.mp hk
    injection e with e1 e2
    subst e2
    obtain ⟨b1, b2⟩ := mb k (by omega)
    refine ⟨Nat.le_of_ble_eq_true rfl, fun z hz => ?_⟩
    rw [List.mem_singleton.mp hz]
    omega
  have hd : Dc C1 pd (chD g c 1100) := ⟨⟨kvs, .inl hd1, W⟩, ch_nd g0, by omega, fun y row h => (hlook y row h).1, fun y hy => by
    obtain ⟨k, hk, rfl⟩ := ch_ks.mp hy
    obtain ⟨b1, b2⟩ := mb k (by omega)
    omega, fun y row h => (hlook y row h).2⟩
  refine ⟨_, rfl, _, rfl, by decide, Nat.le_of_ble_eq_true rfl, fun pr' hpr => ?_⟩
  rw [← hc]
  dsimp only [aNil]
  refine s_reached (n := n) (rs := [c]) (hd.of (Ex.new hpr)) up_same (Nat.le_of_ble_eq_true rfl) fun p4 C4 E4 f4 h4 => ?_
  rw [ch_rch g0 (by decide)] at h4
  refine ⟨_, rfl, "list", .inl ⟨rfl, _, h4⟩, _, rfl, ite_f ?_⟩
  refine ⟨_, rfl, _, rfl, _, h4, ?_⟩
  rw [rows_len, ch_len]
  refine neIc (v := true) rfl ⟨_, rfl, ite_f ?_⟩
  have g0' : (rowsT (chR g c 1100))[0]? = some (.tup [.int c, .non]) := by
    rw [rows_get (ch_get (by decide))]; simp [oT]
  refine ⟨_, rfl, _, _, h4, atI_nat (j := 0) g0', ?_⟩
  refine ⟨_, rfl, by decide, Nat.le_of_ble_eq_true rfl, ?_⟩
  rw [← hc]
  refine neTup (τ := []) rfl ⟨_, rfl, ite_f ?_⟩
  refine ⟨_, _, rfl, ⟨by decide, by decide, by decide, by decide⟩, ?_⟩
  refine for_rng (n := 1099) (fun i τ C' => ∃ (v3 : Option T), τ = [some (.int x), some (.ref pd), some (.int g), v3, some (.ref p4)] ∧ C' = C4) ⟨v3, rfl, rfl⟩ (fun _ => trivial) ?_ ?_
  · rintro i τ C5 N hi ⟨v3, rfl, rfl⟩ hN
    have ei : (1 : Int) + (i : Int) = ((i + 1 : Nat) : Int) := by omega
    rw [ei]
    obtain ⟨b1, b2⟩ := mb (i + 1) (by omega)
    have gi : (rowsT (chR g c 1100))[i + 1]? = some (.tup [.int (((i + 1 : Nat) : Int) * g + c), .int (((i + 1 : Nat) : Int) * g - g + c)]) := by
      rw [rows_get (ch_get (by omega)), if_neg (Nat.succ_ne_zero i)]; rfl
    refine ⟨_, rfl, _, rfl, _, _, h4, atI_nat gi, ?_⟩
    refine ⟨_, rfl, _, rfl, .inl ⟨by omega, by omega⟩, _, rfl, by decide, _, rfl, _, rfl, .inl ⟨by omega, by omega⟩, _, rfl, _, rfl, by decide, Nat.le_of_ble_eq_true rfl, ?_⟩
    rw [← hc]
    exact neTup (τ := []) rfl ⟨_, rfl, ite_f (hN _ _ ⟨_, rfl, rfl⟩)⟩
  · rintro τ C5 ⟨v3, rfl, rfl⟩
    exact q _
end
end K51
set_option Elab.async false
set_option linter.all false
set_option maxRecDepth 100000
set_option maxHeartbeats 400000
namespace K51
open PySem PySem.Spec PyProof.Rows L2 WL
theorem dc_of {C : Hw} {p : Addr} {kvs : List (Key × T)} {D : Dd} (h : RdC C p kvs) (W : Rw C kvs D) (nd : (ks D).Nodup) (hl : D.length ≤ 16) (hB : Bd 100 D) (hk : ∀ x ∈ ks D, x.natAbs < 2 ^ 70) : Dc C p D :=
  ⟨⟨kvs, h, W⟩, nd, by omega, fun x row h => by have := (hB _ (of_look h)).1; exact Nat.le_trans this (by decide), hk, fun x row h => (hB _ (of_look h)).2⟩
theorem Rw.at2 {C : Hw} {kvs : List (Key × T)} {D : Dd} (h : Rw C kvs D) : ∀ {i : Nat} {y : Key × T}, kvs[i]? = some y → ∃ k b row, y = (.inl k, .ref b) ∧ D[i]? = some (k, row) ∧ C b = some (.lst (row.map T.int)) := by
  induction h with
  | nil => intro i y e; cases e
  | @cons k b row kvs D h _ ih =>
    intro i y e
    cases i with
    | zero => cases e; exact ⟨k, b, row, rfl, rfl, h⟩
    | succ i => exact ih e
theorem eqH_ints {C : Hw} {a b : Addr} {row : List Int} (h1 : C a = some (.lst (row.map T.int))) (h2 : C b = some (.lst (row.map T.int))) : EqH C 90 (.ref a) (.ref b) true := by
  refine .inr (.inr ⟨a, b, _, _, fun _ => true, rfl, rfl, h1, h2, fun _ j x y hx hy => ?_, ?_⟩)
  · rw [hx] at hy
    cases hy
    obtain ⟨z, _, rfl⟩ := get_ints hx
    exact .inl ⟨rfl, rfl, by simp [WL.eqT]⟩
  · rw [if_pos rfl]
    exact (List.all_eq_true.mpr fun _ _ => rfl).symm
section
variable {C : Hw} {Q : WK} {χ : WX}
theorem neDict {a b : Addr} {ka kb : List (Key × T)} {D : Dd} (h1 : RdC C a ka) (h2 : RdC C b kb) (w1 : Rw C ka D) (w2 : Rw C kb D) (q : Q (.bl false) C) : wRneH (.ref a) (.ref b) C Q := by
  refine ⟨a, b, ka, kb, rfl, rfl, h1, h2, by rw [w1.keys, w2.keys], fun i u v hu hv => ?_, q⟩
  obtain ⟨k, b1, row, rfl, e1, l1⟩ := w1.at2 hu
  obtain ⟨k', b2, row', rfl, e2, l2⟩ := w2.at2 hv
  rw [e1] at e2
  cases e2
  exact eqH_ints l1 l2
theorem rch_nil {D : Dd} : rch D [] = [] := by
  unfold rch fir
  show bfs D D.length [] 0 = []
  cases D.length <;> rfl
theorem rch_none {rs : List Int} : rch [] rs = [] := by
  have h : ∀ rs : List Int, rs.foldl (fir1 []) [] = [] := fun rs => by
    induction rs with
    | nil => rfl
    | cons r rs ih => rw [List.foldl_cons, fir1_no (by unfold ks; simp)]; exact ih
  unfold rch fir
  rw [h]; rfl
end
theorem law_true (ns : List Int) (h63 : ns.length ≤ 63) : wpc pr 60 i_law [.cl (ns.map T.int)] (CT 44) (fun v _ => v = .bl true) (fun _ _ => False) := by
  have hT0 : CT 44 44 = some (.tab true) := rfl
  refine u_law rfl ?_
  refine ⟨_, rfl, ?_⟩
  dsimp only [aNil, aCons, eC]
  refine s_cell (n := 58) (k := 0) h63 (by decide) (by decide) fun x x0 x1 => ?_
  refine s_numbers (n := 58) x0 x1 fun p1 ms C1 E1 f1 h1 nd m2 m16 mb => ?_
  refine ⟨_, rfl, _, rfl, ?_⟩
  dsimp only [aNil]
  refine s_links (n := 57) h63 h1 nd m2 m16 mb (E1 _ _ hT0) fun p2 kv2 D C2 K2 f2 h2 W2 nd2 l2 B2 b2 => ?_
  have n144 : p1 ≠ 44 := fun z => by rw [z, E1 _ _ hT0] at h1; cases h1
  have h12 := K2.k _ _ n144 h1
  have d2 : Dc C2 p2 D := dc_of (.inl h2) W2 nd2 l2 B2 b2
  refine ⟨_, rfl, ?_⟩
  dsimp only [aNil, aCons, eC]
  refine s_cell (n := 58) (k := 2) h63 (by decide) (by decide) fun y y0 y1 => ?_
  refine ⟨_, rfl, ?_⟩
  dsimp only [aNil]
  refine s_roots (n := 58) y0 y1 h12 (by omega) m16 fun p3 rs C3 E3 f3 h3 r10 => ?_
  refine ⟨_, rfl, ?_⟩
  dsimp only [aNil]
  refine s_copy (n := 58) (d2.of E3) fun p4 kv4 C4 Z4 f4 h4 W4 => ?_
  have d4 : Dc C4 p4 D := dc_of (.inl h4) W4 nd2 l2 B2 b2
  have d24 : Dc C4 p2 D := (d2.of E3).ofz Z4
  have h34 := Z4.lst h3
  refine ⟨_, rfl, _, rfl, _, h34, fun p5 hp5 => ?_⟩
  have E5 := Ex.new (o := .lst (rs.map T.int)) hp5
  have h5 : up C4 p5 (.lst (rs.map T.int)) p5 = some (.lst (rs.map T.int)) := up_same
  show sSeq _ _ _ _ (up C4 p5 (.lst (rs.map T.int)))
  have d45 := d4.of E5
  have d25 := d24.of E5
  have h35 := E5 _ _ h34
  generalize up C4 p5 (.lst (rs.map T.int)) = C5 at E5 h5 d45 d25 h35
  refine ⟨_, rfl, _, rfl, ?_⟩
  dsimp only [aNil]
  refine s_reached (n := 57) d45 h5 (by omega) fun p6 C6 E6 f6 h6 => ?_
  obtain ⟨ws, B⟩ := rch_bs (D := D) (rs := rs)
  have hsm := B.small
  refine ⟨_, rfl, "list", .inl ⟨rfl, _, h6⟩, _, rfl, ite_f ?_⟩
  obtain ⟨ka, ra, wa⟩ := (d45.of E6).ex
  obtain ⟨kb, rb, wb⟩ := (d25.of E6).ex
  refine ⟨_, rfl, _, rfl, neDict ra rb wa wb ⟨_, rfl, ite_f ?_⟩⟩
  refine ⟨_, rfl, _, rfl, neRefl (E6 _ _ h5) (E6 _ _ h35) (flats_ints rs) ⟨_, rfl, ite_f ?_⟩⟩
  refine ⟨_, rfl, _, rfl, _, rfl, ?_⟩
  dsimp only [aNil]
  refine s_walked (n := 57) (d25.of E6) (E6 _ _ h35) (by omega) B h6 fun C7 E7 => ⟨_, rfl, ite_f ?_⟩
  have E67 := E6.trans E7
  have h67 := E7 _ _ h6
  -- kept, cleared
  refine ⟨_, rfl, _, rfl, _, h67, fun p8 hp8 => ?_⟩
  have E8 := Ex.new (o := .lst (rowsT (rch D rs))) hp8
  have h8 : up C7 p8 (.lst (rowsT (rch D rs))) p8 = some (.lst (rowsT (rch D rs))) := up_same
  have E58 := E67.trans E8
  have h68 := E8 _ _ h67
  have n68 : p6 ≠ p8 := cne h67 hp8
  show sSeq _ _ _ _ (up C7 p8 (.lst (rowsT (rch D rs))))
  generalize up C7 p8 (.lst (rowsT (rch D rs))) = C8 at E58 h8 h68
  refine ⟨_, rfl, ⟨_, _, rfl, h68⟩, _, _, rfl, rfl, h68, ?_⟩
  have f56 : C5 p6 = none := f6
  have E59 : Ex C5 (up C8 p6 (.lst [])) := E58.up f56
  have h89 : up C8 p6 (.lst []) p8 = some (.lst (rowsT (rch D rs))) := by rw [up_ne n68.symm]; exact h8
  show sSeq _ _ _ _ (up C8 p6 (.lst []))
  generalize up C8 p6 (.lst []) = C9 at E59 h89
  -- the other way round
  refine ⟨_, rfl, ?_⟩
  dsimp only [aNil, aCons]
  refine s_copy (n := 58) (d25.of E59) fun pa kva Ca Za fa ha Wa => ?_
  have da : Dc Ca pa D := dc_of (.inl ha) Wa nd2 l2 B2 b2
  have d2a : Dc Ca p2 D := (d25.of E59).ofz Za
  have d4a : Dc Ca p4 D := (d45.of E59).ofz Za
  have h3a := Za.lst (E59 _ _ h35)
  have h5a := Za.lst (E59 _ _ h5)
  have h8a := Za.lst h89
  refine ⟨_, rfl, p3, _, rfl, h3a, fun pb hpb => ?_⟩
  have Eb := Ex.new (o := .lst ((rs.map T.int).reverse)) hpb
  have hb : up Ca pb (.lst ((rs.map T.int).reverse)) pb = some (.lst (rs.reverse.map T.int)) := by rw [up_same, List.map_reverse]
  generalize up Ca pb (.lst ((rs.map T.int).reverse)) = Cb at Eb hb
  refine s_reached (n := 57) (da.of Eb) hb (by rw [List.length_reverse]; omega) fun pc Cc Ec fc hc => ?_
  have Eac := Eb.trans Ec
  refine ⟨_, rfl, _, rfl, p3, _, rfl, Eac _ _ h3a, fun pe hpe => ?_⟩
  have Ee := Ex.new (o := .lst ((rs.map T.int).reverse)) hpe
  have he : up Cc pe (.lst ((rs.map T.int).reverse)) pe = some (.lst (rs.reverse.map T.int)) := by rw [up_same, List.map_reverse]
  generalize up Cc pe (.lst ((rs.map T.int).reverse)) = Ce at Ee he
  refine ⟨_, rfl, ?_⟩
  dsimp only [aNil]
  obtain ⟨ws', B'⟩ := rch_bs (D := D) (rs := rs.reverse)
  refine s_walked (n := 57) (d2a.of (Eac.trans Ee)) he (by rw [List.length_reverse]; omega) B' (Ee _ _ hc) fun Cf Ef => ⟨_, rfl, ite_f ?_⟩
  have Eaf := (Eac.trans Ee).trans Ef
  intro pg hpg
  have Eg := Ex.new (o := .dic []) hpg
  have hg : up Cf pg (.dic []) pg = some (.dic []) := up_same
  generalize up Cf pg (.dic []) = Cg at Eg hg
  refine ⟨_, rfl, _, rfl, _, Eg _ _ (Eaf _ _ h3a), fun ph hph => ?_⟩
  have Eh := Ex.new (o := .lst (rs.map T.int)) hph
  have hh : up Cg ph (.lst (rs.map T.int)) ph = some (.lst (rs.map T.int)) := up_same
  generalize up Cg ph (.lst (rs.map T.int)) = Ch at Eh hh
  dsimp only [aNil]
  have dg : Dc Ch pg [] := ⟨⟨[], .inl (Eh _ _ hg), .nil⟩, List.nodup_nil, Nat.zero_le _, fun x row h => (by cases h), fun x h => (by cases h), fun x row h => (by cases h)⟩
  refine s_reached (n := 57) dg hh (by omega) fun pi Ci Ei fi hi => ?_
  rw [rch_none] at hi
  refine ⟨Nat.le_of_ble_eq_true rfl, fun pj hpj => ?_⟩
  have Ej := Ex.new (o := .lst []) hpj
  refine neRefl (xs := []) (Ej _ _ hi) up_same (by unfold flats; rfl) ⟨_, rfl, ite_f ?_⟩
  have Eaj := Eaf.trans (((Eg.trans Eh).trans Ei).trans Ej)
  show sSeq _ _ _ _ (up Ci pj (.lst []))
  generalize up Ci pj (.lst []) = Cj at Eaj
  -- again
  refine ⟨_, rfl, _, rfl, ?_⟩
  dsimp only [aNil]
  refine s_reached (n := 57) (d4a.of Eaj) (Eaj _ _ h5a) (by omega) fun pk Ck Ek fk hk => ?_
  have Eak := Eaj.trans Ek
  refine ⟨_, rfl, neRefl hk (Eak _ _ h8a) (flats_rows (m := 99) _) ⟨_, rfl, ite_f ?_⟩⟩
  refine ⟨_, rfl, Nat.le_of_ble_eq_true rfl, fun pl hpl => ?_⟩
  have El := Ex.new (o := .lst []) hpl
  have hl : up Ck pl (.lst []) pl = some (.lst (([] : List Int).map T.int)) := up_same
  generalize up Ck pl (.lst []) = Cl at El hl
  dsimp only [aNil]
  refine s_reached (n := 57) (rs := []) (d2a.of (Eak.trans El)) hl (by decide) fun pm Cm Em fm hm => ?_
  rw [rch_nil] at hm
  refine ⟨Nat.le_of_ble_eq_true rfl, fun pn hpn => ?_⟩
  refine neRefl (xs := []) (Ex.new hpn _ _ hm) up_same (by unfold flats; rfl) ⟨_, rfl, ite_f ?_⟩
  refine ⟨_, rfl, ?_⟩
  dsimp only [aNil, aCons, eC]
  refine s_cell (n := 58) (k := 1) h63 (by decide) (by decide) fun z z0 z1 => ?_
  refine ⟨_, rfl, ⟨by decide, by decide⟩, by decide, _, rfl, ite_k (fun _ => rfl) (fun _ => ?_)⟩
  refine ⟨_, rfl, ⟨by decide, by decide⟩, ?_⟩
  dsimp only [aNil]
  exact s_chain (n := 56) (by omega) (by omega) fun _ => rfl
end K51
set_option Elab.async false
set_option linter.all false
set_option maxRecDepth 100000
set_option maxHeartbeats 4000000
open PySem PySem.W PyProof.Rows
def PySem.W.Fast.tw209784609443883891 :=True
def PySem.W.Fast.tw15319584824936665046 : PySem.Program := PySem.Challenge.pw_idlegraph_k51_reached
theorem PySem.W.Fast.te15319584824936665046 : PySem.Challenge.pw_idlegraph_k51_reached = PySem.W.Fast.tw15319584824936665046 := rfl
def PySem.W.Fast.tw6748224473526034318 :=True
def PySem.W.Fast.tw8232813168441488522 :=True
def PySem.W.Fast.tw13398680859875611127 :=True
def PySem.W.Fast.tw9429642582143780491 :=True
def PySem.W.Fast.tw3996561565667025143 :=True
def PySem.W.Fast.tw630850121766328259 :=True
def PySem.W.Fast.tw7383563349848933246 :=True
def PySem.W.Fast.tw8505422224078618953 :=True
def PySem.W.Fast.tw4414345709272662348 :=True
def PySem.W.Fast.tw1983439146458273231 :=True
def PySem.W.Fast.tw3305916621322784474 :=True
def PySem.W.Fast.tw8102825448411423717 :=True
def PySem.W.Fast.tw8090667211460039381 :=True
def PySem.W.Fast.tw6886943578968092544 :=True
def PySem.W.Fast.tw11979246102622194604 :=True
def PySem.W.Fast.tw11649231327943468350 :=True
def PySem.W.Fast.tw11426004152265598678 :=True
def PySem.W.Fast.tw10984049870956670704 :=True
def PySem.W.Fast.tw2290735730163262703 :=True
def PySem.W.Fast.tw3473844932028996245 :=True
def PySem.W.Fast.tw18069252358388075793 :=True
def PySem.W.Fast.tw8518804680740996851 :=True
def PySem.W.Fast.tw10930840547754912071 :=True
def PySem.W.Fast.tw15389754941271686106 :=True
def PySem.W.Fast.tw4428048324272734942 :=True
def PySem.W.Fast.tw7492113577886114733 :=True
def PySem.W.Fast.tw9484658164407229251 :=True
def PySem.W.Fast.tw3580472810779638243 :=True
def PySem.W.Fast.tw10810373386865468065 :=True
def PySem.W.Fast.tw8367467799837100182 :=True
def PySem.W.Fast.tw4978313384384651286 :=True
def PySem.W.Fast.tw10644110993244397531 :=True
def PySem.W.Fast.tw15810861119072972305 :=True
def PySem.W.Fast.tw6422036083151914818 :=True
def PySem.W.Fast.tw3724522149246335520 :=True
def PySem.W.Fast.tw3109666021163767014 :=True
def PySem.W.Fast.tw11850333238842266791 :=True
def PySem.W.Fast.tw10776079832741474736 :=True
def PySem.W.Fast.tw13528068028257556382 :=True
def PySem.W.Fast.tw16771334993324894143 :=True
def PySem.W.Fast.tw8922180690592898294 :=True
def PySem.W.Fast.tw17758772509665988325 :=True
def PySem.W.Fast.tw478632251027936217 :=True
def PySem.W.Fast.tw10311825096805553712 :=True
def PySem.W.Fast.tw9898477469401305095 :=True
def PySem.W.Fast.tw10371601566480471387 :=True
def PySem.W.Fast.tw17555828782948849047 :=True
def PySem.W.Fast.tw14335114759794577014 :=True
def PySem.W.Fast.tw6256887359883547711 :=True
def PySem.W.Fast.tw7186156764389513100 :=True
def PySem.W.Fast.tw13687385286616961955 :=True
def PySem.W.Fast.tw9069278968305142999 :=True
def PySem.W.Fast.tw10115909352194168444 :=True
def PySem.W.Fast.tw15149360606044920716 :=True
def PySem.W.Fast.tw9414140103417284139 :=True
def PySem.W.Fast.tw13669549096200984991 :=True
def PySem.W.Fast.tw11453450812658230643 :=True
def PySem.W.Fast.tw15345178287906050537 :=True
def PySem.W.Fast.tw17413866078859593920 :=True
set_option maxRecDepth 100000 in
set_option maxHeartbeats 0 in
theorem PySem.Challenge.cw_idlegraph_k51_reached_holds : PySem.Challenge.rw_idlegraph_k51_reached.Holds := by
  w_on; o_law; k_head; (case hw => w_witness2)
  k_fill
  refine L2.walk_ofT (P := 44) (l := PySem.Challenge.rw_idlegraph_k51_reached) (n := 63) (k := 60) (x := "_law_script") (CX := L2.CX0) (sp := fun K => WL.spW K K51.pr 60 11) rfl (by decide) rfl ⟨rfl, by decide, by decide⟩ (fun w h Y => ⟨PySem.W.km_in_of Y, PySem.W.km_tabs_of Y _ (List.mem_singleton.mpr rfl)⟩) ?hcd ?hPK ?F (fun K H a ns hl hO hS => WL.law_spT hO hS (K51.law_true ns hl)) (fun _ _ _ _ z => z)
  case hcd => intro w; exact ⟨48, by kernel_rfl⟩
  case hPK => intro w; rfl
  case F =>
    intro w mg fa h KX G hmg
    refine' K51.all_mk KX G hmg ?gg0_l0 ?gg0_l1 ?gg0_l2 ?gg0_l3 ?gt_l4 ?gg0_l5 ?gg0_l6 ?gg0_l7 ?gg0_l8 ?gg0_l9 ?gg0_l10 ?gg0_l11 ?z_bool ?z_isinstance ?z_len ?z_list ?z_max ?z_min ?z_range ?z_reversed ?z_sorted ?z_tuple
    case z_bool | z_isinstance | z_len | z_list | z_max | z_min | z_range | z_reversed | z_sorted | z_tuple => k_is
    case gt_l4 => exact ⟨_, _, by k_is, ⟨⟨_, _, _, _, _, _, _, _, _, rfl, by k_is, by k_is⟩, by k_is⟩, ⟨_, rfl, by kernel_rfl⟩⟩
    case gg0_l0 | gg0_l1 | gg0_l2 | gg0_l3 | gg0_l5 | gg0_l6 | gg0_l7 | gg0_l8 | gg0_l9 | gg0_l10 | gg0_l11 => exact ⟨_, _, by k_is, ⟨_, _, _, _, _, _, _, _, _, rfl, by k_is, by k_is⟩, by k_is⟩
#print axioms PySem.Challenge.cw_idlegraph_k51_reached_holds