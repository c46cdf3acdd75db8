import PyProof.Rows.All
import Wide.All
import OpenK.AllK
import Wide.FinOn
import Lean
import PyProof.EqAt
import PyProof.EqKinds
import PyProof.TupleCall
import KE.KRevIter
import KE.KDictList
import PyProof.ZipIter
import PyProof.Draws
import PyProof.DictWalks
import PyProof.AttrMiss
import PyProof.FactsAll.zip_1
import KE.KDictOf
import PyProof.Rows.FStr
import PyProof.AutoSeq1
import PyProof.EnumMake
import PyProof.CallType
import PyProof.Rows.CallKwBuiltin
import PyProof.DictUpdate
import PyProof.NoPylong
import KE.KDictMeth
import PyProof.DictItemsLoops
import PyProof.SumWalk
import PyProof.SumWalkG
import PyProof.Rows.SumGenD
import PyProof.Rows.Range3
import PyProof.StrOps2
import PyProof.Rows.SortShellK
import PyProof.Rows.SetFrom
import PyProof.Rows.StrIntSpec
import KE.RegKTryMore
import KE.RegKIsAll
import PySem.Challenge.RW_idlegraph_k41_things_kept
set_option Elab.async false
set_option linter.all false
set_option maxRecDepth 100000
/-! THE HAND LAYER, for ints, bools, texts, own classes, LISTS and tuples (index, slices, in, append, pop ..), calls, loops. Paste it whole ahead of your own text; what your proof does not reach may be deleted. -/
namespace L2
open PySem PySem.Spec PyProof.Rows
/-- a key: an int or a str -/
abbrev Key := Sum Int Str
def keyIs : Key → Value → Bool
  | .inl k, v => Value.isInt k v
  | .inr x, v => Value.isStrOf x v
def keyH (w : World) : Key → Int
  | .inl k => hashInt k
  | .inr x => hashStr w x
theorem keyIs_shape : ∀ {k : Key} {v : Value}, keyIs k v = true → (∃ i t, k = Sum.inl i ∧ v = Value.int i t) ∨ (∃ x t, k = Sum.inr x ∧ v = Value.str x t)
  | .inl i, v, h => by
    obtain ⟨t, e⟩ := Value.isInt_shape (k := i) (v := v) h
    exact .inl ⟨i, t, rfl, e⟩
  | .inr x, v, h => by
    obtain ⟨t, e⟩ := Value.isStrOf_shape (x := x) (v := v) h
    exact .inr ⟨x, t, rfl, e⟩
theorem keyIs_int (i : Int) (t : Tok) : keyIs (.inl i) (.int i t) = true := by simp [keyIs, Value.isInt]
theorem keyIs_str (x : Str) (t : Tok) : keyIs (.inr x) (.str x t) = true := by simp [keyIs, Value.isStrOf]
theorem key_ll (a b : Int) : decide ((Sum.inl a : Key) = Sum.inl b) = (a == b) := by
  by_cases e : a = b
  · subst e; simp
  · have h : ¬ (Sum.inl a : Key) = Sum.inl b := fun q => e (Sum.inl.inj q)
    rw [decide_eq_false h]
    exact (beq_eq_false_iff_ne.mpr e).symm
theorem key_rr (a b : Str) : decide ((Sum.inr a : Key) = Sum.inr b) = decide (a = b) := by
  by_cases e : a = b
  · subst e; simp
  · have h : ¬ (Sum.inr a : Key) = Sum.inr b := fun q => e (Sum.inr.inj q)
    rw [decide_eq_false h, decide_eq_false e]
theorem key_lr (a : Int) (b : Str) : decide ((Sum.inl a : Key) = Sum.inr b) = false := decide_eq_false (fun q => nomatch q)
theorem key_rl (a : Str) (b : Int) : decide ((Sum.inr a : Key) = Sum.inl b) = false := decide_eq_false (fun q => nomatch q)
def mixKind (prog : Program) (w : World) : PySem.KeyKind prog w Key where
  is := keyIs
  hash := keyH w
  inj := fun v a b ha hb => by
    rcases keyIs_shape ha with ⟨i, t, rfl, rfl⟩ | ⟨x, t, rfl, rfl⟩
    · rcases keyIs_shape hb with ⟨j, u, rfl, e⟩ | ⟨y, u, rfl, e⟩
      · injection e with e1 _; rw [e1]
      · exact nomatch e
    · rcases keyIs_shape hb with ⟨j, u, rfl, e⟩ | ⟨y, u, rfl, e⟩
      · exact nomatch e
      · injection e with e1 _; rw [e1]
  byValue := fun k v h => by
    rcases keyIs_shape h with ⟨i, t, rfl, rfl⟩ | ⟨x, t, rfl, rfl⟩ <;> rfl
  pyHash := fun hv h => by
    rcases keyIs_shape hv with ⟨i, t, rfl, rfl⟩ | ⟨x, t, rfl, rfl⟩
    · exact wpAny_pyHash_int h
    · exact wpAny_pyHash_str h
  eqBool := fun hu hv h => by
    rcases keyIs_shape hu with ⟨i, t, rfl, rfl⟩ | ⟨x, t, rfl, rfl⟩
    · rcases keyIs_shape hv with ⟨j, u, rfl, rfl⟩ | ⟨y, u, rfl, rfl⟩
      · rw [key_ll] at h; exact wpAny_eqBool_int h
      · rw [key_lr] at h; exact SeqAt.EqAt.int_str i t y u _ _ _ _ h
    · rcases keyIs_shape hv with ⟨j, u, rfl, rfl⟩ | ⟨y, u, rfl, rfl⟩
      · rw [key_rl] at h; exact SeqAt.EqAt.str_int x t j u _ _ _ _ h
      · rw [key_rr] at h; exact wpAny_eqBool_str h
  «strs» := fun k x t v h => by
    rcases keyIs_shape h with ⟨i, u, rfl, e⟩ | ⟨y, u, rfl, e⟩
    · exact nomatch e
    · injection e with e1 _
      subst e1
      cases v <;> rfl
theorem mixKind_is (prog : Program) (w : World) (k : Key) (v : Value) : (mixKind prog w).is k v = keyIs k v := rfl
theorem mixKind_int (prog : Program) (w : World) (i : Int) (t : Tok) : (mixKind prog w).is (.inl i) (.int i t) = true := keyIs_int i t
theorem mixKind_str (prog : Program) (w : World) (x : Str) (t : Tok) : (mixKind prog w).is (.inr x) (.str x t) = true := keyIs_str x t
end L2
namespace L2
open PySem PySem.Spec PyProof.Rows
/-- a value, without the heap -/
inductive V where
  | non | bl (b : Bool) | int (i : Int) | str (x : Str) | byt (b : Array UInt8) | flt (b : UInt64) | ref (a : Addr) | ty (n : String)
  deriving DecidableEq
def RelV : V → Value → Prop
  | .non, u => u = Value.none
  | .bl b, u => u = Value.bool b
  | .int i, u => ∃ t, u = Value.int i t
  | .str x, u => ∃ t, u = Value.str x t
  | .byt b, u => ∃ t, u = Value.bytes b t
  | .flt b, u => ∃ t, u = Value.float b t
  | .ref a, u => u = Value.ref a
  | .ty n, u => u = Value.type n
abbrev Vals : List V → List Value → Prop := Paired RelV
theorem Vals.length {xs : List V} {us : List Value} (r : Vals xs us) : xs.length = us.length := Paired.length r
theorem Vals.get : ∀ {xs : List V} {us : List Value} {i : Nat} {x : V}, Vals xs us → xs[i]? = some x → ∃ u, us[i]? = some u ∧ RelV x u
  | _, _, _, _, .nil, e => by simp at e
  | _, _, 0, _, .cons r _, e => by simp at e; subst e; exact ⟨_, rfl, r⟩
  | _, _, i + 1, x, .cons _ t, e => by
    obtain ⟨u, h1, h2⟩ := Vals.get (i := i) (x := x) t (by simpa using e)
    exact ⟨u, by simpa using h1, h2⟩
theorem Vals.append : ∀ {xs ys : List V} {us ws : List Value}, Vals xs us → Vals ys ws → Vals (xs ++ ys) (us ++ ws)
  | _, _, _, _, .nil, s => s
  | _, _, _, _, .cons r t, s => .cons r (Vals.append t s)
theorem Vals.take : ∀ {xs : List V} {us : List Value} (n : Nat), Vals xs us → Vals (xs.take n) (us.take n)
  | _, _, 0, _ => .nil
  | _, _, _ + 1, .nil => .nil
  | _, _, n + 1, .cons r t => .cons r (Vals.take n t)
theorem Vals.drop : ∀ {xs : List V} {us : List Value} (n : Nat), Vals xs us → Vals (xs.drop n) (us.drop n)
  | _, _, 0, r => r
  | _, _, _ + 1, .nil => .nil
  | _, _, n + 1, .cons _ t => Vals.drop n t
def RelO : Option V → Option Value → Prop
  | some v, some u => RelV v u
  | none, none => True
  | _, _ => False
def KV {κ : Type} : List (κ × V) → List (κ × Value) → Prop := Paired fun (p : κ × V) (q : κ × Value) => p.1 = q.1 ∧ RelV p.2 q.2
/-- a key of a dict (00_mix): an int or a text -/
def kV : Key → V
  | .inl i => .int i
  | .inr x => .str x
/-- what stands at a tracked address -/
inductive HO where
  /-- a list -/
  | lst (xs : List V)
  /-- a tuple (never changes) -/
  | tup (xs : List V)
  /-- a dict whose keys are ints and texts; one whose keys are tuples of ints and texts (the empty one is both) -/
  | dK (kvs : List (Key × V)) | dT (kvs : List (List Key × V))
  /-- a set of ints: its members, its size -/
  | set (S : Int → Bool) (n : Nat)
  /-- an instance of the class at C, its dict at dx, its attributes -/
  | ins (C dx : Addr) (fs : List (Str × V))
  /-- the dict of the instance at x -/
  | own (x : Addr)
  /-- the dict of an exception -/
  | xd (fs : List (Str × V))
  /-- a bound method, f of x -/
  | met (f x : Addr)
  /-- a range object lo, lo + 1, .. below hi -/
  | rng (lo hi : Int)
  /-- a thing that is known to the object (the script; a dict while a loop walks it): read, never written while it is so -/
  | frz (o : Obj) (u : HO)
  /-- a code object's table -/
  | tbl (ps : Array Value)
  /-- any other thing, by what is true of its one object (a def of one's own: SetO a S n := HO.ext fun h => ..) -/
  | ext (φ : Heap → Prop)
abbrev Hp := Addr → Option HO
def upd (H : Hp) (a : Addr) (o : HO) : Hp := fun b => if b = a then some o else H b
theorem upd_same {H : Hp} {a : Addr} {o : HO} : upd H a o a = some o := by unfold upd; rw [if_pos rfl]
theorem upd_ne {H : Hp} {a b : Addr} {o : HO} (h : b ≠ a) : upd H a o b = H b := by unfold upd; rw [if_neg h]
/-- two objects of different content stand apart -/
theorem ne_of {H : Hp} {a b : Addr} {o u : HO} (h : H a = some o) (h' : H b = some u) (d : o ≠ u) : a ≠ b := by
  intro e; subst e; rw [h] at h'; exact d (Option.some.inj h')
theorem ne_of_none {H : Hp} {a b : Addr} {o : HO} (h : H a = some o) (h' : H b = none) : a ≠ b := by
  intro e; subst e; rw [h] at h'; cases h'
section
variable (P : Program) (w : World)
def ObjOk (H : Hp) (h : Heap) (a : Addr) : HO → Prop
  | .lst xs => xs.length ≤ sizeLine ∧ ∃ (its : List Value) (n : Nat), Vals xs its ∧ h.get? a = some { cls := .type "list", data := .seq its.toArray n }
  | .tup xs => xs.length ≤ sizeLine ∧ ∃ its : List Value, Vals xs its ∧ IsTup h a its.toArray
  | .dK kvs => kvs.length ≤ sizeLine ∧ (a == sysModules) = false ∧ ∃ vs, KV kvs vs ∧ h.DictOf (mixKind P w) a vs
  | .dT kvs => kvs.length ≤ sizeLine ∧ (a == sysModules) = false ∧ ∃ xs : List (List Key × Addr × Value),
      Paired (fun (p : List Key × V) (q : List Key × Addr × Value) => p.1 = q.1 ∧ H q.2.1 = some (.tup (p.1.map kV)) ∧ RelV p.2 q.2.2) kvs xs ∧
      ∃ o es ep, h.get? a = some o ∧ o.ExactDict ∧ o.data = .dict es ep ∧ es.toList = xs.map (entryOfKey (tupleKind (mixKind P w))) ∧ (xs.map (·.1)).Nodup
  | .set S n => h.SetOf (intKind P w) a S n
  | .ins C dx fs => H dx = some (.own a) ∧ fs.length ≤ 1000 ∧ dx ≠ a ∧ h.get? a = some (PySem.W.instObj C dx) ∧
      ∃ mA, h.Ns1 dx mA ∧ (∀ f, RelO (fs.lookup f) (mA f)) ∧ PySem.Within mA (fs.map (·.1))
  | .own _ => ∃ o, h.get? a = some o
  | .xd fs => ∃ mA, h.Ns1 a mA ∧ ∀ f, RelO (fs.lookup f) (mA f)
  | .rng lo hi => ∃ t u v, h.get? a = some { cls := .type "range", data := .fields #[.int lo t, .int hi u, .int 1 v] }
  | .frz o u => h.get? a = some o ∧ ObjOk H h a u
  | .tbl ps => h.get? a = some { cls := .none, data := .fields ps }
  | .met f x => h.get? a = some (PySem.W.methodObj (.ref f) (.ref x))
  | .ext φ => φ h ∧ (∃ o, h.get? a = some o) ∧ ∀ h1 h2 : Heap, φ h1 → (∀ o, h1.get? a = some o → h2.get? a = some o) → φ h2
/-- the abstract heap is held -/
def HOk (H : Hp) (h : Heap) : Prop := ∀ a o, H a = some o → ObjOk P w H h a o
end
section
variable {P : Program} {w : World} {H H' : Hp} {h h' : Heap} {a : Addr} {o : HO}
theorem ObjOk.lt (x : ObjOk P w H h a o) : a < h.objs.size := by
  cases o with
  | lst xs => obtain ⟨_, _, _, _, e⟩ := x; exact Heap.lt_size e
  | tup xs => obtain ⟨_, _, _, p⟩ := x; exact p.lt
  | dK kvs => obtain ⟨_, _, _, _, o, _, _, e, _⟩ := x; exact Heap.lt_size e
  | dT kvs => obtain ⟨_, _, _, _, o, _, _, e, _⟩ := x; exact Heap.lt_size e
  | set S n => obtain ⟨o, _, _, _, e, _⟩ := x; exact Heap.lt_size e
  | ins C dx fs => obtain ⟨_, _, _, e, _⟩ := x; exact Heap.lt_size e
  | own y => obtain ⟨_, e⟩ := x; exact Heap.lt_size e
  | xd fs => obtain ⟨_, ⟨_, _, _, e, _⟩, _⟩ := x; exact Heap.lt_size e
  | rng lo hi => obtain ⟨_, _, _, e⟩ := x; exact Heap.lt_size e
  | frz ob u => obtain ⟨e, _⟩ := x; exact Heap.lt_size e
  | tbl ps => exact Heap.lt_size (show h.get? a = some _ from x)
  | met f y => exact Heap.lt_size (show h.get? a = some _ from x)
  | ext φ => obtain ⟨_, ⟨_, e⟩, _⟩ := x; exact Heap.lt_size e
theorem Paired.mapP {α β : Type} {F G : α → β → Prop} : ∀ {l₁ : List α} {l₂ : List β}, Paired F l₁ l₂ → (∀ a b, F a b → G a b) → Paired G l₁ l₂
  | _, _, .nil, _ => .nil
  | _, _, .cons r t, f => .cons (f _ _ r) (Paired.mapP t f)
/-- what an object's description leans on: its own object, its own dict, the tuples -/
theorem ObjOk.stay (x : ObjOk P w H h a o) (k : ∀ b u, (b = a ∨ H b = some (.own a)) → h.get? b = some u → h'.get? b = some u)
    (ho : ∀ b, H b = some (.own a) → H' b = some (.own a)) (ht : ∀ b xs, H b = some (.tup xs) → H' b = some (.tup xs)) : ObjOk P w H' h' a o := by
  induction o with
  | lst xs => obtain ⟨z, its, n, r, e⟩ := x; exact ⟨z, its, n, r, k _ _ (.inl rfl) e⟩
  | tup xs => obtain ⟨z, its, r, ob, e, c⟩ := x; exact ⟨z, its, r, ob, k _ _ (.inl rfl) e, c⟩
  | dK kvs => obtain ⟨z, y, vs, r, ob, es, ep, e, c⟩ := x; exact ⟨z, y, vs, r, ob, es, ep, k _ _ (.inl rfl) e, c⟩
  | dT kvs =>
    obtain ⟨z, y, xs, r, ob, es, ep, e, c⟩ := x
    exact ⟨z, y, xs, Paired.mapP r fun p q z => ⟨z.1, ht _ _ z.2.1, z.2.2⟩, ob, es, ep, k _ _ (.inl rfl) e, c⟩
  | set S n => obtain ⟨ob, es, ep, t, e, c⟩ := x; exact ⟨ob, es, ep, t, k _ _ (.inl rfl) e, c⟩
  | ins C dx fs =>
    obtain ⟨d, z, ne, e, mA, ⟨od, es, ep, e2, c⟩, r⟩ := x
    exact ⟨ho _ d, z, ne, k _ _ (.inl rfl) e, mA, ⟨od, es, ep, k _ _ (.inr d) e2, c⟩, r⟩
  | own y => obtain ⟨ob, e⟩ := x; exact ⟨ob, k _ _ (.inl rfl) e⟩
  | xd fs => obtain ⟨mA, ⟨od, es, ep, e, c⟩, r⟩ := x; exact ⟨mA, ⟨od, es, ep, k _ _ (.inl rfl) e, c⟩, r⟩
  | rng lo hi => obtain ⟨t, u, v, e⟩ := x; exact ⟨t, u, v, k _ _ (.inl rfl) e⟩
  | frz ob u ih => obtain ⟨e, q⟩ := x; exact ⟨k _ _ (.inl rfl) e, ih q⟩
  | tbl ps =>
    have e : h.get? a = some { cls := .none, data := .fields ps } := x
    show h'.get? a = some { cls := .none, data := .fields ps }
    exact k a _ (.inl rfl) e
  | met f y =>
    have e : h.get? a = some (PySem.W.methodObj (.ref f) (.ref y)) := x
    show h'.get? a = some (PySem.W.methodObj (.ref f) (.ref y))
    exact k a _ (.inl rfl) e
  | ext φ => obtain ⟨p, ⟨o, e⟩, st⟩ := x; exact ⟨st _ _ p fun o q => k _ _ (.inl rfl) q, ⟨o, k _ _ (.inl rfl) e⟩, st⟩
theorem HOk.lt (x : HOk P w H h) (e : H a = some o) : a < h.objs.size := (x a o e).lt
theorem HOk.fresh (x : HOk P w H h) (e : h.objs.size ≤ a) : H a = none := by
  cases q : H a with
  | none => rfl
  | some u => exact absurd (Nat.lt_of_lt_of_le (x.lt q) e) (Nat.lt_irrefl _)
/-- every object of the heap is kept -/
theorem HOk.kept (x : HOk P w H h) (k : ∀ b u, h.get? b = some u → h'.get? b = some u) : HOk P w H h' := fun a o e =>
  (x a o e).stay (fun b u _ q => k b u q) (fun _ q => q) fun _ _ q => q
/-- a new object is laid and tracked -/
theorem HOk.laid (x : HOk P w H h) (k : ∀ b u, h.get? b = some u → h'.get? b = some u) (hp : h.objs.size ≤ a) (new : ObjOk P w (upd H a o) h' a o) : HOk P w (upd H a o) h' := fun b u e => by
  have hn := x.fresh hp
  by_cases hb : b = a
  · subst hb; rw [upd_same] at e; cases e; exact new
  · rw [upd_ne hb] at e
    exact (x b u e).stay (fun c v _ q => k c v q) (fun c q => by rw [upd_ne (ne_of_none q hn)]; exact q) fun c xs q => by rw [upd_ne (ne_of_none q hn)]; exact q
end
/-- what may be read as u: it is u, or a known u -/
def Rd (H : Hp) (a : Addr) (u : HO) : Prop := H a = some u ∨ ∃ o, H a = some (.frz o u)
theorem Rd.ok {P : Program} {w : World} {H : Hp} {h : Heap} {a : Addr} {u : HO} (r : Rd H a u) (x : HOk P w H h) : ObjOk P w H h a u := by
  rcases r with r | ⟨o, r⟩
  · exact x a u r
  · obtain ⟨_, q⟩ := x a _ r
    exact q
/-- what may be written -/
def Mut : Option HO → Prop
  | some (.lst _) => True
  | some (.dK _) => True
  | some (.dT _) => True
  | some (.set _ _) => True
  | some (.ins _ _ _) => True
  | some (.ext _) => True
  | _ => False
section
variable {P : Program} {w : World} {H : Hp} {h h' : Heap} {x e : Addr} {o' : HO}
/-- the object at e is changed: x itself, or the dict of the instance x -/
theorem HOk.write (ok : HOk P w H h) (mu : Mut (H x)) (he : e = x ∨ H e = some (.own x)) (k : ∀ b u, b ≠ e → h.get? b = some u → h'.get? b = some u) (heo : ∃ u, h'.get? e = some u)
    (new : ObjOk P w (upd H x o') h' x o') : HOk P w (upd H x o') h' := fun b u q => by
  have nown : ∀ c y, H c = some (.own y) → c ≠ x := fun c y r z => by subst z; rw [r] at mu; exact mu
  have ntup : ∀ c xs, H c = some (.tup xs) → c ≠ x := fun c xs r z => by subst z; rw [r] at mu; exact mu
  by_cases hb : b = x
  · subst hb; rw [upd_same] at q; cases q; exact new
  · rw [upd_ne hb] at q
    by_cases hbe : b = e
    · have q' : H b = some (.own x) := by
        rcases he with z | z
        · exact absurd (hbe.trans z) hb
        · rw [hbe]; exact z
      rw [q] at q'; cases q'
      obtain ⟨v, hv⟩ := heo
      exact ⟨v, by rw [hbe]; exact hv⟩
    · refine (ok b u q).stay (fun c v hc r => k c v ?_ r) (fun c r => by rw [upd_ne (nown c b r)]; exact r) fun c xs r => by rw [upd_ne (ntup c xs r)]; exact r
      rcases hc with rfl | hc
      · exact hbe
      · rintro rfl
        rcases he with z | z
        · exact nown c b hc z
        · rw [hc] at z; cases z; exact hb rfl
end
/-! ### kept unless tracked; of the frames at fs (the callers') the slots may change (an exception that passes writes there); of the records at ex (iterators) nothing is said -/
structure Un (fs ex : List Addr) (H H' : Hp) (h h' : Heap) : Prop where
  keep : ∀ b o, h.get? b = some o → H b = none → b ∉ fs → b ∉ ex → h'.get? b = some o
  slot : ∀ b o, h.get? b = some o → H b = none → b ∈ fs → b ∉ ex → ∃ sl, h'.get? b = some { o with slots := sl }
  free : ∀ b o, h.get? b = some o → H b = none → b ∉ ex → H' b = none
  there : ∀ b o, h.get? b = some o → b ∉ ex → ∃ o', h'.get? b = some o'
  tups : ∀ b xs, H b = some (.tup xs) → H' b = some (.tup xs)
  frzs : ∀ b o u, H b = some (.frz o u) → H' b = some (.frz o u)
  tbls : ∀ b ps, H b = some (.tbl ps) → ∃ more, H' b = some (.tbl (ps ++ more))
section
variable {fs fs' ex ex' : List Addr} {H H1 H2 : Hp} {h h1 h2 h' : Heap} {a x e : Addr} {o : HO}
theorem Un.any (u : Un fs ex H H1 h h1) {b : Addr} {ob : Obj} (q : h.get? b = some ob) (n : H b = none) (hx : b ∉ ex) : ∃ sl, h1.get? b = some { ob with slots := sl } := by
  by_cases hb : b ∈ fs
  · exact u.slot b ob q n hb hx
  · exact ⟨ob.slots, u.keep b ob q n hb hx⟩
theorem Un.kept (k : ∀ b u, h.get? b = some u → h'.get? b = some u) : Un fs ex H H h h' :=
  ⟨fun b ob q _ _ _ => k b ob q, fun b ob q _ _ _ => ⟨ob.slots, k b ob q⟩, fun _ _ _ n _ => n, fun b ob q _ => ⟨ob, k b ob q⟩, fun _ _ q => q, fun _ _ _ q => q, fun _ ps q => ⟨#[], by rw [q]; simp⟩⟩
theorem Un.refl : Un fs ex H H h h := Un.kept fun _ _ q => q
theorem Un.laid (k : ∀ b u, h.get? b = some u → h'.get? b = some u) (hp : h.objs.size ≤ a) (hn : H a = none) : Un fs ex H (upd H a o) h h' where
  keep := fun b u q _ _ _ => k b u q
  slot := fun b u q _ _ _ => ⟨u.slots, k b u q⟩
  free := fun b u q n _ => by rw [upd_ne (Nat.ne_of_lt (Nat.lt_of_lt_of_le (Heap.lt_size q) hp))]; exact n
  there := fun b u q _ => ⟨u, k b u q⟩
  tups := fun b xs q => by rw [upd_ne (ne_of_none q hn)]; exact q
  frzs := fun b u xs q => by rw [upd_ne (ne_of_none q hn)]; exact q
  tbls := fun b ps q => ⟨#[], by rw [upd_ne (ne_of_none q hn), q]; simp⟩
theorem Un.write (mu : Mut (H x)) (he : e = x ∨ H e = some (.own x)) (k : ∀ b u, b ≠ e → h.get? b = some u → h'.get? b = some u) (heo : ∃ u, h'.get? e = some u) : Un fs ex H (upd H x o) h h' := by
  have hx : ∀ b, H b = none → b ≠ x := fun b n z => by subst z; rw [n] at mu; exact mu
  have hb : ∀ b, H b = none → b ≠ e := fun b n z => by
    subst z
    rcases he with r | r
    · exact hx b n r
    · rw [n] at r; cases r
  have hm : ∀ b u, H b = some u → ¬ Mut (some u) → b ≠ x := fun b u q nm z => by subst z; rw [q] at mu; exact nm mu
  refine ⟨fun b u q n _ _ => k b u (hb b n) q, fun b u q n _ _ => ⟨u.slots, k b u (hb b n) q⟩, fun b u q n _ => by rw [upd_ne (hx b n)]; exact n, fun b u q _ => ?_,
    fun b xs q => by rw [upd_ne (hm b _ q fun z => z)]; exact q, fun b u xs q => by rw [upd_ne (hm b _ q fun z => z)]; exact q, fun b ps q => ⟨#[], by rw [upd_ne (hm b _ q fun z => z), q]; simp⟩⟩
  by_cases hbe : b = e
  · subst hbe; exact heo
  · exact ⟨u, k b u hbe q⟩
end
/-! ### the heap without what is tracked -/
def trk (h : Heap) (H : Hp) : List Addr := (List.range h.objs.size).filter fun a => (H a).isSome
def hidT (h : Heap) (H : Hp) : Heap := PySem.W.hideAll h (trk h H)
theorem hidT_size (h : Heap) (H : Hp) : (hidT h H).objs.size = h.objs.size := PySem.W.hideAll_size _ _
theorem hidT_get {h : Heap} {H : Hp} {b : Addr} {o : Obj} (e : h.get? b = some o) (n : H b = none) : (hidT h H).get? b = some o :=
  PySem.W.hideAll_get _ e fun hm => by
    have q : (H b).isSome = true := (List.mem_filter.mp hm).2
    rw [n] at q; simp at q
theorem of_hidT {h : Heap} {H : Hp} {b : Addr} {o : Obj} (e : (hidT h H).get? b = some o) : h.get? b = some o ∧ H b = none := by
  have e' : h.get? b = some o := PySem.W.of_hideAll (trk h H) e
  refine ⟨e', ?_⟩
  cases q : H b with
  | none => rfl
  | some x =>
    have hm : b ∈ trk h H := List.mem_filter.mpr ⟨List.mem_range.mpr (Heap.lt_size e'), by simp [q]⟩
    have z : (hidT h H).get? b = none := PySem.W.hideAll_none (trk h H) hm
    rw [z] at e; cases e
/-! ### OpenK's ledger, filled with every new object but one -/
def allNews (g h : Heap) (L : Addr) : List (Addr × Obj) := (List.range h.objs.size).filterMap fun a => if a = L ∨ (g.get? a).isSome = true then none else (h.get? a).map fun o => (a, o)
def rest (g h : Heap) (L d : Addr) : List (Addr × Obj) := (allNews g h L).filter fun p => decide (p.1 ≠ d)
end L2
namespace L2
open PySem PySem.Spec PyProof.Rows
/-- the module's facts, over the base: the heap at the law's entry without what is tracked there -/
structure Mod (K : PySem.W.Frag) (mg : Str → Option Value) (base : Heap) : Prop where
  kin : K.In base
  glob : base.Ns mainGlobals mg
  blt : ∃ mb, base.Ns builtinsNs mb ∧ ∀ x : Str, x ≠ "__name__" → mb x = bootBuiltins x
  nolimit : base.NoLimit
/-- the context: a def's body (or a comprehension's block) running. base: fixed through the whole law; s₀, H₀: the entry; outer: the frames whose slots others may change (a def's callers); stack: all frames that run;
   ex: iterators that were made ahead of the entry and are walked here (a comprehension's); fn: the names whose cells were made at the entry (a def: all; a comprehension's block: its own); calm: not within an except suite; pn: pins that every state bears; xe: what is wanted of an exception that leaves the code -/
structure Cx where
  prog : Program
  w : World
  K : PySem.W.Frag
  mg : Str → Option Value
  base : Heap
  A : Around
  N : List Str
  s₀ : Shared
  H₀ : Hp
  env : Env
  outer : List Env
  stack : List Env
  ex : List Addr
  fn : Str → Bool
  calm : Bool
  pn : List (Addr × Obj)
  xe : Value → Shared → Prop
/-- the callers' frames -/
def frs (l : List Env) : List Addr := l.filterMap (·.frame)
abbrev Cx.fs (X : Cx) : List Addr := frs X.outer
def Vis (sc : Scope) (x : Str) : Prop := sc.names.lookup x = some .local ∨ sc.names.lookup x = some .cell ∨ sc.names.lookup x = some .free
def Loc (sc : Scope) (x : Str) : Prop := sc.names.lookup x = some .local ∨ sc.names.lookup x = some .cell
def Look (env : Env) (h : Heap) (m : Str → Option Value) (x : Str) (u : Value) : Prop :=
  (env.kindOf x = some .local ∧ m x = some u) ∨ ((env.kindOf x = some .cell ∨ env.kindOf x = some .free) ∧ ∃ c, env.cells.lookup x = some c ∧ h.IsCell c (some u))
structure Cx.Ok (X : Cx) : Prop where
  mod : Mod X.K X.mg X.base
  kind : X.env.scope.kind = .function
  glob : X.env.globals = mainGlobals
  blt : X.env.builtins = builtinsNs
  above : X.s₀.heap.objs.size ≤ X.env.locals
  inj : ∀ x y c, X.env.cells.lookup x = some c → X.env.cells.lookup y = some c → x = y
  has : ∀ x, (X.env.kindOf x = some .cell ∨ X.env.kindOf x = some .free) → ∃ c, X.env.cells.lookup x = some c
  cab : ∀ x c, X.fn x = true → X.env.cells.lookup x = some c → X.s₀.heap.objs.size ≤ c
  hd : X.calm = true → X.A.handled = none
  frames : X.A.frames = some X.stack
  stk : X.stack = X.outer ∨ (X.stack = X.env :: X.outer ∧ X.env.frame = some X.env.locals)
  exf : ∀ b ∈ X.ex, b ≠ X.env.locals ∧ ∀ x c, X.env.cells.lookup x = some c → c ≠ b
  bs : ∀ b o, X.base.get? b = some o → X.s₀.heap.get? b = some o ∧ X.H₀ b = none
  bsz : X.base.objs.size ≤ X.s₀.heap.objs.size
  noex : ∀ b o, X.base.get? b = some o → b ∉ X.ex
  exfs : ∀ b ∈ X.ex, b ∉ X.fs
  funs : X.s₀.heap.FunFrames X.base X.outer
  frf : ∀ b ∈ X.fs, X.H₀ b = none
structure Inv (X : Cx) (pins : List (Addr × Obj)) (σ : List (Option V)) (H : Hp) (s : Shared) : Prop where
  ok : X.Ok
  os : s.os = X.s₀.os
  bare : AllBare s.gens
  base : Un X.fs X.ex X.H₀ H X.s₀.heap s.heap
  loc : ∃ m, s.heap.Ns X.env.locals m ∧ ∀ (i : Nat) (x : Str) (v : V), X.N[i]? = some x → σ[i]? = some (some v) → Vis X.env.scope x → ∃ u, RelV v u ∧ Look X.env s.heap m x u
  cell : ∀ x c, X.env.cells.lookup x = some c → ∃ v, s.heap.IsCell c v
  free : H X.env.locals = none
  freeC : ∀ x c, X.env.cells.lookup x = some c → H c = none
  pin : ∀ p ∈ X.pn ++ pins, s.heap.get? p.1 = some p.2 ∧ H p.1 = none ∧ p.1 ≠ X.env.locals ∧ p.1 ∉ X.fs ∧ ∀ v, p.2.data ≠ .cell v
  hok : HOk X.prog X.w H s.heap
  len : σ.length = X.N.length
section
variable {X : Cx} {pins : List (Addr × Obj)} {σ : List (Option V)} {H H' : Hp} {s : Shared} {h' : Heap}
theorem Cx.Ok.nofr (ok : X.Ok) {b : Addr} {o : Obj} (e : X.base.get? b = some o) : b ∉ X.fs := fun hb => by
  have := (ok.funs.mem hb).1
  rw [e] at this; cases this
theorem Inv.bs (I : Inv X pins σ H s) : ∀ b o, X.base.get? b = some o → s.heap.get? b = some o ∧ H b = none := fun b o e =>
  ⟨I.base.keep b o (I.ok.bs b o e).1 (I.ok.bs b o e).2 (I.ok.nofr e) (I.ok.noex b o e), I.base.free b o (I.ok.bs b o e).1 (I.ok.bs b o e).2 (I.ok.noex b o e)⟩
theorem Inv.bk (I : Inv X pins σ H s) : ∀ b o, X.base.get? b = some o → s.heap.get? b = some o := fun b o e => (I.bs b o e).1
theorem Inv.mod (I : Inv X pins σ H s) : Mod X.K X.mg X.base := I.ok.mod
theorem Inv.kIn (I : Inv X pins σ H s) : X.K.In s.heap := I.ok.mod.kin.keeps I.bk
theorem Inv.lt (I : Inv X pins σ H s) : X.env.locals < s.heap.objs.size := let ⟨_, hn, _⟩ := I.loc; hn.lt
theorem Inv.sz (I : Inv X pins σ H s) : X.s₀.heap.objs.size ≤ s.heap.objs.size := Nat.le_trans I.ok.above (Nat.le_of_lt I.lt)
theorem Inv.nofs (I : Inv X pins σ H s) {a : Addr} (h : s.heap.objs.size ≤ a) : a ∉ X.fs := fun hb => by
  obtain ⟨_, o, ho, _⟩ := I.ok.funs.mem hb
  exact absurd (Nat.lt_of_lt_of_le (Heap.lt_size ho) (Nat.le_trans I.sz h)) (Nat.lt_irrefl _)
theorem Inv.cne (I : Inv X pins σ H s) : ∀ x c, X.env.cells.lookup x = some c → c ≠ X.env.locals := fun x c e z => by
  obtain ⟨v, o, ho, hd⟩ := I.cell x c e
  obtain ⟨m, ⟨o', es, ep, ho', hd', _⟩, _⟩ := I.loc
  rw [z, ho'] at ho; cases ho; rw [hd'] at hd; cases hd
theorem Inv.funs (I : Inv X pins σ H s) : s.heap.FunFrames X.base X.outer := by
  have all : ∀ (l : List Env), (∀ b ∈ frs l, b ∈ X.fs) → X.s₀.heap.FunFrames X.base l → s.heap.FunFrames X.base l := by
    intro l
    induction l with
    | nil => intro _ _; trivial
    | cons env r ih =>
      intro hs hl
      obtain ⟨hk, ⟨L, o, hf, hn, ho, hd⟩, hr⟩ := hl
      have hL : L ∈ X.fs := hs L (by unfold frs; rw [List.filterMap_cons, hf]; exact List.mem_cons_self)
      obtain ⟨sl, e⟩ := I.base.slot L o ho (I.ok.frf L hL) hL fun z => I.ok.exfs L z hL
      exact ⟨hk, ⟨L, _, hf, hn, e, hd⟩, ih (fun b hb => hs b (by unfold frs; rw [List.filterMap_cons, hf]; exact List.mem_cons_of_mem _ hb)) hr⟩
  exact all X.outer (fun _ hb => hb) I.ok.funs
/-- the frames that run, for a call -/
theorem Inv.stack (I : Inv X pins σ H s) : s.heap.FunFrames X.base X.stack := by
  rcases I.ok.stk with e | ⟨e, hf⟩
  · rw [e]; exact I.funs
  · rw [e]
    obtain ⟨m, hn, _⟩ := I.loc
    refine .cons (by rw [I.ok.kind]; decide) hf hn ?_ I.funs
    exact Heap.get?_none_of_le (Nat.le_trans I.ok.bsz I.ok.above)
theorem Inv.stkSub (I : Inv X pins σ H s) : ∀ b ∈ frs X.stack, b ∈ X.env.locals :: X.fs := fun b hb => by
  rcases I.ok.stk with e | ⟨e, hf⟩
  · rw [e] at hb; exact List.mem_cons_of_mem _ hb
  · rw [e] at hb
    unfold frs at hb
    rw [List.filterMap_cons, hf] at hb
    exact hb
theorem Inv.stkFree (I : Inv X pins σ H s) : ∀ b ∈ frs X.stack, H b = none := fun b hb => by
  rcases List.mem_cons.mp (I.stkSub b hb) with e | hb
  · rw [e]; exact I.free
  · obtain ⟨_, o, ho, _⟩ := I.ok.funs.mem hb
    exact I.base.free b o ho (I.ok.frf b hb) fun z => I.ok.exfs b z hb
/-- THE STEP: the untracked objects but the frame and the records at ch are kept (the callers' frames up to slots), the frame's map is kept, the new abstract heap is held -/
theorem Inv.step {g' : Array GenState} {t' : Nat} {d' : Drawn} {ch : List Addr} (I : Inv X pins σ H s)
    (hch : ∀ b ∈ ch, (b ∈ X.ex ∨ X.s₀.heap.objs.size ≤ b) ∧ b ≠ X.env.locals ∧ (∀ x c, X.env.cells.lookup x = some c → c ≠ b) ∧ ∀ p ∈ X.pn ++ pins, p.1 ≠ b)
    (keep : ∀ b o, b ≠ X.env.locals → b ∉ X.fs → b ∉ ch → s.heap.get? b = some o → H b = none → h'.get? b = some o)
    (slot : ∀ b o, b ≠ X.env.locals → b ∈ X.fs → b ∉ ch → s.heap.get? b = some o → H b = none → ∃ sl, h'.get? b = some { o with slots := sl }) (free : ∀ b o, b ∉ ch → s.heap.get? b = some o → H b = none → H' b = none)
    (there : ∀ b o, b ∉ ch → s.heap.get? b = some o → ∃ o', h'.get? b = some o')
    (tups : ∀ b xs, H b = some (.tup xs) → H' b = some (.tup xs)) (frzs : ∀ b o u, H b = some (.frz o u) → H' b = some (.frz o u)) (tbls : ∀ b ps, H b = some (.tbl ps) → ∃ more, H' b = some (.tbl (ps ++ more)))
    (ns : ∀ m, s.heap.Ns X.env.locals m → h'.Ns X.env.locals m) (hok : HOk X.prog X.w H' h') (hg : AllBare g') :
    Inv X pins σ H' { s with heap := h', gens := g', drawn := d', toks := t' } := by
  have neL : ∀ b o, X.s₀.heap.get? b = some o → b ≠ X.env.locals := fun b o e => Nat.ne_of_lt (Nat.lt_of_lt_of_le (Heap.lt_size e) I.ok.above)
  have neC : ∀ b o, X.s₀.heap.get? b = some o → b ∉ X.ex → b ∉ ch := fun b o e hx hb => by
    rcases (hch b hb).1 with z | z
    · exact hx z
    · exact absurd (Nat.lt_of_lt_of_le (Heap.lt_size e) z) (Nat.lt_irrefl _)
  have cellK : ∀ x c, X.env.cells.lookup x = some c → ∀ v, s.heap.IsCell c v → h'.IsCell c v := fun x c e v ⟨o, ho, hd⟩ => by
    have nch : c ∉ ch := fun z => (hch c z).2.2.1 x c e rfl
    by_cases hc : c ∈ X.fs
    · obtain ⟨sl, q⟩ := slot c o (I.cne x c e) hc nch ho (I.freeC x c e)
      exact ⟨_, q, hd⟩
    · exact ⟨o, keep c o (I.cne x c e) hc nch ho (I.freeC x c e), hd⟩
  refine ⟨I.ok, I.os, hg, ⟨fun b o e n hb hx => ?_, fun b o e n hb hx => ?_, fun b o e n hx => ?_, fun b o e hx => ?_, fun b xs e => tups b xs (I.base.tups b xs e), fun b o xs e => frzs b o xs (I.base.frzs b o xs e), fun b ps e => ?_⟩, ?_, fun x c e => ?_, ?_, fun x c e => ?_, fun p hp => ?_, hok, I.len⟩
  · exact keep b o (neL b o e) hb (neC b o e hx) (I.base.keep b o e n hb hx) (I.base.free b o e n hx)
  · obtain ⟨sl, e1⟩ := I.base.slot b o e n hb hx
    obtain ⟨sl', e2⟩ := slot b _ (neL b o e) hb (neC b o e hx) e1 (I.base.free b o e n hx)
    exact ⟨sl', e2⟩
  · obtain ⟨o', e1⟩ := I.base.there b o e hx
    exact free b o' (neC b o e hx) e1 (I.base.free b o e n hx)
  · obtain ⟨o', e1⟩ := I.base.there b o e hx
    exact there b o' (neC b o e hx) e1
  · obtain ⟨m1, e1⟩ := I.base.tbls b ps e
    obtain ⟨m2, e2⟩ := tbls b _ e1
    exact ⟨m1 ++ m2, by rw [e2, Array.append_assoc]⟩
  · obtain ⟨m, hn, hl⟩ := I.loc
    refine ⟨m, ns m hn, fun i x v e1 e2 e3 => ?_⟩
    obtain ⟨u, r, l⟩ := hl i x v e1 e2 e3
    refine ⟨u, r, ?_⟩
    rcases l with l | ⟨k, c, e, z⟩
    · exact .inl l
    · exact .inr ⟨k, c, e, cellK x c e _ z⟩
  · obtain ⟨v, z⟩ := I.cell x c e
    exact ⟨v, cellK x c e v z⟩
  · obtain ⟨m, ⟨o, _, _, ho, _⟩, _⟩ := I.loc
    exact free _ o (fun z => (hch _ z).2.1 rfl) ho I.free
  · obtain ⟨v, o, ho, hd⟩ := I.cell x c e
    exact free c o (fun z => (hch c z).2.2.1 x c e rfl) ho (I.freeC x c e)
  · obtain ⟨e, n, ne, nf, d⟩ := I.pin p hp
    have nch : p.1 ∉ ch := fun z => (hch p.1 z).2.2.2 p hp rfl
    exact ⟨keep p.1 p.2 ne nf nch e n, free p.1 p.2 nch e n, ne, nf, d⟩
/-- .. where the frame's own object is kept too -/
theorem Inv.un {t' : Nat} (I : Inv X pins σ H s) (u : Un X.fs [] H H' s.heap h') (hok : HOk X.prog X.w H' h') : Inv X pins σ H' { s with heap := h', toks := t' } := by
  obtain ⟨m, ⟨o, es, ep, ho, r⟩, _⟩ := id I.loc
  obtain ⟨sl, hL⟩ := u.any ho I.free (by simp)
  exact I.step (g' := s.gens) (d' := s.drawn) (ch := []) (fun _ z => nomatch z) (fun b o _ hb _ e n => u.keep b o e n hb (by simp)) (fun b o _ hb _ e n => u.slot b o e n hb (by simp)) (fun b o _ e n => u.free b o e n (by simp)) (fun b o _ e => u.there b o e (by simp)) u.tups u.frzs u.tbls (fun m' hm => by
    obtain ⟨o', es', ep', ho', r'⟩ := hm
    rw [ho] at ho'; cases ho'
    exact ⟨_, es', ep', hL, r'⟩) hok I.bare
/-- behind a call (or a comprehension's block): the slots of this frame may have changed too, the records at ch may have turned -/
theorem Inv.call {g' : Array GenState} {t' : Nat} {d' : Drawn} {ch : List Addr} (I : Inv X pins σ H s) (u : Un (frs X.stack) ch H H' s.heap h') (hok : HOk X.prog X.w H' h') (hg : AllBare g')
    (hch : ∀ b ∈ ch, (b ∈ X.ex ∨ X.s₀.heap.objs.size ≤ b) ∧ b ≠ X.env.locals ∧ (∀ x c, X.env.cells.lookup x = some c → c ≠ b) ∧ ∀ p ∈ X.pn ++ pins, p.1 ≠ b) :
    Inv X pins σ H' { s with heap := h', gens := g', drawn := d', toks := t' } := by
  obtain ⟨m, ⟨o, es, ep, ho, r⟩, _⟩ := id I.loc
  obtain ⟨sl, hL⟩ := u.any ho I.free fun z => (hch _ z).2.1 rfl
  exact I.step (ch := ch) hch (fun b o hL hb hc e n => u.keep b o e n (fun z => (List.mem_cons.mp (I.stkSub b z)).elim hL hb) hc) (fun b o _ _ hc e n => u.any e n hc) (fun b o hc e n => u.free b o e n hc) (fun b o hc e => u.there b o e hc) u.tups u.frzs u.tbls (fun m' hm => by
    obtain ⟨o', es', ep', ho', r'⟩ := hm
    rw [ho] at ho'; cases ho'
    exact ⟨_, es', ep', hL, r'⟩) hok hg
/-- an untracked record of ours (an iterator) has turned -/
theorem Inv.turned {t' : Nat} {it : Addr} (I : Inv X pins σ H s) (k : ∀ b o, b ≠ it → s.heap.get? b = some o → h'.get? b = some o) (hn : H it = none) (hL : it ≠ X.env.locals)
    (h1 : it ∈ X.ex ∨ X.s₀.heap.objs.size ≤ it) (h2 : ∀ x c, X.env.cells.lookup x = some c → c ≠ it) (h3 : ∀ p ∈ X.pn ++ pins, p.1 ≠ it) : Inv X pins σ H { s with heap := h', toks := t' } := by
  have nit : ∀ b u, H b = some u → b ≠ it := fun b u e z => by rw [z, hn] at e; cases e
  refine I.step (g' := s.gens) (d' := s.drawn) (ch := [it]) (fun b hb => ?_) (fun b o _ _ hc e _ => k b o (fun z => hc (by simp [z])) e) (fun b o _ _ hc e _ => ⟨o.slots, k b o (fun z => hc (by simp [z])) e⟩) (fun _ _ _ _ n => n)
    (fun b o hc e => ⟨o, k b o (fun z => hc (by simp [z])) e⟩) (fun _ _ e => e) (fun _ _ _ e => e) (fun b ps e => ⟨#[], by rw [e]; simp⟩) (fun m hm => ?_) (fun b u e => ?_) I.bare
  · have e : b = it := by simpa using hb
    subst e
    exact ⟨h1, hL, h2, h3⟩
  · obtain ⟨o, es, ep, ho, r⟩ := hm
    exact ⟨o, es, ep, k _ o (Ne.symm hL) ho, r⟩
  · refine (I.hok b u e).stay (fun c v hc q => k c v ?_ q) (fun _ q => q) fun _ _ q => q
    rcases hc with z | z
    · rw [z]; exact nit b u e
    · exact nit c _ z
theorem Inv.tok (I : Inv X pins σ H s) (t : Nat) : Inv X pins σ H { s with toks := t } := I.un (h' := s.heap) (t' := t) Un.refl I.hok
/-- all objects kept -/
theorem Inv.kept {t' : Nat} (I : Inv X pins σ H s) (k : ∀ b u, s.heap.get? b = some u → h'.get? b = some u) : Inv X pins σ H { s with heap := h', toks := t' } := I.un (Un.kept k) (I.hok.kept k)
/-- a new object laid and tracked -/
theorem Inv.laid {a : Addr} {o : HO} {t' : Nat} (I : Inv X pins σ H s) (k : ∀ b u, s.heap.get? b = some u → h'.get? b = some u) (hp : s.heap.objs.size ≤ a) (new : ObjOk X.prog X.w (upd H a o) h' a o) :
    Inv X pins σ (upd H a o) { s with heap := h', toks := t' } := I.un (Un.laid k hp (I.hok.fresh hp)) (I.hok.laid k hp new)
/-- an object written -/
theorem Inv.write {x e : Addr} {o : HO} {t' : Nat} (I : Inv X pins σ H s) (mu : Mut (H x)) (he : e = x ∨ H e = some (.own x)) (k : ∀ b u, b ≠ e → s.heap.get? b = some u → h'.get? b = some u) (heo : ∃ u, h'.get? e = some u)
    (new : ObjOk X.prog X.w (upd H x o) h' x o) : Inv X pins σ (upd H x o) { s with heap := h', toks := t' } := I.un (Un.write mu he k heo) (I.hok.write mu he k heo new)
/-- forgetting slots, pins -/
theorem Inv.weak {σ' : List (Option V)} (I : Inv X pins σ H s) (hl : σ'.length = σ.length) (w : ∀ (i : Nat) v, σ'[i]? = some (some v) → σ[i]? = some (some v)) : Inv X pins σ' H s :=
  ⟨I.ok, I.os, I.bare, I.base, let ⟨m, hn, hl'⟩ := I.loc; ⟨m, hn, fun i x v e1 e2 e3 => hl' i x v e1 (w i v e2) e3⟩, I.cell, I.free, I.freeC, I.pin, I.hok, hl.trans I.len⟩
theorem Inv.pins_of {pins' : List (Addr × Obj)} (I : Inv X pins σ H s) (h : ∀ p ∈ pins', s.heap.get? p.1 = some p.2 ∧ H p.1 = none ∧ p.1 ≠ X.env.locals ∧ p.1 ∉ X.fs ∧ ∀ v, p.2.data ≠ .cell v) : Inv X pins' σ H s :=
  ⟨I.ok, I.os, I.bare, I.base, I.loc, I.cell, I.free, I.freeC, fun p hp => (List.mem_append.mp hp).elim (fun z => I.pin p (List.mem_append_left _ z)) (h p), I.hok, I.len⟩
theorem nodup_ix {N : List Str} (hN : N.Nodup) {i j : Nat} {x : Str} (a : N[i]? = some x) (b : N[j]? = some x) : i = j := by
  obtain ⟨h1, e1⟩ := List.getElem?_eq_some_iff.mp a
  obtain ⟨h2, e2⟩ := List.getElem?_eq_some_iff.mp b
  exact (List.getElem_inj hN).mp (e1.trans e2.symm)
/-- a name is stored; what changed -/
theorem store_ok2 {M : Model} {A : Around} {E : Value → Shared → Prop} {i : Nat} {x : Str} {v : V} {u : Value} {Q : Unit → Shared → Prop} (I : Inv X pins σ H s) (hN : X.N.Nodup) (hi : X.N[i]? = some x) (hx : Loc X.env.scope x) (r : RelV v u)
    (h : ∀ s', Inv X pins (σ.set i (some v)) H s' → (∃ a, Heap.SameBut a s.heap s'.heap ∧ (a = X.env.locals ∨ X.env.cells.lookup x = some a)) → Q () s') (hf : X.fn x = true ∨ X.env.scope.names.lookup x = some .local := by first | exact .inl rfl | exact .inr rfl | assumption) : wpAny M A (storeName X.env x u) Q E s := by
  obtain ⟨m, hn, hl⟩ := id I.loc
  have hcls : (X.env.scope.kind == .class || (X.env.scope.kind == .module && X.env.locals != X.env.globals)) = false := by rw [I.ok.kind]; rfl
  have hiσ : i < σ.length := by rw [I.len]; exact (List.getElem?_eq_some_iff.mp hi).1
  have cne := I.cne
  have tracked : ∀ {a : Addr} {h' : Heap}, (∃ o, s.heap.get? a = some o ∧ H a = none) → Heap.SameBut a s.heap h' → HOk X.prog X.w H h' := fun {a h'} ha hs b ob e => by
    obtain ⟨_, _, hfree⟩ := ha
    refine (I.hok b ob e).stay (fun c w' hc q => (hs.2 c ?_).trans q) (fun _ q => q) fun _ _ q => q
    rintro rfl
    rcases hc with rfl | hc
    · rw [hfree] at e; cases e
    · rw [hfree] at hc; cases hc
  rcases hx with hk | hk
  · refine wpAny_storeName_local hk hn (fun h' hn' hs => ?_) hcls
    obtain ⟨oL, _, _, hoL, _⟩ := id hn
    refine h _ ⟨I.ok, I.os, I.bare, ⟨fun b o e n hb hx => ?_, fun b o e n hb hx => ?_, I.base.free, fun b o e hx => ?_, I.base.tups, I.base.frzs, I.base.tbls⟩, ⟨_, hn', fun j y v' e1 e2 e3 => ?_⟩, fun y c e => ?_, I.free, I.freeC, fun p hp => ?_, tracked ⟨oL, hoL, I.free⟩ hs, by simpa using I.len⟩ ⟨_, hs, .inl rfl⟩
    · exact (hs.2 b (Nat.ne_of_lt (Nat.lt_of_lt_of_le (Heap.lt_size e) I.ok.above))).trans (I.base.keep b o e n hb hx)
    · obtain ⟨sl, e1⟩ := I.base.slot b o e n hb hx
      exact ⟨sl, (hs.2 b (Nat.ne_of_lt (Nat.lt_of_lt_of_le (Heap.lt_size e) I.ok.above))).trans e1⟩
    · obtain ⟨o', e1⟩ := I.base.there b o e hx
      exact ⟨o', (hs.2 b (Nat.ne_of_lt (Nat.lt_of_lt_of_le (Heap.lt_size e) I.ok.above))).trans e1⟩
    · by_cases hj : j = i
      · subst hj
        rw [hi] at e1; cases e1
        rw [List.getElem?_set_self hiσ] at e2
        cases e2
        exact ⟨u, r, .inl ⟨hk, by simp⟩⟩
      · rw [List.getElem?_set_ne (Ne.symm hj)] at e2
        obtain ⟨u', r', q⟩ := hl j y v' e1 e2 e3
        refine ⟨u', r', ?_⟩
        rcases q with ⟨k, e⟩ | ⟨k, c, e, z⟩
        · refine .inl ⟨k, ?_⟩
          have : y ≠ x := fun e => hj (nodup_ix hN e1 (e ▸ hi))
          simp [this, e]
        · exact .inr ⟨k, c, e, z.sameBut hs (cne y c e)⟩
    · obtain ⟨w', z⟩ := I.cell y c e
      exact ⟨w', z.sameBut hs (cne y c e)⟩
    · obtain ⟨e, n, ne, nf, d⟩ := I.pin p hp
      exact ⟨(hs.2 p.1 ne).trans e, n, ne, nf, d⟩
  · have hfn : X.fn x = true := by
      rcases hf with z | z
      · exact z
      · rw [z] at hk; cases hk
    obtain ⟨c, hc⟩ := I.ok.has x (.inl hk)
    obtain ⟨w', z⟩ := I.cell x c hc
    refine wpAny_storeName_cell I.ok.kind hk hc z (fun h' hc' hs => ?_)
    obtain ⟨oc, hoc, hocd⟩ := id z
    refine h { s with heap := h' } ⟨I.ok, I.os, I.bare, ⟨fun b o e n hb hx => ?_, fun b o e n hb hx => ?_, I.base.free, fun b o e hx => ?_, I.base.tups, I.base.frzs, I.base.tbls⟩, ⟨m, hn.sameBut hs (Ne.symm (cne x c hc)), fun j y v' e1 e2 e3 => ?_⟩, fun y c' e => ?_, I.free, I.freeC, fun p hp => ?_, tracked ⟨oc, hoc, I.freeC x c hc⟩ hs, by simpa using I.len⟩ ⟨c, hs, .inr hc⟩
    · exact (hs.2 b (Nat.ne_of_lt (Nat.lt_of_lt_of_le (Heap.lt_size e) (I.ok.cab x c hfn hc)))).trans (I.base.keep b o e n hb hx)
    · obtain ⟨sl, e1⟩ := I.base.slot b o e n hb hx
      exact ⟨sl, (hs.2 b (Nat.ne_of_lt (Nat.lt_of_lt_of_le (Heap.lt_size e) (I.ok.cab x c hfn hc)))).trans e1⟩
    · obtain ⟨o', e1⟩ := I.base.there b o e hx
      exact ⟨o', (hs.2 b (Nat.ne_of_lt (Nat.lt_of_lt_of_le (Heap.lt_size e) (I.ok.cab x c hfn hc)))).trans e1⟩
    · by_cases hj : j = i
      · subst hj
        rw [hi] at e1; cases e1
        rw [List.getElem?_set_self hiσ] at e2
        cases e2
        exact ⟨u, r, .inr ⟨.inl hk, c, hc, hc'⟩⟩
      · rw [List.getElem?_set_ne (Ne.symm hj)] at e2
        obtain ⟨u', r', q⟩ := hl j y v' e1 e2 e3
        refine ⟨u', r', ?_⟩
        rcases q with q | ⟨k, c', e, z'⟩
        · exact .inl q
        · refine .inr ⟨k, c', e, z'.sameBut hs ?_⟩
          rintro rfl
          exact hj (nodup_ix hN e1 (I.ok.inj _ _ _ e hc ▸ hi))
    · by_cases hcc : c' = c
      · subst hcc; exact ⟨_, hc'⟩
      · obtain ⟨w2, z2⟩ := I.cell y c' e
        exact ⟨w2, z2.sameBut hs hcc⟩
    · obtain ⟨e, n, ne, nf, d⟩ := I.pin p hp
      refine ⟨(hs.2 p.1 ?_).trans e, n, ne, nf, d⟩
      intro q
      rw [q, hoc] at e
      have q' : oc = p.2 := Option.some.inj e
      exact d w' (by rw [← q']; exact hocd)
theorem store_ok {M : Model} {A : Around} {E : Value → Shared → Prop} {i : Nat} {x : Str} {v : V} {u : Value} {Q : Unit → Shared → Prop} (I : Inv X pins σ H s) (hN : X.N.Nodup) (hi : X.N[i]? = some x) (hx : Loc X.env.scope x) (r : RelV v u)
    (h : ∀ s', Inv X pins (σ.set i (some v)) H s' → Q () s') (hf : X.fn x = true ∨ X.env.scope.names.lookup x = some .local := by first | exact .inl rfl | exact .inr rfl | assumption) : wpAny M A (storeName X.env x u) Q E s :=
  store_ok2 I hN hi hx r (fun s' I' _ => h s' I') hf
/-- behind a call or a block, the state as it is -/
theorem Inv.call' {s' : Shared} {ch : List Addr} (I : Inv X pins σ H s) (ho : s'.os = s.os) (u : Un (frs X.stack) ch H H' s.heap s'.heap) (hok : HOk X.prog X.w H' s'.heap) (hg : AllBare s'.gens)
    (hch : ∀ b ∈ ch, (b ∈ X.ex ∨ X.s₀.heap.objs.size ≤ b) ∧ b ≠ X.env.locals ∧ (∀ x c, X.env.cells.lookup x = some c → c ≠ b) ∧ ∀ p ∈ X.pn ++ pins, p.1 ≠ b) : Inv X pins σ H' s' := by
  obtain ⟨h', g', d', t', o'⟩ := s'
  have e : o' = s.os := ho
  subst e
  exact I.call (g' := g') (t' := t') (d' := d') u hok hg hch
end
/-! ### the judgements -/
/-- an exception: its class, its own dict's address (where it has one), the abstract heap behind it -/
abbrev XK := Value → Option Addr → Hp → Prop
abbrev St := List (Option V)
abbrev VK := V → Hp → Prop
/-- an expression's reading; a test's; an argument list's -/
abbrev TE := St → Hp → VK → Prop
abbrev TT := St → Hp → (Bool → Hp → Prop) → Prop
abbrev TA := St → Hp → (List V → Hp → Prop) → Prop
/-- what is wanted behind a statement -/
structure Ends where
  nx : St → Hp → Prop
  rt : VK
  bk : St → Hp → Prop := fun _ _ => False
  ct : St → Hp → Prop := fun _ _ => False
abbrev TS := Ends → St → Hp → Prop
def EP (X : Cx) (pins : List (Addr × Obj)) (σ : St) (Q : VK) (u : Value) (s' : Shared) : Prop := ∃ v H', Inv X pins σ H' s' ∧ RelV v u ∧ Q v H'
def TP (X : Cx) (pins : List (Addr × Obj)) (σ : St) (Q : Bool → Hp → Prop) (b : Bool) (s' : Shared) : Prop := ∃ H', Inv X pins σ H' s' ∧ Q b H'
def AP (X : Cx) (pins : List (Addr × Obj)) (σ : St) (Q : List V → Hp → Prop) (us : List Value) (s' : Shared) : Prop := ∃ vs H', Inv X pins σ H' s' ∧ Vals vs us ∧ Q vs H'
def SP (X : Cx) (pins : List (Addr × Obj)) (D : Ends) (f : Flow) (s' : Shared) : Prop :=
  match f with
  | .next => ∃ σ' H', Inv X pins σ' H' s' ∧ D.nx σ' H'
  | .brk => ∃ σ' H', Inv X pins σ' H' s' ∧ D.bk σ' H'
  | .cont => ∃ σ' H', Inv X pins σ' H' s' ∧ D.ct σ' H'
  | .ret u => ∃ v σ' H', Inv X pins σ' H' s' ∧ RelV v u ∧ D.rt v H'
def PE (X : Cx) (e : Expr) (t : TE) : Prop :=
  ∀ (pins : List (Addr × Obj)) (s : Shared) (σ : St) (H : Hp) (Q : VK), Inv X pins σ H s → t σ H Q → wpAny (model X.prog X.w) X.A (eval e X.env) (EP X pins σ Q) X.xe s
def PT (X : Cx) (e : Expr) (t : TT) : Prop :=
  ∀ (pins : List (Addr × Obj)) (s : Shared) (σ : St) (H : Hp) (Q : Bool → Hp → Prop), Inv X pins σ H s → t σ H Q → wpAny (model X.prog X.w) X.A (isTrue e X.env (eval e X.env)) (TP X pins σ Q) X.xe s
/-- a test whatever its 'whole' is (and, or) -/
def PW (X : Cx) (e : Expr) (t : TT) : Prop :=
  ∀ (whole : Sem Value) (pins : List (Addr × Obj)) (s : Shared) (σ : St) (H : Hp) (Q : Bool → Hp → Prop), Inv X pins σ H s → t σ H Q → wpAny (model X.prog X.w) X.A (isTrue e X.env whole) (TP X pins σ Q) X.xe s
theorem PW.pt {X : Cx} {e : Expr} {t : TT} (h : PW X e t) : PT X e t := h _
/-- an argument list (no star), from the left -/
def PA (X : Cx) (es : List Expr) (t : TA) : Prop :=
  ∀ (pos : Pos) (pins : List (Addr × Obj)) (s : Shared) (σ : St) (H : Hp) (Q : List V → Hp → Prop), Inv X pins σ H s → t σ H Q → wpAny (model X.prog X.w) X.A (spliced (backTo pos (starEach es X.env))) (AP X pins σ Q) X.xe s
def PS (X : Cx) (st : Stmt) (t : TS) : Prop :=
  ∀ (pins : List (Addr × Obj)) (s : Shared) (σ : St) (H : Hp) (D : Ends), Inv X pins σ H s → t D σ H → wpAny (model X.prog X.w) X.A (exec st X.env) (SP X pins D) X.xe s
def PSs (X : Cx) (st : List Stmt) (t : TS) : Prop :=
  ∀ (pins : List (Addr × Obj)) (s : Shared) (σ : St) (H : Hp) (D : Ends), Inv X pins σ H s → t D σ H → wpAny (model X.prog X.w) X.A (execs st X.env) (SP X pins D) X.xe s
/-- weaken the end -/
theorem thn {α : Type} {t : Sem α} {Q Q' : α → Shared → Prop} {M : Model} {A : Around} {E : Value → Shared → Prop} {s : Shared} (h : wpAny M A t Q E s) (hQ : ∀ a s, Q a s → Q' a s) : wpAny M A t Q' E s := wpAny_mono h hQ fun _ _ x => x
end L2
namespace L2
open PySem PySem.Spec PyProof.Rows
section
variable {X : Cx}
/-! ### names and constants -/
def tVar (i : Nat) : TE := fun σ H Q => ∃ v, σ[i]? = some (some v) ∧ Q v H
def tC (v : V) : TE := fun _ H Q => Q v H
theorem pe_var {i : Nat} {x : Str} {pos : Pos} (hN : X.N[i]? = some x) (hv : Vis X.env.scope x) (hd : (x == ("__debug__" : Str)) = false := by decide) (hcd : (x == ("__classdict__" : Str)) = false := by decide) : PE X (.Name x pos) (tVar i) := by
  intro pins s σ H Q I h
  obtain ⟨v, e, h⟩ := h
  obtain ⟨m, hn, hl⟩ := I.loc
  obtain ⟨u, r, l⟩ := hl i x v hN e hv
  have fin : EP X pins σ Q u s := ⟨v, H, I, r, h⟩
  rcases l with ⟨hk, hm⟩ | ⟨hk, c, hc, hcell⟩
  · exact wpAny_Name (wpAny_loadName_local I.ok.kind hk hn hm fin) hd
  · rcases hk with hk | hk
    · exact wpAny_Name (wpAny_loadName_cell I.ok.kind hk hc hcell fin) hd
    · exact wpAny_Name (wpAny_loadName_free I.ok.kind hk hc hcell fin hcd) hd
theorem pe_int {i j pos} : PE X (.Constant (.int i) j pos) (tC (.int i)) := fun _ _ _ H _ I h => wpAny_Constant_int ⟨.int i, H, I.tok _, ⟨_, rfl⟩, h⟩
theorem pe_bl {b j pos} : PE X (.Constant (.bool b) j pos) (tC (.bl b)) := fun _ _ _ H _ I h => Constant_bool ⟨.bl b, H, I, rfl, h⟩
theorem pe_str {x j pos} : PE X (.Constant (.str x) j pos) (tC (.str x)) := fun _ _ _ H _ I h => Calls.Constant_str ⟨.str x, H, I.tok _, ⟨_, rfl⟩, h⟩
/-- a global name of the def -/
def Gl (X : Cx) (x : Str) : Prop := X.env.kindOf x = some .globalImplicit
theorem ld_glob {E : Value → Shared → Prop} {pins : List (Addr × Obj)} {s : Shared} {σ : St} {H : Hp} {x : Str} {u : Value} {pos : Pos} {Q : Value → Shared → Prop} (I : Inv X pins σ H s) (hg : Gl X x) (hm : X.mg x = some u) (h : Q u s)
    (hd : (x == ("__debug__" : Str)) = false := by decide) : wpAny (model X.prog X.w) X.A (eval (.Name x pos) X.env) Q E s :=
  Calls.Name_function_global I.ok.kind hg (Calls.loadGlobal_global (by rw [I.ok.glob]; exact I.mod.glob.keeps I.bk) hm h) hd
theorem ld_blt {E : Value → Shared → Prop} {pins : List (Addr × Obj)} {s : Shared} {σ : St} {H : Hp} {x : Str} {u : Value} {pos : Pos} {Q : Value → Shared → Prop} (I : Inv X pins σ H s) (hg : Gl X x) (hm : X.mg x = none) (hv : bootBuiltins x = some u) (h : Q u s)
    (hn : x ≠ "__name__" := by decide) (hd : (x == ("__debug__" : Str)) = false := by decide) : wpAny (model X.prog X.w) X.A (eval (.Name x pos) X.env) Q E s := by
  obtain ⟨mb, h1, h2⟩ := I.mod.blt
  exact Calls.Name_function_global I.ok.kind hg (Calls.loadGlobal_builtin (by rw [I.ok.glob]; exact I.mod.glob.keeps I.bk) hm (by rw [I.ok.blt]; exact h1.keeps I.bk) ((h2 x hn).trans hv) h) hd
/-- a module's constant, a class, a function, as a value -/
theorem pe_glob {x : Str} {v : V} {u : Value} {pos : Pos} (hg : Gl X x) (hm : X.mg x = some u) (r : RelV v u) (hd : (x == ("__debug__" : Str)) = false := by decide) : PE X (.Name x pos) (tC v) :=
  fun _ _ _ H _ I h => ld_glob I hg hm ⟨v, H, I, r, h⟩ hd
theorem pe_bltn {x : Str} {v : V} {u : Value} {pos : Pos} (hg : Gl X x) (hm : X.mg x = none) (hv : bootBuiltins x = some u) (r : RelV v u) (hn : x ≠ "__name__" := by decide) (hd : (x == ("__debug__" : Str)) = false := by decide) : PE X (.Name x pos) (tC v) :=
  fun _ _ _ H _ I h => ld_blt I hg hm hv ⟨v, H, I, r, h⟩ hn hd
/-! ### arithmetic -/
/-- two ints -/
def t2I (ta tb : TE) (k : Int → Int → Hp → Prop) : St → Hp → Prop := fun σ H => ta σ H fun x H1 => tb σ H1 fun y H2 => ∃ i j, x = .int i ∧ y = .int j ∧ k i j H2
/-- the left factor below 2^64 -/
def tMul (ta tb : TE) : TE := fun σ H Q => t2I ta tb (fun i j H2 => (-(2 ^ 64) < i ∧ i < 2 ^ 64) ∧ Q (.int (i * j)) H2) σ H
variable {a b : Expr} {ta tb : TE} {pos : Pos}
/-! ### comparisons -/
/-- is None -/
def tIsN (ta : TE) : TE := fun σ H Q => ta σ H fun x H1 => Q (.bl (decide (x = .non))) H1
/-- a comparison as a value, as a test -/
def tB (t : TE) : TT := fun σ H Q => t σ H fun x H1 => ∃ c, x = .bl c ∧ Q c H1
/-! ### and, or, not -/
variable {tA tB' : TT} {rest : List Expr}
def tAnd (t u : TT) : TT := fun σ H Q => t σ H fun c H1 => if c = true then u σ H1 Q else Q false H1
def tOr (t u : TT) : TT := fun σ H Q => t σ H fun c H1 => if c = true then Q true H1 else u σ H1 Q
def tNot (t : TT) : TT := fun σ H Q => t σ H fun c H1 => Q (!c) H1
theorem pw_and1 (ha : PT X a tA) : PW X (.BoolOp .And [a] pos) tA := by
  intro wh pins s σ H Q I h
  refine isTrue_and (thn (ha pins s σ H Q I h) fun c s1 e => ?_)
  cases c with
  | true => exact isTrue_and_nil e
  | false => exact e
theorem pw_or1 (ha : PT X a tA) : PW X (.BoolOp .Or [a] pos) tA := by
  intro wh pins s σ H Q I h
  refine isTrue_or (thn (ha pins s σ H Q I h) fun c s1 e => ?_)
  cases c with
  | false => exact isTrue_or_nil e
  | true => exact e
theorem pw_and (ha : PT X a tA) (hb : PW X (.BoolOp .And (b :: rest) pos) tB') : PW X (.BoolOp .And (a :: b :: rest) pos) (tAnd tA tB') := by
  intro wh pins s σ H Q I h
  refine isTrue_and (thn (ha pins s σ H _ I h) fun c s1 ⟨H1, I1, q1⟩ => ?_)
  cases c with
  | true => exact hb wh pins s1 σ H1 Q I1 q1
  | false => exact ⟨H1, I1, q1⟩
theorem pw_or (ha : PT X a tA) (hb : PW X (.BoolOp .Or (b :: rest) pos) tB') : PW X (.BoolOp .Or (a :: b :: rest) pos) (tOr tA tB') := by
  intro wh pins s σ H Q I h
  refine isTrue_or (thn (ha pins s σ H _ I h) fun c s1 ⟨H1, I1, q1⟩ => ?_)
  cases c with
  | true => exact ⟨H1, I1, q1⟩
  | false => exact hb wh pins s1 σ H1 Q I1 q1
theorem pt_not (ha : PT X a tA) : PT X (.UnaryOp .Not a pos) (tNot tA) := by
  intro pins s σ H Q I h
  exact isTrue_not (ha pins s σ H (fun c H1 => Q (!c) H1) I h)
/-- .. as values (bools) -/
def tAndV (ta tb : TE) : TE := fun σ H Q => ta σ H fun x H1 => ∃ c, x = .bl c ∧ if c = true then tb σ H1 Q else Q (.bl false) H1
theorem pe_one {op} {t : TE} (h : PE X a t) : PE X (.BoolOp op [a] pos) t := fun pins s σ H Q I hw => BoolOp_one (h pins s σ H Q I hw)
theorem pe_and (ha : PE X a ta) (hb : PE X (.BoolOp .And (b :: rest) pos) tb) : PE X (.BoolOp .And (a :: b :: rest) pos) (tAndV ta tb) := by
  intro pins s σ H Q I h
  refine BoolOp_and (thn (ha pins s σ H _ I h) fun v s1 ⟨x, H1, I1, r1, q1⟩ => ?_)
  obtain ⟨c, rfl, q1⟩ := q1
  cases r1
  refine wpAny_truthy_bool ?_
  cases c with
  | true => exact hb pins s1 σ H1 Q I1 q1
  | false => exact ⟨.bl false, H1, I1, rfl, q1⟩
/-- a if t else b -/
def tIf (t : TT) (ta tb : TE) : TE := fun σ H Q => t σ H fun c H1 => if c = true then ta σ H1 Q else tb σ H1 Q
end
end L2
namespace L2
open PySem PySem.Spec PyProof.Rows
/-! ### a list, a tuple that is read: tracked, frozen, or an object of the module -/
def SqL (K : PySem.W.Frag) (H : Hp) (a : Addr) (xs : List V) : Prop :=
  Rd H a (.lst xs) ∨
    ∃ (o : Obj) (its : Array Value) (n : Nat), K.lookup a = some o ∧ o.cls = .type "list" ∧ o.dict = none ∧ o.data = .seq its n ∧ its.size ≤ sizeLine ∧ Vals xs its.toList
def SqT (K : PySem.W.Frag) (H : Hp) (a : Addr) (xs : List V) : Prop :=
  Rd H a (.tup xs) ∨
    ∃ (o : Obj) (its : Array Value) (n : Nat), K.lookup a = some o ∧ o.cls = .type "tuple" ∧ o.data = .seq its n ∧ its.size ≤ sizeLine ∧ Vals xs its.toList
def absV : Value → Option V
  | .none => some .non
  | .bool b => some (.bl b)
  | .int i _ => some (.int i)
  | .str x _ => some (.str x)
  | .bytes b _ => some (.byt b)
  | .float b _ => some (.flt b)
  | .ref a => some (.ref a)
  | .type n => some (.ty n)
  | _ => none
theorem RelV.abs {x : V} {u : Value} (r : RelV x u) : absV u = some x := by
  cases x with
  | non => cases r; rfl
  | bl _ => cases r; rfl
  | int _ => obtain ⟨t, rfl⟩ := r; rfl
  | str _ => obtain ⟨t, rfl⟩ := r; rfl
  | byt _ => obtain ⟨t, rfl⟩ := r; rfl
  | flt _ => obtain ⟨t, rfl⟩ := r; rfl
  | ref _ => cases r; rfl
  | ty _ => cases r; rfl
theorem RelV.inj {x y : V} {u : Value} (r : RelV x u) (q : RelV y u) : x = y := Option.some.inj (r.abs.symm.trans q.abs)
theorem Vals.inj : ∀ {xs ys : List V} {us : List Value}, Vals xs us → Vals ys us → xs = ys
  | _, _, _, .nil, .nil => rfl
  | _, _, _, .cons r t, .cons r' t' => by rw [r.inj r', Vals.inj t t']
section
variable {X : Cx} {pins : List (Addr × Obj)} {σ : St} {H : Hp} {s : Shared} {a : Addr} {xs ys : List V}
theorem SqL.of {K : PySem.W.Frag} (h : H a = some (.lst xs)) : SqL K H a xs := .inl (.inl h)
theorem SqT.of {K : PySem.W.Frag} (h : H a = some (.tup xs)) : SqT K H a xs := .inl (.inl h)
theorem Inv.list (I : Inv X pins σ H s) (h : SqL X.K H a xs) : ∃ its : List Value, Vals xs its ∧ PlainL s.heap a its.toArray ∧ xs.length ≤ sizeLine := by
  rcases h with h | ⟨o, its, n, hk, hc, hd, hs, hz, r⟩
  · obtain ⟨z, its, n, r, e⟩ := h.ok I.hok
    exact ⟨its, r, ⟨_, n, e, rfl, rfl, rfl⟩, z⟩
  · refine ⟨its.toList, r, ⟨o, n, I.kIn a o hk, hc, hd, by simpa using hs⟩, ?_⟩
    have e := r.length
    simp only [Array.length_toList] at e
    omega
theorem Inv.tuple (I : Inv X pins σ H s) (h : SqT X.K H a xs) : ∃ its : List Value, Vals xs its ∧ IsTup s.heap a its.toArray ∧ xs.length ≤ sizeLine := by
  rcases h with h | ⟨o, its, n, hk, hc, hs, hz, r⟩
  · obtain ⟨z, its, r, p⟩ := h.ok I.hok
    exact ⟨its, r, p, z⟩
  · refine ⟨its.toList, r, ⟨o, I.kIn a o hk, hc, n, by simpa using hs⟩, ?_⟩
    have e := r.length
    simp only [Array.length_toList] at e
    omega
theorem Inv.list_inj (I : Inv X pins σ H s) (h : SqL X.K H a xs) (h' : SqL X.K H a ys) : xs = ys := by
  obtain ⟨its, r, ⟨o, n, e, _, _, d⟩, _⟩ := I.list h
  obtain ⟨its', r', ⟨o', n', e', _, _, d'⟩, _⟩ := I.list h'
  rw [e] at e'; cases e'
  rw [d] at d'
  injection d' with d1 _
  have : its = its' := by simpa using congrArg Array.toList d1
  subst this
  exact r.inj r'
theorem Inv.tuple_inj (I : Inv X pins σ H s) (h : SqT X.K H a xs) (h' : SqT X.K H a ys) : xs = ys := by
  obtain ⟨its, r, ⟨o, e, _, n, d⟩, _⟩ := I.tuple h
  obtain ⟨its', r', ⟨o', e', _, n', d'⟩, _⟩ := I.tuple h'
  rw [e] at e'; cases e'
  rw [d] at d'
  injection d' with d1 _
  have : its = its' := by simpa using congrArg Array.toList d1
  subst this
  exact r.inj r'
end
/-! ### another wish about exceptions -/
abbrev Cx.wish (X : Cx) (E : Value → Shared → Prop) : Cx := { X with xe := E }
/-- no exception leaves -/
abbrev Cx.nox (X : Cx) : Cx := X.wish fun _ _ => False
theorem Cx.Ok.wish {X : Cx} (ok : X.Ok) (E : Value → Shared → Prop) : (X.wish E).Ok :=
  ⟨ok.mod, ok.kind, ok.glob, ok.blt, ok.above, ok.inj, ok.has, ok.cab, ok.hd, ok.frames, ok.stk, ok.exf, ok.bs, ok.bsz, ok.noex, ok.exfs, ok.funs, ok.frf⟩
theorem Cx.Ok.unwish {X : Cx} {E : Value → Shared → Prop} (ok : (X.wish E).Ok) : X.Ok :=
  ⟨ok.mod, ok.kind, ok.glob, ok.blt, ok.above, ok.inj, ok.has, ok.cab, ok.hd, ok.frames, ok.stk, ok.exf, ok.bs, ok.bsz, ok.noex, ok.exfs, ok.funs, ok.frf⟩
section
variable {X : Cx} {pins : List (Addr × Obj)} {σ : St} {H : Hp} {s : Shared} {E : Value → Shared → Prop}
theorem Inv.wish (I : Inv X pins σ H s) (E : Value → Shared → Prop) : Inv (X.wish E) pins σ H s := ⟨I.ok.wish E, I.os, I.bare, I.base, I.loc, I.cell, I.free, I.freeC, I.pin, I.hok, I.len⟩
theorem Inv.unwish (I : Inv (X.wish E) pins σ H s) : Inv X pins σ H s := ⟨I.ok.unwish, I.os, I.bare, I.base, I.loc, I.cell, I.free, I.freeC, I.pin, I.hok, I.len⟩
theorem SP.unwish {D : Ends} {f : Flow} {s' : Shared} (h : SP (X.wish E) pins D f s') : SP X pins D f s' := by
  cases f with
  | next => obtain ⟨σ', H', I, q⟩ := h; exact ⟨σ', H', I.unwish, q⟩
  | brk => obtain ⟨σ', H', I, q⟩ := h; exact ⟨σ', H', I.unwish, q⟩
  | cont => obtain ⟨σ', H', I, q⟩ := h; exact ⟨σ', H', I.unwish, q⟩
  | ret u => obtain ⟨v, σ', H', I, r, q⟩ := h; exact ⟨v, σ', H', I.unwish, r, q⟩
theorem PSs.nox {st : List Stmt} {t : TS} (h : PSs X.nox st t) : PSs X st t := fun pins s σ H D I hw =>
  wpAny_mono (h pins s σ H D (I.wish _) hw) (fun _ _ q => q.unwish) fun _ _ z => False.elim z
end
/-! ### blocks and small statements -/
section
variable {X : Cx} {st : Stmt} {rest : List Stmt} {t u : TS} {e : Expr} {te : TE} {pos : Pos}
def tNext : TS := fun D σ H => D.nx σ H
def tSeq (t u : TS) : TS := fun D σ H => t { D with nx := u D } σ H
theorem pss_nil : PSs X [] tNext := fun _ _ σ H _ I h => wpAny_execs_nil ⟨σ, H, I, h⟩
theorem pss_cons (h1 : PS X st t) (h2 : PSs X rest u) : PSs X (st :: rest) (tSeq t u) := by
  intro pins s σ H D I h
  refine wpAny_execs_cons (thn (h1 pins s σ H { D with nx := u D } I h) fun f s1 q => ?_)
  cases f with
  | next =>
    obtain ⟨σ', H', I', q⟩ := q
    exact h2 pins s1 σ' H' D I' q
  | ret v => exact q
  | brk => exact q
  | cont => exact q
theorem pss_one (h1 : PS X st t) : PSs X [st] t := by
  intro pins s σ H D I h
  refine wpAny_execs_cons (thn (h1 pins s σ H D I h) fun f s1 q => ?_)
  cases f with
  | next => exact wpAny_execs_nil q
  | ret v => exact q
  | brk => exact q
  | cont => exact q
/-- in a def's body nothing is shown -/
theorem Inv.quiet {pins : List (Addr × Obj)} {σ : St} {H : Hp} {s : Shared} (I : Inv X pins σ H s) : interactive X.env = false := by simp [interactive, I.ok.kind]
/-- an expression whose value is dropped -/
def tDrop (te : TE) : TS := fun D σ H => te σ H fun _ H1 => D.nx σ H1
theorem ps_expr (he : PE X e te) (hs : swapsWith e none pos.line X.env = pure false := by rfl) : PS X (.Expr e pos) (tDrop te) := by
  intro pins s σ H D I h
  exact wpAny_Expr_any (thn (he pins s σ H _ I h) fun v s1 ⟨x, H1, I1, r1, q1⟩ => ⟨σ, H1, I1, q1⟩) I.quiet hs
def tRet (te : TE) : TS := fun D σ H => te σ H D.rt
theorem ps_ret (he : PE X e te) : PS X (.Return (some e) pos) (tRet te) := by
  intro pins s σ H D I h
  exact wpAny_Return_some (thn (he pins s σ H _ I h) fun v s1 ⟨x, H1, I1, r1, q1⟩ => ⟨x, σ, H1, I1, r1, q1⟩)
def tIfS (c : TT) (t u : TS) : TS := fun D σ H => c σ H fun b H1 => if b = true then t D σ H1 else u D σ H1
theorem ps_if {c : Expr} {a b : List Stmt} {tc : TT} (hc : PT X c tc) (ha : PSs X a t) (hb : PSs X b u) : PS X (.If c a b pos) (tIfS tc t u) := by
  intro pins s σ H D I h
  refine wpAny_If (thn (hc pins s σ H _ I h) fun d s1 ⟨H1, I1, q1⟩ => ?_)
  cases d with
  | true => exact ha pins s1 σ H1 D I1 q1
  | false => exact hb pins s1 σ H1 D I1 q1
/-- code that the proof never comes to -/
def tNever : TS := fun _ _ _ => False
end
/-! ### targets -/
abbrev TG := V → St → Hp → (St → Hp → Prop) → Prop
abbrev TGs := List V → St → Hp → (St → Hp → Prop) → Prop
def PG (X : Cx) (target : Expr) (t : TG) : Prop :=
  ∀ (pins : List (Addr × Obj)) (s : Shared) (σ : St) (H : Hp) (v : V) (u : Value) (Q : St → Hp → Prop), Inv X pins σ H s → RelV v u → t v σ H Q →
    wpAny (model X.prog X.w) X.A (assign target X.env u) (fun _ s' => ∃ σ' H', Inv X pins σ' H' s' ∧ Q σ' H') X.xe s
/-- several targets, one after another -/
def PGs (X : Cx) (ts : List Expr) (t : TGs) : Prop :=
  ∀ (pins : List (Addr × Obj)) (s : Shared) (σ : St) (H : Hp) (vs : List V) (us : List Value) (Q : St → Hp → Prop), Inv X pins σ H s → Vals vs us → t vs σ H Q →
    wpAny (model X.prog X.w) X.A (assignInOrder ((assignEach ts X.env).map (·.2)) us) (fun _ s' => ∃ σ' H', Inv X pins σ' H' s' ∧ Q σ' H') X.xe s
/-- o[i] = v, by values -/
abbrev TSet := V → V → V → Hp → (Hp → Prop) → Prop
def PSet (X : Cx) (t : TSet) : Prop :=
  ∀ (pins : List (Addr × Obj)) (s : Shared) (σ : St) (H : Hp) (o i v : V) (ov iv u : Value) (Q : Hp → Prop), Inv X pins σ H s → RelV o ov → RelV i iv → RelV v u → t o i v H Q →
    wpAny (model X.prog X.w) X.A (setItem ov iv u) (fun _ s' => ∃ H', Inv X pins σ H' s' ∧ Q H') X.xe s
/-- a op= b, by values -/
abbrev TIp := V → V → Hp → VK → Prop
section
variable {X : Cx} {pos : Pos}
def gName (i : Nat) : TG := fun v σ H Q => Q (σ.set i (some v)) H
theorem pg_name {i : Nat} {x : Str} (hN : X.N.Nodup) (hi : X.N[i]? = some x) (hx : Loc X.env.scope x) (hf : X.fn x = true ∨ X.env.scope.names.lookup x = some .local := by first | exact .inl rfl | exact .inr rfl | assumption) : PG X (.Name x pos) (gName i) := by
  intro pins s σ H v u Q I r h
  exact wpAny_assign_Name (store_ok I hN hi hx r (fun s' I' => ⟨_, H, I', h⟩) hf)
def gNil : TGs := fun vs σ H Q => vs = [] ∧ Q σ H
def gCons (t : TG) (u : TGs) : TGs := fun vs σ H Q => ∃ v r, vs = v :: r ∧ t v σ H fun σ' H' => u r σ' H' Q
theorem pgs_nil : PGs X [] gNil := by
  intro pins s σ H vs us Q I r h
  obtain ⟨e, h⟩ := h
  subst e
  cases r
  exact assignInOrder_nil ⟨σ, H, I, h⟩
theorem pgs_cons {e : Expr} {es : List Expr} {t : TG} {u : TGs} (h1 : PG X e t) (h2 : PGs X es u)
    (hs : (assignEach (e :: es) X.env).map (·.2) = assign e X.env :: (assignEach es X.env).map (·.2) := by rfl) : PGs X (e :: es) (gCons t u) := by
  intro pins s σ H vs us Q I r h
  obtain ⟨v, vr, e1, h⟩ := h
  subst e1
  cases r with
  | cons r rr =>
    rw [hs]
    refine assignInOrder_cons (thn (h1 pins s σ H _ _ _ I r h) fun _ s1 ⟨σ1, H1, I1, q1⟩ => ?_)
    exact h2 pins s1 σ1 H1 _ _ Q I1 rr q1
/-- (a, b, ..) = a tuple of that length -/
def gTup (K : PySem.W.Frag) (n : Nat) (t : TGs) : TG := fun v σ H Q => ∃ a xs, v = .ref a ∧ SqT K H a xs ∧ xs.length = n ∧ t xs σ H Q
theorem pg_tup {es : List Expr} {k : Nat} {t : TGs} {n : Nat} (hc : X.calm = true) (h : PGs X es t)
    (hn : (assignEach es X.env).length = n := by rfl) (hst : (assignEach es X.env).findIdx? (·.1) = none := by rfl) : PG X (.Tuple es k pos) (gTup X.K n t) := by
  intro pins s σ H v u Q I r hw
  obtain ⟨a, xs, e1, hq, hl, hw⟩ := hw
  subst e1
  cases r
  obtain ⟨its, rv, ht, hz⟩ := I.tuple hq
  refine assign_Tuple_tuple (I.ok.hd hc) ht (by simp [hn, ← hl, rv.length]) hst fun h' hx => ?_
  have I1 : Inv X pins σ H { s with heap := h' } := I.kept (t' := s.toks) fun b o e => hx b o (Nat.ne_of_lt (Heap.lt_size e)) e
  exact h pins _ σ H xs _ Q I1 (by simpa using rv) hw
/-- o[i] = .. -/
def gSub (to ti : TE) (t : TSet) : TG := fun v σ H Q => to σ H fun o H1 => ti σ H1 fun i H2 => t o i v H2 fun H3 => Q σ H3
theorem pg_sub {o i : Expr} {to ti : TE} {t : TSet} (ho : PE X o to) (hi : PE X i ti) (hs : PSet X t)
    (ha : ∀ v, assign (.Subscript o i pos) X.env v = (do
      let ov ← holding [v] (eval o X.env)
      let iv ← holding [v, ov] (eval i X.env)
      standAt pos
      holding [v, ov, iv] (setItem ov iv v)
      release [v, ov, iv] []) := by intro _; rfl) : PG X (.Subscript o i pos) (gSub to ti t) := by
  intro pins s σ H v u Q I r h
  rw [ha]
  refine wpAny_bind (wpAny_holding (thn (ho pins s σ H _ I h) fun ov s1 ⟨x, H1, I1, r1, q1⟩ => ?_))
  refine wpAny_bind (wpAny_holding (thn (hi pins s1 σ H1 _ I1 q1) fun iv s2 ⟨y, H2, I2, r2, q2⟩ => ?_))
  refine wpAny_bind (wpAny_standAt (wpAny_bind (wpAny_holding (thn (hs pins s2 σ H2 x y v ov iv u _ I2 r1 r2 r q2) fun _ s3 ⟨H3, I3, q3⟩ => ?_))))
  exact wpAny_release ⟨σ, H3, I3, q3⟩
/-- target = value -/
def tAsg (te : TE) (g : TG) : TS := fun D σ H => te σ H fun x H1 => g x σ H1 D.nx
theorem ps_asg {tg e : Expr} {te : TE} {g : TG} (he : PE X e te) (hg : PG X tg g) (hs : swapsWithSole [tg] e pos.line X.env = pure false := by rfl) (hw : swappedStores [tg] e X.env = pure none := by rfl)
    (h1 : (assignEach [tg] X.env).map (·.2) = [assign tg X.env] := by rfl) : PS X (.Assign [tg] e pos) (tAsg te g) := by
  intro pins s σ H D I h
  refine wpAny_Assign_stores (thn (he pins s σ H _ I h) fun v s1 ⟨x, H1, I1, r1, q1⟩ => ?_) hs hw
  rw [h1]
  exact thn (hg pins s1 σ H1 x v _ I1 r1 q1) fun _ s2 q => q
/-- name = value -/
theorem ps_set {i : Nat} {x : Str} {e : Expr} {te : TE} {pos' : Pos} (hN : X.N.Nodup) (hi : X.N[i]? = some x) (hx : Loc X.env.scope x) (he : PE X e te) (hs : swapsWith e (some (.Name x pos')) pos.line X.env = pure false := by rfl) (hf : X.fn x = true ∨ X.env.scope.names.lookup x = some .local := by first | exact .inl rfl | exact .inr rfl | assumption) :
    PS X (.Assign [.Name x pos'] e pos) (tAsg te (gName i)) := by
  intro pins s σ H D I h
  refine wpAny_Assign_Name (thn (he pins s σ H _ I h) fun v s1 ⟨y, H1, I1, r1, q1⟩ => ?_) hs
  exact store_ok I1 hN hi hx r1 (fun s2 I2 => ⟨_, H1, I2, q1⟩) hf
/-- a, b = x, y with plain local names: stored from the right; the pair itself is not tracked (the opening rows as in PyProof/Rows/TupAssign.lean:23) -/
def tPar (i j : Nat) (ta : TA) : TS := fun D σ H => ta σ H fun vs H1 => ∃ v w, vs = [v, w] ∧ D.nx ((σ.set i (some v)).set j (some w)) H1
/-- name op= e -/
def tAug (i : Nat) (te : TE) (ti : TIp) : TS := fun D σ H => ∃ x, σ[i]? = some (some x) ∧ te σ H fun y H1 => ti x y H1 fun z H2 => D.nx (σ.set i (some z)) H2
/-- o[i] op= e -/
def tAugS (to ti te : TE) (tget : V → V → Hp → VK → Prop) (tip : TIp) (tset : TSet) : TS := fun D σ H => to σ H fun o H1 => ti σ H1 fun i H2 => tget o i H2 fun x H3 => te σ H3 fun y H4 => tip x y H4 fun z H5 => tset o i z H5 fun H6 => D.nx σ H6
/-- o[i], by values -/
def PGet (X : Cx) (t : V → V → Hp → VK → Prop) : Prop :=
  ∀ (pins : List (Addr × Obj)) (s : Shared) (σ : St) (H : Hp) (o i : V) (ov iv : Value) (Q : VK), Inv X pins σ H s → RelV o ov → RelV i iv → t o i H Q →
    wpAny (model X.prog X.w) X.A (getItem ov iv) (EP X pins σ Q) X.xe s
/-- ints -/
def ipI (f : Int → Int → Int) : TIp := fun x y H Q => ∃ i j, x = .int i ∧ y = .int j ∧ Q (.int (f i j)) H
end
/-! ### while -/
section
variable {X : Cx} {pos : Pos}
/-- the invariant W with its measure -/
def tWhile (c : TT) (tb : TS) : TS := fun D σ H => ∃ W : Nat → St → Hp → Prop, (∃ m, W m σ H) ∧ ∀ m σ H, W m σ H →
  c σ H fun b H1 => if b = true then ∃ N : St → Hp → Prop, (∀ σ' H', N σ' H' → ∃ m', m' < m ∧ W m' σ' H') ∧ tb { D with nx := N, ct := N, bk := D.nx } σ H1 else D.nx σ H1
theorem ps_while {c : Expr} {body : List Stmt} {tc : TT} {tb : TS} (hp : PassesOwn (model X.prog X.w) X.A X.env X.xe) (hc : PT X c tc) (hb : PSs X body tb) : PS X (.While c body [] pos) (tWhile tc tb) := by
  intro pins s σ H D I h
  obtain ⟨W, ⟨m0, w0⟩, turn⟩ := h
  refine wpAny_While (codeAny_whileLoop (fun n s' => ∃ σ' H', Inv X pins σ' H' s' ∧ W n σ' H') ?_ m0 ⟨σ, H, I, w0⟩)
  rintro n s1 ⟨σ1, H1, I1, w1⟩
  refine wpAny_passesOwn hp (thn (hc pins s1 σ1 H1 _ I1 (turn n σ1 H1 w1)) fun b s2 ⟨H2, I2, q2⟩ => ?_)
  cases b with
  | true =>
    obtain ⟨N, hN, q2⟩ := q2
    rw [if_pos rfl]
    refine wpAny_passesOwn hp (thn (hb pins s2 σ1 H2 _ I2 q2) fun f s3 q3 => ?_)
    cases f with
    | next =>
      obtain ⟨σ3, H3, I3, n3⟩ := q3
      obtain ⟨m', hm, w3⟩ := hN σ3 H3 n3
      exact ⟨m', hm, σ3, H3, I3, w3⟩
    | cont =>
      obtain ⟨σ3, H3, I3, n3⟩ := q3
      obtain ⟨m', hm, w3⟩ := hN σ3 H3 n3
      exact ⟨m', hm, σ3, H3, I3, w3⟩
    | brk => exact q3
    | ret v => exact q3
  | false =>
    rw [if_neg Bool.false_ne_true]
    exact wpAny_execs_nil ⟨σ1, H2, I2, q2⟩
end
/-! ### what a loop or a comprehension walks -/
/-- at turn i: it yields x (the heap may grow), or it stops -/
structure It where
  go : Nat → Hp → Prop
  yld : Nat → Hp → V → Hp → Prop
  stop : Nat → Hp → Prop
/-- the iterator's own objects may turn: they are not the frame's, not pinned, younger than the entry (or a comprehension's own) -/
def FpOk (X : Cx) (pins : List (Addr × Obj)) (H : Hp) (b : Addr) : Prop :=
  H b = none ∧ b ≠ X.env.locals ∧ b ∉ X.fs ∧ (b ∈ X.ex ∨ X.s₀.heap.objs.size ≤ b) ∧ (∀ x c, X.env.cells.lookup x = some c → c ≠ b) ∧ ∀ p ∈ X.pn ++ pins, p.1 ≠ b
theorem Inv.fpOk {X : Cx} {pins : List (Addr × Obj)} {σ : St} {H H' : Hp} {s : Shared} {b : Addr} (I : Inv X pins σ H s) (hb : s.heap.objs.size ≤ b) (hn : H' b = none) : FpOk X pins H' b := by
  refine ⟨hn, Nat.ne_of_gt (Nat.lt_of_lt_of_le I.lt hb), I.nofs hb, .inr (Nat.le_trans I.sz hb), fun x c e z => ?_, fun p hp z => ?_⟩
  · obtain ⟨v, q⟩ := I.cell x c e
    exact absurd (Nat.lt_of_lt_of_le q.lt (by rw [z]; exact hb)) (Nat.lt_irrefl _)
  · exact absurd (Nat.lt_of_lt_of_le (Heap.lt_size (I.pin p hp).1) (by rw [z]; exact hb)) (Nat.lt_irrefl _)
structure Turn (P : Program) (w : World) (K : PySem.W.Frag) (tg : Expr) (J : It) (fp : List Addr) (it : Addr) (tn : Nat → Heap → Prop) : Prop where
  mem : it ∈ fp
  obj : ∀ i h, tn i h → ∀ b ∈ fp, ∃ o, h.get? b = some o ∧ ∀ v, o.data ≠ .cell v
  keep : ∀ i h h', tn i h → (∀ b ∈ fp, ∀ o, h.get? b = some o → h'.get? b = some o) → tn i h'
  item : ∀ (X : Cx), X.prog = P → X.w = w → X.K = K → X.calm = true → ∀ (i : Nat) (pins : List (Addr × Obj)) (s : Shared) (σ : St) (H : Hp) (E : Value → Shared → Prop), Inv X pins σ H s → (∀ b ∈ fp, FpOk X pins H b) → tn i s.heap → J.go i H →
    wpAny (model P w) X.A (pyNext (.ref it)) (fun r s1 => ∃ u, r = some u ∧
      wpAny (model P w) X.A (letOwnedTupleGo tg (.ref it) u) (fun _ s2 => ∃ x H', Inv X pins σ H' s2 ∧ RelV x u ∧ J.yld i H x H' ∧ tn (i + 1) s2.heap ∧ ∀ b ∈ fp, H' b = none) E s1) E s
  done : ∀ (X : Cx), X.prog = P → X.w = w → X.K = K → X.calm = true → ∀ (i : Nat) (pins : List (Addr × Obj)) (s : Shared) (σ : St) (H : Hp) (E : Value → Shared → Prop), Inv X pins σ H s → (∀ b ∈ fp, FpOk X pins H b) → tn i s.heap → J.stop i H →
    wpAny (model P w) X.A (pyNext (.ref it)) (fun r s1 => r = none ∧ Inv X pins σ H s1) E s
  self : ∀ (A : Around) (i : Nat) (s : Shared) (Q : Value → Shared → Prop) (E : Value → Shared → Prop), tn i s.heap → Q (.ref it) s → wpAny (model P w) A (pyIter (.ref it)) Q E s
abbrev TI := St → Hp → (It → Hp → Prop) → Prop
/-- an iterator has come -/
def PIE (X : Cx) (pins : List (Addr × Obj)) (σ : St) (tg : Expr) (R : It → Hp → Prop) (itv : Value) (s2 : Shared) : Prop :=
  ∃ (it : Addr) (fp : List Addr) (tn : Nat → Heap → Prop) (J : It) (H' : Hp), itv = .ref it ∧ Inv X pins σ H' s2 ∧ Turn X.prog X.w X.K tg J fp it tn ∧ tn 0 s2.heap ∧ (∀ b ∈ fp, FpOk X pins H' b) ∧ R J H'
def PI (X : Cx) (tg iter : Expr) (wi : TI) : Prop :=
  ∀ (pins : List (Addr × Obj)) (s : Shared) (σ : St) (H : Hp) (R : It → Hp → Prop), Inv X pins σ H s → wi σ H R →
    wpAny (model X.prog X.w) X.A (eval iter X.env) (fun v s1 => wpAny (model X.prog X.w) X.A (pyIter v) (PIE X pins σ tg R) X.xe s1) X.xe s
/-- the step ahead of the store is nothing for an iterator that keeps no tuple -/
theorem go_of {M : Model} {A : Around} {E : Value → Shared → Prop} {s : Shared} {tg : Expr} {it : Addr} {u : Value} {o : Obj} {n : String} {vs : Array Value} {Q : Unit → Shared → Prop} (ho : s.heap.get? it = some o) (hc : o.cls = .type n) (hd : o.data = .fields vs)
    (hn : ["enumerate", "zip", "dict_itemiterator", "dict_reverseitemiterator", "odict_iterator", "itertools.zip_longest", "itertools.pairwise"].contains n = false) (hQ : Q () s) : wpAny M A (letOwnedTupleGo tg (.ref it) u) Q E s := by
  unfold letOwnedTupleGo
  cases tg <;> first
    | exact wpAny_pure hQ
    | (cases u <;> first
        | exact wpAny_pure hQ
        | (refine wpAny_bind (wpAny_load ho ?_)
           rw [hc, hd]
           show wpAny M A (if (["enumerate", "zip", "dict_itemiterator", "dict_reverseitemiterator", "odict_iterator", "itertools.zip_longest", "itertools.pairwise"].contains n && vs[0]? == some (rawInt _)) = true then _ else _) Q E s
           rw [if_neg (by intro h; rw [hn, Bool.false_and] at h; cases h)]
           exact wpAny_pure hQ))
/-- the list at a, as it stands at each turn (a loop may append to it) -/
def Itl (K : PySem.W.Frag) (a : Addr) : It :=
  ⟨fun i H => ∃ xs x, SqL K H a xs ∧ xs[i]? = some x, fun i H x H' => H' = H ∧ ∀ xs, SqL K H a xs → xs[i]? = some x, fun i H => ∃ xs, SqL K H a xs ∧ xs.length ≤ i⟩
def Itt (K : PySem.W.Frag) (a : Addr) : It :=
  ⟨fun i H => ∃ xs x, SqT K H a xs ∧ xs[i]? = some x, fun i H x H' => H' = H ∧ ∀ xs, SqT K H a xs → xs[i]? = some x, fun i H => ∃ xs, SqT K H a xs ∧ xs.length ≤ i⟩
/-- lo, lo + 1, .. (n of them) -/
def Itr (lo : Int) (n : Nat) : It := ⟨fun i _ => i < n, fun i H x H' => H' = H ∧ x = .int (lo + i), fun i _ => n ≤ i⟩
theorem turn_list {P : Program} {w : World} {K : PySem.W.Frag} {tg : Expr} (a it : Addr) : Turn P w K tg (Itl K a) [it] it (fun i h => h.IsListIter it a i) where
  mem := by simp
  obj := fun i h st b hb => by
    have e : b = it := by simpa using hb
    subst e
    obtain ⟨o, e, c, d⟩ := st
    exact ⟨o, e, fun v z => by rw [d] at z; cases z⟩
  keep := fun i h h' st k => st.at fun o e => k it (by simp) o e
  item := by
    intro X hP hw hK hc i pins s σ H E I hf st hg
    subst hP hw hK
    obtain ⟨xs, x, hq, hx⟩ := hg
    obtain ⟨its, rv, p, hz⟩ := I.list hq
    obtain ⟨u, hu, ru⟩ := rv.get hx
    obtain ⟨f0, f1, f2, f3, f4, f5⟩ := hf it (by simp)
    refine wpAny_pyNext_list_item st p.isList (x := u) (by simpa using hu) fun h' st' sb => ?_
    have I1 : Inv X pins σ H { s with heap := h' } := I.turned (t' := s.toks) (fun b o hb e => (sb.2 b hb).trans e) f0 f1 f3 f4 f5
    obtain ⟨o, e, c, d⟩ := id st'
    exact ⟨u, rfl, go_of (s := { s with heap := h' }) e c d (by decide) ⟨x, H, I1, ru, ⟨rfl, fun ys hy => by rw [I.list_inj hy hq]; exact hx⟩, st', fun b hb => (hf b hb).1⟩⟩
  done := by
    intro X hP hw hK hc i pins s σ H E I hf st hg
    subst hP hw hK
    obtain ⟨xs, hq, hx⟩ := hg
    obtain ⟨its, rv, p, hz⟩ := I.list hq
    obtain ⟨f0, f1, f2, f3, f4, f5⟩ := hf it (by simp)
    have hl := rv.length
    exact wpAny_pyNext_list_end (I.ok.hd hc) st p.isList (by simp; omega) fun h' eb => ⟨rfl, I.turned (t' := s.toks) (fun b o hb e => eb b o hb e) f0 f1 f3 f4 f5⟩
  self := fun _ _ _ _ _ st h => wpAny_pyIter_listiter st h
theorem turn_tuple {P : Program} {w : World} {K : PySem.W.Frag} {tg : Expr} (a it : Addr) : Turn P w K tg (Itt K a) [it] it (fun i h => h.IsTupleIter it a i) where
  mem := by simp
  obj := fun i h st b hb => by
    have e : b = it := by simpa using hb
    subst e
    obtain ⟨o, e, c, d⟩ := st
    exact ⟨o, e, fun v z => by rw [d] at z; cases z⟩
  keep := fun i h h' st k => st.at fun o e => k it (by simp) o e
  item := by
    intro X hP hw hK hc i pins s σ H E I hf st hg
    subst hP hw hK
    obtain ⟨xs, x, hq, hx⟩ := hg
    obtain ⟨its, rv, p, hz⟩ := I.tuple hq
    obtain ⟨u, hu, ru⟩ := rv.get hx
    obtain ⟨f0, f1, f2, f3, f4, f5⟩ := hf it (by simp)
    refine wpAny_pyNext_tuple_item st (show s.heap.IsTuple a its.toArray from p) (x := u) (by simpa using hu) fun h' st' sb => ?_
    have I1 : Inv X pins σ H { s with heap := h' } := I.turned (t' := s.toks) (fun b o hb e => (sb.2 b hb).trans e) f0 f1 f3 f4 f5
    obtain ⟨o, e, c, d⟩ := id st'
    exact ⟨u, rfl, go_of (s := { s with heap := h' }) e c d (by decide) ⟨x, H, I1, ru, ⟨rfl, fun ys hy => by rw [I.tuple_inj hy hq]; exact hx⟩, st', fun b hb => (hf b hb).1⟩⟩
  done := by
    intro X hP hw hK hc i pins s σ H E I hf st hg
    subst hP hw hK
    obtain ⟨xs, hq, hx⟩ := hg
    obtain ⟨its, rv, p, hz⟩ := I.tuple hq
    obtain ⟨f0, f1, f2, f3, f4, f5⟩ := hf it (by simp)
    have hl := rv.length
    exact wpAny_pyNext_tuple_end (I.ok.hd hc) st (show s.heap.IsTuple a its.toArray from p) (by simp; omega) fun h' eb => ⟨rfl, I.turned (t' := s.toks) (fun b o hb e => eb b o hb e) f0 f1 f3 f4 f5⟩
  self := fun _ _ _ _ _ st h => wpAny_pyIter_tupleiter st h
theorem turn_range {P : Program} {w : World} {K : PySem.W.Frag} {tg : Expr} (it : Addr) (lo : Int) (n : Nat) : Turn P w K tg (Itr lo n) [it] it (fun i h => IsRangeIter h it (lo + (i : Nat) * 1) ((n : Int) - (i : Nat)) 1) where
  mem := by simp
  obj := fun i h st b hb => by
    have e : b = it := by simpa using hb
    subst e
    exact ⟨_, st, fun v z => by
      have z' : Data.fields _ = Data.cell v := z
      cases z'⟩
  keep := fun i h h' st k => k it (by simp) _ st
  item := by
    intro X hP hw hK hc i pins s σ H E I hf st hg
    subst hP hw hK
    obtain ⟨f0, f1, f2, f3, f4, f5⟩ := hf it (by simp)
    have W := Walks.range (prog := X.prog) (w := X.w) (I.ok.hd hc) it lo 1 n
    refine W.item i s _ _ hg st fun v h' tk hv st' kk => ?_
    obtain ⟨t, rfl⟩ := hv
    have I1 : Inv X pins σ H { s with heap := h', toks := tk } := I.turned (fun b o hb e => kk b o (by simpa using hb) e) f0 f1 f3 f4 f5
    refine ⟨_, rfl, go_of (s := { s with heap := h', toks := tk }) (n := "range_iterator") st' rfl rfl (by decide) ⟨.int (lo + i), H, I1, ⟨t, ?_⟩, ⟨rfl, rfl⟩, st', fun b hb => (hf b hb).1⟩⟩
    rw [Int.mul_one]
  done := by
    intro X hP hw hK hc i pins s σ H E I hf st hg
    subst hP hw hK
    obtain ⟨f0, f1, f2, f3, f4, f5⟩ := hf it (by simp)
    exact wpAny_pyNext_range_end (I.ok.hd hc) st (by have : n ≤ i := hg; omega) fun h' eb => ⟨rfl, I.turned (t' := s.toks) (fun b o hb e => eb b o hb e) f0 f1 f3 f4 f5⟩
  self := fun _ _ _ _ _ st h => wpAny_pyIter_rangeiter st h
end L2
namespace L2
open PySem PySem.Spec PyProof.Rows
section
variable {X : Cx} {tg : Expr}
/-- a range object just made, walked -/
theorem range_it {pins : List (Addr × Obj)} {σ : St} {H : Hp} {s : Shared} {R : It → Hp → Prop} {E : Value → Shared → Prop} {lo hi : Int} {t u v : Tok} {tk : Nat} (I : Inv X pins σ H s) (h1 : -(2 ^ 62) ≤ lo) (h2 : lo < 2 ^ 62) (h3 : -(2 ^ 62) ≤ hi) (h4 : hi < 2 ^ 62)
    (q : R (Itr lo (hi - lo).toNat) H) : wpAny (model X.prog X.w) X.A (pyIter (.ref s.heap.objs.size)) (PIE X pins σ tg R) E { s with heap := s.heap.push { cls := .type "range", data := .fields #[.int lo t, .int hi u, .int 1 v] }, toks := tk } := by
  refine wpAny_pyIter_range (IsRange.new ..) (small_one h1 h2 h3 h4) ?_
  have I1 : Inv X pins σ H { s with heap := s.heap.push { cls := .type "range", data := .fields #[.int lo t, .int hi u, .int 1 v] }, toks := tk } := I.kept fun b o e => Heap.get?_push_of_some _ e
  refine ⟨(s.heap.push { cls := .type "range", data := .fields #[.int lo t, .int hi u, .int 1 v] }).objs.size, [(s.heap.push { cls := .type "range", data := .fields #[.int lo t, .int hi u, .int 1 v] }).objs.size], _, _, H, rfl,
    I1.kept (t' := tk) fun b o e => Heap.get?_push_of_some _ e, turn_range _ lo (hi - lo).toNat, ?_, fun b hb => ?_, q⟩
  · have e1 : lo + ((0 : Nat) : Int) * 1 = lo := by simp
    have e2 : (((hi - lo).toNat : Nat) : Int) - ((0 : Nat) : Int) = Builtin.Range.rangeSize lo hi 1 := by rw [rangeSize_one]; split <;> omega
    show IsRangeIter _ _ (lo + ((0 : Nat) : Int) * 1) ((((hi - lo).toNat : Nat) : Int) - ((0 : Nat) : Int)) 1
    rw [e1, e2]
    exact Heap.get?_push_size _ rfl
  · have e : b = (s.heap.push { cls := .type "range", data := .fields #[.int lo t, .int hi u, .int 1 v] }).objs.size := by simpa using hb
    subst e
    exact I1.fpOk (Nat.le_refl _) (I1.hok.fresh (Nat.le_refl _))
def iRng1 (ta : TA) : TI := fun σ H R => ta σ H fun vs H1 => ∃ j : Int, vs = [.int j] ∧ -(2 ^ 62) ≤ j ∧ j < 2 ^ 62 ∧ R (Itr 0 j.toNat) H1
theorem pi_range1 {a : Expr} {ta : TA} {p pos : Pos} (hg : Gl X "range") (hm : X.mg "range" = none) (ha : PA X [a] ta) (hs : starEach [a] X.env = [(false, eval a X.env)] := by rfl) : PI X tg (.Call (.Name "range" p) [a] [] pos) (iRng1 ta) := by
  intro pins s σ H R I h
  refine Call_ (ld_blt I hg hm boot_range (PyProof.Rows.callWith_type1 (thn (ha pos pins s σ H _ I h) fun us s1 ⟨vs, H1, I1, r1, q1⟩ => ?_) hs rfl))
  obtain ⟨j, e, q1, q2, q⟩ := q1
  subst e
  cases r1 with
  | cons r rr =>
    cases rr
    obtain ⟨t, rfl⟩ := r
    exact call_range_1 (range_it I1 (by omega) (by omega) q1 q2 (by simpa using q))
/-! ### for -/
/-- W: the invariant by the turn and a measure; N: what the body is to reach -/
def tFor (wi : TI) (g : TG) (tb : TS) : TS := fun D σ H => wi σ H fun J H1 => ∃ W : Nat → Nat → St → Hp → Prop, (∃ m, W 0 m σ H1) ∧ ∀ i m σ H, W i m σ H →
  (J.stop i H ∧ D.nx σ H) ∨ (J.go i H ∧ ∃ N : St → Hp → Prop, (∀ σ' H', N σ' H' → ∃ m', m' < m ∧ W (i + 1) m' σ' H') ∧ ∀ x H', J.yld i H x H' → g x σ H' fun σ2 H2 => tb { D with nx := N, ct := N, bk := D.nx } σ2 H2)
/-- the records at fp as they stand -/
def pinsAt (fp : List Addr) (h : Heap) : List (Addr × Obj) := fp.filterMap fun b => (h.get? b).map fun o => (b, o)
theorem mem_pinsAt {fp : List Addr} {h : Heap} {b : Addr} {o : Obj} (hb : b ∈ fp) (e : h.get? b = some o) : (b, o) ∈ pinsAt fp h := List.mem_filterMap.mpr ⟨b, hb, by rw [e]; rfl⟩
theorem of_pinsAt {fp : List Addr} {h : Heap} {p : Addr × Obj} (hp : p ∈ pinsAt fp h) : p.1 ∈ fp ∧ h.get? p.1 = some p.2 := by
  obtain ⟨b, hb, e⟩ := List.mem_filterMap.mp hp
  cases q : h.get? b with
  | none => rw [q] at e; cases e
  | some o =>
    rw [q] at e
    have e' : (b, o) = p := Option.some.inj e
    subst e'
    exact ⟨hb, q⟩
theorem Inv.pinned {pins : List (Addr × Obj)} {σ : St} {H : Hp} {s : Shared} {fp : List Addr} (I : Inv X pins σ H s) (hf : ∀ b ∈ fp, FpOk X pins H b) (ho : ∀ b ∈ fp, ∃ o, s.heap.get? b = some o ∧ ∀ v, o.data ≠ .cell v) : Inv X (pins ++ pinsAt fp s.heap) σ H s :=
  I.pins_of fun p hp => (List.mem_append.mp hp).elim (fun z => I.pin p (List.mem_append_right _ z)) fun z => by
    obtain ⟨hb, e⟩ := of_pinsAt z
    obtain ⟨f0, f1, f2, _⟩ := hf p.1 hb
    obtain ⟨o, e', d⟩ := ho p.1 hb
    rw [e] at e'; cases e'
    exact ⟨e, f0, f1, f2, d⟩
theorem Inv.unpinned {pins pl : List (Addr × Obj)} {σ : St} {H : Hp} {s : Shared} (I : Inv X (pins ++ pl) σ H s) : Inv X pins σ H s := I.pins_of fun p hp => I.pin p (List.mem_append_right _ (List.mem_append_left _ hp))
theorem ps_for {iter : Expr} {body : List Stmt} {wi : TI} {g : TG} {tb : TS} {pos : Pos} (hp : PassesOwn (model X.prog X.w) X.A X.env X.xe) (hc : X.calm = true) (hi : PI X tg iter wi) (hg : PG X tg g) (hb : PSs X body tb)
    (hs : ∀ x, foldedSetIterable iter X.env x = pure x := by intro _; rfl) : PS X (.For tg iter body [] pos) (tFor wi g tb) := by
  intro pins s σ H D I h
  refine wpAny_For (thn (hi pins s σ H _ I h) fun v s1 h1 => thn h1 fun itv s2 h2 => ?_) hs
  obtain ⟨it, fp, tn, J, H2, e, I2, T, st2, f2, W, ⟨m0, w0⟩, turn⟩ := h2
  subst e
  -- what stays true of the iterator's objects through the loop
  have stat : ∀ {H' : Hp}, (∀ b ∈ fp, H' b = none) → ∀ b ∈ fp, FpOk X pins H' b := fun hn b hb => ⟨hn b hb, (f2 b hb).2⟩
  refine codeAny_forLoop_any (fun n s' => ∃ i σ' H', Inv X pins σ' H' s' ∧ tn i s'.heap ∧ (∀ b ∈ fp, H' b = none) ∧ W i n σ' H') ?_ m0 ⟨0, σ, H2, I2, st2, fun b hb => (f2 b hb).1, w0⟩
  rintro n s3 ⟨i, σ3, H3, I3, st3, fr3, w3⟩
  rcases turn i n σ3 H3 w3 with ⟨stop, qn⟩ | ⟨go, N, hN, step⟩
  · refine wpAny_passesOwn hp (thn (T.done X rfl rfl rfl hc i pins s3 σ3 H3 X.xe I3 (stat fr3) st3 stop) fun r s4 ⟨hr, I4⟩ => ?_)
    subst hr
    exact wpAny_execs_nil ⟨σ3, H3, I4, qn⟩
  · refine wpAny_passesOwn hp (thn (T.item X rfl rfl rfl hc i pins s3 σ3 H3 X.xe I3 (stat fr3) st3 go) fun r s4 ⟨u, hr, h4⟩ => ?_)
    subst hr
    refine wpAny_passesOwn hp (thn h4 fun _ s5 ⟨x, H5, I5, r5, y5, st5, fr5⟩ => ?_)
    have I5' := I5.pinned (stat fr5) (T.obj _ _ st5)
    refine wpAny_passesOwn hp (thn (hg _ s5 σ3 H5 x u _ I5' r5 (step x H5 y5)) fun _ s6 ⟨σ6, H6, I6, q6⟩ => ?_)
    refine wpAny_passesOwn hp (thn (hb _ s6 σ6 H6 _ I6 q6) fun f s7 q7 => ?_)
    have again : ∀ {σ7 : St} {H7 : Hp}, Inv X (pins ++ pinsAt fp s5.heap) σ7 H7 s7 → N σ7 H7 → ∃ m, m < n ∧ ∃ i σ' H', Inv X pins σ' H' s7 ∧ tn i s7.heap ∧ (∀ b ∈ fp, H' b = none) ∧ W i m σ' H' := fun {σ7 H7} I7 n7 => by
      obtain ⟨m', hm, w7⟩ := hN σ7 H7 n7
      refine ⟨m', hm, i + 1, σ7, H7, I7.unpinned, T.keep _ _ _ st5 fun b hb o e => (I7.pin (b, o) (List.mem_append_right _ (List.mem_append_right _ (mem_pinsAt hb e)))).1, fun b hb => ?_, w7⟩
      obtain ⟨o, e, d⟩ := T.obj _ _ st5 b hb
      exact (I7.pin (b, o) (List.mem_append_right _ (List.mem_append_right _ (mem_pinsAt hb e)))).2.1
    cases f with
    | next => obtain ⟨σ7, H7, I7, n7⟩ := q7; exact again I7 n7
    | cont => obtain ⟨σ7, H7, I7, n7⟩ := q7; exact again I7 n7
    | brk => obtain ⟨σ7, H7, I7, q7⟩ := q7; exact ⟨σ7, H7, I7.unpinned, q7⟩
    | ret v => obtain ⟨x7, σ7, H7, I7, r7, q7⟩ := q7; exact ⟨x7, σ7, H7, I7.unpinned, r7, q7⟩
end
/-! ### the forms one uses -/
end L2
namespace L2
open PySem PySem.Spec PyProof.Rows
abbrev R2 := V → V → Hp → VK → Prop
/-- a two-place operation on values: f is binaryOp op, inplaceOp op or compareOp op -/
def OpR (X : Cx) (f : Value → Value → Sem Value) (r : R2) : Prop :=
  ∀ (pins : List (Addr × Obj)) (s : Shared) (σ : St) (H : Hp) (x y : V) (v u : Value) (Q : VK), Inv X pins σ H s → RelV x v → RelV y u → r x y H Q →
    wpAny (model X.prog X.w) X.A (f v u) (EP X pins σ Q) X.xe s
/-- a one-place operation -/
def UnR (X : Cx) (f : Value → Sem Value) (r : V → Hp → VK → Prop) : Prop :=
  ∀ (pins : List (Addr × Obj)) (s : Shared) (σ : St) (H : Hp) (x : V) (v : Value) (Q : VK), Inv X pins σ H s → RelV x v → r x H Q →
    wpAny (model X.prog X.w) X.A (f v) (EP X pins σ Q) X.xe s
/-- a call of a value that is known (a builtin, a type) with values -/
def CallR (X : Cx) (f : Value) (r : List V → Hp → VK → Prop) : Prop :=
  ∀ (pins : List (Addr × Obj)) (s : Shared) (σ : St) (H : Hp) (xs : List V) (us : List Value) (Q : VK), Inv X pins σ H s → Vals xs us → r xs H Q →
    wpAny (model X.prog X.w) X.A (call f us) (EP X pins σ Q) X.xe s
/-- a value's truth -/
def TruR (X : Cx) (r : V → Hp → (Bool → Hp → Prop) → Prop) : Prop :=
  ∀ (pins : List (Addr × Obj)) (s : Shared) (σ : St) (H : Hp) (x : V) (v : Value) (Q : Bool → Hp → Prop), Inv X pins σ H s → RelV x v → r x H Q →
    wpAny (model X.prog X.w) X.A (truthy v) (TP X pins σ Q) X.xe s
def tOp (r : R2) (ta tb : TE) : TE := fun σ H Q => ta σ H fun x H1 => tb σ H1 fun y H2 => r x y H2 Q
def tUn (r : V → Hp → VK → Prop) (ta : TE) : TE := fun σ H Q => ta σ H fun x H1 => r x H1 Q
/-- ints in, under C, and a value out -/
def rI (C : Int → Int → Prop) (g : Int → Int → V) : R2 := fun x y H Q => ∃ i j, x = .int i ∧ y = .int j ∧ C i j ∧ Q (g i j) H
def rI0 (g : Int → Int → V) : R2 := fun x y H Q => ∃ i j, x = .int i ∧ y = .int j ∧ Q (g i j) H
def rU (g : Int → V) : V → Hp → VK → Prop := fun x H Q => ∃ i, x = .int i ∧ Q (g i) H
section
variable {X : Cx} {a b c : Expr} {ta tb tc : TE} {pos : Pos}
theorem binT (ha : PE X a ta) (hb : PE X b tb) {pins : List (Addr × Obj)} {s : Shared} {σ : St} {H : Hp} {R : V → V → Hp → Prop} (I : Inv X pins σ H s)
    (h : ta σ H fun x H1 => tb σ H1 fun y H2 => R x y H2) {Q : Value → Shared → Prop} {f : Value → Value → Sem Value}
    (hf : ∀ v u s2 x y H2, Inv X pins σ H2 s2 → RelV x v → RelV y u → R x y H2 → wpAny (model X.prog X.w) X.A (f v u) Q X.xe s2) :
    wpAny (model X.prog X.w) X.A (eval a X.env) (fun v s₁ => wpAny (model X.prog X.w) X.A (eval b X.env) (fun u s₂ => wpAny (model X.prog X.w) X.A (f v u) Q X.xe s₂) X.xe s₁) X.xe s := by
  refine thn (ha pins s σ H _ I h) fun v s1 ⟨x, H1, I1, r1, q1⟩ => ?_
  refine thn (hb pins s1 σ H1 _ I1 q1) fun u s2 ⟨y, H2, I2, r2, q2⟩ => ?_
  exact hf v u s2 x y H2 I2 r1 r2 q2
theorem pe_op {op : Operator} {r : R2} (ho : OpR X (binaryOp op) r) (ha : PE X a ta) (hb : PE X b tb) : PE X (.BinOp a op b pos) (tOp r ta tb) := by
  intro pins s σ H Q I h
  exact wpAny_BinOp (binT ha hb I h fun v u s2 x y H2 I2 rx ry q => ho pins s2 σ H2 x y v u Q I2 rx ry q)
theorem pe_un {op : UnaryOp} {r : V → Hp → VK → Prop} (ho : UnR X (unaryOp op) r) (ha : PE X a ta) : PE X (.UnaryOp op a pos) (tUn r ta) := by
  intro pins s σ H Q I h
  exact UnaryOp_ (thn (ha pins s σ H _ I h) fun v s1 ⟨x, H1, I1, r1, q1⟩ => ho pins s1 σ H1 x v Q I1 r1 q1)
/-! ### ints -/
theorem opI {f : Value → Value → Sem Value} {C : Int → Int → Prop} {g : Int → Int → Int}
    (rule : ∀ (i j : Int) (t u : Tok) (s : Shared) (Q : Value → Shared → Prop) (E : Value → Shared → Prop), C i j → Q (.int (g i j) s.toks) { s with toks := s.toks + 1 } → wpAny (model X.prog X.w) X.A (f (.int i t) (.int j u)) Q E s) :
    OpR X f (rI C fun i j => .int (g i j)) := by
  intro pins s σ H x y v u Q I rx ry h
  obtain ⟨i, j, rfl, rfl, hc, q⟩ := h
  obtain ⟨t, rfl⟩ := rx
  obtain ⟨t', rfl⟩ := ry
  exact rule i j t t' s _ _ hc ⟨.int (g i j), H, I.tok _, ⟨_, rfl⟩, q⟩
theorem opI0 {f : Value → Value → Sem Value} {g : Int → Int → Int}
    (rule : ∀ (i j : Int) (t u : Tok) (s : Shared) (Q : Value → Shared → Prop) (E : Value → Shared → Prop), Q (.int (g i j) s.toks) { s with toks := s.toks + 1 } → wpAny (model X.prog X.w) X.A (f (.int i t) (.int j u)) Q E s) :
    OpR X f (rI0 fun i j => .int (g i j)) := by
  intro pins s σ H x y v u Q I rx ry h
  obtain ⟨i, j, rfl, rfl, q⟩ := h
  obtain ⟨t, rfl⟩ := rx
  obtain ⟨t', rfl⟩ := ry
  exact rule i j t t' s _ _ ⟨.int (g i j), H, I.tok _, ⟨_, rfl⟩, q⟩
theorem opB0 {f : Value → Value → Sem Value} {g : Int → Int → Bool}
    (rule : ∀ (i j : Int) (t u : Tok) (s : Shared) (Q : Value → Shared → Prop) (E : Value → Shared → Prop), Q (.bool (g i j)) s → wpAny (model X.prog X.w) X.A (f (.int i t) (.int j u)) Q E s) :
    OpR X f (rI0 fun i j => .bl (g i j)) := by
  intro pins s σ H x y v u Q I rx ry h
  obtain ⟨i, j, rfl, rfl, q⟩ := h
  obtain ⟨t, rfl⟩ := rx
  obtain ⟨t', rfl⟩ := ry
  exact rule i j t t' s _ _ ⟨.bl (g i j), H, I, rfl, q⟩
def CDiv (i j : Int) : Prop := 0 < j ∧ j < 1073741824
def CPow (i j : Int) : Prop := 0 ≤ j ∧ j ≤ 1000000 ∧ i.natAbs < 2 ^ 64
def CMul (i j : Int) : Prop := (-(2 ^ 64) < i ∧ i < 2 ^ 64) ∨ (-(2 ^ 64) < j ∧ j < 2 ^ 64)
theorem CMul.ok {i j : Int} (h : CMul i j) : IntMulOk i j := by
  rcases h with ⟨h1, h2⟩ | ⟨h1, h2⟩
  · exact .of_left (intBits_le_64 h1 h2)
  · exact .of_right (intBits_le_64 h1 h2)
theorem op_add : OpR X (binaryOp .Add) (rI0 fun i j => .int (i + j)) := opI0 fun _ _ _ _ _ _ _ q => add_int q
theorem op_sub : OpR X (binaryOp .Sub) (rI0 fun i j => .int (i - j)) := opI0 fun _ _ _ _ _ _ _ q => sub_int q
theorem op_mul : OpR X (binaryOp .Mult) (rI CMul fun i j => .int (i * j)) := opI fun _ _ _ _ _ _ _ hc q => mul_int q hc.ok
/-- // by a positive divisor -/
theorem op_fdiv : OpR X (binaryOp .FloorDiv) (rI CDiv fun i j => .int (i / j)) := opI fun i j _ _ _ _ _ hc q => by
  have h1 : (0 : Int) < j := hc.1
  have h2 : j < 1073741824 := hc.2
  exact floordiv_int (by omega) (by rw [Int.fdiv_eq_ediv_of_nonneg i (by omega)]; exact q) (.inl (PyProof.noPylong_small (by omega)))
/-- % by a positive divisor of any size -/
theorem op_mod : OpR X (binaryOp .Mod) (rI (fun _ j => 0 < j) fun i j => .int (i % j)) := opI fun i j _ _ _ _ _ hc q => by
  have h1 : (0 : Int) < j := hc
  exact mod_int' (by omega) (by rw [Int.fmod_eq_emod_of_nonneg i (by omega)]; exact q)
theorem op_pow : OpR X (binaryOp .Pow) (rI CPow fun i j => .int (i ^ j.toNat)) := opI fun _ _ _ _ _ _ _ hc q => pow_int_small hc.1 hc.2.1 hc.2.2 q
theorem unI {f : Value → Sem Value} {g : Int → Int}
    (rule : ∀ (i : Int) (t : Tok) (s : Shared) (Q : Value → Shared → Prop) (E : Value → Shared → Prop), Q (.int (g i) s.toks) { s with toks := s.toks + 1 } → wpAny (model X.prog X.w) X.A (f (.int i t)) Q E s) :
    UnR X f (rU fun i => .int (g i)) := by
  intro pins s σ H x v Q I rx h
  obtain ⟨i, rfl, q⟩ := h
  obtain ⟨t, rfl⟩ := rx
  exact rule i t s _ _ ⟨.int (g i), H, I.tok _, ⟨_, rfl⟩, q⟩
theorem un_neg : UnR X (unaryOp .USub) (rU fun i => .int (-i)) := unI fun _ _ _ _ _ q => neg_int q
/-! ### bools among ints: n += (a < b) -/
end
/-! ### comparisons -/
/-- the scalars that == tells apart as data does -/
def scal : V → V → Bool
  | .non, .non => true | .non, .int _ => true | .int _, .non => true | .non, .bl _ => true | .bl _, .non => true | .non, .str _ => true | .str _, .non => true
  | .int _, .int _ => true | .bl _, .bl _ => true | .str _, .str _ => true | .byt _, .byt _ => true
  | .int _, .str _ => true | .str _, .int _ => true | .bl _, .str _ => true | .str _, .bl _ => true
  | _, _ => false
section
variable {X : Cx} {a b c : Expr} {ta tb tc : TE} {pos : Pos}
theorem fin_bl {pins : List (Addr × Obj)} {σ : St} {H : Hp} {s : Shared} {Q : VK} {k k' : Bool} (I : Inv X pins σ H s) (q : Q (.bl k) H) (e : k = k') : EP X pins σ Q (.bool k') s := by
  subst e
  exact ⟨.bl k, H, I, rfl, q⟩
theorem op_lt : OpR X (compareOp .Lt) (rI0 fun i j => .bl (decide (i < j))) := opB0 fun _ _ _ _ _ _ _ q => lt_int q
theorem op_gt : OpR X (compareOp .Gt) (rI0 fun i j => .bl (decide (j < i))) := opB0 fun _ _ _ _ _ _ _ q => gt_int q
theorem op_lt_str : OpR X (compareOp .Lt) (fun x y H Q => ∃ i j, x = .str i ∧ y = .str j ∧ Q (.bl (decide (i.cps.toList < j.cps.toList))) H) := by
  intro pins s σ H x y v u Q I rx ry h
  obtain ⟨i, j, rfl, rfl, q⟩ := h
  obtain ⟨t, rfl⟩ := rx
  obtain ⟨t', rfl⟩ := ry
  exact lt_str (fin_bl I q rfl)
/-- is, is not of two objects that are tracked lists or instances -/
def isObj : HO → Bool
  | .lst _ => true
  | .ins _ _ _ => true
  | _ => false
/-- two rules for one operation: by cases -/
theorem OpR.or {f : Value → Value → Sem Value} {r r' : R2} (h : OpR X f r) (h' : OpR X f r') : OpR X f (fun x y H Q => r x y H Q ∨ r' x y H Q) := by
  intro pins s σ H x y v u Q I rx ry q
  rcases q with q | q
  · exact h pins s σ H x y v u Q I rx ry q
  · exact h' pins s σ H x y v u Q I rx ry q
theorem nomark (b : Expr) {op : CmpOp} (h : op ≠ .In := by decide) (h2 : op ≠ .NotIn := by decide) : behindInMarks op b = false := by
  have e1 : (op == CmpOp.In) = false := by cases op <;> first | rfl | exact absurd rfl h
  have e2 : (op == CmpOp.NotIn) = false := by cases op <;> first | rfl | exact absurd rfl h2
  cases b <;> simp [behindInMarks, e1, e2]
/-- a comparison as a value; hm: nomark b, or (for in, not in) by with_unfolding_all rfl -/
theorem pe_cmpR {op : CmpOp} {r : R2} (ho : OpR X (compareOp op) r) (ha : PE X a ta) (hb : PE X b tb) (hm : behindInMarks op b = false) : PE X (.Compare a [op] [b] pos) (tOp r ta tb) := by
  intro pins s σ H Q I h
  exact wpAny_Compare1 (binT ha hb I h fun v u s2 x y H2 I2 rx ry q => ho pins s2 σ H2 x y v u Q I2 rx ry q) hm
/-- a reading of a value as a test -/
def tTest (t : TE) : TT := fun σ H Q => t σ H fun x H' => ∃ k, x = .bl k ∧ Q k H'
theorem pt_cmpR {op : CmpOp} {r : R2} (ho : OpR X (compareOp op) r) (ha : PE X a ta) (hb : PE X b tb) (hm : behindInMarks op b = false) : PT X (.Compare a [op] [b] pos) (tTest (tOp r ta tb)) := by
  intro pins s σ H Q I h
  refine wpAny_isTrue_Compare1 (thn (ha pins s σ H _ I h) fun v s1 ⟨x, H1, I1, r1, q1⟩ => thn (hb pins s1 σ H1 _ I1 q1) fun u s2 ⟨y, H2, I2, r2, q2⟩ =>
    thn (ho pins s2 σ H2 x y v u _ I2 r1 r2 q2) fun c s3 ⟨z, H3, I3, r3, k, e, q3⟩ => ?_) hm
  subst e
  cases r3
  exact wpAny_truthy_bool ⟨H3, I3, q3⟩
/-- a op1 b op2 c -/
def tChain (r r' : R2) (ta tb tc : TE) : TE := fun σ H Q => ta σ H fun x H1 => tb σ H1 fun y H2 => r x y H2 fun z H3 => ∃ k, z = .bl k ∧
  (if k = true then tc σ H3 fun w' H4 => r' y w' H4 Q else Q (.bl false) H3)
/-! ### truth -/
/-- a value's truth by the abstract heap -/
def TruV (K : PySem.W.Frag) (x : V) (H : Hp) (k : Bool) : Prop :=
  match x with
  | .non => k = false
  | .bl b => k = b
  | .int i => k = (i != 0)
  | .str y => y.length ≤ sizeLine ∧ k = ((y.length : Int) != 0)
  | .byt y => y.size ≤ sizeLine ∧ k = ((y.size : Int) != 0)
  | .ref p => (∃ xs, SqL K H p xs ∧ k = !xs.isEmpty) ∨ (∃ xs, SqT K H p xs ∧ k = !xs.isEmpty) ∨ ∃ kvs, H p = some (.dK kvs) ∧ k = !kvs.isEmpty
  | _ => False
theorem isEmpty_kv {κ : Type} {kvs : List (κ × V)} {vs : List (κ × Value)} (r : KV kvs vs) : (!vs.isEmpty) = !kvs.isEmpty := by
  cases r <;> rfl
theorem isEmpty_of {xs : List V} {its : List Value} (r : Vals xs its) : (!its.toArray.isEmpty) = !xs.isEmpty := by
  cases r <;> simp
theorem line63 : (sizeLine : Nat) < 2 ^ 63 := by rw [sizeLine_eq]; decide
theorem tru_ok : TruR X (fun x H Q => ∃ k, TruV X.K x H k ∧ Q k H) := by
  intro pins s σ H x v Q I rx h
  obtain ⟨k, e, q⟩ := h
  have hl := line63
  have hs : sizeLine = 16777216 := sizeLine_eq
  cases x with
  | non =>
    cases rx
    have e' : k = false := e
    subst e'
    exact truthy_none ⟨H, I, q⟩
  | bl b =>
    cases rx
    have e' : k = b := e
    subst e'
    exact wpAny_truthy_bool ⟨H, I, q⟩
  | int i =>
    obtain ⟨t, rfl⟩ := rx
    have e' : k = (i != 0) := e
    subst e'
    exact PySem.P.truthy_int ⟨H, I, q⟩
  | str y =>
    obtain ⟨t, rfl⟩ := rx
    obtain ⟨hy, e'⟩ : y.length ≤ sizeLine ∧ k = ((y.length : Int) != 0) := e
    subst e'
    exact PySem.P.truthy_str (by omega) ⟨H, I.tok _, q⟩
  | byt y =>
    obtain ⟨t, rfl⟩ := rx
    obtain ⟨hy, e'⟩ : y.size ≤ sizeLine ∧ k = ((y.size : Int) != 0) := e
    subst e'
    exact PySem.W.truthy_bytes (by omega) ⟨H, I.tok _, q⟩
  | ref p =>
    cases rx
    have e' : (∃ xs, SqL X.K H p xs ∧ k = !xs.isEmpty) ∨ (∃ xs, SqT X.K H p xs ∧ k = !xs.isEmpty) ∨ ∃ kvs, H p = some (.dK kvs) ∧ k = !kvs.isEmpty := e
    rcases e' with ⟨xs, hx, e'⟩ | ⟨xs, hx, e'⟩ | ⟨kvs, hx, e'⟩
    · subst e'
      obtain ⟨its, r, pl, hz⟩ := I.list hx
      have hlen := r.length
      exact wpAny_truthy_list pl.isList (by simp only [List.size_toArray]; omega) ⟨H, I.tok _, by rw [isEmpty_of r]; exact q⟩
    · subst e'
      obtain ⟨its, r, pl, hz⟩ := I.tuple hx
      have hlen := r.length
      exact truthy_tuple pl (by simp only [List.size_toArray]; omega) ⟨H, I.tok _, by rw [isEmpty_of r]; exact q⟩
    · subst e'
      obtain ⟨hz, hS, vs, r, m⟩ : kvs.length ≤ sizeLine ∧ (p == sysModules) = false ∧ ∃ vs, KV kvs vs ∧ s.heap.DictOf (mixKind X.prog X.w) p vs := I.hok p _ hx
      have hlen : kvs.length = vs.length := Paired.length r
      exact wpAny_truthy_dict hS m (by omega) ⟨H, I.tok _, by rw [isEmpty_kv r]; exact q⟩
  | _ => exact (show False from e).elim
/-- any expression whose test is its value's truth (a name, a call, a subscript, a field ..: he by fun _ => rfl) -/
theorem pt_truth (ha : PE X a ta) (he : ∀ whole, isTrue a X.env whole = (do let v ← whole; standAt a.pos; holding [v] (truthy v))) :
    PT X a (fun σ H Q => ta σ H fun x H' => ∃ k, TruV X.K x H' k ∧ Q k H') := by
  intro pins s σ H Q I h
  exact isTrue_plain (thn (ha pins s σ H _ I h) fun v s1 ⟨x, H1, I1, r1, q1⟩ => tru_ok pins s1 σ H1 x v Q I1 r1 q1) (he _)
/-! ### strs and bytes -/
theorem op_add_str : OpR X (binaryOp .Add) (fun x y H Q => ∃ i j, x = .str i ∧ y = .str j ∧ i.length + j.length ≤ sizeLine ∧ Q (.str (i ++ j)) H) := by
  intro pins s σ H x y v u Q I rx ry h
  obtain ⟨i, j, rfl, rfl, hz, q⟩ := h
  obtain ⟨t, rfl⟩ := rx
  obtain ⟨t', rfl⟩ := ry
  exact add_str (fun t' tk => ⟨.str (i ++ j), H, I.tok _, ⟨_, rfl⟩, q⟩) hz
/-! ### scalar builtins, by CallR -/
theorem vals1 {x : V} {us : List Value} (r : Vals [x] us) : ∃ u, us = [u] ∧ RelV x u := by
  cases r with
  | cons r1 r2 => cases r2; exact ⟨_, rfl, r1⟩
theorem call_str_int : CallR X (.type "str") (fun xs H Q => ∃ i, xs = [.int i] ∧ i.natAbs.log2 < 1920 ∧ Q (.str (toString i)) H) := by
  intro pins s σ H xs us Q I r h
  obtain ⟨i, rfl, hz, q⟩ := h
  obtain ⟨u, rfl, t, rfl⟩ := vals1 r
  exact PySem.P.str_of_int hz ⟨.str _, H, I.tok _, ⟨_, rfl⟩, q⟩
/-- len of a str, a bytes, a list, a tuple -/
def LenV (K : PySem.W.Frag) (x : V) (H : Hp) (n : Nat) : Prop :=
  match x with
  | .str y => y.length ≤ sizeLine ∧ n = y.length
  | .byt y => y.size ≤ sizeLine ∧ n = y.size
  | .ref p => (∃ xs, SqL K H p xs ∧ n = xs.length) ∨ ∃ xs, SqT K H p xs ∧ n = xs.length
  | _ => False
end
end L2
namespace L2
open PySem PySem.Spec PyProof.Rows
/-! ### an instance, its attributes a map -/
structure ObjM (h : Heap) (x dx C : Addr) (mA : Str → Option Value) : Prop where
  obj : h.get? x = some (PySem.W.instObj C dx)
  ns : h.Ns1 dx mA
  ne : dx ≠ x
theorem lookIn_ns {h : Heap} {dx : Addr} {mA : Str → Option Value} (n : h.Ns1 dx mA) : ∃ od, h.get? dx = some od ∧ ∀ name, PySem.W.lookIn name od = some (mA name) := by
  obtain ⟨o, es, ep, ho, hd, hk, _, hm⟩ := n
  refine ⟨o, ho, fun name => ?_⟩
  have e := hm name
  unfold nsFind findBy at e
  rw [← Array.find?_toList] at e
  unfold PySem.W.lookIn
  rw [hd]
  dsimp only
  split
  · rename_i y q
    rw [q] at e
    exact congrArg some e
  · rename_i q
    rw [q] at e
    have a : es.toList.any (·.refKey) = false := by
      rw [List.any_eq_false]
      intro y hy
      obtain ⟨z, t, hkey⟩ := hk y (Array.mem_toList_iff.mp hy)
      simp [DictEntry.refKey, hkey]
    have a' : ¬ es.toList.any (·.refKey) = true := by rw [a]; exact Bool.false_ne_true
    rw [if_neg a']
    exact congrArg some e
theorem ObjM.look {h : Heap} {x dx C : Addr} {mA : Str → Option Value} (I : ObjM h x dx C mA) : ∃ od, PySem.W.InstAt h x (PySem.W.instObj C dx) C (some od) ∧ ∀ name, PySem.W.lookIn name od = some (mA name) :=
  let ⟨od, ho, hl⟩ := lookIn_ns I.ns
  ⟨od, ⟨I.obj, rfl, rfl, ho⟩, hl⟩
section
variable {prog : Program} {w : World} {A : Around} {E : Value → Shared → Prop} {s : Shared} {K : PySem.W.Frag} {x dx C f : Addr} {mA : Str → Option Value} {name : Str} {v : Value}
theorem get_map {expr : Bool} {Q : Value → Shared → Prop} (X : K.In s.heap) (I : ObjM s.heap x dx C mA) (hg : PySem.W.plainGet K C name = true) (hh : PySem.W.hasDictIn K C = true)
    (ha : PySem.W.findIn K (.ref C) name = some none) (hv : mA name = some v) (hv' : PySem.W.handedIn v = true) (h : Q v { s with toks := s.toks + 1 }) :
    wpAny (model prog w) A (getAttr (.ref x) name expr) Q E s := by
  obtain ⟨od, J, hl⟩ := I.look
  exact PySem.W.get_value X J (PySem.W.plainGet_of hg).1 (PySem.W.findObj_own hh ha rfl (by rw [hl, hv])) hv' h
theorem get_meth {pl : Sem Bool} {Q : Value × List Value → Shared → Prop} (X : K.In s.heap) (I : ObjM s.heap x dx C mA) (hg : PySem.W.plainGet K C name = true)
    (hf : PySem.W.findIn K (.ref C) name = some (some (.ref f))) (ht : PySem.W.isFn K (.ref f) = true) (hv : mA name = none) (h : Q (.ref f, [.ref x]) s) :
    wpAny (model prog w) A (getMethod (.ref x) name pl) Q E s := by
  obtain ⟨od, J, hl⟩ := I.look
  exact PySem.W.method_fn X J (PySem.W.plainGet_of hg).1 (PySem.W.plainGet_of hg).2 hf (beq_iff_eq.mp ht) (by show (PySem.W.lookIn name od).map (·.isSome) = some false; rw [hl, hv]; rfl) h
theorem set_map {ns : List Str} {Q : Unit → Shared → Prop} (X : K.In s.heap) (I : ObjM s.heap x dx C mA)
    (hs : PySem.W.findIn K (.ref C) "__setattr__" = some (some (.builtin "object.__setattr__"))) (hp : PySem.W.plainOver K C = true) (ht : PySem.W.takerIn K C name = some none) (hh : PySem.W.hasDictIn K C = true)
    (hw : PySem.Within mA ns) (hsz : ns.length ≤ sizeLine)
    (h : ∀ h', ObjM h' x dx C (fun y => if y = name then some v else mA y) → Heap.SameBut dx s.heap h' → Q () { s with heap := h', toks := s.toks + 2 }) :
    wpAny (model prog w) A (setAttr (.ref x) name v) Q E s := by
  obtain ⟨od, J, hl⟩ := I.look
  refine PySem.W.set_plain X J hs (PySem.W.osa_open (s := { s with toks := s.toks + 1 }) (r := none) X J hp ht fun b => ?_)
  obtain ⟨cd, hc, hd'⟩ := PySem.W.any_some hh
  have hx : s.heap.get? x = some ⟨.ref C, some dx, .plain, #[]⟩ := I.obj
  refine wpAny_bind (wpAny_pure (wpAny_bind (wpAny_bind (wpAny_loadPart hx (wpAny_bind (PySem.W.Looks.here (s := { s with toks := s.toks + 1 }) (PySem.W.looks_clsIn X hc) ?_))))))
  rw [hd']
  refine wpAny_pure (a := some dx) (wpAny_bind (wpAny_pure (wpAny_bind ?_)))
  refine wpAny_nsSet1 (s := { s with toks := s.toks + 1 }) I.ns fun h' hn2 hs2 => ?_
  obtain ⟨oD, esD, epD, hoD, hdD, hcD⟩ := hn2.count (PySem.Within.cons name v hw)
  refine wpAny_bind (wpAny_lookBehind hoD (by rw [hdD]; exact pastItsLine_dict (Nat.le_trans hcD (by rw [List.length_cons]; omega))) ?_)
  exact wpAny_pure (h _ ⟨(hs2.2 _ (Ne.symm I.ne)).trans I.obj, hn2, I.ne⟩ hs2)
/-- C(..): the dict at the heap's end, the instance behind it; then its __init__ -/
theorem make_map {R : Result → Shared → Prop} {vs : List Value} {kw : List (Str × Value)} (X : K.In s.heap) (hm : PySem.W.makesIn K C = true)
    (hi : PySem.W.findIn K (.ref C) "__init__" = some (some (.ref f))) (hf : PySem.W.typeIn K (.ref f) = some (.type "function"))
    (h : codeAny (model prog w) (A.under (.builtin "type.__call__" ⟨.ref C :: vs, kw⟩)) (.call (.ref f) ⟨.ref (s.heap.objs.size + 1) :: vs, kw⟩) (PySem.W.InitBack (s.heap.objs.size + 1) R)
      { s with heap := (s.heap.push PySem.W.emptyDict).push (PySem.W.instObj C s.heap.objs.size) }) :
    codeAny (model prog w) A (.call (.ref C) ⟨vs, kw⟩) R s := by
  obtain ⟨hh, g, d, t, os⟩ := s
  exact PySem.W.make_core (PySem.W.makes_of X hm) (PySem.W.looks_findIn X hi) (fun self => PySem.W.bind_fn X self hf) (.inl rfl) h
/-- C() where there is no __init__ but object's -/
theorem make_map0 {R : Result → Shared → Prop} (X : K.In s.heap) (hm : PySem.W.makesIn K C = true)
    (hi : PySem.W.findIn K (.ref C) "__init__" = some (some (.builtin "object.__init__")))
    (hb : ∀ self, PySem.W.Looks (model prog w) s.heap (bindSpecial (.builtin "object.__init__") self) (.builtin "object.__init__", [self]))
    (h : codeAny (model prog w) (A.under (.builtin "type.__call__" ⟨[.ref C], []⟩)) (.call (.builtin "object.__init__") ⟨[.ref (s.heap.objs.size + 1)], []⟩) (PySem.W.InitBack (s.heap.objs.size + 1) R)
      { s with heap := (s.heap.push PySem.W.emptyDict).push (PySem.W.instObj C s.heap.objs.size) }) :
    codeAny (model prog w) A (.call (.ref C) ⟨[], []⟩) R s := by
  obtain ⟨hh, g, d, t, os⟩ := s
  exact PySem.W.make_core (PySem.W.makes_of X hm) (PySem.W.looks_findIn X hi) hb (.inr ⟨rfl, rfl⟩) h
end
/-! ### the attributes as a list of pairs -/
def putF (f : Str) (v : V) : List (Str × V) → List (Str × V)
  | [] => [(f, v)]
  | (g, x) :: r => if g = f then (g, v) :: r else (g, x) :: putF f v r
theorem lookup_putF (f g : Str) (v : V) : ∀ fs : List (Str × V), (putF f v fs).lookup g = if g = f then some v else fs.lookup g
  | [] => by
    show List.lookup g [(f, v)] = _
    by_cases h : g = f
    · have hb : (g == f) = true := beq_iff_eq.mpr h
      simp only [List.lookup, hb, if_pos h]
    · have hb : (g == f) = false := beq_eq_false_iff_ne.mpr h
      simp only [List.lookup, hb, if_neg h]
  | (k, x) :: r => by
    have ih := lookup_putF f g v r
    rw [show putF f v ((k, x) :: r) = (if k = f then (k, v) :: r else (k, x) :: putF f v r) from rfl]
    by_cases hk : k = f
    · rw [if_pos hk]
      by_cases h : g = k
      · have hb : (g == k) = true := beq_iff_eq.mpr h
        simp only [List.lookup, hb, if_pos (h.trans hk)]
      · have hb : (g == k) = false := beq_eq_false_iff_ne.mpr h
        simp only [List.lookup, hb, if_neg (fun e : g = f => h (e.trans hk.symm))]
    · rw [if_neg hk]
      by_cases h : g = k
      · have hb : (g == k) = true := beq_iff_eq.mpr h
        simp only [List.lookup, hb, if_neg (fun e : g = f => hk (h.symm.trans e))]
      · have hb : (g == k) = false := beq_eq_false_iff_ne.mpr h
        simp only [List.lookup, hb]
        exact ih
theorem keys_putF (f : Str) (v : V) : ∀ fs : List (Str × V), f ∈ (putF f v fs).map (·.1) ∧ ∀ g, g ∈ fs.map (·.1) → g ∈ (putF f v fs).map (·.1)
  | [] => ⟨by simp [putF], fun g h => by simp at h⟩
  | (k, x) :: r => by
    obtain ⟨i1, i2⟩ := keys_putF f v r
    rw [show putF f v ((k, x) :: r) = (if k = f then (k, v) :: r else (k, x) :: putF f v r) from rfl]
    by_cases hk : k = f
    · rw [if_pos hk]
      subst hk
      exact ⟨by simp, fun g h => by simpa using h⟩
    · rw [if_neg hk]
      refine ⟨?_, fun g h => ?_⟩
      · rw [List.map_cons]
        exact List.mem_cons_of_mem _ i1
      · rw [List.map_cons] at h ⊢
        rcases List.mem_cons.mp h with e | e
        · exact List.mem_cons.mpr (.inl e)
        · exact List.mem_cons_of_mem _ (i2 g e)
theorem length_putF (f : Str) (v : V) : ∀ fs : List (Str × V), (putF f v fs).length ≤ fs.length + 1
  | [] => by simp [putF]
  | (k, x) :: r => by
    have ih := length_putF f v r
    rw [show putF f v ((k, x) :: r) = (if k = f then (k, v) :: r else (k, x) :: putF f v r) from rfl]
    by_cases hk : k = f
    · rw [if_pos hk, List.length_cons, List.length_cons]; omega
    · rw [if_neg hk, List.length_cons, List.length_cons]; omega
theorem RelO.some_of {v : V} {o : Option Value} (r : RelO (some v) o) : ∃ u, o = some u ∧ RelV v u := by
  cases o with
  | none => exact (show False from r).elim
  | some u => exact ⟨u, rfl, r⟩
theorem RelO.none_of {o : Option Value} (r : RelO none o) : o = none := by
  cases o with
  | none => rfl
  | some u => exact (show False from r).elim
theorem handed_of {v : V} {u : Value} (r : RelV v u) : PySem.W.handedIn u = true := by
  cases v with
  | non => cases (show u = Value.none from r); rfl
  | bl b => cases (show u = Value.bool b from r); rfl
  | int i => obtain ⟨t, e⟩ := (show ∃ t, u = Value.int i t from r); cases e; rfl
  | str x => obtain ⟨t, e⟩ := (show ∃ t, u = Value.str x t from r); cases e; rfl
  | byt b => obtain ⟨t, e⟩ := (show ∃ t, u = Value.bytes b t from r); cases e; rfl
  | flt b => obtain ⟨t, e⟩ := (show ∃ t, u = Value.float b t from r); cases e; rfl
  | ref a => cases (show u = Value.ref a from r); rfl
  | ty n => cases (show u = Value.type n from r); rfl
section
variable {P : Program} {w : World} {H H' : Hp} {h h' : Heap} {a C dx : Addr} {fs fs' : List (Str × V)}
theorem ins_get (hok : HOk P w H h) (e : H a = some (.ins C dx fs)) : ∃ mA, ObjM h a dx C mA ∧ (∀ f, RelO (fs.lookup f) (mA f)) ∧ PySem.Within mA (fs.map (·.1)) ∧ fs.length ≤ 1000 ∧ H dx = some (.own a) := by
  obtain ⟨d, z, ne, ob, mA, n, r, q⟩ := (show ObjOk P w H h a (.ins C dx fs) from hok a _ e)
  exact ⟨mA, ⟨ob, n, ne⟩, r, q, z, d⟩
end
/-! ### what of the text a class must have -/
structure Cls (K : PySem.W.Frag) (C : Addr) : Prop where
  pg : PySem.W.plainGet K C Str.empty = true
  hd : PySem.W.hasDictIn K C = true
  po : PySem.W.plainOver K C = true
  sa : PySem.W.findIn K (.ref C) "__setattr__" = some (some (.builtin "object.__setattr__"))
theorem Cls.get {K : PySem.W.Frag} {C : Addr} (c : Cls K C) (f : Str) : PySem.W.plainGet K C f = true := c.pg
/-- no class of it has the name -/
def NoAttr (K : PySem.W.Frag) (C : Addr) (f : Str) : Prop := PySem.W.findIn K (.ref C) f = some none
theorem NoAttr.taker {K : PySem.W.Frag} {C : Addr} {f : Str} (n : NoAttr K C f) : PySem.W.takerIn K C f = some none := by
  unfold PySem.W.takerIn
  rw [show PySem.W.findIn K (.ref C) f = some none from n]
  rfl
/-- a constant of the class -/
structure Con (K : PySem.W.Frag) (C : Addr) (f : Str) (v : V) (u : Value) : Prop where
  at_ : PySem.W.findIn K (.ref C) f = some (some u)
  rel : RelV v u
  get : PySem.W.specialIn K u "__get__" = some none
  cp : PySem.W.copiedNames.contains f = false
/-- a method: a plain def of the class or of one above it -/
structure Meth (K : PySem.W.Frag) (C : Addr) (m : Str) (f : Addr) : Prop where
  at_ : PySem.W.findIn K (.ref C) m = some (some (.ref f))
  fn : PySem.W.isFn K (.ref f) = true
  kp : PySem.W.keepIn K (.ref f) = true
section
variable {X : Cx} {pins : List (Addr × Obj)} {σ : St} {H : Hp} {s : Shared} {a C dx : Addr} {fs : List (Str × V)} {f : Str} {v : V} {A : Around} {E : Value → Shared → Prop}
theorem getattr_ok {b : Bool} {Q : Value → Shared → Prop} (I : Inv X pins σ H s) (e : H a = some (.ins C dx fs)) (c : Cls X.K C) (n : NoAttr X.K C f) (l : fs.lookup f = some v)
    (h : ∀ u s', Inv X pins σ H s' → RelV v u → Q u s') : wpAny (model X.prog X.w) A (getAttr (.ref a) f b) Q E s := by
  obtain ⟨mA, O, r, _, _, _⟩ := ins_get I.hok e
  obtain ⟨u, hu, ru⟩ := RelO.some_of (v := v) (o := mA f) (by rw [← l]; exact r f)
  exact get_map I.kIn O (c.get f) c.hd n hu (handed_of ru) (h u _ (I.tok _) ru)
theorem getmeth_ok {m : Str} {g : Addr} {pl : Sem Bool} {Q : Value × List Value → Shared → Prop} (I : Inv X pins σ H s) (e : H a = some (.ins C dx fs)) (c : Cls X.K C) (k : Meth X.K C m g) (l : fs.lookup m = none)
    (h : Q (.ref g, [.ref a]) s) : wpAny (model X.prog X.w) A (getMethod (.ref a) m pl) Q E s := by
  obtain ⟨mA, O, r, _, _, _⟩ := ins_get I.hok e
  have hn : mA m = none := RelO.none_of (by rw [← l]; exact r m)
  exact get_meth I.kIn O (c.get m) k.at_ k.fn hn h
theorem setattr_ok {y : V} {u : Value} {Q : Unit → Shared → Prop} (I : Inv X pins σ H s) (e : H a = some (.ins C dx fs)) (c : Cls X.K C) (n : NoAttr X.K C f) (hl : fs.length < 1000) (ry : RelV y u)
    (h : ∀ s', Inv X pins σ (upd H a (.ins C dx (putF f y fs))) s' → Q () s') : wpAny (model X.prog X.w) A (setAttr (.ref a) f u) Q E s := by
  obtain ⟨mA, O, r, wi, _, ho⟩ := ins_get I.hok e
  have hz : (fs.map (·.1)).length ≤ sizeLine := by rw [List.length_map, sizeLine_eq]; omega
  refine set_map I.kIn O c.sa c.po n.taker c.hd wi hz fun h' O' sb => h _ ?_
  have hd : ∃ o, h'.get? dx = some o := let ⟨o, _, _, e', _⟩ := O'.ns; ⟨o, e'⟩
  refine I.write (x := a) (e := dx) (by rw [e]; exact True.intro) (.inr ho) (fun b q hb z => (sb.2 b hb).trans z) hd ?_
  refine ⟨by rw [upd_ne O.ne]; exact ho, ?_, O.ne, O'.obj, _, O'.ns, fun g => ?_, fun g hg => ?_⟩
  · have := length_putF f y fs; omega
  · show RelO ((putF f y fs).lookup g) (if g = f then some u else mA g)
    rw [lookup_putF]
    by_cases q : g = f
    · rw [if_pos q, if_pos q]; exact ry
    · rw [if_neg q, if_neg q]; exact r g
  · by_cases q : g = f
    · rw [q]; exact (keys_putF f y fs).1
    · refine (keys_putF f y fs).2 g (wi g fun z => hg ?_)
      show (if g = f then some u else mA g) = none
      rw [if_neg q]; exact z
/-- a new instance, tracked, without attributes -/
theorem Inv.made (I : Inv X pins σ H s) : Inv X pins σ (upd (upd H s.heap.objs.size (.own (s.heap.objs.size + 1))) (s.heap.objs.size + 1) (.ins C s.heap.objs.size []))
    { s with heap := (s.heap.push PySem.W.emptyDict).push (PySem.W.instObj C s.heap.objs.size) } := by
  have e1 : (s.heap.push PySem.W.emptyDict).get? s.heap.objs.size = some PySem.W.emptyDict := Heap.get?_push_size s.heap rfl
  have e2 : ((s.heap.push PySem.W.emptyDict).push (PySem.W.instObj C s.heap.objs.size)).get? (s.heap.objs.size + 1) = some (PySem.W.instObj C s.heap.objs.size) := by
    have := Heap.get?_push_size (s.heap.push PySem.W.emptyDict) (o := PySem.W.instObj C s.heap.objs.size) rfl
    rwa [Heap.size_push] at this
  have e3 : (s.heap.push PySem.W.emptyDict).Ns s.heap.objs.size (fun _ => none) := ⟨PySem.W.emptyDict, #[], _, e1, rfl, (fun e he => absurd he (by simp)), fun _ => rfl⟩
  have I1 := I.laid (a := s.heap.objs.size) (o := .own (s.heap.objs.size + 1)) (h' := s.heap.push PySem.W.emptyDict) (t' := s.toks) (fun b u q => Heap.get?_push_of_some _ q) (Nat.le_refl _) ⟨_, e1⟩
  refine I1.laid (a := s.heap.objs.size + 1) (o := .ins C s.heap.objs.size []) (t' := s.toks) (fun b u q => Heap.get?_push_of_some _ q) (Nat.le_of_eq (Heap.size_push _ _)) ?_
  have ne : s.heap.objs.size ≠ s.heap.objs.size + 1 := Nat.ne_of_lt (Nat.lt_succ_self _)
  refine ⟨by rw [upd_ne ne, upd_same], Nat.zero_le _, ne, e2, fun _ => none, (Heap.Ns1.of_empty e3).at fun o q => Heap.get?_push_of_some _ q, fun _ => True.intro, fun y hy => absurd rfl hy⟩
/-- e.f where nothing but the object is asked: through attributeBase (super) and the last hold -/
theorem attr_of {prog : Program} {w : World} {env : Env} {e : Expr} {f : Str} {pos : Pos} {s : Shared} {Q : Value → Shared → Prop} (hb : attributeBase e f env (eval e env) = eval e env)
    (h : wpAny (model prog w) A (eval e env) (fun o s₁ => wpAny (model prog w) A (getAttr o f true) Q E s₁) E s) : wpAny (model prog w) A (eval (.Attribute e f pos) env) Q E s :=
  Attribute_any_ h (by rw [arm_eval_Attribute, hb])
end
/-! ### readings and rules -/
/-- e.f, an attribute of the instance -/
def tFld (K : PySem.W.Frag) (ta : TE) (f : Str) : TE := fun σ H Q => ta σ H fun x H1 => ∃ a C dx fs v, x = .ref a ∧ H1 a = some (.ins C dx fs) ∧ Cls K C ∧ NoAttr K C f ∧ fs.lookup f = some v ∧ Q v H1
/-- e.f, a constant of the class -/
def tCon (K : PySem.W.Frag) (ta : TE) (f : Str) : TE := fun σ H Q => ta σ H fun x H1 => ∃ a C dx fs v u, x = .ref a ∧ H1 a = some (.ins C dx fs) ∧ Cls K C ∧ Con K C f v u ∧ fs.lookup f = none ∧ Q v H1
/-- e.f = value -/
def sFld (K : PySem.W.Frag) (ta tv : TE) (f : Str) : TS := fun D σ H => tv σ H fun y H1 => ta σ H1 fun x H2 => ∃ a C dx fs, x = .ref a ∧ H2 a = some (.ins C dx fs) ∧ Cls K C ∧ NoAttr K C f ∧ fs.length < 1000 ∧
  D.nx σ (upd H2 a (.ins C dx (putF f y fs)))
/-- an augmented operator on two values -/
def InOp (X : Cx) (op : Operator) (rd : V → V → Hp → VK → Prop) : Prop :=
  ∀ (pins : List (Addr × Obj)) (s : Shared) (σ : St) (H : Hp) (x y : V) (u v : Value) (Q : VK), Inv X pins σ H s → RelV x u → RelV y v → rd x y H Q → wpAny (model X.prog X.w) X.A (inplaceOp op u v) (EP X pins σ Q) X.xe s
/-- e.f op= value -/
def sFldAug (K : PySem.W.Frag) (ta tv : TE) (rd : V → V → Hp → VK → Prop) (f : Str) : TS := fun D σ H => ta σ H fun x H1 => ∃ a C dx fs v, x = .ref a ∧ H1 a = some (.ins C dx fs) ∧ Cls K C ∧ NoAttr K C f ∧ fs.lookup f = some v ∧
  tv σ H1 fun y H2 => rd v y H2 fun z H3 => ∃ dx' fs', H3 a = some (.ins C dx' fs') ∧ fs'.length < 1000 ∧ D.nx σ (upd H3 a (.ins C dx' (putF f z fs')))
section
variable {X : Cx} {o e value : Expr} {f : Str} {pos pos' tpos : Pos} {ta tv : TE}
theorem pe_fld (he : PE X e ta) (hb : attributeBase e f X.env (eval e X.env) = eval e X.env) : PE X (.Attribute e f pos) (tFld X.K ta f) := by
  intro pins s σ H Q I h
  refine attr_of hb (thn (he pins s σ H _ I h) fun u s1 ⟨x, H1, I1, rx, a, C, dx, fs, v, ex, ea, c, n, l, q⟩ => ?_)
  subst ex
  obtain rfl : u = Value.ref a := rx
  exact getattr_ok I1 ea c n l fun u' s2 I2 ru => ⟨v, H1, I2, ru, q⟩
theorem ps_fld (ha : PE X o ta) (hv : PE X value tv) (hs : swapsWith value (some (.Attribute o f pos')) pos.line X.env = pure false) : PS X (.Assign [.Attribute o f pos'] value pos) (sFld X.K ta tv f) := by
  intro pins s σ H D I h
  refine plainObj_wpAny_Assign_Attribute (thn (hv pins s σ H _ I h) fun u s1 ⟨y, H1, I1, ry, q⟩ => thn (ha pins s1 σ H1 _ I1 q) fun ov s2 ⟨x, H2, I2, rx, a, C, dx, fs, ex, ea, c, n, l, q2⟩ => ?_) hs
  subst ex
  obtain rfl : ov = Value.ref a := rx
  exact setattr_ok I2 ea c n l ry fun s3 I3 => ⟨σ, _, I3, q2⟩
end
/-! ### isinstance -/
section
variable {X : Cx} {pins : List (Addr × Obj)} {σ : St} {H : Hp} {s : Shared} {A : Around} {E : Value → Shared → Prop} {Q : Value → Shared → Prop} {c : Value} {b : Bool}
/-- the type of a value, as the fragment's deciders take it; for an instance its class -/
inductive TyOf (K : PySem.W.Frag) (H : Hp) : V → Value → Prop where
  | non : TyOf K H .non (.type "NoneType")
  | bl (x : Bool) : TyOf K H (.bl x) (.type "bool")
  | int (i : Int) : TyOf K H (.int i) (.type "int")
  | str (x : Str) : TyOf K H (.str x) (.type "str")
  | flt (x : UInt64) : TyOf K H (.flt x) (.type "float")
  | lst {a : Addr} {xs : List V} (e : H a = some (.lst xs)) : TyOf K H (.ref a) (.type "list")
  | frz {a : Addr} {o : Obj} {xs : List V} (e : H a = some (.frz o (.lst xs))) : TyOf K H (.ref a) (.type "list")
  | tup {a : Addr} {xs : List V} (e : H a = some (.tup xs)) : TyOf K H (.ref a) (.type "tuple")
  | dK {a : Addr} {kvs : List (Key × V)} (e : H a = some (.dK kvs)) : TyOf K H (.ref a) (.type "dict")
  | dT {a : Addr} {kvs : List (List Key × V)} (e : H a = some (.dT kvs)) : TyOf K H (.ref a) (.type "dict")
  | ins {a C dx : Addr} {fs : List (Str × V)} (e : H a = some (.ins C dx fs)) (cl : Cls K C) (ha : PySem.W.findIn K (.ref C) "__class__" = some (some (.builtin "object.__class__")))
      (hn : PySem.W.specialIn K (.builtin "object.__class__") "__get__" = some (some (.builtin "getset_descriptor.__get__"))) (htk : PySem.W.takesIn K (.builtin "object.__class__") = some true)
      (hm : PySem.W.mroIn K C (.type "object") = some true) : TyOf K H (.ref a) (.ref C)
/-- isinstance(x, c) for one class c, a built-in or an own one: kitOne's answer -/
theorem isinst_ok {x : V} {u t : Value} (I : Inv X pins σ H s) (rx : RelV x u) (ty : TyOf X.K H x t) (e : PySem.W.kitOne X.K t c = some b) (h : ∀ tk, Q (.bool b) { s with toks := tk }) :
    wpAny (model X.prog X.w) A (call (.builtin "isinstance") [u, c]) Q E s := by
  cases ty with
  | non => cases (show u = Value.none from rx); exact PySem.W.kia_one PySem.W.kitx_none I.kIn True.intro e (fun z => nomatch z) h
  | bl y => cases (show u = Value.bool y from rx); exact PySem.W.kia_one PySem.W.kitx_bool I.kIn True.intro e (fun z => nomatch z) h
  | int i => obtain ⟨t, q⟩ := (show ∃ t, u = Value.int i t from rx); cases q; exact PySem.W.kia_one PySem.W.kitx_int I.kIn True.intro e (fun z => nomatch z) h
  | str y => obtain ⟨t, q⟩ := (show ∃ t, u = Value.str y t from rx); cases q; exact PySem.W.kia_one PySem.W.kitx_str I.kIn True.intro e (fun z => nomatch z) h
  | flt y => obtain ⟨t, q⟩ := (show ∃ t, u = Value.float y t from rx); cases q; exact PySem.W.kia_one PySem.W.kitx_float I.kIn True.intro e (fun z => nomatch z) h
  | @lst a xs ea =>
    cases (show u = Value.ref a from rx)
    obtain ⟨_, _, n, _, h1⟩ := (show ObjOk X.prog X.w H s.heap a (.lst xs) from I.hok a _ ea)
    exact PySem.W.kia_one PySem.W.kitx_list I.kIn ⟨_, h1, rfl⟩ e (fun z => nomatch z) h
  | @frz a ob xs ea =>
    cases (show u = Value.ref a from rx)
    obtain ⟨_, _, _, n, _, h1⟩ := (show ObjOk X.prog X.w H s.heap a (.frz ob (.lst xs)) from I.hok a _ ea)
    exact PySem.W.kia_one PySem.W.kitx_list I.kIn ⟨_, h1, rfl⟩ e (fun z => nomatch z) h
  | @tup a xs ea =>
    cases (show u = Value.ref a from rx)
    obtain ⟨_, _, _, p⟩ := (show ObjOk X.prog X.w H s.heap a (.tup xs) from I.hok a _ ea)
    obtain ⟨o, h1, h2, _⟩ := p
    exact PySem.W.kia_one PySem.W.kitx_tuple I.kIn ⟨o, h1, h2⟩ e (fun z => nomatch z) h
  | @dK a kvs ea =>
    cases (show u = Value.ref a from rx)
    obtain ⟨_, _, vs, _, p⟩ := (show ObjOk X.prog X.w H s.heap a (.dK kvs) from I.hok a _ ea)
    obtain ⟨o, es, ep, h1, h2, _⟩ := p
    exact PySem.W.kia_one PySem.W.kitx_dict I.kIn ⟨o, h1, h2.1⟩ e (fun z => nomatch z) h
  | @dT a kvs ea =>
    cases (show u = Value.ref a from rx)
    obtain ⟨_, _, xs, _, o, es, ep, h1, h2, _⟩ := (show ObjOk X.prog X.w H s.heap a (.dT kvs) from I.hok a _ ea)
    exact PySem.W.kia_one PySem.W.kitx_dict I.kIn ⟨o, h1, h2.1⟩ e (fun z => nomatch z) h
  | @ins a C dx fs ea cl ha hn htk hm =>
    cases (show u = Value.ref a from rx)
    obtain ⟨mA, O, _⟩ := ins_get I.hok ea
    obtain ⟨od, J, _⟩ := O.look
    exact PySem.W.kia_one (PySem.W.kitx_own (cl.get _) cl.hd ha hn htk hm) I.kIn J e (fun z => nomatch z) h
end
end L2
namespace L2
open PySem PySem.Spec PyProof.Rows
/-! ### room -/
structure Room (k : Nat) (A : Around) : Prop where
  hd : A.handled = none
  dp : A.depth + 3 * k + 5 < recursionLimit
  un : A.units + 16 * k + 200 < cLine
theorem Room.deeper {k : Nat} {A : Around} (r : Room (k + 1) A) (env : Env) : Room k (A.deeper env) :=
  ⟨r.hd, by have := r.dp; show A.depth + 1 + 3 * k + 5 < _; omega, by have := r.un; show A.units + 3 + 16 * k + 200 < _; omega⟩
theorem make_depth {A : Around} {C : Addr} {us : List Value} {kw : List (Str × Value)} : (A.under (.builtin "type.__call__" ⟨.ref C :: us, kw⟩)).depth = A.depth + 1 := by
  first | rfl | simp [Around.under, Code.weight, Code.isCreation, Code.isGuard, Code.isCaller, Code.frames, Code.isFrame, guardIds]
theorem make_units {A : Around} {C : Addr} {us : List Value} {kw : List (Str × Value)} : (A.under (.builtin "type.__call__" ⟨.ref C :: us, kw⟩)).units = A.units + 1 := by
  first | rfl | simp [Around.under, Code.cUnits, Code.frames, Code.isFrame]
theorem Room.make {k : Nat} {A : Around} (r : Room (k + 1) A) (C : Addr) (us : List Value) (kw : List (Str × Value)) : Room k (A.under (.builtin "type.__call__" ⟨.ref C :: us, kw⟩)) :=
  ⟨r.hd, by have := r.dp; rw [make_depth]; omega, by have := r.un; rw [make_units]; omega⟩
theorem Room.depth {k : Nat} {A : Around} (r : Room k A) : A.depth < recursionLimit := by have := r.dp; omega
/-! ### argument lists and displays -/
def tNil : TA := fun _ H Q => Q [] H
def tCons (ta : TE) (tr : TA) : TA := fun σ H Q => ta σ H fun x H1 => tr σ H1 fun xs H2 => Q (x :: xs) H2
section
variable {X : Cx} {e : Expr} {es : List Expr} {te : TE} {t : TA} {pos : Pos}
theorem pa_nil : PA X [] tNil := fun _ _ _ _ H Q I h => Calls.spliced_nil ⟨[], H, I, .nil, h⟩
theorem pa_cons (ha : PE X e te) (hr : PA X es t) (hs : starEach (e :: es) X.env = (false, eval e X.env) :: starEach es X.env := by rfl) : PA X (e :: es) (tCons te t) := by
  intro pos pins s σ H Q I h
  rw [hs]
  show wpAny _ _ (spliced ((false, eval e X.env) :: backTo pos (starEach es X.env))) _ _ s
  refine Calls.spliced_cons (thn (ha pins s σ H _ I h) fun u s1 ⟨x, H1, I1, r1, q1⟩ => ?_)
  exact thn (hr pos pins s1 σ H1 _ I1 q1) fun us s2 ⟨xs, H2, I2, r2, q2⟩ => ⟨x :: xs, H2, I2, .cons r1 r2, q2⟩
/-- a tuple, a list of written items -/
def tTup (t : TA) : TE := fun σ H Q => t σ H fun xs H1 => xs.length ≤ sizeLine ∧ ∀ p, H1 p = none → Q (.ref p) (upd H1 p (.tup xs))
def tLst (t : TA) : TE := fun σ H Q => t σ H fun xs H1 => xs.length ≤ sizeLine ∧ ∀ p, H1 p = none → Q (.ref p) (upd H1 p (.lst xs))
theorem pe_tup {x1} (h : PA X es t) : PE X (.Tuple es x1 pos) (tTup t) := by
  intro pins s σ H Q I hq
  refine wpAny_Tuple_spliced (thn (h pos pins s σ H _ I hq) fun us s1 ⟨xs, H1, I1, r, z, q⟩ => ⟨by rw [← r.length]; exact z, ?_⟩)
  have hf : H1 s1.heap.objs.size = none := I1.hok.fresh (Nat.le_refl _)
  refine ⟨.ref s1.heap.objs.size, upd H1 s1.heap.objs.size (.tup xs), I1.laid (t' := s1.toks) (fun b u e => Heap.get?_push_of_some _ e) (Nat.le_refl _) ?_, rfl, q _ hf⟩
  exact ⟨z, us, r, ⟨_, Heap.get?_push_size _ rfl, rfl, _, rfl⟩⟩
theorem pe_lst (h : PA X es t) : PE X (.List es pos) (tLst t) := by
  intro pins s σ H Q I hq
  refine wpAny_List_spliced (thn (h pos pins s σ H _ I hq) fun us s1 ⟨xs, H1, I1, r, z, q⟩ => ⟨by rw [← r.length]; exact z, ?_⟩)
  have hf : H1 s1.heap.objs.size = none := I1.hok.fresh (Nat.le_refl _)
  refine ⟨.ref s1.heap.objs.size, upd H1 s1.heap.objs.size (.lst xs), I1.laid (t' := s1.toks) (fun b u e => Heap.get?_push_of_some _ e) (Nat.le_refl _) ?_, rfl, q _ hf⟩
  exact ⟨z, us, 0, r, Heap.get?_push_size _ rfl⟩
end
/-! ### what a def promises -/
/-- a def's promise: the bound arguments in the parameters' order, the heap, the wanted end, the wanted exception -/
abbrev Sp := List V → Hp → VK → XK → Prop
/-- how an exception lies behind a call (file 08 gives it): the callers' frames, abstract heap and state ahead of the call, the wish, the exception, the state -/
abbrev CXT := List Env → Hp → Shared → XK → Value → Shared → Prop
/-- the state at a call -/
structure Env0 (P : Program) (w : World) (K : PySem.W.Frag) (mg : Str → Option Value) (base : Heap) (A : Around) (outer : List Env) (s : Shared) (H : Hp) : Prop where
  frames : A.frames = some outer
  mod : Mod K mg base
  bs : ∀ b o, base.get? b = some o → s.heap.get? b = some o ∧ H b = none
  bsz : base.objs.size ≤ s.heap.objs.size
  funs : s.heap.FunFrames base outer
  frf : ∀ b ∈ frs outer, H b = none
  hok : HOk P w H s.heap
  bare : AllBare s.gens
/-- a call's end -/
def CE (outer : List Env) (P : Program) (w : World) (H : Hp) (s : Shared) (Q : VK) (u : Value) (s' : Shared) : Prop :=
  ∃ v H', s'.os = s.os ∧ AllBare s'.gens ∧ Un (frs outer) [] H H' s.heap s'.heap ∧ HOk P w H' s'.heap ∧ RelV v u ∧ Q v H'
def CR (CX : CXT) (outer : List Env) (P : Program) (w : World) (H : Hp) (s : Shared) (Q : VK) (E : XK) (r : Result) (s' : Shared) : Prop :=
  match r with
  | .ok (.ret u) => CE outer P w H s Q u s'
  | .ok _ => False
  | .error e => CX outer H s E e s'
structure FnOk (P : Program) (w : World) (K : PySem.W.Frag) (mg : Str → Option Value) (base : Heap) (CX : CXT) (k : Nat) (f : Addr) (fd : FuncData) (ps : List Str) (sp : Sp) : Prop where
  len : ∀ vs H Q E, sp vs H Q E → vs.length = ps.length
  run : ∀ (A : Around) (outer : List Env) (s : Shared) (H : Hp) (args : Args) (us : List Value) (vs : List V) (Q : VK) (E : XK), Room k A → Env0 P w K mg base A outer s H → BindsTo s fd args (ps.zip us) → Vals vs us → sp vs H Q E →
    codeAny (model P w) A (.call (.ref f) args) (CR CX outer P w H s Q E) s
theorem Env0.make {P : Program} {w : World} {K : PySem.W.Frag} {mg : Str → Option Value} {base : Heap} {A : Around} {outer : List Env} {s : Shared} {H : Hp} (e : Env0 P w K mg base A outer s H) (C : Addr) (us : List Value) (kw : List (Str × Value)) :
    Env0 P w K mg base (A.under (.builtin "type.__call__" ⟨.ref C :: us, kw⟩)) outer s H := ⟨by first | exact e.frames | (simpa [Around.under, Code.envs, Code.isFrame, pushEnvs] using e.frames), e.mod, e.bs, e.bsz, e.funs, e.frf, e.hok, e.bare⟩
section
variable {X : Cx} {pins : List (Addr × Obj)} {σ : St} {H : Hp} {s s' : Shared}
/-- from a body: what a callee wants -/
theorem Inv.env0 (I : Inv X pins σ H s) : Env0 X.prog X.w X.K X.mg X.base X.A X.stack s H :=
  ⟨I.ok.frames, I.ok.mod, I.bs, Nat.le_trans I.ok.bsz I.sz, I.stack, I.stkFree, I.hok, I.bare⟩
/-- behind a call -/
theorem Inv.after {Q : VK} {u : Value} (I : Inv X pins σ H s) (h : CE X.stack X.prog X.w H s Q u s') : EP X pins σ Q u s' := by
  obtain ⟨v, H', os, bare, un, hok, r, q⟩ := h
  obtain ⟨hh, g, d, t, os'⟩ := s'
  obtain rfl : os' = s.os := os
  exact ⟨v, H', I.call (h' := hh) (g' := g) (d' := d) (t' := t) (ch := []) un hok bare (fun b z => absurd z (by simp)), r, q⟩
end
/-! ### calls -/
/-- f(..): the written arguments, then the defaults dvs; E: what is wanted of an exception -/
def tCall (sp : Sp) (dvs : List V) (E : XK) (t : TA) : TE := fun σ H Q => t σ H fun vs H1 => sp (vs ++ dvs) H1 Q E
/-- o.m(..) of an instance of the class at C -/
def tMeth (C : Addr) (m : Str) (sp : Sp) (dvs : List V) (E : XK) (ta : TE) (t : TA) : TE := fun σ H Q => ta σ H fun x H1 => ∃ a dx fs, x = .ref a ∧ H1 a = some (.ins C dx fs) ∧ fs.lookup m = none ∧
  t σ H1 fun vs H2 => sp (x :: (vs ++ dvs)) H2 Q E
/-- C(..): a new instance and its dict, then __init__ -/
def tMake (C : Addr) (sp : Sp) (dvs : List V) (E : XK) (t : TA) : TE := fun σ H Q => t σ H fun vs H1 => ∀ x dx, H1 x = none → H1 dx = none → dx ≠ x →
  sp (.ref x :: (vs ++ dvs)) (upd (upd H1 dx (.own x)) x (.ins C dx [])) (fun v H2 => v = .non ∧ Q (.ref x) H2) E
/-- how the parameters are bound: us the positional arguments, kw the keywords' values by name, ds the defaults that fill up -/
def Binds (K : PySem.W.Frag) (fd : FuncData) (ps : List Str) (ds : List Value) : Prop :=
  ∀ (s : Shared) (us : List Value), K.In s.heap → (us ++ ds).length = ps.length → BindsTo s fd ⟨us, []⟩ (ps.zip (us ++ ds))
/-- every parameter is given -/
theorem Binds.all {K : PySem.W.Frag} {fd : FuncData} {ps : List Str} (h : ∀ us : List Value, us.length = ps.length → bindArgs fd ⟨us, []⟩ = pure (ps.zip us)) : Binds K fd ps [] := fun s us _ hl => by
  rw [List.append_nil] at hl ⊢
  exact .of_eq (h us hl)
/-- an exception of a callee reaches what this body wants of exceptions -/
def Passes (CX : CXT) (X : Cx) (E : XK) : Prop := ∀ (pins : List (Addr × Obj)) (σ : St) (H : Hp) (s : Shared) (e : Value) (s' : Shared), Inv X pins σ H s → CX X.stack H s E e s' → X.xe e s'
section
variable {X : Cx} {CX : CXT} {k : Nat} {f C : Addr} {fd : FuncData} {ps : List Str} {sp : Sp} {dvs : List V} {ds : List Value} {E : XK} {x m : Str} {p pos apos : Pos} {e o : Expr} {es : List Expr} {ta : TE} {t : TA}
/-- the callee runs -/
theorem run_fn {pins : List (Addr × Obj)} {σ : St} {H : Hp} {s : Shared} {Q : VK} {us : List Value} {vs : List V} (F : FnOk X.prog X.w X.K X.mg X.base CX k f fd ps sp) (hr : Room k X.A) (hb : Binds X.K fd ps ds) (hd : Vals dvs ds) (hx : Passes CX X E)
    (I : Inv X pins σ H s) (r : Vals vs us) (h : sp (vs ++ dvs) H Q E) : wpAny (model X.prog X.w) X.A (call (.ref f) us) (EP X pins σ Q) X.xe s := by
  have r2 : Vals (vs ++ dvs) (us ++ ds) := r.append hd
  have hl : (us ++ ds).length = ps.length := by rw [← r2.length]; exact F.len _ _ _ _ h
  refine wpAny_call (codeAny_mono (F.run X.A X.stack s H ⟨us, []⟩ (us ++ ds) (vs ++ dvs) Q E hr I.env0 (hb s us I.kIn hl) r2 h) fun r s' hq => ?_)
  cases r with
  | error e => exact hx pins σ H s e s' I hq
  | ok fl =>
    cases fl with
    | ret u => exact I.after hq
    | next => exact False.elim hq
    | brk => exact False.elim hq
    | cont => exact False.elim hq
theorem pe_call (F : FnOk X.prog X.w X.K X.mg X.base CX k f fd ps sp) (hr : Room k X.A) (hg : Gl X x) (hm : X.mg x = some (.ref f)) (hk : PySem.W.keepIn X.K (.ref f) = true) (hb : Binds X.K fd ps ds) (hd : Vals dvs ds) (hx : Passes CX X E)
    (ha : PA X (e :: es) t) (hdb : (x == ("__debug__" : Str)) = false := by decide) (he : starEach (e :: es) X.env = (false, eval e X.env) :: starEach es X.env := by rfl) (hpl : (backTo pos (starEach es X.env)).any (·.1) = false := by rfl) :
    PE X (.Call (.Name x p) (e :: es) [] pos) (tCall sp dvs E t) := by
  intro pins s σ H Q I h
  refine wpAny_Call_Name_kw (ld_glob I hg hm ?_ hdb)
  refine PySem.W.callWith_K (h₀ := X.base) I.ok.mod.kin hk (thn (ha pos pins s σ H _ I h) fun us s1 ⟨vs, H1, I1, r, q⟩ => ⟨I1.kIn, ?_⟩) he hpl
  exact run_fn F hr hb hd hx I1 r q
/-- what a class must have to be made -/
structure Mk (K : PySem.W.Frag) (C f : Addr) : Prop where
  makes : PySem.W.makesIn K C = true
  init : PySem.W.findIn K (.ref C) "__init__" = some (some (.ref f))
  fn : PySem.W.isFn K (.ref f) = true
  kp : PySem.W.keepIn K (.ref C) = true
theorem run_make {pins : List (Addr × Obj)} {σ : St} {H : Hp} {s : Shared} {Q : VK} {us : List Value} {vs : List V} (M : Mk X.K C f) (F : FnOk X.prog X.w X.K X.mg X.base CX k f fd ps sp) (hr : Room (k + 1) X.A) (hb : Binds X.K fd ps ds) (hd : Vals dvs ds)
    (hx : Passes CX X E) (I : Inv X pins σ H s) (r : Vals vs us)
    (h : ∀ x dx, H x = none → H dx = none → dx ≠ x → sp (.ref x :: (vs ++ dvs)) (upd (upd H dx (.own x)) x (.ins C dx [])) (fun v H2 => v = .non ∧ Q (.ref x) H2) E) :
    wpAny (model X.prog X.w) X.A (call (.ref C) us) (EP X pins σ Q) X.xe s := by
  have hq := h (s.heap.objs.size + 1) s.heap.objs.size (I.hok.fresh (Nat.le_succ _)) (I.hok.fresh (Nat.le_refl _)) (Nat.ne_of_lt (Nat.lt_succ_self _))
  have I2 := Inv.made (C := C) I
  have r2 : Vals (V.ref (s.heap.objs.size + 1) :: (vs ++ dvs)) (Value.ref (s.heap.objs.size + 1) :: (us ++ ds)) := .cons rfl (r.append hd)
  have hl : (Value.ref (s.heap.objs.size + 1) :: us ++ ds).length = ps.length := by
    have e := r2.length
    rw [F.len _ _ _ _ hq] at e
    exact e.symm
  refine wpAny_call (make_map (f := f) I.kIn M.makes M.init (beq_iff_eq.mp M.fn) (codeAny_mono (F.run _ X.stack _ _ ⟨Value.ref (s.heap.objs.size + 1) :: us, []⟩ (Value.ref (s.heap.objs.size + 1) :: (us ++ ds)) _ _ E (hr.make C us [])
    (I2.env0.make C us []) (hb _ (Value.ref (s.heap.objs.size + 1) :: us) I2.kIn hl) r2 hq) fun r s' hq' => ?_))
  cases r with
  | error e => exact hx pins σ _ _ e s' I2 hq'
  | ok fl =>
    cases fl with
    | ret u =>
      obtain ⟨v, H', I3, rv, ev, q3⟩ := I2.after hq'
      subst ev
      exact ⟨rv, ⟨V.ref (s.heap.objs.size + 1), H', I3, rfl, q3⟩⟩
    | next => exact False.elim hq'
    | brk => exact False.elim hq'
    | cont => exact False.elim hq'
theorem pe_make (M : Mk X.K C f) (F : FnOk X.prog X.w X.K X.mg X.base CX k f fd ps sp) (hr : Room (k + 1) X.A) (hg : Gl X x) (hm : X.mg x = some (.ref C)) (hb : Binds X.K fd ps ds) (hd : Vals dvs ds) (hx : Passes CX X E)
    (ha : PA X (e :: es) t) (hdb : (x == ("__debug__" : Str)) = false := by decide) (he : starEach (e :: es) X.env = (false, eval e X.env) :: starEach es X.env := by rfl) (hpl : (backTo pos (starEach es X.env)).any (·.1) = false := by rfl) :
    PE X (.Call (.Name x p) (e :: es) [] pos) (tMake C sp dvs E t) := by
  intro pins s σ H Q I h
  refine wpAny_Call_Name_kw (ld_glob I hg hm ?_ hdb)
  refine PySem.W.callWith_K (h₀ := X.base) I.ok.mod.kin M.kp (thn (ha pos pins s σ H _ I h) fun us s1 ⟨vs, H1, I1, r, q⟩ => ⟨I1.kIn, ?_⟩) he hpl
  exact run_make M F hr hb hd hx I1 r q
end
/-! ### keywords -/
/-- the values of the keywords, from the left -/
def PK (X : Cx) (kws : List Keyword) (t : TA) : Prop :=
  ∀ (pos : Pos) (pins : List (Addr × Obj)) (s : Shared) (σ : St) (H : Hp) (Q : List V → Hp → Prop), Inv X pins σ H s → t σ H Q → wpAny (model X.prog X.w) X.A (evalAll ((backToKw pos (keywordEach kws X.env)).map (·.2))) (AP X pins σ Q) X.xe s
section
variable {X : Cx} {CX : CXT} {k : Nat} {f C : Addr} {fd : FuncData} {ps ks : List Str} {sp : Sp} {E : XK} {x m : Str} {p pos apos kpos : Pos} {e o : Expr} {es : List Expr} {kws : List Keyword} {te ta : TE} {t tk : TA} {nm : Option Str}
/-- how a call with keywords binds: g puts the positional values us and the keywords' values ws (names ks) in the parameters' order, defaults among them -/
structure KBinds (K : PySem.W.Frag) (fd : FuncData) (ps ks : List Str) (g : List Value → List Value → List Value) (gV : List V → List V → List V) : Prop where
  to : ∀ (s : Shared) (us ws : List Value), K.In s.heap → (g us ws).length = ps.length → BindsTo s fd ⟨us, ks.zip ws⟩ (ps.zip (g us ws))
  rel : ∀ {vs : List V} {us : List Value} {zs : List V} {ws : List Value}, Vals vs us → Vals zs ws → Vals (gV vs zs) (g us ws)
variable {g : List Value → List Value → List Value} {gV : List V → List V → List V}
end
/-! ### a def's body keeps its promise -/
/-- names: the parameters first -/
structure FnScope (N P : List Str) (sc : Scope) : Prop where
  kind : sc.kind = .function
  co : sc.isCoroutine = false
  gen : sc.isGenerator = false
  nd : N.Nodup
  pre : N.take P.length = P
  par : ∀ x ∈ P, sc.names.lookup x = some .local ∨ sc.names.lookup x = some .cell
  nofree : ∀ y ∈ sc.names, y.2 ≠ .free
theorem bindL_out {kindOf : Str → Option NameKind} {x : Str} : ∀ {binds : List (Str × Value)} {m : Str → Option Value}, (∀ v, (x, v) ∉ binds) → bindL kindOf binds m x = m x
  | [], _, _ => rfl
  | (n, v) :: r, m, h => by
    unfold bindL
    rw [bindL_out fun w hw => h w (List.mem_cons_of_mem _ hw)]
    split
    · have : x ≠ n := by rintro rfl; exact h v List.mem_cons_self
      simp [this]
    · rfl
theorem bindC_out {kindOf : Str → Option NameKind} {x : Str} : ∀ {binds : List (Str × Value)} {m : Str → Option Value}, (∀ v, (x, v) ∉ binds) → bindC kindOf binds m x = m x
  | [], _, _ => rfl
  | (n, v) :: r, m, h => by
    unfold bindC
    rw [bindC_out fun w hw => h w (List.mem_cons_of_mem _ hw)]
    split
    · rfl
    · have : x ≠ n := by rintro rfl; exact h v List.mem_cons_self
      simp [this]
theorem bindL_get {kindOf : Str → Option NameKind} {x : Str} {v : Value} : ∀ {P : List Str} {vs : List Value} {i : Nat} {m : Str → Option Value}, P.Nodup → P[i]? = some x → vs[i]? = some v → kindOf x = some .local →
    bindL kindOf (P.zip vs) m x = some v
  | [], _, _, _, _, h, _, _ => by simp at h
  | _ :: _, [], _, _, _, _, h, _ => by simp at h
  | p :: P, w :: vs, 0, m, nd, h1, h2, hk => by
    simp at h1 h2; subst h1; subst h2
    show bindL kindOf ((p, w) :: P.zip vs) m p = _
    unfold bindL
    rw [bindL_out fun v hv => (List.nodup_cons.mp nd).1 (List.of_mem_zip hv).1, if_pos hk]
    simp
  | p :: P, w :: vs, i + 1, m, nd, h1, h2, hk => by
    show bindL kindOf ((p, w) :: P.zip vs) m x = _
    unfold bindL
    exact bindL_get (i := i) (List.nodup_cons.mp nd).2 (by simpa using h1) (by simpa using h2) hk
theorem bindC_get {kindOf : Str → Option NameKind} {x : Str} {v : Value} : ∀ {P : List Str} {vs : List Value} {i : Nat} {m : Str → Option Value}, P.Nodup → P[i]? = some x → vs[i]? = some v → kindOf x ≠ some .local →
    bindC kindOf (P.zip vs) m x = some v
  | [], _, _, _, _, h, _, _ => by simp at h
  | _ :: _, [], _, _, _, _, h, _ => by simp at h
  | p :: P, w :: vs, 0, m, nd, h1, h2, hk => by
    simp at h1 h2; subst h1; subst h2
    show bindC kindOf ((p, w) :: P.zip vs) m p = _
    unfold bindC
    rw [bindC_out fun v hv => (List.nodup_cons.mp nd).1 (List.of_mem_zip hv).1, if_neg hk]
    simp
  | p :: P, w :: vs, i + 1, m, nd, h1, h2, hk => by
    show bindC kindOf ((p, w) :: P.zip vs) m x = _
    unfold bindC
    exact bindC_get (i := i) (List.nodup_cons.mp nd).2 (by simpa using h1) (by simpa using h2) hk
/-- the names' values at the entry -/
def start (N : List Str) (vs : List V) : St := vs.map some ++ List.replicate (N.length - vs.length) none
/-- the context of a def's body, at its entry; an exception leaves the frame, then lies as CX says -/
def cxOf (CX : CXT) (P : Program) (w : World) (K : PySem.W.Frag) (mg : Str → Option Value) (base : Heap) (N : List Str) (qual : Str) (scope : Scope) (f : Addr) (cd : Value) (A : Around) (outer : List Env) (s : Shared) (H : Hp) (E : XK) : Cx where
  prog := P
  w := w
  K := K
  mg := mg
  base := base
  A := A.deeper (envOfC qual scope s.heap.objs.size f cd)
  N := N
  s₀ := s
  H₀ := H
  env := envOfC qual scope s.heap.objs.size f cd
  outer := outer
  stack := envOfC qual scope s.heap.objs.size f cd :: outer
  ex := []
  calm := true
  fn := fun _ => true
  pn := []
  xe := fun e s' => wpAny (model P w) (A.deeper (envOfC qual scope s.heap.objs.size f cd)) (leaving (envOfC qual scope s.heap.objs.size f cd) e) (fun _ s'' => CX outer H s E e s'') (fun e' s'' => CX outer H s E e' s'') s'
theorem cell_has {sc : Scope} {n : Nat} {x : Str} (h : sc.names.lookup x = some .cell) : ∃ c, (cellsFrom n sc.names []).lookup x = some c := by
  have q := PySem.W.cellsFrom_some sc.names n [] (.inl h)
  exact Option.isSome_iff_exists.mp q
theorem inv_start {CX : CXT} {P : Program} {w : World} {K : PySem.W.Frag} {mg : Str → Option Value} {base : Heap} {N ps : List Str} {qual : Str} {scope : Scope} {f : Addr} {cd : Value} {A : Around} {outer : List Env} {s s1 : Shared} {H : Hp} {E : XK} {us : List Value} {vs : List V}
    (S : FnScope N ps scope) (hd : A.handled = none) (e0 : Env0 P w K mg base A outer s H) (hl : vs.length = ps.length) (r : Vals vs us)
    (x : InCallC s s.heap.objs.size (bindL (envOfC qual scope s.heap.objs.size f cd).kindOf (ps.zip us) fun _ => none) (cellsFrom (s.heap.objs.size + 1) scope.names []) (bindC (envOfC qual scope s.heap.objs.size f cd).kindOf (ps.zip us) fun _ => none) s1) :
    Inv (cxOf CX P w K mg base N qual scope f cd A outer s H E) [] (start N vs) H s1 := by
  have hpl : ps.length ≤ N.length := by have := congrArg List.length S.pre; rw [List.length_take] at this; omega
  obtain ⟨h1, tk, rfl, hk⟩ := x.done
  have noA : ∀ b : Addr, b ∉ (cxOf CX P w K mg base N qual scope f cd A outer s H E).ex := fun b z => absurd (show b ∈ ([] : List Addr) from z) (by simp)
  refine ⟨⟨e0.mod, S.kind, rfl, rfl, Nat.le_refl _, fun y z c h1 h2 => ?_, fun y hy => ?_, fun y c _ h => ?_, fun _ => hd, Around.frames_deeper e0.frames, .inr ⟨rfl, rfl⟩, fun b z => absurd z (noA b), e0.bs, e0.bsz, fun b _ _ => noA b, fun b z => absurd z (noA b), e0.funs, e0.frf⟩,
    rfl, e0.bare, Un.kept hk, ⟨_, x.toInCall.ns, fun i y v h1 h2 h3 => ?_⟩, fun y c h => ⟨_, x.cell y c h⟩, e0.hok.fresh (Nat.le_refl _), fun y c h => ?_, fun p hp => absurd (show p ∈ ([] : List (Addr × Obj)) from hp) (by simp), e0.hok.kept hk, ?_⟩
  · exact name_of_addr x.apart (PySem.mem_of_lookup h1) (PySem.mem_of_lookup h2)
  · have hy : scope.names.lookup y = some .cell ∨ scope.names.lookup y = some .free := hy
    rcases hy with hy | hy
    · exact cell_has hy
    · exact absurd rfl (S.nofree _ (PySem.mem_of_lookup hy))
  · exact Nat.le_of_lt (x.above y c (PySem.mem_of_lookup h))
  · have hi : i < vs.length := by
      unfold start at h2
      by_cases hi : i < vs.length
      · exact hi
      · rw [List.getElem?_append_right (by simpa using hi)] at h2
        rw [List.getElem?_replicate] at h2
        split at h2 <;> cases h2
    have ha : vs[i]? = some v := by
      unfold start at h2
      rw [List.getElem?_append_left (by simpa using hi), List.getElem?_map] at h2
      cases e : vs[i]? with
      | none => rw [e] at h2; cases h2
      | some a => rw [e] at h2; cases h2; rfl
    obtain ⟨u, hu, rv⟩ := r.get ha
    have hp : ps[i]? = some y := by
      rw [← S.pre, List.getElem?_take_of_lt (by omega)]; exact h1
    have ndP : ps.Nodup := by rw [← S.pre]; exact S.nd.sublist (List.take_sublist _ _)
    refine ⟨u, rv, ?_⟩
    rcases S.par y (List.mem_of_getElem? hp) with k | k
    · exact .inl ⟨k, bindL_get ndP hp hu k⟩
    · obtain ⟨c, e⟩ := cell_has (n := s.heap.objs.size + 1) k
      refine .inr ⟨.inl k, c, e, ?_⟩
      have q := x.cell y c e
      rw [bindC_get ndP hp hu (by show scope.names.lookup y ≠ _; rw [k]; decide)] at q
      exact q
  · exact e0.hok.fresh (Nat.le_of_lt (x.above y c (PySem.mem_of_lookup h)))
  · unfold start
    show _ = N.length
    rw [List.length_append, List.length_map, List.length_replicate]
    omega
/-- THE RULE: a def (or a method) of the text, by its body. The body's reading t is chosen for each entry; it is run at the parameters' values -/
theorem fn_of {CX : CXT} {P : Program} {w : World} {K : PySem.W.Frag} {mg : Str → Option Value} {base : Heap} {k : Nat} {f : Addr} {name qual : Str} {params : Arguments} {body : List Stmt} {scope : Scope} {dV kV doc pm cdv ct oc : Value} {an od : Option Addr}
    {osl : Array (Option Value)} {N ps : List Str} {sp : Sp} (lk : K.lookup f = some ⟨oc, od, .func (PySem.W.fnOf name qual params body scope dV kV doc pm an cdv ct), osl⟩) (hcd : PySem.W.codeIn K cdv qual = true) (S : FnScope N ps scope)
    (len : ∀ vs H Q E, sp vs H Q E → vs.length = ps.length)
    (hbody : ∀ (A : Around) (outer : List Env) (s : Shared) (H : Hp) (vs : List V) (Q : VK) (E : XK), Room k (A.deeper (envOfC qual scope s.heap.objs.size f cdv)) → sp vs H Q E →
      ∃ t, PSs (cxOf CX P w K mg base N qual scope f cdv A outer s H E) body t ∧ t { nx := fun _ H' => Q .non H', rt := Q } (start N vs) H) :
    FnOk P w K mg base CX (k + 1) f (PySem.W.fnOf name qual params body scope dV kV doc pm an cdv ct) ps sp := by
  refine ⟨len, fun A outer s H args us vs Q E hr e0 hb r hsp => ?_⟩
  have hl := len _ _ _ _ hsp
  have KX : K.In s.heap := e0.mod.kin.keeps fun b o e => (e0.bs b o e).1
  have lim : s.heap.NoLimit := e0.mod.nolimit.keeps fun b o e => (e0.bs b o e).1
  have hkind : ∀ y ∈ ps.zip us, scope.names.lookup y.1 = some .local ∨ (scope.names.lookup y.1 = some .cell ∧ ((cellsFrom (s.heap.objs.size + 1) scope.names []).lookup y.1).isSome = true) := fun ⟨n, v⟩ hy => by
    rcases S.par n (List.of_mem_zip hy).1 with q | q
    · exact .inl q
    · exact .inr ⟨q, PySem.W.cellsFrom_some _ _ _ (.inl q)⟩
  refine codeAny_call_function hr.depth (KX _ _ lk) rfl S.co S.gen rfl (PySem.W.codeRec_of KX hcd) (hb _ _ _ _ ?_)
  refine wpAny_newFunctionEnv_cells S.kind hkind fun env he s1 x => ?_
  subst he
  refine ⟨lim.keeps x.toInCall.keep, codeAny_func ?_⟩
  obtain ⟨t, ht, hq⟩ := hbody A outer s H vs Q E (hr.deeper _) hsp
  have I : Inv (cxOf CX P w K mg base N qual scope f cdv A outer s H E) [] (start N vs) H s1 := inv_start S hr.hd e0 hl r x
  refine wpAny_mono (ht [] s1 (start N vs) H _ I hq) (fun fl s' hs => ?_) fun e s' hs => hs
  have fin : ∀ {σ' : St} {H' : Hp} {v : V} {u : Value}, Inv (cxOf CX P w K mg base N qual scope f cdv A outer s H E) [] σ' H' s' → RelV v u → Q v H' → CE outer P w H s Q u s' :=
    fun {σ' H' v u} J rv q => ⟨v, H', J.os, J.bare, J.base, J.hok, rv, q⟩
  cases fl with
  | ret u =>
    obtain ⟨v, σ', H', J, rv, q⟩ := hs
    exact fin J rv q
  | next =>
    obtain ⟨σ', H', J, q⟩ := hs
    exact fin (v := V.non) (u := Value.none) J rfl q
  | brk =>
    obtain ⟨_, _, _, q⟩ := hs
    exact False.elim q
  | cont =>
    obtain ⟨_, _, _, q⟩ := hs
    exact False.elim q
end L2
namespace L2
open PySem PySem.Spec PyProof.Rows
section
variable {X : Cx} {x : Str} {p pos : Pos} {e : Expr} {es : List Expr} {t : TA} {id T : String} {r : List V → Hp → VK → Prop}
def tCB (r : List V → Hp → VK → Prop) (t : TA) : TE := fun σ H Q => t σ H fun vs H1 => r vs H1 Q
/-- f(e, ..), f a built-in function -/
theorem pe_callB (hc : CallR X (.builtin id) r) (hg : Gl X x) (hm : X.mg x = none) (hv : bootBuiltins x = some (.builtin id)) (ha : PA X (e :: es) t) (hn : x ≠ "__name__" := by decide) (hdb : (x == ("__debug__" : Str)) = false := by decide)
    (he : starEach (e :: es) X.env = (false, eval e X.env) :: starEach es X.env := by rfl) (hpl : (backTo pos (starEach es X.env)).any (·.1) = false := by rfl) : PE X (.Call (.Name x p) (e :: es) [] pos) (tCB r t) := by
  intro pins s σ H Q I h
  refine wpAny_Call_Name_kw (ld_blt I hg hm hv ?_ hn hdb)
  exact PyProof.Rows.callWith_builtin1 (thn (ha pos pins s σ H _ I h) fun us s1 ⟨vs, H1, I1, r1, q1⟩ => hc pins s1 σ H1 vs us Q I1 r1 q1) he hpl
/-- T(e, ..), T a built-in type -/
theorem pe_callTy (hc : CallR X (.type T) r) (hg : Gl X x) (hm : X.mg x = none) (hv : bootBuiltins x = some (.type T)) (ha : PA X (e :: es) t) (hn : x ≠ "__name__" := by decide) (hdb : (x == ("__debug__" : Str)) = false := by decide)
    (he : starEach (e :: es) X.env = (false, eval e X.env) :: starEach es X.env := by rfl) (hpl : (backTo pos (starEach es X.env)).any (·.1) = false := by rfl) : PE X (.Call (.Name x p) (e :: es) [] pos) (tCB r t) := by
  intro pins s σ H Q I h
  refine wpAny_Call_Name_kw (ld_blt I hg hm hv ?_ hn hdb)
  exact PyProof.Rows.callWith_type1 (thn (ha pos pins s σ H _ I h) fun us s1 ⟨vs, H1, I1, r1, q1⟩ => hc pins s1 σ H1 vs us Q I1 r1 q1) he hpl
end
end L2
namespace HT
open PySem PyProof.Rows
/-- t < u of tuples of ints -/
def lexLt : List Int → List Int → Bool
  | [], [] => false
  | [], _ :: _ => true
  | _ :: _, [] => false
  | x :: xs, y :: ys => if x = y then lexLt xs ys else decide (x < y)
section
open PySem.SeqAt
open PySem.AutoSeq1 (wpAny_loadPart')
open PySem.MeetsSeq PySem.MeetsSeq2 PySem.MeetsSeq3
end
section
variable {prog : Program} {w : World} {A : Around} {E : Value → Shared → Prop} {s : Shared}
/-- t + u, t not empty -/
theorem cat_tup {t b : Addr} {vs ws : List Value} {Q : Value → Shared → Prop} (ht : IsTup s.heap t vs.toArray) (hb : IsTup s.heap b ws.toArray) (hv : vs ≠ [])
    (h1 : ws = [] → Q (.ref t) s) (h2 : ws ≠ [] → Q (.ref s.heap.objs.size) { s with heap := s.heap.push { cls := .type "tuple", data := .seq (vs ++ ws).toArray } })
    (hsz : vs.length + ws.length ≤ sizeLine) : wpAny (model prog w) A (binaryOp .Add (.ref t) (.ref b)) Q E s := by
  obtain ⟨⟨cls, dd, data, sl⟩, ho, hc, n, hd⟩ := id ht
  obtain ⟨⟨cls2, dd2, data2, sl2⟩, ho2, hc2, n2, hd2⟩ := id hb
  simp only at hc hd hc2 hd2
  subst hc hd hc2 hd2
  have e : vs.toArray ++ ws.toArray = (vs ++ ws).toArray := by simp
  by_cases hw : ws = []
  · exact concat_meets ⟨_, ho, rfl⟩ ⟨_, ho2, rfl⟩ noFill_tuple_add seq_tuple_add PySem.F.slot_tuple_add PySem.F.entry_tuple_add (PySem.F.args_tuple_add_2 _ _)
      (tuple_addW1 t b vs.toArray ws.toArray n n2 dd dd2 sl sl2 (by simpa using hv) (by simp [hw])) ⟨ho, ho2, h1 hw⟩
  · refine concat_meets ⟨_, ho, rfl⟩ ⟨_, ho2, rfl⟩ noFill_tuple_add seq_tuple_add PySem.F.slot_tuple_add PySem.F.entry_tuple_add (PySem.F.args_tuple_add_2 _ _)
      (tuple_addW2 t b vs.toArray ws.toArray n n2 dd dd2 sl sl2 (by simpa using hv) (by simpa using hw) (by rw [List.size_toArray, List.size_toArray]; exact hsz)) ⟨ho, ho2, ?_⟩
    rw [e]
    exact h2 hw
/-! ### t[a:b], not the whole -/
/-- a slice's bound as a place among n (d where it is left out) -/
def sIx (n d : Nat) : Option Int → Nat
  | none => d
  | some v => if v < 0 then (v + (n : Int)).toNat else min v.toNat n
theorem sIx_le (n d : Nat) (hd : d ≤ n) (o : Option Int) : sIx n d o ≤ n := by
  cases o with
  | none => exact hd
  | some v =>
    show (if v < 0 then (v + (n : Int)).toNat else min v.toNat n) ≤ n
    by_cases hv : v < 0
    · rw [if_pos hv]; omega
    · rw [if_neg hv]; exact Nat.min_le_right _ _
theorem clip_eq (v : Int) (n d : Nat) : (if v < 0 then max (v + (n : Int)) 0 else min v (n : Int)) = ((sIx n d (some v) : Nat) : Int) := by
  show (if v < 0 then max (v + (n : Int)) 0 else min v (n : Int)) = (((if v < 0 then (v + (n : Int)).toNat else min v.toNat n) : Nat) : Int)
  by_cases hv : v < 0
  · simp only [if_pos hv]; omega
  · simp only [if_neg hv]; omega
theorem adjust_gen (lo hi : Option Int) (n : Nat) : Builtin.Slice.sliceAdjust lo hi 1 (n : Int) = (((sIx n 0 lo : Nat) : Int), ((sIx n n hi : Nat) : Int)) := by
  have h1 : ¬ ((1 : Int) < 0) := by omega
  unfold Builtin.Slice.sliceAdjust
  simp only [h1, if_false]
  refine Prod.ext ?_ ?_
  · cases lo with
    | none => rfl
    | some v => exact clip_eq v n 0
  · cases hi with
    | none => rfl
    | some v => exact clip_eq v n n
theorem places_gen (i j : Nat) : Builtin.Slice.slicePlaces (i : Int) (j : Int) 1 = j - i := by
  unfold Builtin.Slice.slicePlaces
  have h1 : (1 : Int) > 0 := by omega
  simp only [h1, if_true, Int.ediv_one]
  split <;> omega
theorem slicePart_ {v : Value} {o : Option Int} {Q : Option Int → Shared → Prop} (p : IsPart v o) (h : Q o s) : wpAny (model prog w) A (Builtin.Slice.slicePartIndex v) Q E s := by
  cases p with
  | none => exact slicePart_none h
  | int i t => exact slicePart_int h
theorem sliceApplied_gen {sl : Addr} {vl vu : Value} {lo hi : Option Int} {n : Nat} {Q : Int × Int × Nat → Shared → Prop} (hs : s.heap.IsSliceOf sl vl vu .none) (pl : IsPart vl lo) (pu : IsPart vu hi)
    (h : Q (((sIx n 0 lo : Nat) : Int), 1, sIx n n hi - sIx n 0 lo) s) : wpAny (model prog w) A (Builtin.Slice.sliceApplied (.ref sl) (pure (n : Int))) Q E s := by
  obtain ⟨os, hos, hcs, hds⟩ := id hs
  unfold Builtin.Slice.sliceApplied Builtin.Slice.sliceFields
  refine wpAny_bind (wpAny_bind (wpAny_field hos hds (x := vl) rfl (wpAny_bind (wpAny_field hos hds (x := vu) rfl (wpAny_bind (wpAny_field hos hds (x := .none) rfl (wpAny_pure ?_)))))))
  refine wpAny_bind (slicePart_none ?_)
  show wpAny _ _ (if ((1 : Int) == 0) = true then _ else _) _ _ s
  rw [if_neg (by decide)]
  refine wpAny_bind (slicePart_ pl (wpAny_bind (slicePart_ pu (wpAny_bind (wpAny_pure ?_)))))
  show wpAny _ _ (match Builtin.Slice.sliceAdjust lo hi 1 (n : Int) with | (lo, hi) => pure (lo, (1 : Int), Builtin.Slice.slicePlaces lo hi 1)) _ _ s
  rw [adjust_gen lo hi n]
  show wpAny _ _ (pure (((sIx n 0 lo : Nat) : Int), (1 : Int), Builtin.Slice.slicePlaces ((sIx n 0 lo : Nat) : Int) ((sIx n n hi : Nat) : Int) 1)) _ _ s
  rw [places_gen]
  exact wpAny_pure h
theorem pick_gen (xs : Array Value) (i k : Nat) : ((List.range k).filterMap fun (m : Nat) => xs[((i : Int) + (m : Int) * 1).toNat]?).toArray = ((xs.toList.drop i).take k).toArray := by
  have e : (fun (m : Nat) => xs[((i : Int) + (m : Int) * 1).toNat]?) = fun m => xs[i + m]? := by
    funext m
    have : ((i : Int) + (m : Int) * 1).toNat = i + m := by omega
    rw [this]
  rw [e]
  have := pick_run xs i k
  rw [List.filterMap_map] at this
  have e2 : ((fun x => xs[x]?) ∘ fun x => i + x) = fun m => xs[i + m]? := rfl
  rw [e2] at this
  rw [this]
theorem getItem_tuple_cut {t sl : Addr} {items : Array Value} {vl vu : Value} {lo hi : Option Int} {Q : Value → Shared → Prop} (ht : IsTup s.heap t items) (hs : s.heap.IsSliceOf sl vl vu .none) (pl : IsPart vl lo) (pu : IsPart vu hi)
    (hw : ¬ (sIx items.size 0 lo = 0 ∧ sIx items.size items.size hi = items.size))
    (h : Q (.ref s.heap.objs.size) { s with heap := s.heap.push { cls := .type "tuple", data := .seq ((items.toList.drop (sIx items.size 0 lo)).take (sIx items.size items.size hi - sIx items.size 0 lo)).toArray } })
    (hsz : items.size ≤ sizeLine) : wpAny (model prog w) A (getItem (.ref t) (.ref sl)) Q E s := by
  have htake : sizeOk (.seq ((items.toList.drop (sIx items.size 0 lo)).take (sIx items.size items.size hi - sIx items.size 0 lo)).toArray) := by
    show ((items.toList.drop (sIx items.size 0 lo)).take (sIx items.size items.size hi - sIx items.size 0 lo)).toArray.size ≤ sizeLine
    rw [List.size_toArray, List.length_take, List.length_drop, Array.length_toList]
    omega
  have hj : sIx items.size items.size hi ≤ items.size := sIx_le _ _ (Nat.le_refl _) hi
  obtain ⟨os, hos, hcs, hds⟩ := id hs
  have hTs : s.TypeIs (.ref sl) "slice" := ⟨os, hos, hcs⟩
  unfold getItem
  try with_reducible refine wpAny_holding ?_
  first | refine wpAny_bind (wpAny_pure ?_) | skip
  refine wpAny_bind (wpAny_sequenceKey ht.typeIs (by decide) ?_)
  refine wpAny_bind (wpAny_callSpecial?_slot (name := Str.ofString "__getitem__") ht.typeIs PyProof.Rows.slot_tuple_getitem
    (wpAny_call_entry PyProof.Rows.slot_tuple_getitem ht.typeIs entry_tuple_getitem ?_ (args_tuple_getitem _ _)))
  show wpAny _ _ (Builtin.Tuple.tupleItemsOf (.ref t) >>= _) _ _ s
  refine wpAny_bind (tupleItemsOf_ ht ?_)
  refine wpAny_bind (wpAny_typeOf hTs ?_)
  rw [if_pos (by decide)]
  refine wpAny_bind (sliceApplied_gen hs pl pu ?_)
  have hno : ¬ ((((sIx items.size 0 lo : Nat) : Int) == 0 && (1 : Int) == 1 && (sIx items.size items.size hi - sIx items.size 0 lo) == items.size) = true) := by
    intro q
    rw [Bool.and_eq_true, Bool.and_eq_true] at q
    have q1 : ((sIx items.size 0 lo : Nat) : Int) = 0 := eq_of_beq q.1.1
    have q2 : sIx items.size items.size hi - sIx items.size 0 lo = items.size := eq_of_beq q.2
    exact hw ⟨by omega, by omega⟩
  show wpAny _ _ (if (((sIx items.size 0 lo : Nat) : Int) == 0 && (1 : Int) == 1 && (sIx items.size items.size hi - sIx items.size 0 lo) == items.size) = true then _ else _) _ _ s
  rw [if_neg hno, pick_gen]
  first
    | exact wpAny_bind (m := Builtin.Tuple.tupleExact _) (wpAny_newObj_type (wpAny_pure ⟨_, rfl, wpAny_pure h⟩) htake)
    | exact wpAny_bind (m := Builtin.Tuple.tupleExact _) (wpAny_newObj_type (wpAny_bind (wpAny_pure (wpAny_pure ⟨_, rfl, wpAny_pure h⟩))) htake)
    | exact wpAny_bind (wpAny_bind (m := Builtin.Tuple.tupleExact _) (wpAny_newObj_type (wpAny_pure (wpAny_pure ⟨_, rfl, wpAny_pure h⟩)) htake))
    | exact wpAny_bind (wpAny_bind (m := Builtin.Tuple.tupleExact _) (wpAny_newObj_type (wpAny_pure ⟨_, rfl, wpAny_pure h⟩) htake))
end
end HT
namespace L2
open PySem PySem.Spec PyProof.Rows
/-! ### the parts of a slice -/
abbrev TO := St → Hp → (Option Int → Hp → Prop) → Prop
/-- a slice's part (left out, or an int) -/
def PO (X : Cx) (e : Option Expr) (t : TO) : Prop :=
  ∀ (pins : List (Addr × Obj)) (s : Shared) (σ : St) (H : Hp) (Q : Option Int → Hp → Prop), Inv X pins σ H s → t σ H Q →
    wpAny (model X.prog X.w) X.A (evalPart e X.env) (fun u s' => ∃ o H', Inv X pins σ H' s' ∧ IsPart u o ∧ Q o H') X.xe s
def tNoPart : TO := fun _ H Q => Q none H
def tPart (t : TE) : TO := fun σ H Q => t σ H fun x H1 => ∃ i, x = .int i ∧ Q (some i) H1
section
variable {X : Cx} {e : Expr} {te : TE} {lo hi : Option Expr} {tl th : TO} {pos p2 : Pos}
theorem po_none : PO X none tNoPart := by
  intro pins s σ H Q I h
  rw [evalPart_none]
  exact wpAny_pure ⟨none, H, I, .none, h⟩
theorem po_some (h : PE X e te) : PO X (some e) (tPart te) := by
  intro pins s σ H Q I hw
  rw [evalPart_some]
  refine thn (h pins s σ H _ I hw) fun u s1 ⟨x, H1, I1, r1, q1⟩ => ?_
  obtain ⟨i, rfl, q⟩ := q1
  obtain ⟨t, rfl⟩ := r1
  exact ⟨some i, H1, I1, .int i t, q⟩
/-- what a slice of a value is, by values: the slice object stands at sl -/
def SlR (X : Cx) (r : V → Option Int → Option Int → Hp → VK → Prop) : Prop :=
  ∀ (pins : List (Addr × Obj)) (s : Shared) (σ : St) (H : Hp) (x : V) (v vl vu : Value) (lo hi : Option Int) (sl : Addr) (Q : VK), Inv X pins σ H s → RelV x v → s.heap.IsSliceOf sl vl vu .none → IsPart vl lo → IsPart vu hi → r x lo hi H Q →
    ∃ T id, typeLookup (.type T) "__getitem__" = pure (some (.builtin id)) ∧ s.TypeIs v T ∧ wpAny (model X.prog X.w) X.A (getItem v (.ref sl)) (EP X pins σ Q) X.xe s
theorem SlR.or {r r' : V → Option Int → Option Int → Hp → VK → Prop} (h : SlR X r) (h' : SlR X r') : SlR X (fun x lo hi H Q => r x lo hi H Q ∨ r' x lo hi H Q) := by
  intro pins s σ H x v vl vu lo hi sl Q I rx hs pl pu q
  rcases q with q | q
  · exact h pins s σ H x v vl vu lo hi sl Q I rx hs pl pu q
  · exact h' pins s σ H x v vl vu lo hi sl Q I rx hs pl pu q
def tSl (r : V → Option Int → Option Int → Hp → VK → Prop) (te : TE) (tl th : TO) : TE := fun σ H Q => te σ H fun x H1 => tl σ H1 fun l H2 => th σ H2 fun u H3 => r x l u H3 Q
/-- a[lo:hi], any a -/
theorem pe_slice {r : V → Option Int → Option Int → Hp → VK → Prop} (hr : SlR X r) (he : PE X e te) (hl : PO X lo tl) (hu : PO X hi th) : PE X (.Subscript e (.Slice lo hi none p2) pos) (tSl r te tl th) := by
  intro pins s σ H Q I h
  refine Subscript_ (thn (he pins s σ H _ I h) fun v s1 ⟨x, H1, I1, r1, q1⟩ => ?_)
  refine wpAny_Slice (thn (hl pins s1 σ H1 _ I1 q1) fun vl s2 ⟨l, H2, I2, pl, q2⟩ => thn (hu pins s2 σ H2 _ I2 q2) fun vu s3 ⟨u, H3, I3, pu, q3⟩ => ?_)
  rw [evalPart_none]
  refine wpAny_pure ?_
  have I4 : Inv X pins σ H3 { s3 with heap := s3.heap.push { cls := .type "slice", data := .fields #[vl, vu, .none] } } := I3.kept (t' := s3.toks) fun b ob q => Heap.get?_push_of_some _ q
  obtain ⟨T, id, hT, ht, hg⟩ := hr pins { s3 with heap := s3.heap.push { cls := .type "slice", data := .fields #[vl, vu, .none] } } σ H3 x v vl vu l u s3.heap.objs.size Q I4 r1 (Heap.IsSliceOf.new ..) pl pu q3
  show wpAny (model X.prog X.w) X.A (subscriptTail e (.Slice lo hi none p2) v (.ref s3.heap.objs.size)) (EP X pins σ Q) X.xe { s3 with heap := s3.heap.push { cls := .type "slice", data := .fields #[vl, vu, .none] } }
  exact tail_any (ops := [.ref s3.heap.objs.size, v]) ht hT hg (by with_unfolding_all rfl)
/-- the items of xs[lo:hi] -/
def cutV (xs : List V) (lo hi : Option Int) : List V := (xs.drop (HT.sIx xs.length 0 lo)).take (HT.sIx xs.length xs.length hi - HT.sIx xs.length 0 lo)
theorem cutV_length (xs : List V) (lo hi : Option Int) : (cutV xs lo hi).length ≤ xs.length := by
  unfold cutV
  rw [List.length_take, List.length_drop]
  omega
/-- t[lo:hi], not the whole of it (the whole would be t itself) -/
def rSlT (K : PySem.W.Frag) : V → Option Int → Option Int → Hp → VK → Prop := fun x lo hi H Q => ∃ a xs, x = .ref a ∧ SqT K H a xs ∧
  ¬ (HT.sIx xs.length 0 lo = 0 ∧ HT.sIx xs.length xs.length hi = xs.length) ∧ ∀ p, H p = none → Q (.ref p) (upd H p (.tup (cutV xs lo hi)))
theorem sl_tup : SlR X (rSlT X.K) := by
  intro pins s σ H x v vl vu lo hi sl Q I rx hs pl pu h
  obtain ⟨a, xs, rfl, hx, hw, q⟩ := h
  cases rx
  obtain ⟨its, r, ht, hz⟩ := I.tuple hx
  have hlen : its.toArray.size = xs.length := by rw [List.size_toArray]; exact r.length.symm
  refine ⟨"tuple", _, PyProof.Rows.slot_tuple_getitem.lookup, ht.typeIs, ?_⟩
  refine HT.getItem_tuple_cut ht hs pl pu (by rw [hlen]; exact hw) ?_ (by rw [hlen]; exact hz)
  rw [hlen]
  refine ⟨.ref s.heap.objs.size, _, I.laid (t' := s.toks) (o := .tup (cutV xs lo hi)) (fun b ob q => Heap.get?_push_of_some _ q) (Nat.le_refl _) ?_, rfl, q _ (I.hok.fresh (Nat.le_refl _))⟩
  exact ⟨Nat.le_trans (cutV_length xs lo hi) hz, _, (r.drop (HT.sIx xs.length 0 lo)).take (HT.sIx xs.length xs.length hi - HT.sIx xs.length 0 lo), IsTup.new _ _⟩
/-! ### t < u, t + u -/
/-- t + u, t not empty: u empty gives t itself -/
def rCatT (K : PySem.W.Frag) : R2 := fun x y H Q => ∃ a b xs ys, x = .ref a ∧ y = .ref b ∧ SqT K H a xs ∧ SqT K H b ys ∧ xs ≠ [] ∧ xs.length + ys.length ≤ sizeLine ∧
  (ys = [] → Q (.ref a) H) ∧ (ys ≠ [] → ∀ p, H p = none → Q (.ref p) (upd H p (.tup (xs ++ ys))))
theorem Vals.nil_iff {xs : List V} {us : List Value} (r : Vals xs us) : us = [] ↔ xs = [] := by
  cases r with
  | nil => simp
  | cons _ _ => simp
theorem op_catT : OpR X (binaryOp .Add) (rCatT X.K) := by
  intro pins s σ H x y v u Q I rx ry h
  obtain ⟨a, b, xs, ys, rfl, rfl, ha, hb, hx, hz, q1, q2⟩ := h
  cases rx
  cases ry
  obtain ⟨its, r1, p1, _⟩ := I.tuple ha
  obtain ⟨its2, r2, p2, _⟩ := I.tuple hb
  refine HT.cat_tup p1 p2 (fun z => hx (r1.nil_iff.mp z)) (fun z => ⟨.ref a, H, I, rfl, q1 (r2.nil_iff.mp z)⟩) (fun z => ?_) (by rw [← r1.length, ← r2.length]; exact hz)
  refine ⟨.ref s.heap.objs.size, _, I.laid (t' := s.toks) (o := .tup (xs ++ ys)) (fun b ob q => Heap.get?_push_of_some _ q) (Nat.le_refl _) ?_, rfl, q2 (fun w => z (r2.nil_iff.mpr w)) _ (I.hok.fresh (Nat.le_refl _))⟩
  exact ⟨by rw [List.length_append]; exact hz, _, r1.append r2, IsTup.new _ _⟩
end
end L2
namespace L2
open PySem PySem.Spec PyProof.Rows
/-! ### places -/
/-- the place that an index of any sign means -/
def ixN (n : Nat) (i : Int) : Option Nat := if 0 ≤ i then (if i < n then some i.toNat else none) else if -(n : Int) ≤ i then some (i + n).toNat else none
def atI {α : Type} (xs : List α) (i : Int) : Option α := (ixN xs.length i).bind fun j => xs[j]?
theorem ixN_seq {n : Nat} {i : Int} {j : Nat} (h : ixN n i = some j) : seqIndex? i n = some j ∧ j < n ∧ -(n : Int) ≤ i ∧ i < n := by
  unfold ixN at h
  by_cases h0 : 0 ≤ i
  · rw [if_pos h0] at h
    by_cases h1 : i < n
    · rw [if_pos h1] at h
      have e : i.toNat = j := Option.some.inj h
      exact ⟨by rw [seqIndex_of h0 h1, e], by omega, by omega, h1⟩
    · rw [if_neg h1] at h; cases h
  · rw [if_neg h0] at h
    by_cases h1 : -(n : Int) ≤ i
    · rw [if_pos h1] at h
      have e : (i + n).toNat = j := Option.some.inj h
      exact ⟨by rw [seqIndex_neg (by omega) h1, e], by omega, h1, by omega⟩
    · rw [if_neg h1] at h; cases h
theorem atI_get {α : Type} {xs : List α} {i : Int} {v : α} (h : atI xs i = some v) : ∃ j, seqIndex? i xs.length = some j ∧ xs[j]? = some v ∧ j < xs.length ∧ -(xs.length : Int) ≤ i ∧ i < xs.length := by
  unfold atI at h
  cases e : ixN xs.length i with
  | none => rw [e] at h; cases h
  | some j =>
    rw [e] at h
    obtain ⟨h1, h2, h3, h4⟩ := ixN_seq e
    exact ⟨j, h1, h, h2, h3, h4⟩
theorem atI_nat {α : Type} {xs : List α} {j : Nat} {v : α} (h : xs[j]? = some v) : atI xs (j : Int) = some v := by
  have hj : j < xs.length := (List.getElem?_eq_some_iff.mp h).1
  have e : ixN xs.length (j : Int) = some j := by
    unfold ixN
    rw [if_pos (by omega), if_pos (by omega)]; simp
  unfold atI; rw [e]; exact h
/-! ### what may be subscripted -/
/-- what stands as an index of a plain subscript -/
def PlainIx (b : Expr) : Prop := ∀ o i, subscripted b false o i = operate [o, i] (getItem o i)
/-- a subscript by values -/
def IxR (X : Cx) (r : R2) : Prop :=
  ∀ (value slice : Expr) (pins : List (Addr × Obj)) (s : Shared) (σ : St) (H : Hp) (x y : V) (v u : Value) (Q : VK), Inv X pins σ H s → RelV x v → RelV y u → r x y H Q →
    subscripted slice false v u = operate [v, u] (getItem v u) → wpAny (model X.prog X.w) X.A (subscriptTail value slice v u) (EP X pins σ Q) X.xe s
/-- a call of a builtin's method by values: the receiver, the arguments -/
def MtR (X : Cx) (id : String) (r : V → List V → Hp → VK → Prop) : Prop :=
  ∀ (pins : List (Addr × Obj)) (s : Shared) (σ : St) (H : Hp) (x : V) (xs : List V) (v : Value) (us : List Value) (Q : VK), Inv X pins σ H s → RelV x v → Vals xs us → r x xs H Q →
    wpAny (model X.prog X.w) X.A (call (.builtin id) (v :: us)) (EP X pins σ Q) X.xe s
section
variable {X : Cx} {a b : Expr} {ta tb : TE} {pos : Pos}
theorem IxR.or {r r' : R2} (h : IxR X r) (h' : IxR X r') : IxR X (fun x y H Q => r x y H Q ∨ r' x y H Q) := by
  intro value slice pins s σ H x y v u Q I rx ry q hs
  rcases q with q | q
  · exact h value slice pins s σ H x y v u Q I rx ry q hs
  · exact h' value slice pins s σ H x y v u Q I rx ry q hs
/-- a[b] -/
theorem pe_ix {r : R2} (hr : IxR X r) (ha : PE X a ta) (hb : PE X b tb) (hs : PlainIx b) : PE X (.Subscript a b pos) (tOp r ta tb) := by
  intro pins s σ H Q I h
  exact Subscript_ (binT ha hb I h fun v u s2 x y H2 I2 rx ry q => hr a b pins s2 σ H2 x y v u Q I2 rx ry q (hs _ _))
def rIxL (K : PySem.W.Frag) : R2 := fun x y H Q => ∃ p xs i v, x = .ref p ∧ y = .int i ∧ SqL K H p xs ∧ atI xs i = some v ∧ Q v H
def rIxT (K : PySem.W.Frag) : R2 := fun x y H Q => ∃ p xs i v, x = .ref p ∧ y = .int i ∧ SqT K H p xs ∧ atI xs i = some v ∧ Q v H
def rIxS : R2 := fun x y H Q => ∃ z i c, x = .str z ∧ y = .int i ∧ z.length ≤ sizeLine ∧ atI z.cps.toList i = some c ∧ Q (.str ⟨#[c]⟩) H
theorem ix_list : IxR X (rIxL X.K) := by
  intro value slice pins s σ H x y v u Q I rx ry h hs
  obtain ⟨p, xs, i, z, rfl, rfl, hq, he, q⟩ := h
  cases rx
  obtain ⟨t, rfl⟩ := ry
  obtain ⟨its, r, pl, hz⟩ := I.list hq
  obtain ⟨j, h1, h2, h3, h4, h5⟩ := atI_get he
  obtain ⟨w, ew, rw'⟩ := r.get h2
  have hl := r.length
  have hn := line63
  have fin : EP X pins σ Q w s := ⟨z, H, I, rw', q⟩
  by_cases h0 : 0 ≤ i
  · have hj : i.toNat = j := by
      rw [seqIndex_of h0 h5] at h1
      exact Option.some.inj h1
    exact item_listR pl.isList h0 (by omega) (by rw [hj]; simpa using ew) fin hs
  · have hj : (i + (its.toArray.size : Int)).toNat = j := by
      rw [seqIndex_neg (by omega) h4] at h1
      rw [List.size_toArray, ← hl]
      exact Option.some.inj h1
    exact subscriptTail_builtinR (x := w) pl.isList.typeIs slot_list_getitem.lookup
      (wpAny_getItem_list_neg (Q := fun r s' => r = w ∧ EP X pins σ Q r s') pl.isList (by omega) (by rw [List.size_toArray] <;> omega) (by omega) (by rw [hj]; simpa using ew) ⟨rfl, fin⟩) hs
theorem ix_tup : IxR X (rIxT X.K) := by
  intro value slice pins s σ H x y v u Q I rx ry h hs
  obtain ⟨p, xs, i, z, rfl, rfl, hq, he, q⟩ := h
  cases rx
  obtain ⟨t, rfl⟩ := ry
  obtain ⟨its, r, pl, hz⟩ := I.tuple hq
  obtain ⟨j, h1, h2, h3, h4, h5⟩ := atI_get he
  obtain ⟨w, ew, rw'⟩ := r.get h2
  have hl := r.length
  have hn := line63
  have fin : EP X pins σ Q w s := ⟨z, H, I, rw', q⟩
  exact subscriptTail_builtinR (x := w) pl.typeIs slot_tuple_getitem.lookup
    (getItem_tuple (j := j) (Q := fun r s' => r = w ∧ EP X pins σ Q r s') pl (by omega) (by omega) (by rw [List.size_toArray, ← hl]; exact h1) (by simpa using ew) ⟨rfl, fin⟩) hs
theorem ix_str : IxR X rIxS := by
  intro value slice pins s σ H x y v u Q I rx ry h hs
  obtain ⟨z, i, c, rfl, rfl, hz, he, q⟩ := h
  obtain ⟨t, rfl⟩ := rx
  obtain ⟨t', rfl⟩ := ry
  obtain ⟨j, h1, h2, h3, h4, h5⟩ := atI_get he
  have hl : z.cps.toList.length = z.length := by simp [Str.length]
  rw [hl] at h1 h4 h5
  have hn := line63
  exact tail_any (typeIs_str s z t) slot_str_getitem.lookup (getItem_str (c := c) (by
    have e1 : decide (i < -(2 ^ 63 : Int)) = false := decide_eq_false (by omega)
    have e2 : decide (i ≥ 2 ^ 63) = false := decide_eq_false (by omega)
    rw [e1, e2, Bool.or_false]) (by rw [h1]; simpa using h2) ⟨.str ⟨#[c]⟩, H, I.tok _, ⟨_, rfl⟩, q⟩) hs
/-- list, tuple or str -/
def rIx (K : PySem.W.Frag) : R2 := fun x y H Q => rIxL K x y H Q ∨ rIxT K x y H Q ∨ rIxS x y H Q
theorem ix_seq : IxR X (rIx X.K) := ix_list.or (ix_tup.or ix_str)
/-! ### xs[i] = v, any sign -/
theorem Inv.lst {pins : List (Addr × Obj)} {σ : St} {H : Hp} {s : Shared} {p : Addr} {xs : List V} (I : Inv X pins σ H s) (h : H p = some (.lst xs)) :
    ∃ (its : List Value) (n : Nat), Vals xs its ∧ s.heap.get? p = some { cls := .type "list", data := .seq its.toArray n } ∧ xs.length ≤ sizeLine := by
  obtain ⟨z, its, n, r, e⟩ := I.hok p _ h
  exact ⟨its, n, r, e, z⟩
/-! ### slices -/
theorem slice_bounds (lo hi : Option Int) (n : Nat) : (sliceBounds lo hi none n).1 = ((HT.sIx n 0 lo : Nat) : Int) ∧ (sliceBounds lo hi none n).2.1 = ((HT.sIx n n hi : Nat) : Int) ∧ (sliceBounds lo hi none n).2.2 = 1 := by
  refine ⟨?_, ?_, rfl⟩
  · cases lo with
    | none => simp [sliceBounds, HT.sIx]
    | some i =>
      simp only [sliceBounds, HT.sIx, Option.getD_none, show (1 : Int) > 0 by decide, if_true]
      by_cases h : i < 0
      · simp only [h, if_true] <;> omega
      · simp only [h, if_false] <;> omega
  · cases hi with
    | none => simp [sliceBounds, HT.sIx]
    | some i =>
      simp only [sliceBounds, HT.sIx, Option.getD_none, show (1 : Int) > 0 by decide, if_true]
      by_cases h : i < 0
      · simp only [h, if_true] <;> omega
      · simp only [h, if_false] <;> omega
theorem slicePick_cut (its : List Value) (lo hi : Option Int) : slicePick its.toArray lo hi none = ((its.drop (HT.sIx its.length 0 lo)).take (HT.sIx its.length its.length hi - HT.sIx its.length 0 lo)).toArray := by
  obtain ⟨h1, h2, h3⟩ := slice_bounds lo hi its.toArray.size
  unfold slicePick
  rw [h1, h2, h3]
  simp only [sliceRange_one, pick_run, List.size_toArray] <;> rfl
/-- xs[lo:hi] of a list: a new list -/
def rSlL (K : PySem.W.Frag) : V → Option Int → Option Int → Hp → VK → Prop := fun x lo hi H Q => ∃ a xs, x = .ref a ∧ SqL K H a xs ∧ ∀ p, H p = none → Q (.ref p) (upd H p (.lst (cutV xs lo hi)))
theorem sl_list : SlR X (rSlL X.K) := by
  intro pins s σ H x v vl vu lo hi sl Q I rx hs pl pu h
  obtain ⟨a, xs, rfl, hx, q⟩ := h
  cases rx
  obtain ⟨its, r, ht, hz⟩ := I.list hx
  have hlen := r.length
  refine ⟨"list", _, slot_list_getitem.lookup, ht.isList.typeIs, ?_⟩
  refine wpAny_getItem_list_slice ht.isList hs pl pu .none (by simp) ?_ (by rw [List.size_toArray] <;> omega)
  rw [slicePick_cut, ← hlen]
  refine ⟨.ref s.heap.objs.size, _, I.laid (t' := s.toks) (o := .lst (cutV xs lo hi)) (fun b ob q => Heap.get?_push_of_some _ q) (Nat.le_refl _) ?_, rfl, q _ (I.hok.fresh (Nat.le_refl _))⟩
  exact ⟨Nat.le_trans (cutV_length xs lo hi) hz, _, 0, (r.drop (HT.sIx xs.length 0 lo)).take (HT.sIx xs.length xs.length hi - HT.sIx xs.length 0 lo), Heap.get?_push_size _ rfl⟩
/-! ### in, not in: flat items -/
def flatV : V → Bool
  | .non => true
  | .bl _ => true
  | .int _ => true
  | .str _ => true
  | _ => false
/-- == of flat values -/
def eqV : V → V → Bool
  | .non, .non => true
  | .bl a, .bl b => a == b
  | .bl a, .int b => (if a then 1 else 0) == b
  | .int a, .bl b => a == (if b then 1 else 0)
  | .int a, .int b => a == b
  | .str a, .str b => a == b
  | _, _ => false
theorem eqAt_V {A : Around} {s : Shared} {y x : V} {u v : Value} (ry : RelV y u) (rx : RelV x v) (fy : flatV y = true) (fx : flatV x = true) : SeqAt.EqAt A s u v (eqV y x) := by
  cases y with
  | non =>
    cases ry
    cases x with
    | non => cases rx; exact SeqAt.EqAt.same _
    | bl b => cases rx; exact SeqAt.EqAt.none_bool b
    | int b => obtain ⟨t, rfl⟩ := rx; exact SeqAt.EqAt.none_int b t
    | str b => obtain ⟨t, rfl⟩ := rx; exact SeqAt.EqAt.none_str b t
    | _ => exact absurd (show false = true from fx) Bool.false_ne_true
  | bl a =>
    cases ry
    cases x with
    | non => cases rx; exact SeqAt.EqAt.bool_none a
    | bl b => cases rx; exact SeqAt.EqAt.bool_bool a b
    | int b => obtain ⟨t, rfl⟩ := rx; exact SeqAt.EqAt.bool_int a b t
    | str b => obtain ⟨t, rfl⟩ := rx; exact SeqAt.EqAt.bool_str a b t
    | _ => exact absurd (show false = true from fx) Bool.false_ne_true
  | int a =>
    obtain ⟨t', rfl⟩ := ry
    cases x with
    | non => cases rx; exact SeqAt.EqAt.int_none a t'
    | bl b => cases rx; exact SeqAt.EqAt.int_bool a t' b
    | int b => obtain ⟨t, rfl⟩ := rx; exact SeqAt.EqAt.int_int a t' b t
    | str b => obtain ⟨t, rfl⟩ := rx; exact SeqAt.EqAt.int_str a t' b t
    | _ => exact absurd (show false = true from fx) Bool.false_ne_true
  | str a =>
    obtain ⟨t', rfl⟩ := ry
    cases x with
    | non => cases rx; exact SeqAt.EqAt.str_none a t'
    | bl b => cases rx; exact SeqAt.EqAt.str_bool a t' b
    | int b => obtain ⟨t, rfl⟩ := rx; exact SeqAt.EqAt.str_int a t' b t
    | str b => obtain ⟨t, rfl⟩ := rx; exact SeqAt.EqAt.str_str a t' b t
    | _ => exact absurd (show false = true from fx) Bool.false_ne_true
  | _ => exact absurd (show false = true from fy) Bool.false_ne_true
/-- the items' answers, read off the values (a value's own answer does not lean on its token) -/
def eqU (x : V) (u : Value) : Bool := match u with
  | .none => eqV .non x
  | .bool b => eqV (.bl b) x
  | .int i _ => eqV (.int i) x
  | .str z _ => eqV (.str z) x
  | _ => false
def inV (x : V) (xs : List V) : Bool := xs.any fun y => eqV y x
/-- x in a list or tuple of flat items -/
def rIn (K : PySem.W.Frag) (neg : Bool) : R2 := fun x y H Q => ∃ p xs, y = .ref p ∧ (SqL K H p xs ∨ SqT K H p xs) ∧ flatV x = true ∧ xs.all flatV = true ∧ Q (.bl (if neg then !inV x xs else inV x xs)) H
/-! ### len, list(x), tuple(x) of any list or tuple that is read -/
theorem call_len_seq : CallR X (.builtin "len") (fun xs H Q => ∃ p ys, xs = [.ref p] ∧ (SqL X.K H p ys ∨ SqT X.K H p ys) ∧ Q (.int ys.length) H) := by
  intro pins s σ H xs us Q I r h
  obtain ⟨p, ys, rfl, hq, q⟩ := h
  obtain ⟨u, rfl, rx⟩ := vals1 r
  cases rx
  have hn := line63
  rcases hq with hq | hq
  · obtain ⟨its, r', pl, hz⟩ := I.list hq
    have hlen := r'.length
    exact Calls.call_len_list pl.isList (by simp only [List.size_toArray] <;> omega) ⟨.int ys.length, H, I.tok _, ⟨s.toks + 1, by rw [List.size_toArray, hlen]⟩, q⟩
  · obtain ⟨its, r', pl, hz⟩ := I.tuple hq
    have hlen := r'.length
    exact len_tuple pl (by simp only [List.size_toArray] <;> omega) ⟨.int ys.length, H, I.tok _, ⟨s.toks + 1, by rw [List.size_toArray, hlen]⟩, q⟩
theorem call_len_str : CallR X (.builtin "len") (fun xs H Q => ∃ z, xs = [.str z] ∧ z.length ≤ sizeLine ∧ Q (.int z.length) H) := by
  intro pins s σ H xs us Q I r h
  obtain ⟨z, rfl, hz, q⟩ := h
  obtain ⟨u, rfl, t, rfl⟩ := vals1 r
  have hn := line63
  exact len_str (by omega) ⟨.int z.length, H, I.tok _, ⟨_, rfl⟩, q⟩
theorem CallR.or {f : Value} {r r' : List V → Hp → VK → Prop} (h : CallR X f r) (h' : CallR X f r') : CallR X f (fun xs H Q => r xs H Q ∨ r' xs H Q) := by
  intro pins s σ H xs us Q I rs q
  rcases q with q | q
  · exact h pins s σ H xs us Q I rs q
  · exact h' pins s σ H xs us Q I rs q
theorem call_tuple_of : CallR X (.type "tuple") (fun xs H Q => ∃ p ys, xs = [.ref p] ∧ ((SqL X.K H p ys ∧ ∀ l, H l = none → Q (.ref l) (upd H l (.tup ys))) ∨ (SqT X.K H p ys ∧ Q (.ref p) H))) := by
  intro pins s σ H xs us Q I r h
  obtain ⟨p, ys, rfl, h⟩ := h
  obtain ⟨u, rfl, rx⟩ := vals1 r
  cases rx
  rcases h with ⟨hq, q⟩ | ⟨hq, q⟩
  · obtain ⟨its, r', pl, hz⟩ := I.list hq
    have hlen := r'.length
    refine call_tuple_list pl.isList (fun h' kp => ?_) (by simp only [List.size_toArray] <;> omega)
    have I1 : Inv X pins σ H { s with heap := h' } := I.kept (t' := s.toks) kp
    have I2 : Inv X pins σ (upd H h'.objs.size (.tup ys)) { s with heap := h'.push { cls := .type "tuple", data := .seq its.toArray } } :=
      I1.laid (t' := s.toks) (fun b o e => Heap.get?_push_of_some _ e) (Nat.le_refl _) (show ObjOk X.prog X.w _ _ _ (.tup ys) from ⟨hz, its, r', IsTup.new _ _⟩)
    exact ⟨.ref h'.objs.size, _, I2, rfl, q _ (I1.hok.fresh (Nat.le_refl _))⟩
  · obtain ⟨its, r', pl, hz⟩ := I.tuple hq
    exact call_tuple_same pl ⟨.ref p, H, I, rfl, q⟩
/-! ### the call of a builtin's method: o.m(..) -/
/-- the value is of that builtin type -/
def tyV (K : PySem.W.Frag) (T : String) (x : V) (H : Hp) : Prop := match x with
  | .str _ => T = "str"
  | .int _ => T = "int"
  | .ref p => (T = "list" ∧ ∃ xs, SqL K H p xs) ∨ (T = "tuple" ∧ ∃ o, K.lookup p = some o ∧ o.cls = .type "tuple" ∧ o.dict = none) ∨
      (T = "dict" ∧ ((∃ kvs, H p = some (.dK kvs)) ∨ ∃ kvs, H p = some (.dT kvs))) ∨ (T = "set" ∧ ∃ S n, H p = some (.set S n))
  | _ => False
theorem tyV_is {pins : List (Addr × Obj)} {σ : St} {H : Hp} {s : Shared} {T : String} {x : V} {v : Value} (I : Inv X pins σ H s) (r : RelV x v) (ty : tyV X.K T x H) :
    s.TypeIs v T ∧ ∀ a, v = .ref a → ∃ ob, s.heap.get? a = some ob ∧ ob.dict = none := by
  cases x with
  | str z =>
    obtain ⟨t, rfl⟩ := r
    cases (show T = "str" from ty)
    exact ⟨typeIs_str s z t, fun _ e => nomatch e⟩
  | int i =>
    obtain ⟨t, rfl⟩ := r
    cases (show T = "int" from ty)
    exact ⟨typeIs_int s i t, fun _ e => nomatch e⟩
  | ref p =>
    cases r
    rcases ty with ⟨rfl, xs, hq⟩ | ⟨rfl, o, hk, hc, hd⟩ | ⟨rfl, hk⟩ | ⟨rfl, S, n, hk⟩
    · obtain ⟨its, _, pl, _⟩ := I.list hq
      refine ⟨pl.isList.typeIs, fun a e => ?_⟩
      cases e
      obtain ⟨o, n, e, c, hd, _⟩ := pl
      exact ⟨o, e, hd⟩
    · refine ⟨⟨o, I.kIn p o hk, hc⟩, fun a e => ?_⟩
      cases e
      exact ⟨o, I.kIn _ o hk, hd⟩
    · have z : ∃ o, s.heap.get? p = some o ∧ o.ExactDict := by
        rcases hk with ⟨kvs, hk⟩ | ⟨kvs, hk⟩
        · obtain ⟨_, _, _, _, o, _, _, e, ex, _⟩ := I.hok p _ hk
          exact ⟨o, e, ex⟩
        · obtain ⟨_, _, _, _, o, _, _, e, ex, _⟩ := I.hok p _ hk
          exact ⟨o, e, ex⟩
      obtain ⟨o, e, ex⟩ := z
      refine ⟨⟨o, e, ex.1⟩, fun a e2 => ?_⟩
      cases e2
      exact ⟨o, e, ex.2.1⟩
    · obtain ⟨o, _, _, _, e, ex, _⟩ := I.hok p _ hk
      refine ⟨⟨o, e, ex.1⟩, fun a e2 => ?_⟩
      cases e2
      exact ⟨o, e, ex.2.1⟩
  | _ => exact False.elim ty
def tBM0 (K : PySem.W.Frag) (T : String) (r : V → List V → Hp → VK → Prop) (to : TE) : TE := fun σ H Q => to σ H fun x H1 => tyV K T x H1 ∧ r x [] H1 Q
def tBM (K : PySem.W.Frag) (T : String) (r : V → List V → Hp → VK → Prop) (to : TE) (t : TA) : TE := fun σ H Q => to σ H fun x H1 => tyV K T x H1 ∧ t σ H1 fun xs H2 => r x xs H2 Q
variable {o e : Expr} {es : List Expr} {to : TE} {t : TA} {name : Str} {apos cpos : Pos} {T id : String} {r : V → List V → Hp → VK → Prop}
theorem pe_bm0 (pa : PlainAttrs T) (slot : Slot T name id) (hty : typeOf (.builtin id) = pure (.type "method_descriptor")) (hm : MtR X id r) (ho : PE X o to)
    (hbase : attributeBase o name X.env (eval o X.env) = eval o X.env := by rfl) (hline : (apos.endLine == cpos.line) = true := by rfl) : PE X (.Call (.Attribute o name apos) [] [] cpos) (tBM0 X.K T r to) := by
  intro pins s σ H Q I h
  refine wpAny_Call_method0_late hbase hline (thn (ho pins s σ H _ I h) fun v s1 ⟨x, H1, I1, r1, ty, q1⟩ => ?_)
  obtain ⟨h1, h2⟩ := tyV_is I1 r1 ty
  exact ⟨T, id, pa, slot, hty, h1, h2, Calls.callWith_builtin rfl (PySem.evalArgs_none (hm pins s1 σ H1 x [] v [] Q I1 r1 .nil q1))⟩
theorem pe_bm (pa : PlainAttrs T) (slot : Slot T name id) (hty : typeOf (.builtin id) = pure (.type "method_descriptor")) (hm : MtR X id r) (ho : PE X o to) (ha : PA X (e :: es) t)
    (hbase : attributeBase o name X.env (eval o X.env) = eval o X.env := by rfl)
    (hfew : ((backTo cpos (starEach (e :: es) X.env)).all (fun x => !x.1) && (backToKw cpos (keywordEach [] X.env)).all (fun x => x.1.isSome)
      && decide ((e :: es).length + ([] : List Keyword).length + (if ([] : List Keyword).isEmpty then 0 else 1) < 30)) = true := by rfl)
    (hline : (apos.endLine == cpos.line) = true := by rfl) (hs : starEach (e :: es) X.env = (false, eval e X.env) :: starEach es X.env := by rfl) (hplain : (backTo cpos (starEach es X.env)).any (·.1) = false := by rfl) :
    PE X (.Call (.Attribute o name apos) (e :: es) [] cpos) (tBM X.K T r to t) := by
  intro pins s σ H Q I h
  refine wpAny_Call_method_late hbase hfew hline rfl (thn (ho pins s σ H _ I h) fun v s1 ⟨x, H1, I1, r1, ty, q1⟩ => ?_)
  obtain ⟨h1, h2⟩ := tyV_is I1 r1 ty
  refine ⟨T, id, pa, slot, hty, h1, h2, ?_⟩
  have hA := ha cpos pins s1 σ H1 _ I1 q1
  rw [hs] at hA ⊢
  refine Calls.callWith_builtin (by show (false || (backTo cpos (starEach es X.env)).any (·.1)) = false; rw [hplain] <;> rfl) (Calls.evalArgs_plain ?_)
  exact thn hA fun us s2 ⟨vs, H2, I2, r2, q2⟩ => hm pins s2 σ H2 x vs v us Q I2 r1 r2 q2
/- xs.append(e), list.index on a module's tuple .. are MtR facts of 06m -/
end
end L2
namespace L2
open PySem PySem.Spec PyProof.Rows
def MtM (X : Cx) (id : String) (r : V → List V → Hp → VK → Prop) : Prop :=
  ∀ (pins : List (Addr × Obj)) (s : Shared) (σ : St) (H : Hp) (x : V) (xs : List V) (v : Value) (us : List Value) (Q : VK), Inv X pins σ H s → RelV x v → Vals xs us → r x xs H Q →
    wpAny (model X.prog X.w) X.A (call (.builtin id) (v :: us)) (EP X pins σ Q) X.xe s
/-! ### lists of values -/
theorem Vals.one : ∀ {x : V} {us : List Value}, Vals [x] us → ∃ u, us = [u] ∧ RelV x u
  | _, _, .cons r .nil => ⟨_, rfl, r⟩
theorem Vals.two : ∀ {x y : V} {us : List Value}, Vals [x, y] us → ∃ u v, us = [u, v] ∧ RelV x u ∧ RelV y v
  | _, _, _, .cons r (.cons q .nil) => ⟨_, _, rfl, r, q⟩
theorem Vals.zero : ∀ {us : List Value}, Vals [] us → us = []
  | _, .nil => rfl
theorem Vals.dropLast {xs : List V} {us : List Value} (h : Vals xs us) : Vals xs.dropLast us.dropLast := by
  induction h with
  | nil => exact .nil
  | cons r t ih =>
    cases t with
    | nil => exact .nil
    | cons q t' => exact .cons r ih
theorem erase_last {α : Type} (l : List α) : l.eraseIdx (l.length - 1) = l.dropLast := by
  induction l with
  | nil => rfl
  | cons a r ih =>
    cases r with
    | nil => rfl
    | cons b r =>
      have e : (a :: b :: r).length - 1 = ((b :: r).length - 1) + 1 := by
        have h1 : (a :: b :: r).length = r.length + 2 := rfl
        have h2 : (b :: r).length = r.length + 1 := rfl
        omega
      rw [e, List.eraseIdx_cons_succ, ih]
      all_goals rfl
section
variable {X : Cx} {pins : List (Addr × Obj)} {σ : St} {H : Hp} {s : Shared} {l b : Addr} {xs ys zs : List V}
/-! ### the two steps: a tracked list is rewritten, a new list is laid -/
theorem Inv.lset {its its' : List Value} {n : Nat} {f : Array Value → Array Value} {t' : Nat} (I : Inv X pins σ H s) (hH : H l = some (.lst xs))
    (e : s.heap.get? l = some { cls := .type "list", data := .seq its.toArray n }) (hf : f its.toArray = its'.toArray) (hv : Vals ys its') (hz : ys.length ≤ sizeLine) :
    Inv X pins σ (upd H l (.lst ys)) { s with heap := s.heap.update l (Obj.mapSeq f), toks := t' } := by
  have q := PySem.IsL.update e f
  rw [hf] at q
  refine I.write (x := l) (e := l) (by rw [hH]; exact trivial) (.inl rfl) (fun b' u hb hu => (Heap.get?_update_other s.heap (Obj.mapSeq f) (Ne.symm hb)).trans hu) ⟨_, q⟩ ?_
  exact ⟨hz, its', _, hv, q⟩
theorem Inv.lnew {its : List Value} {t' : Nat} (I : Inv X pins σ H s) (hv : Vals ys its) (hz : ys.length ≤ sizeLine) :
    Inv X pins σ (upd H s.heap.objs.size (.lst ys)) { s with heap := s.heap.push { cls := .type "list", data := .seq its.toArray }, toks := t' } :=
  I.laid (fun _ _ q => Heap.get?_push_of_some _ q) (Nat.le_refl _) ⟨hz, its, 0, hv, Heap.get?_push_size _ rfl⟩
theorem Inv.fresh (I : Inv X pins σ H s) : H s.heap.objs.size = none := I.hok.fresh (Nat.le_refl _)
theorem Inv.lstM (I : Inv X pins σ H s) (hH : H l = some (.lst xs)) : xs.length ≤ sizeLine ∧ ∃ (its : List Value) (n : Nat), Vals xs its ∧ xs.length = its.length ∧ s.heap.get? l = some { cls := .type "list", data := .seq its.toArray n } := by
  obtain ⟨z, its, n, r, e⟩ := I.hok l _ hH
  exact ⟨z, its, n, r, r.length, e⟩
theorem notLongL {n : Nat} (h : n ≤ sizeLine) : Builtin.List.listTooLong n = false := by
  unfold Builtin.List.listTooLong
  exact decide_eq_false (by omega)
end
section
variable {X : Cx}
/-! ### methods -/
def rAppend : V → List V → Hp → VK → Prop := fun x vs H Q => ∃ l xs y, x = .ref l ∧ vs = [y] ∧ H l = some (.lst xs) ∧ xs.length < sizeLine ∧ Q .non (upd H l (.lst (xs ++ [y])))
theorem mt_append : MtM X "list.append" rAppend := by
  intro pins s σ H x vs v us Q I rx rv h
  obtain ⟨l, xs, y, rfl, rfl, hH, hz, q⟩ := h
  cases rx
  obtain ⟨u, rfl, ru⟩ := rv.one
  obtain ⟨z, its, n, r, hl, e⟩ := I.lstM hH
  refine call_meets F.slot_list_append ⟨_, e, rfl⟩ F.entry_list_append (F.args_list_append_2 _ _) (PySem.list_append l its.toArray n u (by rw [List.size_toArray]; omega)) ⟨e, ?_⟩
  refine ⟨.non, _, I.lset (its' := its ++ [u]) hH e (by simp) (r.append (.cons ru .nil)) ?_, rfl, q⟩
  rw [List.length_append, List.length_singleton]
  omega
def rExtend : V → List V → Hp → VK → Prop := fun x vs H Q => ∃ l b xs zs, x = .ref l ∧ vs = [.ref b] ∧ H l = some (.lst xs) ∧ H b = some (.lst zs) ∧ xs.length + zs.length ≤ sizeLine ∧ Q .non (upd H l (.lst (xs ++ zs)))
theorem mt_extend : MtM X "list.extend" rExtend := by
  intro pins s σ H x vs v us Q I rx rv h
  obtain ⟨l, b, xs, zs, rfl, rfl, hH, hB, hz, q⟩ := h
  cases rx
  obtain ⟨u, rfl, ru⟩ := rv.one
  cases ru
  obtain ⟨z, its, n, r, hl, e⟩ := I.lstM hH
  obtain ⟨z2, its2, n2, r2, hl2, e2⟩ := I.lstM hB
  have hsz : its.toArray.size + its2.toArray.size ≤ sizeLine := by rw [List.size_toArray, List.size_toArray]; omega
  have hlong : ¬ (!its.toArray.isEmpty && Builtin.List.listTooLong (its.toArray.size + its2.toArray.size)) = true := by
    rw [notLongL hsz, Bool.and_false]
    exact Bool.false_ne_true
  refine call_meets F.slot_list_extend ⟨_, e, rfl⟩ F.entry_list_extend (F.args_list_extend_2 _ _)
    (AutoSeq1.list_extend_list_list_0 l its.toArray n b its2.toArray n2 hlong (by rw [List.size_toArray]; omega) (by omega)) ⟨e, e2, ?_⟩
  refine ⟨.non, _, I.lset (its' := its ++ its2) hH e (by simp) (r.append r2) ?_, rfl, q⟩
  rw [List.length_append]
  omega
def rPop : V → List V → Hp → VK → Prop := fun x vs H Q => ∃ l xs y, x = .ref l ∧ vs = [] ∧ H l = some (.lst xs) ∧ xs[xs.length - 1]? = some y ∧ Q y (upd H l (.lst xs.dropLast))
theorem mt_pop : MtM X "list.pop" rPop := by
  intro pins s σ H x vs v us Q I rx rv h
  obtain ⟨l, xs, y, rfl, rfl, hH, hy, q⟩ := h
  cases rx
  have hus := rv.zero
  subst hus
  obtain ⟨z, its, n, r, hl, e⟩ := I.lstM hH
  obtain ⟨u, hu, ru⟩ := r.get hy
  have hy' : its.toArray[its.toArray.size - 1]? = some u := by
    show its.toArray[its.length - 1]? = some u
    rw [← Array.getElem?_toList, ← hl]
    exact hu
  refine call_meets F.slot_list_pop ⟨_, e, rfl⟩ F.entry_list_pop (F.args_list_pop_1 _) (MeetsSeq.list_pop_last l its.toArray n u hy' (by rw [List.size_toArray]; omega)) ⟨e, ?_⟩
  refine ⟨y, _, I.lset (its' := its.dropLast) hH e ?_ r.dropLast ?_, ru, q⟩
  · show its.toArray.eraseIdxIfInBounds (its.toArray.size - 1) = its.dropLast.toArray
    rw [List.size_toArray, List.eraseIdxIfInBounds_toArray, erase_last]
  · rw [List.length_dropLast]
    omega
/-! ### list + list, list += list, list * int -/
def rCat : R2 := fun x y H Q => ∃ l b xs zs, x = .ref l ∧ y = .ref b ∧ H l = some (.lst xs) ∧ H b = some (.lst zs) ∧ xs.length + zs.length ≤ sizeLine ∧ ∀ p, H p = none → Q (.ref p) (upd H p (.lst (xs ++ zs)))
theorem op_cat : OpR X (binaryOp .Add) rCat := by
  intro pins s σ H x y v u Q I rx ry h
  obtain ⟨l, b, xs, zs, rfl, rfl, hH, hB, hz, q⟩ := h
  cases rx
  cases ry
  obtain ⟨z, its, n, r, hl, e⟩ := I.lstM hH
  obtain ⟨z2, its2, n2, r2, hl2, e2⟩ := I.lstM hB
  refine PySem.P.add_list e e2 ?_ (by rw [List.size_toArray, List.size_toArray]; omega)
  have ea : its.toArray ++ its2.toArray = (its ++ its2).toArray := by simp
  rw [ea]
  exact ⟨.ref _, _, I.lnew (t' := s.toks) (r.append r2) (by rw [List.length_append]; omega), rfl, q _ I.fresh⟩
/-- a list times an int (a negative one is nothing) -/
def rRep : R2 := fun x y H Q => ∃ l k xs, x = .ref l ∧ y = .int k ∧ H l = some (.lst xs) ∧ -(2 ^ 63) ≤ k ∧ k < 2 ^ 63 ∧ xs.length * k.toNat ≤ sizeLine ∧
  ∀ p, H p = none → Q (.ref p) (upd H p (.lst (List.replicate k.toNat xs).flatten))
/-! ### del xs[i] -/
end
/-! ### xs[a:b] = ys -/
section
variable {prog : Program} {w : World} {A : Around} {E : Value → Shared → Prop} {s : Shared}
end
section
variable {X : Cx}
end
end L2
namespace Att
open PySem PySem.W PySem.Calls PyProof.Rows
/-! ### the script -/
theorem ints_of_wellAll {P : Params} {h : Heap} : ∀ (ns : List Int) (vs : List Value), WellAll P h vs (ns.map WData.int) → IntsAre vs ns := by
  intro ns
  induction ns with
  | nil =>
    intro vs w
    rw [List.map_nil] at w
    cases w
    exact .nil
  | cons n ns ih =>
    intro vs w
    rw [List.map_cons] at w
    cases w with
    | cons a b =>
      cases a
      exact .cons _ _ (ih _ b)
theorem script_of {l : OpenLaw} {n : Nat} (hn : l.most = some n) {P : Params} {h : Heap} {args : List WData} {vals : List Value}
    (hpre : l.row.toRowW.claim.pre args = true) (hwl : WellAll P h vals args) :
    ∃ a vs ns, vals = [Value.ref a] ∧ args = [WData.list (ns.map WData.int)] ∧ h.get? a = some { cls := .type "list", data := .seq vs.toArray } ∧ IntsAre vs ns ∧ ns.length ≤ n := by
  have hsh : WShape.hasAll [] args [.list .int] = true := (pre_splitW hpre).1
  have hc : l.pre.holds [] { args := args } = true := (pre_splitW hpre).2
  obtain ⟨d, r, rfl, h1, h2⟩ := hasAllW_cons hsh
  obtain rfl := hasAllW_nil h2
  obtain ⟨xs, rfl, h3⟩ := hasW_list h1
  obtain ⟨ns, rfl⟩ := items_int h3
  have hlen : ns.length ≤ n := by
    unfold OpenLaw.pre at hc
    have h4 : (WTm.not (.lt (.lit (.int (n : Int))) (.len (.arg 0)))).holds [] { args := [.list (ns.map .int)] } = true := by
      have h4 := (holds_andW hc).1
      rw [hn] at h4
      exact h4
    have h5 := condW_of h4 (w_not (w_lt w_lit (w_len_list (w_arg rfl))))
    rw [List.length_map] at h5
    refine Nat.le_of_not_lt fun q => ?_
    have q' : (n : Int) < ((ns.length : Nat) : Int) := by omega
    first
      | (rw [decide_eq_true q'] at h5; exact absurd h5 (by decide))
      | (simp at h5; omega)
  cases hwl with
  | cons w1 w2 =>
    cases w2
    cases w1 with
    | list ho hall => exact ⟨_, _, ns, rfl, rfl, ho, ints_of_wellAll ns _ hall, hlen⟩
theorem post_true (l : OpenLaw) (args : List WData) : l.row.toRowW.claim.post args (.bool true) args = true :=
  postW_of (r := l.row.toRowW) (X := (true == true))
    (show WShape.has [] (.bool true) .bool = true by first | rfl | decide | simp [WShape.has, WShape.arms, WShape.armsAll])
    (show (WTm.eq .res (.lit (.bool true))).value [] { args := args, res := some (.bool true), after := args } = some (.bool (true == true)) from w_eq_bool (w_res rfl) w_lit) rfl
/-! ### the attachment: holds_open's last premise (the goal 'hc' behind k_head) from a wpAny of the law's body -/
/-- the same from a codeAny of the CALL (for a layer whose function contracts speak of calls) -/
theorem attach_call {l : OpenLaw} {n : Nat} {q : Program} {loose : List Str} {XP : (Str → Option Value) → Heap → Prop} {YP : World → Heap → Prop} {d : DefRec}
    (hn : l.most = some n) (hdf : d.params.defaults = [])
    (call : ∀ (w : World) (s₀ s₁ : Shared) (mg mb : Str → Option Value) (fa : Addr) (o : Obj) (pm cd doc : Value) (a : Addr) (vs : List Value) (ns : List Int),
      Ground q loose [] XP w s₀ mg mb s₁.heap → YP w s₁.heap →
      s₁.heap.get? fa = some o → o.data = .func (docDef d.name d.params d.body d.scope pm cd doc) → s₁.heap.CodeRec cd d.name → mg d.name = some (.ref fa) →
      s₁.heap.get? a = some { cls := .type "list", data := .seq vs.toArray } → IntsAre vs ns → ns.length ≤ n → s₁.gens = #[] →
      codeAny (model l.prog w) callerA (.call (.ref fa) ⟨[.ref a], []⟩) (fun r s' => r = .ok (.ret (.bool true)) ∧ OldK s₁.heap s'.heap ∧ s'.os = s₁.os ∧ AllBare s'.gens) s₁) :
    WalkO q loose XP YP l.row.toRowW d [] (fun f vs => PySem.call f vs) := by
  intro w s₀ s₁ mg mb G Y fa o pm cd doc dV kV ho hd hcd hD hmg hg args vals as hpre hlay hrd hwl hlo
  obtain rfl : dV = .none := Dflts.none hD hdf
  obtain rfl : kV = .none := Dflts.noKw hD
  obtain ⟨a, vs, ns, rfl, rfl, hobj, hints, hlen⟩ := script_of hn hpre hwl
  refine enter_call (codeAny_mono (call w s₀ s₁ mg mb fa o pm cd doc a vs ns G Y ho (fd_plain hd) hcd hmg hobj hints hlen hg) fun r s' hq => ?_)
  obtain ⟨rfl, h2, h3, h4⟩ := hq
  exact ⟨.inl ⟨.bool true, .bool true, [], rfl, fun _ => rfl, .bool true, post_true l _, fun _ => ⟨List.Pairwise.nil, fun _ hm => (nomatch hm)⟩⟩, h2, h3, h4⟩
/-! ### rules over ANY heap (no ledger) from facts about the written part K: the library's own take a ledger (News) for what they write -/
section
variable {prog : Program} {w : World} {A : Around} {E : Value → Shared → Prop} {s : Shared} {K : Frag}
/-! the whole heap as the ledger: makes every rule that writes through a ledger a rule over any heap -/
def ledger (h : Heap) (L d : Addr) : List (Addr × Obj) := (List.range h.objs.size).filterMap fun a => if a = L ∨ a = d then none else (h.get? a).map fun o => (a, o)
end
end Att
namespace L2
open PySem PySem.Spec PyProof.Rows
theorem vals_ints : ∀ {vs : List Value} {ns : List Int}, IntsAre vs ns → Vals (ns.map V.int) vs
  | _, _, .nil => .nil
  | _, _, .cons n t h => .cons ⟨t, rfl⟩ (vals_ints h)
/-- nothing is tracked but the script, known to the object (or it is an object of the module) -/
def Only (H : Hp) : Prop := ∀ b, H b = none ∨ ∃ o xs, H b = some (.frz o (.lst xs))
/-- THE HEAD: the law's promise, at the heap behind the top. F, the promise of the law's def, may use that base is part of the heap (so K.In base, base.Ns mainGlobals mg stand in Mod) -/
theorem law_call {P : Program} {w : World} {K : PySem.W.Frag} {mg mb : Str → Option Value} {CX : CXT} {k : Nat} {fa a : Addr} {fd : FuncData} {x : Str} {sp : Sp} {s₁ : Shared} {vs : List Value} {ns : List Int}
    (KX : K.In s₁.heap) (hns : s₁.heap.Ns mainGlobals mg) (hb : s₁.heap.Ns builtinsNs mb) (hbb : ∀ x : Str, x ≠ "__name__" → mb x = bootBuiltins x) (hlim : s₁.heap.NoLimit) (hg : s₁.gens = #[])
    (ha : s₁.heap.get? a = some { cls := .type "list", data := .seq vs.toArray }) (hi : IntsAre vs ns) (hl : ns.length ≤ sizeLine) (hr : Room k callerA)
    (F : ∀ base : Heap, K.In base → base.Ns mainGlobals mg → FnOk P w K mg base CX k fa fd [x] sp) (hbind : ∀ (s : Shared) (u : Value), BindsTo s fd ⟨[u], []⟩ [(x, u)])
    (hsp : ∀ H : Hp, Only H → SqL K H a (ns.map V.int) → sp [.ref a] H (fun v _ => v = .bl true) fun _ _ _ => False)
    (hCX : ∀ H e s', CX [] H s₁ (fun _ _ _ => False) e s' → False) :
    codeAny (model P w) callerA (.call (.ref fa) ⟨[.ref a], []⟩) (fun r s' => r = .ok (.ret (.bool true)) ∧ OldK s₁.heap s'.heap ∧ s'.os = s₁.os ∧ AllBare s'.gens) s₁ := by
  have rv := vals_ints hi
  have lenV := hi.length
  -- from an abstract heap in which nothing but the script may be tracked
  have core : ∀ H : Hp, Only H → SqL K H a (ns.map V.int) → HOk P w H s₁.heap → (∀ b, H b ≠ none → b = a) → (H a ≠ none → K.lookup a = none) →
      codeAny (model P w) callerA (.call (.ref fa) ⟨[.ref a], []⟩) (fun r s' => r = .ok (.ret (.bool true)) ∧ OldK s₁.heap s'.heap ∧ s'.os = s₁.os ∧ AllBare s'.gens) s₁ := by
    intro H hO hS hok hA hK
    have base_of : ∀ {b : Addr} {o : Obj}, s₁.heap.get? b = some o → H b = none → (hidT s₁.heap H).get? b = some o := fun e n => hidT_get e n
    have noA : ∀ {b : Addr} {o : Obj} {es : Array DictEntry} {ep : Nat}, s₁.heap.get? b = some o → o.data = .dict es ep → H b = none := fun {b o es ep} e d => by
      cases q : H b with
      | none => rfl
      | some u =>
        have e' : b = a := hA b (by rw [q]; simp)
        subst e'
        rw [ha] at e; cases e
        have d' : Data.seq vs.toArray _ = Data.dict es ep := d
        cases d'
    have nsK : ∀ {b : Addr} {m : Str → Option Value}, s₁.heap.Ns b m → (hidT s₁.heap H).Ns b m := fun {b m} ⟨o, es, ep, e, d, r⟩ => ⟨o, es, ep, base_of e (noA e d), d, r⟩
    have hKb : K.In (hidT s₁.heap H) := fun b o e => base_of (KX b o e) (by
      cases q : H b with
      | none => rfl
      | some u =>
        have e' : b = a := hA b (by rw [q]; simp)
        subst e'
        rw [hK (by rw [q]; simp)] at e; cases e)
    have hM : Mod K mg (hidT s₁.heap H) := ⟨hKb, nsK hns, ⟨mb, nsK hb, hbb⟩, let ⟨mc, h1, h2⟩ := hlim; ⟨mc, nsK h1, h2⟩⟩
    have e0 : Env0 P w K mg (hidT s₁.heap H) callerA [] s₁ H := ⟨rfl, hM, fun b o e => of_hidT e, Nat.le_of_eq (hidT_size _ _), trivial, fun b hb => absurd (show b ∈ ([] : List Addr) from hb) (by simp), hok, .of_eq hg⟩
    refine codeAny_mono ((F _ hKb (nsK hns)).run callerA [] s₁ H ⟨[.ref a], []⟩ [.ref a] [.ref a] _ _ hr e0 (hbind s₁ (.ref a)) (.cons rfl .nil) (hsp H hO hS)) fun r s' h => ?_
    cases r with
    | error e => exact (hCX H e s' h).elim
    | ok fl =>
      cases fl with
      | next => exact False.elim h
      | brk => exact False.elim h
      | cont => exact False.elim h
      | ret u =>
        obtain ⟨v, H', os, bare, un, hok', r', q⟩ := h
        have q' : v = .bl true := q
        subst q'
        obtain rfl : u = Value.bool true := r'
        refine ⟨rfl, OldK.of_keep fun b o e => ?_, os, bare⟩
        cases q : H b with
        | none => exact un.keep b o e q (by intro z; exact absurd (show b ∈ ([] : List Addr) from z) (by simp)) (by simp)
        | some u =>
          rcases hO b with z | ⟨ob, xs, z⟩
          · rw [q] at z; cases z
          · have z2 := un.frzs b ob _ z
            obtain ⟨e1, _⟩ := hok b _ z
            obtain ⟨e2, _⟩ := hok' b _ z2
            rw [e] at e1; cases e1
            exact e2
  cases hk : K.lookup a with
  | some o =>
    -- the script is one of the module's own objects
    have e := KX a o hk
    rw [ha] at e
    cases e
    refine core (fun _ => none) (fun _ => .inl rfl) (.inr ⟨_, vs.toArray, _, hk, rfl, rfl, rfl, by rw [List.size_toArray, lenV]; exact hl, by simpa using rv⟩) (fun b u z => by have z' : (none : Option HO) = some u := z; cases z') (fun b z => absurd rfl z) fun z => absurd rfl z
  | none =>
    refine core (fun b => if b = a then some (.frz { cls := .type "list", data := .seq vs.toArray } (.lst (ns.map V.int))) else none) (fun b => ?_) (.inl (.inr ⟨{ cls := .type "list", data := .seq vs.toArray }, if_pos rfl⟩)) (fun b u z => ?_) (fun b z => ?_) fun _ => hk
    · by_cases hb : b = a
      · exact .inr ⟨_, _, if_pos hb⟩
      · exact .inl (if_neg hb)
    · by_cases hb : b = a
      · have z' := (if_pos hb).symm.trans z
        cases z'
        subst hb
        exact ⟨ha, by rw [List.length_map]; exact hl, vs, _, rv, ha⟩
      · have z' := (if_neg hb).symm.trans z
        cases z'
    · by_cases hb : b = a
      · exact hb
      · exact absurd (if_neg hb) z
end L2
namespace L2
open PySem PySem.Spec PyProof.Rows
abbrev KOf {K : PySem.W.Frag} {h : Heap} (_ : K.In h) : PySem.W.Frag := K
/-- the goal that k_head leaves (case hc), from the law's promise. F gives the function object fd (K's own) once, then the promise over every base -/
theorem walk_of {l : PySem.W.OpenLaw} {n k : Nat} {q : Program} {loose : List Str} {XP : (Str → Option Value) → Heap → Prop} {YP : World → Heap → Prop} {d : DefRec} {K : Params → PySem.W.Frag} {CX : World → CXT} {sp : World → Sp} {x : Str}
    (hn : l.most = some n) (hn2 : n ≤ sizeLine) (hdf : d.params.defaults = []) (hr : Room k callerA)
    (hY : ∀ (w : World) (h : Heap), YP w h → (K w.params).In h)
    (F : ∀ (w : World) (mg : Str → Option Value) (fa : Addr) (h : Heap), (K w.params).In h → h.Ns mainGlobals mg → mg d.name = some (.ref fa) →
      ∃ fd : FuncData, (∀ (s : Shared) (u : Value), BindsTo s fd ⟨[u], []⟩ [(x, u)]) ∧
        ∀ base : Heap, (K w.params).In base → base.Ns mainGlobals mg → FnOk l.prog w (K w.params) mg base (CX w) k fa fd [x] (sp w))
    (hsp : ∀ (w : World) (H : Hp) (a : Addr) (ns : List Int), ns.length ≤ n → Only H → SqL (K w.params) H a (ns.map V.int) → sp w [.ref a] H (fun v _ => v = .bl true) fun _ _ _ => False)
    (hCX : ∀ (w : World) (H : Hp) (s : Shared) (e : Value) (s' : Shared), CX w [] H s (fun _ _ _ => False) e s' → False) :
    PySem.W.WalkO q loose XP YP l.row.toRowW d [] (fun f vs => PySem.call f vs) := by
  refine Att.attach_call hn hdf fun w s₀ s₁ mg mb fa o pm cd doc a vs ns G Y ho hd hcd hmg hobj hints hlen hg => ?_
  have KX := hY w _ Y
  obtain ⟨fd, hb, hF⟩ := F w mg fa _ KX G.T.g hmg
  exact law_call KX G.T.g G.T.b G.T.builtins G.T.nolimit hg hobj hints (Nat.le_trans hlen hn2) hr hF hb (fun H hO hS => hsp w H a ns hlen hO hS) fun H e s' => hCX w H s₁ e s'
/-- the same where the promise hangs on the written part alone: (sp := My.sp_law), no hole under a binder -/
theorem walk_ofK {l : PySem.W.OpenLaw} {n k : Nat} {q : Program} {loose : List Str} {XP : (Str → Option Value) → Heap → Prop} {YP : World → Heap → Prop} {d : DefRec} {K : Params → PySem.W.Frag} {CX : CXT} {sp : PySem.W.Frag → Sp} {x : Str}
    (hn : l.most = some n) (hn2 : n ≤ sizeLine) (hdf : d.params.defaults = []) (hr : Room k callerA)
    (hY : ∀ (w : World) (h : Heap), YP w h → (K w.params).In h)
    (F : ∀ (w : World) (mg : Str → Option Value) (fa : Addr) (h : Heap), (K w.params).In h → h.Ns mainGlobals mg → mg d.name = some (.ref fa) →
      ∃ fd : FuncData, (∀ (s : Shared) (u : Value), BindsTo s fd ⟨[u], []⟩ [(x, u)]) ∧
        ∀ base : Heap, (K w.params).In base → base.Ns mainGlobals mg → FnOk l.prog w (K w.params) mg base CX k fa fd [x] (sp (K w.params)))
    (hsp : ∀ (K : PySem.W.Frag) (H : Hp) (a : Addr) (ns : List Int), ns.length ≤ n → Only H → SqL K H a (ns.map V.int) → sp K [.ref a] H (fun v _ => v = .bl true) fun _ _ _ => False)
    (hCX : ∀ (H : Hp) (s : Shared) (e : Value) (s' : Shared), CX [] H s (fun _ _ _ => False) e s' → False) :
    PySem.W.WalkO q loose XP YP l.row.toRowW d [] (fun f vs => PySem.call f vs) :=
  walk_of (K := K) (CX := fun _ => CX) (sp := fun w => sp (K w.params)) hn hn2 hdf hr hY F (fun w H a ns h1 h2 h3 => hsp (K w.params) H a ns h1 h2 h3) fun _ H s e s' => hCX H s e s'
end L2
/- THE LAST THEOREM (shape; LID, My.* are yours):
   My.Adr: a structure of the addresses that your layer names (classes, functions); My.Txt K t: a structure (Prop) of the equations over K;
   My.txt_mk : {K} {implicit addresses ..} (e1 : nsIn K mainGlobals "law" = some (some (.ref f))) (e2 : K.lookup f = some ⟨oc, od, .func (fnOf "law" "law" params body scope dV kV doc pm an cdv ct), sl⟩) (e3 : codeIn K cdv "law" = true) .. : ∃ t, My.Txt K t
set_option maxRecDepth 100000 in
set_option maxHeartbeats 0 in
theorem PySem.Challenge.cw_LID_holds : PySem.Challenge.rw_LID.Holds := by
  w_on; o_law; k_head; (case hw => w_witness2)
  k_fill
  refine L2.walk_of (l := PySem.Challenge.rw_LID) (n := 63) (k := 40) (x := "script") (CX := fun w => ..) (sp := fun _ => My.sp_law) rfl (by decide) rfl ⟨rfl, by decide, by decide⟩ (fun w h Y => PySem.W.kIn_of Y) ?F ?S ?C
  case F =>
    intro w mg fa h KX G hmg
    have T : ∃ t, My.Txt (L2.KOf KX) t := by
      dsimp only [L2.KOf]                          -- K must stand as «<heap const> w.params» for k_is
      refine' My.txt_mk ?e1 ?e2 ?e3 ..
      (case e1 => PySem.W.k_is)                    -- in the order: a name -> its address -> its object -> its parts
      (case e2 => PySem.W.k_is)
      ..
    obtain ⟨t, T⟩ := T
    have e0 := hmg.symm.trans (PySem.W.mg_of KX G T.law)
    cases e0                                       -- fa is the law's own address
    exact ⟨_, fun s u => .of_eq rfl, fun base kb nb => My.law_fn T kb nb⟩     -- if «.of_eq rfl» comes too early: refine' ⟨_, ?b, fun base kb nb => My.law_fn T kb nb⟩; exact fun s u => .of_eq rfl
  case S => exact fun w H a ns hl hO hS => ..
  case C => exact ..
(the tactic k_is has no namespace: write k_is) -/
/-! SHORT WORDS over the layer: a def of the text, its body, what a loop and a test want. -/
namespace L2
open PySem PySem.Spec PyProof.Rows
/-! ### the text by places -/
/-- the j-th statement of a class's body -/
def inClass (s : Stmt) (j : Nat) : Stmt := match s with
  | .ClassDef _ _ _ body _ _ _ _ _ _ _ => body.getD j (.Pass ⟨0, 0, 0, 0⟩)
  | _ => .Pass ⟨0, 0, 0, 0⟩
def defArgs (s : Stmt) : Arguments := match s with
  | .FunctionDef _ a _ _ _ _ _ _ _ _ => a
  | _ => { posonlyargs := [], args := [], vararg := none, kwonlyargs := [], kw_defaults := [], kwarg := none, defaults := [] }
def defBody (s : Stmt) : List Stmt := match s with
  | .FunctionDef _ _ b _ _ _ _ _ _ _ => b
  | _ => []
def defScope (s : Stmt) : Scope := match s with
  | .FunctionDef _ _ _ _ _ _ sc _ _ _ => sc
  | _ => { kind := .function, names := [], isGenerator := false, isCoroutine := false }
/-! ### no exception leaves a def -/
abbrev CX0 : CXT := fun _ _ _ _ _ _ => False
abbrev E0 : XK := fun _ _ _ => False
theorem pass0 {X : Cx} : Passes CX0 X E0 := fun _ _ _ _ _ _ _ h => h.elim
/-! ### a def (or method) of the text as it stands behind the top -/
structure Fun (K : PySem.W.Frag) (x qual : Str) (st : Stmt) (f : Addr) (fd : FuncData) : Prop where
  ex : ∃ (oc : Value) (od : Option Addr) (kV doc pm : Value) (an : Option Addr) (cdv ct : Value) (osl : Array (Option Value)),
    fd = PySem.W.fnOf x qual (defArgs st) (defBody st) (defScope st) .none kV doc pm an cdv ct ∧ K.lookup f = some ⟨oc, od, .func fd, osl⟩ ∧ PySem.W.codeIn K cdv qual = true
  kp : PySem.W.keepIn K (.ref f) = true
section
variable {P : Program} {w : World} {K : PySem.W.Frag} {mg : Str → Option Value} {base : Heap}
/-- THE RULE for a def: its body as a term of rules, and the reading of that term -/
theorem Fun.ok {x qual : Str} {st : Stmt} {f : Addr} {fd : FuncData} {N ps : List Str} {k : Nat} {sp : Sp} (F : Fun K x qual st f fd) (S : FnScope N ps (defScope st)) (len : ∀ vs H Q E, sp vs H Q E → vs.length = ps.length)
    (hbody : ∀ (cdv : Value) (A : Around) (outer : List Env) (s : Shared) (H : Hp) (vs : List V) (Q : VK) (E : XK), Room k (A.deeper (envOfC qual (defScope st) s.heap.objs.size f cdv)) → sp vs H Q E →
      ∃ t, PSs (cxOf CX0 P w K mg base N qual (defScope st) f cdv A outer s H E).nox (defBody st) t ∧ t { nx := fun _ H' => Q .non H', rt := Q } (start N vs) H) : FnOk P w K mg base CX0 (k + 1) f fd ps sp := by
  obtain ⟨oc, od, kV, doc, pm, an, cdv, ct, osl, rfl, lk, hcd⟩ := F.ex
  refine fn_of lk hcd S len fun A outer s H vs Q E hr hsp => ?_
  obtain ⟨t, h, q⟩ := hbody cdv A outer s H vs Q E hr hsp
  exact ⟨t, h.nox, q⟩
/-- how its arguments bind (no defaults): h is «fun _ _ _ _ _ _ us hl => match us, hl with | [_, _], _ => rfl», one _ a parameter -/
theorem Fun.binds {x qual : Str} {st : Stmt} {f : Addr} {fd : FuncData} {ps : List Str} (F : Fun K x qual st f fd)
    (h : ∀ (kV doc pm : Value) (an : Option Addr) (cdv ct : Value) (us : List Value), us.length = ps.length → bindArgs (PySem.W.fnOf x qual (defArgs st) (defBody st) (defScope st) .none kV doc pm an cdv ct) ⟨us, []⟩ = pure (ps.zip us)) : Binds K fd ps [] := by
  obtain ⟨oc, od, kV, doc, pm, an, cdv, ct, osl, rfl, lk, hcd⟩ := F.ex
  exact .all (h kV doc pm an cdv ct)
theorem fun_mk {x qual : Str} {st : Stmt} {f : Addr} {oc : Value} {od an : Option Addr} {osl : Array (Option Value)} {kV doc pm cdv ct : Value} (l : K.lookup f = some ⟨oc, od, .func (PySem.W.fnOf x qual (defArgs st) (defBody st) (defScope st) .none kV doc pm an cdv ct), osl⟩)
    (c : PySem.W.codeIn K cdv qual = true) (k : PySem.W.keepIn K (.ref f) = true) : Fun K x qual st f (PySem.W.fnOf x qual (defArgs st) (defBody st) (defScope st) .none kV doc pm an cdv ct) := ⟨⟨oc, od, kV, doc, pm, an, cdv, ct, osl, rfl, l, c⟩, k⟩
end
/-! ### expressions in short: the name that stands in the i-th slot -/
section
variable {X : Cx}
end
/-! ### tests -/
/-! ### heaps -/
/-- all that was tracked is as it was -/
def Same (H H' : Hp) : Prop := ∀ b o, H b = some o → H' b = some o
end L2
set_option Elab.async false
set_option linter.all false
set_option maxRecDepth 100000
set_option maxHeartbeats 4000000
/-! list comprehensions over the layer -/
namespace L2
open PySem PySem.Spec PyProof.Rows
section
variable {X : Cx}
/-- the block's slots: those that stand in the frame around, by their places there -/
def capS (cap : List (Option Nat)) (σ : St) : St := cap.map fun o => o.bind fun i => (σ[i]?).join
/-- the block's context -/
def cxComp (X : Cx) (cN : List Str) (scope : Scope) (cl : List (Str × Addr)) (fp : List Addr) (s : Shared) (H : Hp) : Cx :=
  { X with N := cN, s₀ := s, H₀ := H, env := compEnvC scope cl s.heap.objs.size X.env, outer := X.stack, ex := fp, fn := fun _ => false, pn := [], xe := fun _ _ => False }
/-- the tests of a clause -/
def PIfs (X : Cx) (ifs : List Expr) (c : TT) : Prop :=
  ∀ (pins : List (Addr × Obj)) (s : Shared) (σ : St) (H : Hp) (Q : Bool → Hp → Prop), Inv X pins σ H s → c σ H Q →
    wpAny (model X.prog X.w) X.A (forIn ifs true fun c r => if r = true then do let ok ← isTrue c X.env (eval c X.env); pure (ForInStep.yield ok) else pure (ForInStep.yield r)) (TP X pins σ Q) X.xe s
def tNoIf : TT := fun _ H Q => Q true H
theorem pif_nil : PIfs X [] tNoIf := fun _ _ _ H _ I h => wpAny_tests_nil ⟨H, I, h⟩
theorem pif_one {e : Expr} {t : TT} (h : PT X e t) : PIfs X [e] t := fun pins s σ H Q I q => wpAny_tests_one (h pins s σ H Q I q)
/-- a target stores nowhere but at js -/
def GKeep (js : List Nat) (g : TG) : Prop := ∀ x σ H Q, g x σ H Q → g x σ H fun σ' H' => Q σ' H' ∧ σ'.length = σ.length ∧ ∀ i, i ∉ js → σ'[i]? = σ[i]?
def GsKeep (js : List Nat) (g : TGs) : Prop := ∀ x σ H Q, g x σ H Q → g x σ H fun σ' H' => Q σ' H' ∧ σ'.length = σ.length ∧ ∀ i, i ∉ js → σ'[i]? = σ[i]?
theorem gk_name {i : Nat} : GKeep [i] (gName i) := fun x σ H Q h => ⟨h, by simp, fun j hj => by
  rw [List.getElem?_set_ne]
  intro e; exact hj (by simp [e])⟩
theorem gk_nil : GsKeep [] gNil := fun x σ H Q h => ⟨h.1, h.2, rfl, fun _ _ => rfl⟩
def TGmono (g : TG) : Prop := ∀ x σ H (Q Q' : St → Hp → Prop), (∀ σ' H', Q σ' H' → Q' σ' H') → g x σ H Q → g x σ H Q'
def TGsmono (g : TGs) : Prop := ∀ x σ H (Q Q' : St → Hp → Prop), (∀ σ' H', Q σ' H' → Q' σ' H') → g x σ H Q → g x σ H Q'
theorem gm_name {i : Nat} : TGmono (gName i) := fun x σ H Q Q' h q => h _ _ q
theorem gm_nil : TGsmono gNil := fun x σ H Q Q' h q => ⟨q.1, h _ _ q.2⟩
theorem gm_cons {g : TG} {u : TGs} (a : TGmono g) (b : TGsmono u) : TGsmono (gCons g u) := fun x σ H Q Q' h q => by
  obtain ⟨v, r, e, q⟩ := q
  exact ⟨v, r, e, a _ _ _ _ _ (fun σ' H' z => b _ _ _ _ _ h z) q⟩
theorem gk_cons {g : TG} {u : TGs} {js ks : List Nat} (a : GKeep js g) (am : TGmono g) (b : GsKeep ks u) (bm : TGsmono u) : GsKeep (js ++ ks) (gCons g u) := fun x σ H Q q => by
  obtain ⟨v, r, e, q⟩ := q
  refine ⟨v, r, e, am _ _ _ _ _ (fun σ' H' z => ?_) (a _ _ _ _ q)⟩
  obtain ⟨z, l1, k1⟩ := z
  refine bm _ _ _ _ _ (fun σ2 H2 z2 => ?_) (b _ _ _ _ z)
  obtain ⟨z2, l2, k2⟩ := z2
  exact ⟨z2, l2.trans l1, fun i hi => (k2 i fun z => hi (List.mem_append_right _ z)).trans (k1 i fun z => hi (List.mem_append_left _ z))⟩
theorem gk_tup {K : PySem.W.Frag} {n : Nat} {u : TGs} {js : List Nat} (b : GsKeep js u) : GKeep js (gTup K n u) := fun x σ H Q q => by
  obtain ⟨a, xs, e, hq, hl, q⟩ := q
  exact ⟨a, xs, e, hq, hl, b _ _ _ _ q⟩
/-- a comprehension's turns: p is the new list -/
def tGo (cap : List (Option Nat)) (g : TG) (c : TT) (te : TE) (σ : St) (Q : Addr → Hp → Prop) (J : It) (H1 : Hp) : Prop := ∀ p, H1 p = none → ∃ W : Nat → Nat → Hp → Prop, (∃ m, W 0 m (upd H1 p (.lst []))) ∧ ∀ i m H, W i m H →
  (J.stop i H ∧ Q p H) ∨ (J.go i H ∧ ∃ N : Hp → Prop, (∀ H', N H' → ∃ m', m' < m ∧ W (i + 1) m' H') ∧ ∀ x H', J.yld i H x H' → g x (capS cap σ) H' fun σ2 H2 => c σ2 H2 fun b H3 =>
    if b = true then te σ2 H3 fun v H4 => ∃ xs, H4 p = some (.lst xs) ∧ xs.length < sizeLine ∧ N (upd H4 p (.lst (xs ++ [v]))) else N H3)
/-- a comprehension's reading -/
def tCompL (cap : List (Option Nat)) (wi : TI) (g : TG) (c : TT) (te : TE) : St → Hp → (Addr → Hp → Prop) → Prop := fun σ H Q => wi σ H fun J H1 => tGo cap g c te σ Q J H1
structure CompOk (X : Cx) (cN : List Str) (cap : List (Option Nat)) (scope : Scope) (cl : List (Str × Addr)) : Prop where
  clos : closureFor scope X.env = pure cl
  sub : ∀ n a, cl.lookup n = some a → X.env.cells.lookup n = some a
  cell : ∀ y ∈ scope.names, y.2 ≠ .cell
  kind : scope.kind = .function
  names : ∀ x ∈ scope.names, x.2 = .local → scope.names.lookup x.1 = some .local
  len : cap.length = cN.length
  has : ∀ x, ((relabel scope X.env).names.lookup x = some .cell ∨ (relabel scope X.env).names.lookup x = some .free) → ∃ a, cl.lookup x = some a
  capd : ∀ (i j : Nat) (x : Str), cap[i]? = some (some j) → cN[i]? = some x → X.N[j]? = some x ∧ Vis X.env.scope x ∧ X.env.scope.names.lookup x ≠ some .local ∧ ((relabel scope X.env).names.lookup x = some .cell ∨ (relabel scope X.env).names.lookup x = some .free)
theorem capS_len {cap : List (Option Nat)} {σ : St} : (capS cap σ).length = cap.length := List.length_map _
theorem capS_get {cap : List (Option Nat)} {σ : St} {i : Nat} {v : V} (h : (capS cap σ)[i]? = some (some v)) : ∃ j, cap[i]? = some (some j) ∧ σ[j]? = some (some v) := by
  unfold capS at h
  rw [List.getElem?_map] at h
  cases e : cap[i]? with
  | none => rw [e] at h; cases h
  | some o =>
    rw [e] at h
    cases o with
    | none => cases h
    | some j =>
      refine ⟨j, rfl, ?_⟩
      simp only [Option.map_some, Option.bind_some, Option.some.injEq] at h
      cases q : σ[j]? with
      | none => rw [q] at h; cases h
      | some u => rw [q] at h; simp only [Option.join_some] at h; rw [h]
/-- the block begins -/
theorem comp_start {cN : List Str} {cap : List (Option Nat)} {scope : Scope} {cl : List (Str × Addr)} {fp : List Addr} {pins : List (Addr × Obj)} {σ : St} {H : Hp} {s : Shared} {h' : Heap} {m : Str → Option Value} {tk : Nat}
    (C : CompOk X cN cap scope cl) (I : Inv X pins σ H s) (f : ∀ b ∈ fp, FpOk X pins H b) (fl : ∀ b ∈ fp, b < s.heap.objs.size) (hn : h'.Ns s.heap.objs.size m) (k : ∀ b o, s.heap.get? b = some o → h'.get? b = some o) :
    Inv (cxComp X cN scope cl fp s H) [] (capS cap σ) H { s with heap := h', toks := tk } := by
  have hfs : ∀ b ∈ fp, b ∉ frs X.stack := fun b hb z => by
    rcases List.mem_cons.mp (I.stkSub b z) with e | z
    · exact (f b hb).2.1 e
    · exact (f b hb).2.2.1 z
  have hcl : ∀ x c, cl.lookup x = some c → ∃ v, s.heap.IsCell c v := fun x c e => I.cell x c (C.sub x c e)
  refine ⟨⟨I.ok.mod, ?_, I.ok.glob, I.ok.blt, Nat.le_refl _, fun x y c e1 e2 => I.ok.inj x y c (C.sub x c e1) (C.sub y c e2), C.has, fun _ _ z => (nomatch z), I.ok.hd, I.ok.frames, .inl rfl, fun b hb => ⟨Nat.ne_of_lt (fl b hb), fun x c e => (f b hb).2.2.2.2.1 x c (C.sub x c e)⟩,
      I.bs, Nat.le_trans I.ok.bsz I.sz, fun b o e z => ?_, hfs, I.stack, I.stkFree⟩, rfl, I.bare, Un.kept k, ⟨m, hn, fun i x v h1 h2 h3 => ?_⟩, fun x c e => ?_, I.fresh, fun x c e => I.freeC x c (C.sub x c e), fun p hp => absurd hp (by simp [cxComp]), I.hok.kept k, ?_⟩
  · exact C.kind
  · rcases (f b z).2.2.2.1 with q | q
    · exact I.ok.noex b o e q
    · exact absurd (Nat.lt_of_lt_of_le (Heap.lt_size (I.ok.bs b o e).1) q) (Nat.lt_irrefl _)
  · obtain ⟨j, hj, hσ⟩ := capS_get h2
    obtain ⟨n1, n2, n3, n4⟩ := C.capd i j x hj h1
    obtain ⟨mo, hno, hlo⟩ := I.loc
    obtain ⟨u, ru, lk⟩ := hlo j x v n1 hσ n2
    refine ⟨u, ru, ?_⟩
    rcases lk with ⟨k1, _⟩ | ⟨_, c, e, z⟩
    · exact absurd k1 n3
    · obtain ⟨a, ha⟩ := C.has x n4
      have ea := C.sub x a ha
      rw [e] at ea; cases ea
      obtain ⟨o, ho, hd⟩ := z
      exact .inr ⟨n4, c, ha, ⟨o, k _ _ ho, hd⟩⟩
  · obtain ⟨v, o, ho, hd⟩ := hcl x c e
    exact ⟨v, o, k _ _ ho, hd⟩
  · show (capS cap σ).length = cN.length
    rw [capS_len, C.len]
/-- the block is left -/
theorem comp_end {cN : List Str} {scope : Scope} {cl : List (Str × Addr)} {fp : List Addr} {pins pins' : List (Addr × Obj)} {σ σ' : St} {H H' : Hp} {s s' : Shared} {h' : Heap}
    (I : Inv X pins σ H s) (f : ∀ b ∈ fp, FpOk X pins H b) (J : Inv (cxComp X cN scope cl fp s H) pins' σ' H' s') (sb : Heap.SameBut s.heap.objs.size s'.heap h') : Inv X pins σ H' { s' with heap := h' } := by
  have ne : ∀ b o, s.heap.get? b = some o → b ≠ s.heap.objs.size := fun b o e => Nat.ne_of_lt (Heap.lt_size e)
  have B : Un (frs X.stack) fp H H' s.heap s'.heap := J.base
  refine I.call' (s' := { s' with heap := h' }) (ch := fp) J.os ⟨fun b o e n hb hx => ?_, fun b o e n hb hx => ?_, B.free, fun b o e hx => ?_, B.tups, B.frzs, B.tbls⟩ (fun b o e => ?_) J.bare fun b hb => ?_
  · exact (sb.2 b (ne b o e)).trans (B.keep b o e n hb hx)
  · obtain ⟨sl, q⟩ := B.slot b o e n hb hx
    exact ⟨sl, (sb.2 b (ne b o e)).trans q⟩
  · obtain ⟨o', q⟩ := B.there b o e hx
    exact ⟨o', (sb.2 b (ne b o e)).trans q⟩
  · have hf : H' s.heap.objs.size = none := J.free
    refine (J.hok b o e).stay (fun c w' hc q => (sb.2 c ?_).trans q) (fun _ q => q) fun _ _ q => q
    rintro rfl
    rcases hc with rfl | hc
    · rw [hf] at e; cases e
    · rw [hf] at hc; cases hc
  · obtain ⟨f0, f1, f2, f3, f4, f5⟩ := f b hb
    exact ⟨f3, f1, f4, f5⟩
theorem wpAny_falseE {α : Type} {t : Sem α} {Q : α → Shared → Prop} {M : Model} {A : Around} {E : Value → Shared → Prop} {s : Shared} (h : wpAny M A t Q (fun _ _ => False) s) : wpAny M A t Q E s := wpAny_mono h (fun _ _ q => q) fun _ _ f => f.elim
/-- the loop of the block -/
theorem comp_loop {tg iter elt : Expr} {ifs : List Expr} {scope : Scope} {pos : Pos} {cN : List Str} {cap : List (Option Nat)} {cl : List (Str × Addr)} {js : List Nat} {g : TG} {c : TT} {te : TE} {fp : List Addr} {it D : Addr} {tn : Nat → Heap → Prop} {J : It}
    {σ : St} {H : Hp} {s s' : Shared} {Q : Addr → Hp → Prop} {R : Result → Shared → Prop} {H₀ : Hp} (X : Cx)
    (hc : X.calm = true) (hg : PG (cxComp X cN scope cl fp s H₀) tg g) (gm : TGmono g) (gk : GKeep js g) (hjs : ∀ j ∈ js, (cap[j]?).join = none) (ht : PIfs (cxComp X cN scope cl fp s H₀) ifs c) (tm : ∀ σ H (Q Q' : Bool → Hp → Prop), (∀ b H', Q b H' → Q' b H') → c σ H Q → c σ H Q') (he : PE (cxComp X cN scope cl fp s H₀) elt te)
    (T : Turn X.prog X.w X.K tg J fp it tn) (W : Nat → Nat → Hp → Prop)
    (turn : ∀ i m H, W i m H → (J.stop i H ∧ Q D H) ∨ (J.go i H ∧ ∃ N : Hp → Prop, (∀ H', N H' → ∃ m', m' < m ∧ W (i + 1) m' H') ∧ ∀ x H', J.yld i H x H' → g x (capS cap σ) H' fun σ2 H2 => c σ2 H2 fun b H3 =>
      if b = true then te σ2 H3 fun v H4 => ∃ xs, H4 D = some (.lst xs) ∧ xs.length < sizeLine ∧ N (upd H4 D (.lst (xs ++ [v]))) else N H3))
    (m : Nat) (w0 : W 0 m H) (I : Inv (cxComp X cN scope cl fp s H₀) [] (capS cap σ) H s') (st : tn 0 s'.heap) (f : ∀ b ∈ fp, FpOk (cxComp X cN scope cl fp s H₀) [] H b)
    (hR : ∀ σ' H' s', Inv (cxComp X cN scope cl fp s H₀) [] σ' H' s' → Q D H' → R (.ok .next) s') :
    codeAny (model X.prog X.w) X.A (.compLoop (.ListComp elt [⟨tg, iter, ifs, 0⟩] scope pos) 0 (.ref it) (.ref D) (cxComp X cN scope cl fp s H₀).env) R s' := by
  have stat : ∀ {H' : Hp}, (∀ b ∈ fp, H' b = none) → ∀ b ∈ fp, FpOk (cxComp X cN scope cl fp s H₀) [] H' b := fun hn b hb => ⟨hn b hb, (f b hb).2⟩
  refine codeAny_loop rfl (fun n s' => ∃ i H', Inv (cxComp X cN scope cl fp s H₀) [] (capS cap σ) H' s' ∧ tn i s'.heap ∧ (∀ b ∈ fp, H' b = none) ∧ W i n H') ?_ m ⟨0, H, I, st, fun b hb => (f b hb).1, w0⟩
  rintro n s3 ⟨i, H3, I3, st3, fr3, w3⟩
  show wpAny _ X.A ((compTurn (.ListComp elt [⟨tg, iter, ifs, 0⟩] scope pos) 0 (.ref it) (.ref D) (cxComp X cN scope cl fp s H₀).env).onRaise (fun x => do noteFrame x (cxComp X cN scope cl fp s H₀).env; theTreesLotGoes x)) _ _ s3
  refine wpAny_noted (wpAny_falseE ?_)
  rw [compTurn_list]
  refine wpAny_bind (wpAny_standAt (wpAny_bind ?_))
  rcases turn i n H3 w3 with ⟨stop, qn⟩ | ⟨go, N, hN, step⟩
  · refine thn (T.done (cxComp X cN scope cl fp s H₀) rfl rfl rfl hc i [] s3 _ H3 _ I3 (stat fr3) st3 stop) fun r s4 ⟨hr, I4⟩ => ?_
    subst hr
    exact wpAny_pure (hR _ _ _ I4 qn)
  · refine thn (T.item (cxComp X cN scope cl fp s H₀) rfl rfl rfl hc i [] s3 _ H3 _ I3 (stat fr3) st3 go) fun r s4 ⟨u, hr, h4⟩ => ?_
    subst hr
    refine wpAny_bind (thn h4 fun _ s5 ⟨x, H5, I5, r5, y5, st5, fr5⟩ => ?_)
    have I5' := I5.pinned (stat fr5) (T.obj _ _ st5)
    refine wpAny_bind (thn (hg _ s5 _ H5 x u _ I5' r5 (gk _ _ _ _ (step x H5 y5))) fun _ s6 ⟨σ6, H6, I6, q6, l6, k6⟩ => ?_)
    have back : ∀ {H7 : Hp} {s7 : Shared}, Inv (cxComp X cN scope cl fp s H₀) ([] ++ pinsAt fp s5.heap) σ6 H7 s7 → N H7 → ∃ m, m < n ∧ ∃ i H', Inv (cxComp X cN scope cl fp s H₀) [] (capS cap σ) H' s7 ∧ tn i s7.heap ∧ (∀ b ∈ fp, H' b = none) ∧ W i m H' := fun {H7 s7} I7 n7 => by
      obtain ⟨m', hm, w7⟩ := hN H7 n7
      refine ⟨m', hm, i + 1, H7, I7.unpinned.weak l6.symm fun j v hj => ?_, T.keep _ _ _ st5 fun b hb o e => (I7.pin (b, o) (List.mem_append_right _ (List.mem_append_right _ (mem_pinsAt hb e)))).1, fun b hb => ?_, w7⟩
      · by_cases hjj : j ∈ js
        · obtain ⟨z, hz, _⟩ := capS_get hj
          have := hjs j hjj
          rw [hz] at this; cases this
        · rw [k6 j hjj]; exact hj
      · obtain ⟨o, e, d⟩ := T.obj _ _ st5 b hb
        exact (I7.pin (b, o) (List.mem_append_right _ (List.mem_append_right _ (mem_pinsAt hb e)))).2.1
    refine wpAny_bind (thn (ht _ s6 σ6 H6 _ I6 q6) fun b s7 ⟨H7, I7, q7⟩ => ?_)
    cases b with
    | false =>
      rw [if_neg Bool.false_ne_true] at q7
      exact wpAny_pure ⟨rfl, back I7 q7⟩
    | true =>
      rw [if_pos rfl] at q7
      refine wpAny_bind (wpAny_bind (thn (he _ s7 σ6 H7 _ I7 q7) fun y s8 ⟨v, H8, I8, r8, xs, e8, z8, n8⟩ => ?_))
      refine wpAny_bind (thn (mt_append _ s8 σ6 H8 (.ref D) [v] (.ref D) [y] (fun _ H9 => N H9) I8 rfl (.cons r8 .nil) ⟨D, xs, v, rfl, rfl, e8, z8, n8⟩) fun _ s9 ⟨_, H9, I9, _, q9⟩ => ?_)
      exact wpAny_pure (wpAny_pure ⟨rfl, back I9 q9⟩)
section
variable {X : Cx} {tg iter elt : Expr} {ifs : List Expr} {scope : Scope} {pos : Pos} {cN : List Str} {cap : List (Option Nat)} {cl : List (Str × Addr)} {js : List Nat} {wi : TI} {g : TG} {c : TT} {te : TE}
/-- what a comprehension's parts must be -/
structure CompP (X : Cx) (tg iter elt : Expr) (ifs : List Expr) (scope : Scope) (cN : List Str) (cap : List (Option Nat)) (cl : List (Str × Addr)) (js : List Nat) (wi : TI) (g : TG) (c : TT) (te : TE) : Prop where
  calm : X.calm = true
  ok : X.Ok → CompOk X cN cap scope cl
  it : PI X tg iter wi
  tgt : ∀ fp s H, PG (cxComp X cN scope cl fp s H) tg g
  gm : TGmono g
  gk : GKeep js g
  js0 : ∀ j ∈ js, (cap[j]?).join = none
  ts : ∀ fp s H, PIfs (cxComp X cN scope cl fp s H) ifs c
  tm : ∀ σ H (Q Q' : Bool → Hp → Prop), (∀ b H', Q b H' → Q' b H') → c σ H Q → c σ H Q'
  el : ∀ fp s H, PE (cxComp X cN scope cl fp s H) elt te
  fold : ∀ x, foldedSetIterable iter X.env x = pure x
theorem comp_block {pins : List (Addr × Obj)} {σ : St} {H : Hp} {s : Shared} {Q : Addr → Hp → Prop} {RR : Value → Addr → Result → Shared → Prop} (C : CompP X tg iter elt ifs scope cN cap cl js wi g c te) (I : Inv X pins σ H s) (h : tCompL cap wi g c te σ H Q)
    (hRR : ∀ (D : Addr) (fp : List Addr) (s3 : Shared) (H3 : Hp) (σ' : St) (H' : Hp) (s' : Shared), Inv X pins σ H3 s3 → (∀ b ∈ fp, FpOk X pins H3 b) → Inv (cxComp X cN scope cl fp s3 H3) [] σ' H' s' → Q D H' → RR (.ref D) s3.heap.objs.size (.ok .next) s') :
    wpAny (model X.prog X.w) X.A (eval iter X.env) (fun x s₁ => wpAny (model X.prog X.w) X.A (pyIter x) (fun it s₂ => wpAny (model X.prog X.w) X.A (newList []) (fun acc s₃ =>
      wpAny (model X.prog X.w) X.A (newFunctionEnv scope X.env.globals cl [] X.env.qual none .none (some X.env)) (fun cenv s₄ =>
        codeAny (model X.prog X.w) X.A (.compStart (.ListComp elt [⟨tg, iter, ifs, 0⟩] scope pos) 0 it acc { cenv with scope := relabel scope X.env }) (RR acc cenv.locals) s₄) X.xe s₃) X.xe s₂) X.xe s₁) X.xe s := by
  refine thn (C.it pins s σ H _ I h) fun v s1 h1 => thn h1 fun itv s2 h2 => ?_
  obtain ⟨it, fp, tn, J, H2, e, I2, T, st2, f2, R2⟩ := h2
  subst e
  obtain ⟨W, ⟨m, w0⟩, turn⟩ := R2 s2.heap.objs.size I2.fresh
  have I3 : Inv X pins σ (upd H2 s2.heap.objs.size (.lst [])) { s2 with heap := s2.heap.push { cls := .type "list", data := .seq ([] : List Value).toArray }, toks := s2.toks } := I2.lnew (ys := []) (its := []) .nil (Nat.zero_le _)
  have fl : ∀ b ∈ fp, b < s2.heap.objs.size := fun b hb => by
    obtain ⟨o, e, _⟩ := T.obj _ _ st2 b hb
    exact Heap.lt_size e
  have f3 : ∀ b ∈ fp, FpOk X pins (upd H2 s2.heap.objs.size (.lst [])) b := fun b hb => ⟨by rw [upd_ne (Nat.ne_of_lt (fl b hb))]; exact (f2 b hb).1, (f2 b hb).2⟩
  refine wpAny_newObj_type (wpAny_newFunctionEnv (C.ok I.ok).cell (by intro y hy; simp at hy) (fun h₁ hns₁ hsb₁ => ?_) (C.ok I.ok).kind)
  dsimp only at hns₁ hsb₁ ⊢
  generalize hs3 : ({ s2 with heap := s2.heap.push { cls := .type "list", data := .seq ([] : List Value).toArray }, toks := s2.toks } : Shared) = s3 at I3
  have hh3 : s3.heap = s2.heap.push { cls := .type "list", data := .seq ([] : List Value).toArray } := by rw [← hs3]
  rw [← hh3] at hns₁ hsb₁ ⊢
  have fl3 : ∀ b ∈ fp, b < s3.heap.objs.size := fun b hb => by rw [hh3, Heap.size_push]; exact Nat.lt_succ_of_lt (fl b hb)
  have k1 : ∀ b o, s3.heap.get? b = some o → h₁.get? b = some o := fun b o e => (hsb₁.2 b (Nat.ne_of_lt (Heap.lt_size e))).trans (Heap.get?_push_of_some _ e)
  have I4 := comp_start (tk := s2.toks + ([] : List (Str × Value)).length) (C.ok I.ok) I3 f3 fl3 hns₁ k1
  have e4 : ({ s3 with heap := h₁, toks := s2.toks + ([] : List (Str × Value)).length } : Shared) = { s2 with heap := h₁, toks := s2.toks + ([] : List (Str × Value)).length } := by rw [← hs3]
  rw [e4] at I4
  have st4 : tn 0 h₁ := T.keep _ _ _ st2 fun b hb o e => k1 b o (by rw [hh3]; exact Heap.get?_push_of_some _ e)
  have f4 : ∀ b ∈ fp, FpOk (cxComp X cN scope cl fp s3 (upd H2 s2.heap.objs.size (.lst []))) [] (upd H2 s2.heap.objs.size (.lst [])) b := fun b hb => by
    obtain ⟨g0, g1, g2, g3, g4, g5⟩ := f3 b hb
    refine ⟨g0, Nat.ne_of_lt (fl3 b hb), fun z => ?_, .inl hb, fun x c e => g4 x c ((C.ok I.ok).sub x c e), fun p hp => absurd hp (by simp [cxComp])⟩
    rcases List.mem_cons.mp (I3.stkSub b z) with e | z
    · exact g1 e
    · exact g2 z
  have loop : codeAny (model X.prog X.w) X.A (.compLoop (.ListComp elt [⟨tg, iter, ifs, 0⟩] scope pos) 0 (.ref it) (.ref s2.heap.objs.size) (cxComp X cN scope cl fp s3 (upd H2 s2.heap.objs.size (.lst []))).env) (RR (.ref s2.heap.objs.size) s3.heap.objs.size)
      { s2 with heap := h₁, toks := s2.toks + ([] : List (Str × Value)).length } :=
    comp_loop X C.calm (C.tgt _ _ _) C.gm C.gk C.js0 (C.ts _ _ _) C.tm (C.el _ _ _) T W turn m w0 I4 st4 f4 fun σ' H' s' I' q => hRR _ fp s3 _ σ' H' s' I3 f3 I' q
  exact codeAny_compStart_list loop (T.self _ 0 _ _ _ st4 loop)
def tComp (cap : List (Option Nat)) (wi : TI) (g : TG) (c : TT) (te : TE) : TE := fun σ H Q => tCompL cap wi g c te σ H fun p H' => Q (.ref p) H'
theorem pe_comp (C : CompP X tg iter elt ifs scope cN cap cl js wi g c te) : PE X (.ListComp elt [⟨tg, iter, ifs, 0⟩] scope pos) (tComp cap wi g c te) := by
  intro pins s σ H Q I h
  rw [eval_ListComp]
  refine wpAny_comprehension_free (use := none) rfl C.fold (C.ok I.ok).clos (C.ok I.ok).kind (C.ok I.ok).names (comp_block (RR := fun acc C' => compPost (model X.prog X.w) X.A X.xe none (EP X pins σ Q) acc C') C I h ?_)
  intro D fp s3 H3 σ' H' s' I3 f3 J q
  obtain ⟨m, hn, _⟩ := J.loc
  exact ⟨m, hn, fun h' sb => ⟨.ref D, H', comp_end I3 f3 J sb, rfl, q⟩⟩
/-- x = [.. for ..], x a plain local: stored ahead of the block's end -/
def tSetComp (i : Nat) (cap : List (Option Nat)) (wi : TI) (g : TG) (c : TT) (te : TE) : TS := fun D σ H => tCompL cap wi g c te σ H fun p H' => D.nx (σ.set i (some (.ref p))) H'
end
end
end L2
set_option Elab.async false
set_option linter.all false
set_option maxRecDepth 100000
set_option maxHeartbeats 4000000
/-! more rules over the layer: texts walked, enumerate, all, isinstance, lists compared, slices of texts, () + t -/
namespace L2
open PySem PySem.Spec PyProof.Rows
/-! ### for c in a text -/
def Its (z : Str) : It := ⟨fun i _ => i < z.cps.size, fun i H x H' => H' = H ∧ ∃ c, z.cps[i]? = some c ∧ x = .str ⟨#[c]⟩, fun i _ => i = z.cps.size⟩
theorem turn_walks {P : Program} {w : World} {K : PySem.W.Frag} {tg : Expr} {ty : String} {it : Addr} {z : Str} {t : Tok} (hty : ["enumerate", "zip", "dict_itemiterator", "dict_reverseitemiterator", "odict_iterator", "itertools.zip_longest", "itertools.pairwise"].contains ty = false)
    (W : ∀ A : Around, A.handled = none → Walks P w A it [it] [it] z.cps.size (SignAt z) (fun i h => h.IsStrIter it ty z t i))
    (self : ∀ (A : Around) (i : Nat) (s : Shared) (Q : Value → Shared → Prop) (E : Value → Shared → Prop), s.heap.IsStrIter it ty z t i → Q (.ref it) s → wpAny (model P w) A (pyIter (.ref it)) Q E s) :
    Turn P w K tg (Its z) [it] it (fun i h => h.IsStrIter it ty z t i) where
  mem := by simp
  obj := fun i h st b hb => by
    have e : b = it := by simpa using hb
    subst e
    obtain ⟨o, e, c, d⟩ := st
    exact ⟨o, e, fun v z => by rw [d] at z; cases z⟩
  keep := fun i h h' st k => let ⟨o, e, r⟩ := st; ⟨o, k it (by simp) o e, r⟩
  item := by
    intro X hP hw hK hc i pins s σ H E I hf st hg
    subst hP hw hK
    obtain ⟨f0, f1, f2, f3, f4, f5⟩ := hf it (by simp)
    refine (W X.A (I.ok.hd hc)).item i s _ _ hg st fun v h' tk hv st' kk => ?_
    obtain ⟨c, u, hcp, rfl⟩ := hv
    have I1 : Inv X pins σ H { s with heap := h', toks := tk } := I.turned (fun b o hb e => kk b o (by simpa using hb) e) f0 f1 f3 f4 f5
    obtain ⟨o, e, c', d⟩ := id st'
    exact ⟨_, rfl, go_of (s := { s with heap := h', toks := tk }) e c' d hty ⟨.str ⟨#[c]⟩, H, I1, ⟨u, rfl⟩, ⟨rfl, c, hcp, rfl⟩, st', fun b hb => (hf b hb).1⟩⟩
  done := by
    intro X hP hw hK hc i pins s σ H E I hf st hg
    subst hP hw hK
    obtain ⟨f0, f1, f2, f3, f4, f5⟩ := hf it (by simp)
    have e : i = z.cps.size := hg
    subst e
    exact (W X.A (I.ok.hd hc)).done s _ _ st fun h' tk kk => ⟨rfl, I.turned (fun b o hb e => kk b o (by simpa using hb) e) f0 f1 f3 f4 f5⟩
  self := self
section
variable {X : Cx} {tg : Expr}
end
/-! ### for k, c in enumerate(a text) -/
section
variable {X : Cx} {elts : List Expr} {ek : Nat} {epos : Pos}
end
section
variable {X : Cx}
/-! ### all of a list of truths -/
/-! ### isinstance of a built-in class -/
/-! ### two lists of the very same items -/
/-! ### () + t -/
def rCatT0 (K : PySem.W.Frag) : R2 := fun x y H Q => ∃ a b ys, x = .ref a ∧ y = .ref b ∧ SqT K H a [] ∧ SqT K H b ys ∧ Q (.ref b) H
theorem op_catT0 : OpR X (binaryOp .Add) (rCatT0 X.K) := by
  intro pins s σ H x y v u Q I rx ry h
  obtain ⟨a, b, ys, rfl, rfl, ha, hb, q⟩ := h
  cases rx
  cases ry
  obtain ⟨its, r1, p1, _⟩ := I.tuple ha
  obtain ⟨its2, r2, p2, _⟩ := I.tuple hb
  cases r1
  obtain ⟨⟨cls, dd, data, sl⟩, ho, hc, n, hd⟩ := id p1
  obtain ⟨⟨cls2, dd2, data2, sl2⟩, ho2, hc2, n2, hd2⟩ := id p2
  simp only at hc hd hc2 hd2
  subst hc hd hc2 hd2
  exact concat_meets ⟨_, ho, rfl⟩ ⟨_, ho2, rfl⟩ noFill_tuple_add seq_tuple_add PySem.F.slot_tuple_add PySem.F.entry_tuple_add (PySem.F.args_tuple_add_2 _ _)
    (tuple_addW0 a b _ _ n n2 dd dd2 sl sl2 (by simp)) ⟨ho, ho2, ⟨.ref b, H, I, rfl, q⟩⟩
/-! ### a text's slice -/
theorem part_of {v : Value} {o : Option Int} (h : IsPart v o) : ∃ l : Option (Int × Tok), v = partValue l ∧ l.map (·.1) = o := by
  cases h with
  | none => exact ⟨none, rfl, rfl⟩
  | int i t => exact ⟨some (i, t), rfl, rfl⟩
def rSlS : V → Option Int → Option Int → Hp → VK → Prop := fun x lo hi H Q => ∃ z, x = .str z ∧ z.length ≤ sizeLine ∧ Q (.str (Txt.slice z lo hi)) H
theorem sl_str : SlR X rSlS := by
  intro pins s σ H x v vl vu lo hi sl Q I rx hs pl pu h
  obtain ⟨z, rfl, hz, q⟩ := h
  obtain ⟨t, rfl⟩ := rx
  obtain ⟨l, rfl, rfl⟩ := part_of pl
  obtain ⟨u, rfl, rfl⟩ := part_of pu
  refine ⟨"str", _, PySem.F.slot_str_getitem.lookup, typeIs_str _ _ _, ?_⟩
  obtain ⟨o, ho, hc, hd⟩ := hs
  refine wpAny_getItem_str_slice (l := l) (u := u) (st := none) ⟨o, ho, hc, hd⟩ rfl ?_
  have hle := Txt.slice_le z (l.map (·.1)) (u.map (·.1))
  unfold sliceMade
  unfold Txt.slice at q hle
  show Made.post (if ((1 : Int) == 1 && (PySem.Builtin.Str.strSliceIndices (l.map (·.1)) (u.map (·.1)) 1 z.length).length == z.length) = true then _ else Made.str ⟨((PySem.Builtin.Str.strSliceIndices (l.map (·.1)) (u.map (·.1)) 1 z.length).filterMap (z.cps[·]?)).toArray⟩) _ s
  split
  · rename_i hif
    rw [if_pos hif] at q
    exact ⟨.str z, H, I, ⟨t, rfl⟩, q⟩
  · rename_i hif
    rw [if_neg hif] at q
    rw [if_neg hif] at hle
    exact ⟨Nat.le_trans hle hz, .str _, H, I.tok _, ⟨_, rfl⟩, q⟩
end
end L2
set_option Elab.async false
set_option linter.all false
set_option maxRecDepth 100000
set_option maxHeartbeats 4000000
namespace L2
open PySem PySem.Spec PyProof.Rows
theorem bt_isinstance : bootBuiltins "isinstance" = some (.builtin "isinstance") := by decide +kernel
theorem bt_bool : bootBuiltins "bool" = some (.type "bool") := by decide +kernel
theorem bt_int : bootBuiltins "int" = some (.type "int") := by decide +kernel
theorem bt_str : bootBuiltins "str" = some (.type "str") := by decide +kernel
theorem bt_list : bootBuiltins "list" = some (.type "list") := by decide +kernel
theorem bt_tuple : bootBuiltins "tuple" = some (.type "tuple") := by decide +kernel
section
variable {X : Cx}
/-- a def that keeps its promise, whatever its address -/
structure Ca (P : Program) (w : World) (K : PySem.W.Frag) (mg : Str → Option Value) (base : Heap) (k : Nat) (x : Str) (ps : List Str) (sp : Sp) : Prop where
  ex : ∃ (f : Addr) (fd : FuncData), FnOk P w K mg base CX0 k f fd ps sp ∧ Binds K fd ps [] ∧ PySem.W.keepIn K (.ref f) = true ∧ mg x = some (.ref f)
theorem pe_ca {k : Nat} {x : Str} {ps : List Str} {sp : Sp} {p pos : Pos} {e : Expr} {es : List Expr} {t : TA} (C : Ca X.prog X.w X.K X.mg X.base k x ps sp) (hr : Room k X.A) (hg : Gl X x) (ha : PA X (e :: es) t)
    (hdb : (x == ("__debug__" : Str)) = false := by decide) (he : starEach (e :: es) X.env = (false, eval e X.env) :: starEach es X.env := by rfl) (hpl : (backTo pos (starEach es X.env)).any (·.1) = false := by rfl) :
    PE X (.Call (.Name x p) (e :: es) [] pos) (tCall sp [] E0 t) := by
  obtain ⟨f, fd, F, B, kp, m⟩ := C.ex
  exact pe_call F hr hg m kp B .nil pass0 ha hdb he hpl
theorem gm_tup {K : PySem.W.Frag} {n : Nat} {u : TGs} (b : TGsmono u) : TGmono (gTup K n u) := fun x σ H Q Q' h q => by
  obtain ⟨a, xs, e, hq, hl, q⟩ := q
  exact ⟨a, xs, e, hq, hl, b _ _ _ _ _ h q⟩
/-! the names of a block -/
theorem mem_relabel {scope : Scope} {env : Env} {x : Str} {k : NameKind} (h : (relabel scope env).names.lookup x = some k) : ∃ k', (x, k') ∈ scope.names ∧ (k' = k ∨ k' = .free) := by
  have m := PySem.mem_of_lookup h
  unfold relabel at m
  obtain ⟨⟨n, k'⟩, hm, e⟩ := List.mem_map.mp m
  dsimp only at e
  split at e
  · rename_i hc
    cases e
    refine ⟨k', hm, .inr ?_⟩
    simp only [Bool.and_eq_true, beq_iff_eq] at hc
    exact hc.1.1
  · cases e
    exact ⟨_, hm, .inl rfl⟩
theorem compOk0 {cN : List Str} {cap : List (Option Nat)} {scope : Scope} (hk : scope.kind = .function) (h1 : scope.names.all (fun y => y.2 != .free && y.2 != .cell) = true) (h2 : scope.names.all (fun y => y.2 != .local || scope.names.lookup y.1 == some .local) = true)
    (hl : cap.length = cN.length) (hc : cap.all (fun o => o.isNone) = true) : CompOk X cN cap scope [] where
  clos := closureFor_none fun y hy => by
    have := List.all_eq_true.mp h1 y hy
    simp only [Bool.and_eq_true, bne_iff_ne, ne_eq] at this
    exact this.1
  sub := fun n a h => by cases h
  cell := fun y hy => by
    have := List.all_eq_true.mp h1 y hy
    simp only [Bool.and_eq_true, bne_iff_ne, ne_eq] at this
    exact this.2
  kind := hk
  names := fun y hy e => by
    have := List.all_eq_true.mp h2 y hy
    simp only [Bool.or_eq_true, bne_iff_ne, ne_eq, beq_iff_eq] at this
    rcases this with q | q
    · exact absurd e q
    · exact q
  len := hl
  has := fun x h => by
    exfalso
    have no : ∀ k', (x, k') ∈ scope.names → k' ≠ .free ∧ k' ≠ .cell := fun k' hy => by
      have := List.all_eq_true.mp h1 _ hy
      simpa only [Bool.and_eq_true, bne_iff_ne, ne_eq] using this
    rcases h with h | h
    · obtain ⟨k', hm, e⟩ := mem_relabel h
      rcases e with e | e
      · exact (no k' hm).2 e
      · exact (no k' hm).1 e
    · obtain ⟨k', hm, e⟩ := mem_relabel h
      rcases e with e | e
      · exact (no k' hm).1 e
      · exact (no k' hm).1 e
  capd := fun i j x h _ => by
    have := List.all_eq_true.mp hc _ (List.mem_of_getElem? h)
    cases this
/-- the cells that a block takes -/
def closOf (cells : List (Str × Addr)) : List (Str × NameKind) → List (Str × Addr) → List (Str × Addr)
  | [], cs => cs
  | (n, k) :: r, cs => closOf cells r (if k == .free then (n, (cells.lookup n).getD 0) :: cs else cs)
theorem closOf_mem {cells : List (Str × Addr)} : ∀ {names : List (Str × NameKind)} {cs : List (Str × Addr)} {p : Str × Addr}, p ∈ closOf cells names cs ↔ p ∈ cs ∨ ((p.1, NameKind.free) ∈ names ∧ p.2 = (cells.lookup p.1).getD 0)
  | [], cs, p => by simp [closOf]
  | (n, k) :: r, cs, p => by
    unfold closOf
    rw [closOf_mem]
    by_cases hk : k = .free
    · subst hk
      simp only [beq_self_eq_true, if_true, List.mem_cons, Prod.mk.injEq, and_true]
      constructor
      · rintro ((h | h) | h)
        · subst h; exact .inr ⟨.inl rfl, rfl⟩
        · exact .inl h
        · exact .inr ⟨.inr h.1, h.2⟩
      · rintro (h | ⟨h | h, e⟩)
        · exact .inl (.inr h)
        · refine .inl (.inl ?_)
          obtain ⟨a, b⟩ := p
          simp only at h e
          subst h; subst e; rfl
        · exact .inr ⟨h, e⟩
    · have hb : (k == NameKind.free) = false := by simpa using hk
      simp only [hb, Bool.false_eq_true, if_false, List.mem_cons, Prod.mk.injEq]
      constructor
      · rintro (h | h)
        · exact .inl h
        · exact .inr ⟨.inr h.1, h.2⟩
      · rintro (h | ⟨h | h, e⟩)
        · exact .inl h
        · exact absurd h.2.symm hk
        · exact .inr ⟨h, e⟩
theorem closureFor_of {scope : Scope} {env : Env} (h : ∀ n, (n, NameKind.free) ∈ scope.names → ∃ c, env.cells.lookup n = some c) : closureFor scope env = pure (closOf env.cells scope.names []) := by
  have key : ∀ (names : List (Str × NameKind)) (cs : List (Str × Addr)), (∀ n, (n, NameKind.free) ∈ names → ∃ c, env.cells.lookup n = some c) →
      (forIn names cs fun x r => (match x with | (name, kind) => if (kind == NameKind.free) = true then (do let y ← cellOf env name; pure (ForInStep.yield ((name, y) :: r))) else pure (ForInStep.yield r) : Sem (ForInStep (List (Str × Addr))))) = pure (closOf env.cells names cs) := by
    intro names
    induction names with
    | nil => intro cs _; rfl
    | cons y r ih =>
      obtain ⟨n, k⟩ := y
      intro cs hn
      rw [List.forIn_cons]
      unfold closOf
      by_cases hk : k = .free
      · subst hk
        obtain ⟨c, hc⟩ := hn n (List.mem_cons_self)
        simp only [beq_self_eq_true, if_true, cellOf, hc, Option.getD_some]
        exact ih _ fun m hm => hn m (List.mem_cons_of_mem _ hm)
      · have hb : (k == NameKind.free) = false := by simpa using hk
        simp only [hb, Bool.false_eq_true, if_false]
        exact ih _ fun m hm => hn m (List.mem_cons_of_mem _ hm)
  unfold closureFor
  have := key scope.names [] h
  first
    | exact this
    | (simp only [bind_pure]; exact this)
    | (show (forIn scope.names [] _ >>= fun r => pure r) = _; rw [bind_pure]; exact this)
theorem lookup_snd {f : Str → NameKind → NameKind} : ∀ {names : List (Str × NameKind)} {x : Str}, (names.map fun y => (y.1, f y.1 y.2)).lookup x = (names.lookup x).map (f x)
  | [], x => rfl
  | (n, k) :: r, x => by
    have ih := @lookup_snd f r x
    rw [List.map_cons, List.lookup_cons, List.lookup_cons]
    by_cases hx : x = n
    · subst hx; simp
    · have hb : (x == n) = false := beq_eq_false_iff_ne.mpr hx
      simp only [hb]; exact ih
theorem lookup_relabel {scope : Scope} {env : Env} {x : Str} : (relabel scope env).names.lookup x =
      (scope.names.lookup x).map fun k => if (k == NameKind.free && env.scope.kind == .function && env.kindOf x == some .cell) then NameKind.cell else k := by
  rw [← lookup_snd (f := fun n k => if (k == NameKind.free && env.scope.kind == .function && env.kindOf n == some .cell) then NameKind.cell else k)]
  unfold relabel
  congr 1
  refine List.map_congr_left fun y _ => ?_
  obtain ⟨n, k⟩ := y
  dsimp only
  split <;> rfl
/-- the block's names stand at these places of the frame around, as cells -/
def capOk (N : List Str) (outer inner : List (Str × NameKind)) : List (Option Nat) → List Str → Bool
  | [], _ => true
  | _, [] => true
  | none :: r, _ :: xs => capOk N outer inner r xs
  | some j :: r, x :: xs => N[j]? == some x && outer.lookup x == some .cell && inner.lookup x == some .free && capOk N outer inner r xs
theorem capOk_get {N : List Str} {outer inner : List (Str × NameKind)} : ∀ {cap : List (Option Nat)} {cN : List Str}, capOk N outer inner cap cN = true → ∀ (i j : Nat) (x : Str), cap[i]? = some (some j) → cN[i]? = some x → N[j]? = some x ∧ outer.lookup x = some .cell ∧ inner.lookup x = some .free
  | [], _, _, i, j, x, h1, _ => by simp at h1
  | _ :: _, [], _, i, j, x, _, h2 => by simp at h2
  | none :: r, y :: xs, h, 0, j, x, h1, _ => by simp at h1
  | none :: r, y :: xs, h, i + 1, j, x, h1, h2 => capOk_get (cap := r) (cN := xs) (by simpa [capOk] using h) i j x (by simpa using h1) (by simpa using h2)
  | some k :: r, y :: xs, h, 0, j, x, h1, h2 => by
    simp only [capOk, Bool.and_eq_true, beq_iff_eq] at h
    simp at h1 h2
    subst h1 h2
    exact ⟨h.1.1.1, h.1.1.2, h.1.2⟩
  | some k :: r, y :: xs, h, i + 1, j, x, h1, h2 => by
    simp only [capOk, Bool.and_eq_true, beq_iff_eq] at h
    exact capOk_get (cap := r) (cN := xs) h.2 i j x (by simpa using h1) (by simpa using h2)
theorem lookup_of_mem {α β : Type} [BEq α] [LawfulBEq α] {x : α} : ∀ {l : List (α × β)} {b : β}, (x, b) ∈ l → ∃ c, l.lookup x = some c
  | [], _, h => by cases h
  | (y, c) :: r, b, h => by
    rw [List.lookup_cons]
    by_cases hx : x = y
    · subst hx; simp
    · have hb : (x == y) = false := beq_eq_false_iff_ne.mpr hx
      rw [hb]
      rcases List.mem_cons.mp h with e | h
      · cases e; exact absurd rfl hx
      · exact lookup_of_mem h
/-- a block that takes names of the frame around: in the frame they are cells -/
theorem compOkN {cN : List Str} {cap : List (Option Nat)} {scope : Scope} (ok : X.Ok) (hk : scope.kind = .function) (h1 : scope.names.all (fun y => y.2 != .cell) = true) (h2 : scope.names.all (fun y => y.2 != .local || scope.names.lookup y.1 == some .local) = true)
    (hl : cap.length = cN.length) (hf : (scope.names.all fun y => y.2 != .free || X.env.scope.names.lookup y.1 == some .cell) = true) (hc : capOk X.N X.env.scope.names scope.names cap cN = true) : CompOk X cN cap scope (closOf X.env.cells scope.names []) := by
  have hfr : ∀ n, (n, NameKind.free) ∈ scope.names → ∃ c, X.env.cells.lookup n = some c := fun n hn => by
    have := List.all_eq_true.mp hf _ hn
    simp only [bne_self_eq_false, Bool.false_or, beq_iff_eq] at this
    exact ok.has n (.inl this)
  refine ⟨closureFor_of hfr, fun n a h => ?_, fun y hy => ?_, hk, fun y hy e => ?_, hl, fun x h => ?_, fun i j x h1' h2' => ?_⟩
  · have m := PySem.mem_of_lookup h
    rw [closOf_mem] at m
    rcases m with m | ⟨m, e⟩
    · cases m
    · obtain ⟨c, hc⟩ := hfr n m
      simp only [hc, Option.getD_some] at e
      rw [hc, e]
  · have := List.all_eq_true.mp h1 y hy
    simpa using this
  · have := List.all_eq_true.mp h2 y hy
    simp only [Bool.or_eq_true, bne_iff_ne, ne_eq, beq_iff_eq] at this
    rcases this with q | q
    · exact absurd e q
    · exact q
  · have nc : ∀ k', (x, k') ∈ scope.names → k' ≠ .cell := fun k' hy => by
      have := List.all_eq_true.mp h1 _ hy
      simpa using this
    have m : (x, NameKind.free) ∈ scope.names := by
      rcases h with h | h
      · obtain ⟨k', hm, e⟩ := mem_relabel h
        rcases e with e | e
        · exact absurd e (nc k' hm)
        · subst e; exact hm
      · obtain ⟨k', hm, e⟩ := mem_relabel h
        rcases e with e | e <;> (subst e; exact hm)
    exact lookup_of_mem (b := (X.env.cells.lookup x).getD 0) (closOf_mem.mpr (.inr ⟨m, rfl⟩))
  · obtain ⟨q1, q2, q3⟩ := capOk_get hc i j x h1' h2'
    refine ⟨q1, .inr (.inl q2), (by rw [q2]; simp), ?_⟩
    rw [lookup_relabel, q3]
    simp only [Option.map_some, beq_self_eq_true, Bool.true_and]
    split
    · exact .inl rfl
    · exact .inr rfl
end
end L2
set_option Elab.async false
set_option linter.all false
set_option maxRecDepth 100000
set_option maxHeartbeats 4000000
namespace L2
open PySem PySem.Spec PyProof.Rows
/-- the list grown so far, and what holds of it -/
def CN (p : Addr) (Pv : Nat → List V → Hp → Prop) (i : Nat) (H : Hp) : Prop := ∃ ys, H p = some (.lst ys) ∧ ys.length ≤ i ∧ Pv i ys H
section
variable {K : PySem.W.Frag} {cap : List (Option Nat)} {g : TG} {c : TT} {te : TE} {σ : St} {Q : Addr → Hp → Prop} {H : Hp}
end
/-- a for's turns -/
def tForGo (g : TG) (tb : TS) (D : Ends) (σ : St) (J : It) (H1 : Hp) : Prop := ∃ W : Nat → Nat → St → Hp → Prop, (∃ m, W 0 m σ H1) ∧ ∀ i m σ H, W i m σ H →
  (J.stop i H ∧ D.nx σ H) ∨ (J.go i H ∧ ∃ N : St → Hp → Prop, (∀ σ' H', N σ' H' → ∃ m', m' < m ∧ W (i + 1) m' σ' H') ∧ ∀ x H', J.yld i H x H' → g x σ H' fun σ2 H2 => tb { D with nx := N, ct := N, bk := D.nx } σ2 H2)
section
variable {K : PySem.W.Frag} {a : Addr} {xs : List V} {g : TG} {tb : TS} {D : Ends} {σ : St} {H : Hp} {z : Str}
end
theorem tyL {K : PySem.W.Frag} {H : Hp} {r : Addr} {xs : List V} (h : H r = some (.lst xs)) : tyV K "list" (.ref r) H := by
  unfold tyV
  exact .inl ⟨rfl, xs, SqL.of h⟩
theorem atI_in {α : Type} {xs : List α} {i : Int} (h0 : 0 ≤ i) (h1 : i < (xs.length : Int)) : ∃ v, atI xs i = some v ∧ v ∈ xs := by
  have hk : i.toNat < xs.length := by omega
  have ek : ((i.toNat : Nat) : Int) = i := by omega
  have q : atI xs ((i.toNat : Nat) : Int) = some xs[i.toNat] := atI_nat (by simp [hk])
  rw [ek] at q
  exact ⟨xs[i.toNat], q, List.getElem_mem hk⟩
end L2
set_option Elab.async false
set_option linter.all false
set_option maxRecDepth 100000
set_option maxHeartbeats 4000000
/-! a second level over the layer: tuples are values, lists and objects stand in a heap of their own; what a def does is a wish transformer over these -/
namespace WL
open PySem PySem.Spec PyProof.Rows L2
inductive T where
  | non | bl (b : Bool) | int (i : Int) | str (x : Str) | tup (xs : List T)
  /-- a list, a dict, an object of ours -/
  | ref (a : Addr)
  /-- a list that nobody changes (the script, a list of the module) -/
  | cl (xs : List T)
inductive O where
  | lst (xs : List T)
  | dic (kvs : List (Key × T))
  | ins (cn : Str) (fs : List (Str × T))
  /-- a dict that is read alone -/
  | fdic (kvs : List (Key × T))
  /-- an exception of an own class, by its name -/
  | exc (cn : Str)
abbrev Hw := Addr → Option O
def up (C : Hw) (a : Addr) (o : O) : Hw := fun b => if b = a then some o else C b
theorem up_same {C : Hw} {a : Addr} {o : O} : up C a o a = some o := by unfold up; rw [if_pos rfl]
theorem up_ne {C : Hw} {a b : Addr} {o : O} (h : b ≠ a) : up C a o b = C b := by unfold up; rw [if_neg h]
/-! ### how a value stands in the abstract heap -/
def SqC (K : PySem.W.Frag) (H : Hp) (a : Addr) (xs : List V) : Prop :=
  (∃ o, H a = some (.frz o (.lst xs))) ∨
    ∃ (o : Obj) (its : Array Value) (n : Nat), K.lookup a = some o ∧ o.cls = .type "list" ∧ o.dict = none ∧ o.data = .seq its n ∧ its.size ≤ sizeLine ∧ Vals xs its.toList
theorem SqC.sq {K : PySem.W.Frag} {H : Hp} {a : Addr} {xs : List V} (h : SqC K H a xs) : SqL K H a xs := by
  rcases h with ⟨o, h⟩ | h
  · exact .inl (.inr ⟨o, h⟩)
  · exact .inr h
mutual
def Rep (K : PySem.W.Frag) (H : Hp) (x : V) : T → Prop
  | .non => x = .non
  | .bl b => x = .bl b
  | .int i => x = .int i
  | .str z => x = .str z
  | .ref a => x = .ref a
  | .tup ts => ∃ a ys, x = .ref a ∧ SqT K H a ys ∧ Reps K H ys ts
  | .cl ts => ∃ a ys, x = .ref a ∧ SqC K H a ys ∧ Reps K H ys ts
def Reps (K : PySem.W.Frag) (H : Hp) (ys : List V) : List T → Prop
  | [] => ys = []
  | t :: ts => ∃ y r, ys = y :: r ∧ Rep K H y t ∧ Reps K H r ts
end
def Stb : HO → Prop
  | .tup _ => True
  | .frz _ _ => True
  | _ => False
/-- tuples and frozen things stay -/
def Tx (H H' : Hp) : Prop := ∀ b o, H b = some o → Stb o → H' b = some o
theorem Tx.refl (H : Hp) : Tx H H := fun _ _ h _ => h
theorem Tx.trans {H H1 H2 : Hp} (a : Tx H H1) (b : Tx H1 H2) : Tx H H2 := fun c o h n => b c o (a c o h n) n
theorem Tx.new {H : Hp} {p : Addr} {o : HO} (h : H p = none) : Tx H (upd H p o) := fun b u q _ => by rw [upd_ne (ne_of_none q h)]; exact q
theorem Tx.put {H : Hp} {p : Addr} {o u : HO} (h : H p = some o) (n : ¬ Stb o) : Tx H (upd H p u) := fun b v q s => by
  by_cases e : b = p
  · subst e; rw [h] at q; cases q; exact absurd s n
  · rw [upd_ne e]; exact q
theorem Tx.sqt {K : PySem.W.Frag} {H H' : Hp} (t : Tx H H') {a : Addr} {xs : List V} (h : SqT K H a xs) : SqT K H' a xs := by
  rcases h with (h | ⟨o, h⟩) | h
  · exact .inl (.inl (t _ _ h trivial))
  · exact .inl (.inr ⟨o, t _ _ h trivial⟩)
  · exact .inr h
theorem Tx.sqc {K : PySem.W.Frag} {H H' : Hp} (t : Tx H H') {a : Addr} {xs : List V} (h : SqC K H a xs) : SqC K H' a xs := by
  rcases h with ⟨o, h⟩ | h
  · exact .inl ⟨o, t _ _ h trivial⟩
  · exact .inr h
mutual
theorem Rep.tx {K : PySem.W.Frag} {H H' : Hp} (t : Tx H H') {x : V} : ∀ {v : T}, Rep K H x v → Rep K H' x v
  | .non, h => by simpa [Rep] using h
  | .bl b, h => by simpa [Rep] using h
  | .int i, h => by simpa [Rep] using h
  | .str z, h => by simpa [Rep] using h
  | .ref a, h => by simpa [Rep] using h
  | .tup ts, h => by
    unfold Rep at h ⊢
    obtain ⟨a, ys, e, q, r⟩ := h
    exact ⟨a, ys, e, t.sqt q, Reps.tx t r⟩
  | .cl ts, h => by
    unfold Rep at h ⊢
    obtain ⟨a, ys, e, q, r⟩ := h
    exact ⟨a, ys, e, t.sqc q, Reps.tx t r⟩
theorem Reps.tx {K : PySem.W.Frag} {H H' : Hp} (t : Tx H H') {ys : List V} : ∀ {vs : List T}, Reps K H ys vs → Reps K H' ys vs
  | [], h => by simpa [Reps] using h
  | v :: vs, h => by
    unfold Reps at h ⊢
    obtain ⟨y, r, e, q, s⟩ := h
    exact ⟨y, r, e, Rep.tx t q, Reps.tx t s⟩
end
section
variable {K : PySem.W.Frag} {H : Hp}
theorem rep_int {i : Int} : Rep K H (.int i) (.int i) := by unfold Rep; rfl
theorem rep_str {i : Str} : Rep K H (.str i) (.str i) := by unfold Rep; rfl
theorem rep_bl {i : Bool} : Rep K H (.bl i) (.bl i) := by unfold Rep; rfl
theorem rep_non : Rep K H .non .non := by unfold Rep; rfl
theorem rep_ref {a : Addr} : Rep K H (.ref a) (.ref a) := by unfold Rep; rfl
theorem rep_tup {a : Addr} {ys : List V} {ts : List T} (h : SqT K H a ys) (r : Reps K H ys ts) : Rep K H (.ref a) (.tup ts) := by unfold Rep; exact ⟨a, ys, rfl, h, r⟩
theorem of_int {x : V} {i : Int} (h : Rep K H x (.int i)) : x = .int i := by unfold Rep at h; exact h
theorem of_str {x : V} {i : Str} (h : Rep K H x (.str i)) : x = .str i := by unfold Rep at h; exact h
theorem of_bl {x : V} {i : Bool} (h : Rep K H x (.bl i)) : x = .bl i := by unfold Rep at h; exact h
theorem of_non {x : V} (h : Rep K H x .non) : x = .non := by unfold Rep at h; exact h
theorem of_ref {x : V} {a : Addr} (h : Rep K H x (.ref a)) : x = .ref a := by unfold Rep at h; exact h
theorem of_tup {x : V} {ts : List T} (h : Rep K H x (.tup ts)) : ∃ a ys, x = .ref a ∧ SqT K H a ys ∧ Reps K H ys ts := by unfold Rep at h; exact h
theorem of_cl {x : V} {ts : List T} (h : Rep K H x (.cl ts)) : ∃ a ys, x = .ref a ∧ SqC K H a ys ∧ Reps K H ys ts := by unfold Rep at h; exact h
theorem reps_nil : Reps K H [] [] := by unfold Reps; rfl
theorem reps_cons {y : V} {ys : List V} {t : T} {ts : List T} (a : Rep K H y t) (b : Reps K H ys ts) : Reps K H (y :: ys) (t :: ts) := by unfold Reps; exact ⟨y, ys, rfl, a, b⟩
theorem of_nil {ys : List V} (h : Reps K H ys []) : ys = [] := by unfold Reps at h; exact h
theorem of_cons {ys : List V} {t : T} {ts : List T} (h : Reps K H ys (t :: ts)) : ∃ y r, ys = y :: r ∧ Rep K H y t ∧ Reps K H r ts := by unfold Reps at h; exact h
theorem Reps.length : ∀ {vs : List T} {ys : List V}, Reps K H ys vs → ys.length = vs.length
  | [], _, h => by rw [of_nil h]; rfl
  | _ :: _, _, h => by obtain ⟨y, r, rfl, _, q⟩ := of_cons h; rw [List.length_cons, List.length_cons, q.length]
theorem Reps.get : ∀ {vs : List T} {ys : List V} {i : Nat} {v : T}, Reps K H ys vs → vs[i]? = some v → ∃ y, ys[i]? = some y ∧ Rep K H y v
  | [], _, _, _, _, e => by simp at e
  | _ :: _, _, 0, _, h, e => by obtain ⟨y, r, rfl, a, _⟩ := of_cons h; simp at e; subst e; exact ⟨y, rfl, a⟩
  | _ :: _, _, i + 1, v, h, e => by
    obtain ⟨y, r, rfl, _, q⟩ := of_cons h
    obtain ⟨z, h1, h2⟩ := Reps.get (i := i) (v := v) q (by simpa using e)
    exact ⟨z, by simpa using h1, h2⟩
theorem Reps.app : ∀ {vs ws : List T} {ys zs : List V}, Reps K H ys vs → Reps K H zs ws → Reps K H (ys ++ zs) (vs ++ ws)
  | [], _, _, _, h, q => by rw [of_nil h]; exact q
  | _ :: _, _, _, _, h, q => by obtain ⟨y, r, rfl, a, b⟩ := of_cons h; exact reps_cons a (b.app q)
theorem Reps.take : ∀ (n : Nat) {vs : List T} {ys : List V}, Reps K H ys vs → Reps K H (ys.take n) (vs.take n)
  | 0, _, _, _ => by simpa using reps_nil
  | _ + 1, [], _, h => by rw [of_nil h]; exact reps_nil
  | n + 1, _ :: _, _, h => by obtain ⟨y, r, rfl, a, b⟩ := of_cons h; exact reps_cons a (b.take n)
theorem Reps.drop : ∀ (n : Nat) {vs : List T} {ys : List V}, Reps K H ys vs → Reps K H (ys.drop n) (vs.drop n)
  | 0, _, _, h => h
  | _ + 1, [], _, h => by rw [of_nil h]; exact reps_nil
  | n + 1, _ :: _, _, h => by obtain ⟨y, r, rfl, a, b⟩ := of_cons h; exact b.drop n
theorem Reps.dropLast {vs : List T} {ys : List V} (h : Reps K H ys vs) : Reps K H ys.dropLast vs.dropLast := by
  rw [List.dropLast_eq_take, List.dropLast_eq_take, h.length]; exact h.take _
theorem Reps.snoc {vs : List T} {ys : List V} {y : V} {v : T} (h : Reps K H ys vs) (q : Rep K H y v) : Reps K H (ys ++ [y]) (vs ++ [v]) := h.app (reps_cons q reps_nil)
theorem Reps.at {vs : List T} {ys : List V} {i : Int} {v : T} (h : Reps K H ys vs) (e : atI vs i = some v) : ∃ y, atI ys i = some y ∧ Rep K H y v := by
  unfold atI at e ⊢
  rw [h.length]
  cases q : ixN vs.length i with
  | none => rw [q] at e; cases e
  | some j =>
    rw [q] at e
    exact h.get e
theorem reps_ints : ∀ ns : List Int, Reps K H (ns.map V.int) (ns.map T.int)
  | [] => reps_nil
  | n :: r => reps_cons rep_int (reps_ints r)
end
/-! ### two heaps -/
abbrev PR (K : PySem.W.Frag) (H : Hp) {κ : Type} (kvs : List (κ × V)) (kws : List (κ × T)) : Prop := PySem.Paired (fun p q => p.1 = q.1 ∧ Rep K H p.2 q.2) kvs kws
def ORel (K : PySem.W.Frag) (H : Hp) (a : Addr) : O → Prop
  | .lst xs => ∃ ys, H a = some (.lst ys) ∧ Reps K H ys xs
  | .dic kvs => ∃ ks, H a = some (.dK ks) ∧ PR K H ks kvs
  | .ins cn fs => ∃ Cl dx ks, PySem.W.nsIn K mainGlobals cn = some (some (.ref Cl)) ∧ H a = some (.ins Cl dx ks) ∧ PR K H ks fs
  | .fdic kvs => ∃ ks, Rd H a (.dK ks) ∧ PR K H ks kvs
  | .exc cn => ∃ Cl ob u, PySem.W.nsIn K mainGlobals cn = some (some (.ref Cl)) ∧ ob.cls = .ref Cl ∧ H a = some (.frz ob u)
def O.wr : O → Prop
  | .fdic _ => False
  | .exc _ => False
  | _ => True
structure Rl (K : PySem.W.Frag) (F H : Hp) (C : Hw) : Prop where
  obj : ∀ a o, C a = some o → ORel K H a o
  frm : ∀ a o, F a = some o → H a = some o ∧ C a = none
theorem pr_tx {K : PySem.W.Frag} {H H' : Hp} (t : Tx H H') {κ : Type} {ks : List (κ × V)} {kvs : List (κ × T)} (h : PR K H ks kvs) : PR K H' ks kvs := L2.Paired.mapP h fun _ _ z => ⟨z.1, z.2.tx t⟩
theorem ORel.stay {K : PySem.W.Frag} {H H' : Hp} {a : Addr} {o : O} (h : ORel K H a o) (t : Tx H H') (e : H' a = H a) : ORel K H' a o := by
  cases o with
  | lst xs => obtain ⟨ys, q, r⟩ := h; exact ⟨ys, e.trans q, r.tx t⟩
  | dic kvs => obtain ⟨ys, q, r⟩ := h; exact ⟨ys, e.trans q, pr_tx t r⟩
  | ins C fs => obtain ⟨Cl, dx, ys, n, q, r⟩ := h; exact ⟨Cl, dx, ys, n, e.trans q, pr_tx t r⟩
  | fdic kvs =>
    obtain ⟨ys, q, r⟩ := h
    refine ⟨ys, ?_, pr_tx t r⟩
    rcases q with q | ⟨o, q⟩
    · exact .inl (e.trans q)
    · exact .inr ⟨o, e.trans q⟩
  | exc cn => obtain ⟨Cl, ob, u, n, c, q⟩ := h; exact ⟨Cl, ob, u, n, c, e.trans q⟩
theorem ORel.some {K : PySem.W.Frag} {H : Hp} {a : Addr} {o : O} (h : ORel K H a o) (wr : o.wr) : ∃ u, H a = some u ∧ ¬ Stb u := by
  cases o with
  | fdic kvs => exact wr.elim
  | exc cn => exact wr.elim
  | lst xs => obtain ⟨ys, q, r⟩ := h; exact ⟨_, q, fun z => z⟩
  | dic kvs => obtain ⟨ys, q, r⟩ := h; exact ⟨_, q, fun z => z⟩
  | ins C fs => obtain ⟨Cl, dx, ys, n, q, r⟩ := h; exact ⟨_, q, fun z => z⟩
theorem ORel.here {K : PySem.W.Frag} {H : Hp} {a : Addr} {o : O} (h : ORel K H a o) : ∃ u, H a = Option.some u := by
  cases o with
  | fdic kvs =>
    obtain ⟨ys, q, r⟩ := h
    rcases q with q | ⟨o, q⟩
    · exact ⟨_, q⟩
    · exact ⟨_, q⟩
  | exc cn => obtain ⟨Cl, ob, u, n, c, q⟩ := h; exact ⟨_, q⟩
  | lst xs => obtain ⟨ys, q, r⟩ := h; exact ⟨_, q⟩
  | dic kvs => obtain ⟨ys, q, r⟩ := h; exact ⟨_, q⟩
  | ins C fs => obtain ⟨Cl, dx, ys, n, q, r⟩ := h; exact ⟨_, q⟩
section
variable {K : PySem.W.Frag} {F H : Hp} {C : Hw}
theorem Rl.free (R : Rl K F H C) {p : Addr} (h : H p = none) : C p = none := by
  cases e : C p with
  | none => rfl
  | some o => obtain ⟨u, q⟩ := (R.obj p o e).here; rw [h] at q; cases q
theorem Rl.lst (R : Rl K F H C) {a : Addr} {xs : List T} (h : C a = some (.lst xs)) : ∃ ys, H a = some (.lst ys) ∧ Reps K H ys xs := R.obj a _ h
/-- a new object that is seen -/
theorem Rl.new (R : Rl K F H C) {p : Addr} {u : HO} {o : O} (h : H p = none) (r : ORel K (upd H p u) p o) : Rl K F (upd H p u) (up C p o) where
  obj := fun a v e => by
    by_cases q : a = p
    · subst q; rw [up_same] at e; cases e; exact r
    · rw [up_ne q] at e
      exact (R.obj a v e).stay (Tx.new h) (upd_ne q)
  frm := fun a v e => by
    have z := R.frm a v e
    have q : a ≠ p := ne_of_none z.1 h
    rw [upd_ne q, up_ne q]; exact z
/-- a new object that is not seen -/
theorem Rl.hid (R : Rl K F H C) {p : Addr} {u : HO} (h : H p = none) : Rl K F (upd H p u) C where
  obj := fun a v e => by
    obtain ⟨w, q⟩ := (R.obj a v e).here
    exact (R.obj a v e).stay (Tx.new h) (upd_ne (ne_of_none q h))
  frm := fun a v e => by
    have z := R.frm a v e
    rw [upd_ne (ne_of_none z.1 h)]; exact z
/-- an object written over -/
theorem Rl.put (R : Rl K F H C) {p : Addr} {u : HO} {o o' : O} (h : C p = some o) (r : ORel K (upd H p u) p o') (wr : o.wr := by trivial) : Rl K F (upd H p u) (up C p o') ∧ Tx H (upd H p u) := by
  obtain ⟨w, hw, ns⟩ := (R.obj p o h).some wr
  have t : Tx H (upd H p u) := Tx.put hw ns
  refine ⟨⟨fun a v e => ?_, fun a v e => ?_⟩, t⟩
  · by_cases q : a = p
    · subst q; rw [up_same] at e; cases e; exact r
    · rw [up_ne q] at e
      exact (R.obj a v e).stay t (upd_ne q)
  · have z := R.frm a v e
    have q : a ≠ p := fun y => by subst y; rw [h] at z; cases z.2
    rw [upd_ne q, up_ne q]; exact z
theorem Rl.putL (R : Rl K F H C) {p : Addr} {xs xs' : List T} {ys' : List V} (h : C p = some (.lst xs)) (r : Reps K H ys' xs') : Rl K F (upd H p (.lst ys')) (up C p (.lst xs')) ∧ Tx H (upd H p (.lst ys')) := by
  obtain ⟨w, hw, ns⟩ := (R.obj p _ h).some trivial
  exact R.put h ⟨ys', upd_same, r.tx (Tx.put hw ns)⟩
theorem Rl.newL (R : Rl K F H C) {p : Addr} {xs : List T} {ys : List V} (h : H p = none) (r : Reps K H ys xs) : Rl K F (upd H p (.lst ys)) (up C p (.lst xs)) := R.new h ⟨ys, upd_same, r.tx (Tx.new h)⟩
end
/-! ### wishes -/
abbrev Sw := List (Option T)
abbrev WK := T → Hw → Prop
/-- an exception: its class's name, its attributes -/
structure Xn where
  cls : Str
  fs : List (Str × T)
abbrev WX := Xn → Hw → Prop
abbrev WE := Sw → Hw → WK → WX → Prop
abbrev WT := Sw → Hw → (Bool → Hw → Prop) → WX → Prop
abbrev WA := Sw → Hw → (List T → Hw → Prop) → WX → Prop
structure We where
  nx : Sw → Hw → Prop
  rt : WK
  bk : Sw → Hw → Prop := fun _ _ => False
  ct : Sw → Hw → Prop := fun _ _ => False
  xc : WX := fun _ _ => False
abbrev WS := We → Sw → Hw → Prop
abbrev WG := T → Sw → Hw → (Sw → Hw → Prop) → WX → Prop
abbrev WGs := List T → Sw → Hw → (Sw → Hw → Prop) → WX → Prop
/-- what is walked: its items, and what must hold of the heap at each turn -/
abbrev WI := Sw → Hw → (List T → (Hw → Prop) → Hw → Prop) → WX → Prop
abbrev W2 := T → T → Hw → WK → Prop
abbrev Calls := Nat → List T → Hw → WK → WX → Prop
/-! ### what the operations are -/
def eVar (i : Nat) : WE := fun τ C Q _ => ∃ v, τ[i]? = some (some v) ∧ Q v C
def eC (v : T) : WE := fun _ C Q _ => Q v C
def eBin (r : W2) (a b : WE) : WE := fun τ C Q χ => a τ C (fun x C1 => b τ C1 (fun y C2 => r x y C2 Q) χ) χ
def eUn (r : T → Hw → WK → Prop) (a : WE) : WE := fun τ C Q χ => a τ C (fun x C1 => r x C1 Q) χ
def aNil : WA := fun _ C Q _ => Q [] C
def aCons (a : WE) (r : WA) : WA := fun τ C Q χ => a τ C (fun x C1 => r τ C1 (fun xs C2 => Q (x :: xs) C2) χ) χ
def eTup (a : WA) : WE := fun τ C Q χ => a τ C (fun xs C1 => xs.length ≤ sizeLine ∧ Q (.tup xs) C1) χ
def eLst (a : WA) : WE := fun τ C Q χ => a τ C (fun xs C1 => xs.length ≤ sizeLine ∧ ∀ p, C1 p = none → Q (.ref p) (up C1 p (.lst xs))) χ
def eCall (P : Calls) (i : Nat) (a : WA) : WE := fun τ C Q χ => a τ C (fun xs C1 => P i xs C1 Q χ) χ
def eBi (r : List T → Hw → WK → Prop) (a : WA) : WE := fun τ C Q χ => a τ C (fun xs C1 => r xs C1 Q) χ
def eMt (ty : T → Hw → Prop) (r : T → List T → Hw → WK → Prop) (o : WE) (a : WA) : WE := fun τ C Q χ => o τ C (fun x C1 => ty x C1 ∧ a τ C1 (fun xs C2 => r x xs C2 Q) χ) χ
def eIf (c : WT) (a b : WE) : WE := fun τ C Q χ => c τ C (fun k C1 => if k = true then a τ C1 Q χ else b τ C1 Q χ) χ
def eAnd (a b : WE) : WE := fun τ C Q χ => a τ C (fun x C1 => ∃ k, x = .bl k ∧ if k = true then b τ C1 Q χ else Q (.bl false) C1) χ
def eOr (a b : WE) : WE := fun τ C Q χ => a τ C (fun x C1 => ∃ k, x = .bl k ∧ if k = true then Q (.bl true) C1 else b τ C1 Q χ) χ
def eNot (a : WE) : WE := fun τ C Q χ => a τ C (fun x C1 => ∃ k, x = .bl k ∧ Q (.bl (!k)) C1) χ
/-- a value's truth -/
def tru : T → Hw → Bool → Prop
  | .non, _, k => k = false
  | .bl b, _, k => k = b
  | .int i, _, k => k = (i != 0)
  | .str y, _, k => y.length ≤ sizeLine ∧ k = ((y.length : Int) != 0)
  | .tup xs, _, k => k = !xs.isEmpty
  | .cl xs, _, k => k = !xs.isEmpty
  | .ref a, C, k => (∃ xs, C a = some (.lst xs) ∧ k = !xs.isEmpty) ∨ ∃ kvs, C a = some (.dic kvs) ∧ k = !kvs.isEmpty
def tTru (a : WE) : WT := fun τ C Q χ => a τ C (fun x C1 => ∃ k, tru x C1 k ∧ Q k C1) χ
/-- the value is a truth -/
def tBl (a : WE) : WT := fun τ C Q χ => a τ C (fun x C1 => ∃ k, x = .bl k ∧ Q k C1) χ
def tAn (a b : WT) : WT := fun τ C Q χ => a τ C (fun k C1 => if k = true then b τ C1 Q χ else Q false C1) χ
def tOr' (a b : WT) : WT := fun τ C Q χ => a τ C (fun k C1 => if k = true then Q true C1 else b τ C1 Q χ) χ
def tNo (a : WT) : WT := fun τ C Q χ => a τ C (fun k C1 => Q (!k) C1) χ
/-- a op1 b op2 c -/
def eChain (r r' : W2) (a b c : WE) : WE := fun τ C Q χ => a τ C (fun x C1 => b τ C1 (fun y C2 => r x y C2 fun z C3 => ∃ k, z = .bl k ∧ (if k = true then c τ C3 (fun w C4 => r' y w C4 Q) χ else Q (.bl false) C3)) χ) χ
def wAdd : W2
  | .int i, .int j, C, Q => Q (.int (i + j)) C
  | .str i, .str j, C, Q => i.length + j.length ≤ sizeLine ∧ Q (.str (i ++ j)) C
  | .tup xs, .tup ys, C, Q => xs.length + ys.length ≤ sizeLine ∧ Q (.tup (xs ++ ys)) C
  | .ref a, .ref b, C, Q => ∃ xs ys, C a = some (.lst xs) ∧ C b = some (.lst ys) ∧ xs.length + ys.length ≤ sizeLine ∧ ∀ p, C p = none → Q (.ref p) (up C p (.lst (xs ++ ys)))
  | _, _, _, _ => False
def wSub : W2
  | .int i, .int j, C, Q => Q (.int (i - j)) C
  | _, _, _, _ => False
def wMul : W2
  | .int i, .int j, C, Q => CMul i j ∧ Q (.int (i * j)) C
  | _, _, _, _ => False
def wDiv : W2
  | .int i, .int j, C, Q => CDiv i j ∧ Q (.int (i / j)) C
  | _, _, _, _ => False
def wMod : W2
  | .int i, .int j, C, Q => 0 < j ∧ Q (.int (i % j)) C
  | _, _, _, _ => False
def wPow : W2
  | .int i, .int j, C, Q => CPow i j ∧ Q (.int (i ^ j.toNat)) C
  | _, _, _, _ => False
def wNeg : T → Hw → WK → Prop
  | .int i, C, Q => Q (.int (-i)) C
  | _, _, _ => False
def wLt : W2
  | .int i, .int j, C, Q => Q (.bl (decide (i < j))) C
  | .str i, .str j, C, Q => Q (.bl (decide (i.cps.toList < j.cps.toList))) C
  | _, _, _, _ => False
def wLe : W2
  | .int i, .int j, C, Q => Q (.bl (decide (i ≤ j))) C
  | _, _, _, _ => False
def wGt : W2
  | .int i, .int j, C, Q => Q (.bl (decide (j < i))) C
  | _, _, _, _ => False
def wGe : W2
  | .int i, .int j, C, Q => Q (.bl (decide (j ≤ i))) C
  | _, _, _, _ => False
/-! equality, as == tells it -/
mutual
def eqT : T → T → Bool
  | .non, .non => true
  | .bl a, .bl b => a == b
  | .bl a, .int b => (if a then 1 else 0) == b
  | .int a, .bl b => a == (if b then 1 else 0)
  | .int a, .int b => a == b
  | .str a, .str b => a == b
  | .tup xs, .tup ys => eqTs xs ys
  | _, _ => false
def eqTs : List T → List T → Bool
  | [], [] => true
  | x :: xs, y :: ys => eqT x y && eqTs xs ys
  | _, _ => false
end
/-! nothing of the heap in it; how deep it is -/
mutual
def flat : T → Nat → Bool
  | .tup xs, n + 1 => flats xs n
  | .tup _, 0 => false
  | .ref _, _ => false
  | .cl _, _ => false
  | _, _ => true
def flats : List T → Nat → Bool
  | [], _ => true
  | x :: xs, n => flat x n && flats xs n
end
/-- how deep tuples that are compared may be -/
def eqDeep : Nat := 100
def isFlat (x : T) : Prop := flat x eqDeep = true
def wEqG (neg : Bool) : W2
  | .ref a, .ref b, C, Q => ∃ xs ys, C a = some (.lst xs) ∧ C b = some (.lst ys) ∧ (xs.length = ys.length → flats xs eqDeep = true ∧ flats ys eqDeep = true) ∧ Q (.bl (if neg then !eqTs xs ys else eqTs xs ys)) C
  | .ref a, y, C, Q => (∃ xs, C a = some (.lst xs)) ∧ isFlat y ∧ Q (.bl neg) C
  | x, .ref b, C, Q => (∃ ys, C b = some (.lst ys)) ∧ isFlat x ∧ Q (.bl neg) C
  | x, y, C, Q => isFlat x ∧ isFlat y ∧ Q (.bl (if neg then !eqT x y else eqT x y)) C
abbrev wEq : W2 := wEqG false
abbrev wNe : W2 := wEqG true
def wIsN : W2 := fun x y C Q => y = .non ∧ Q (.bl (match x with | .non => true | _ => false)) C
def wNotN : W2 := fun x y C Q => y = .non ∧ Q (.bl (match x with | .non => false | _ => true)) C
def inL (x : T) (xs : List T) : Bool := xs.any fun y => eqT y x
def wInG (neg : Bool) : W2
  | .str i, .str j, C, Q => Q (.bl (if neg then (!(!(Builtin.Str.occurrences j i 0 j.length 1).isEmpty)) else (!(Builtin.Str.occurrences j i 0 j.length 1).isEmpty))) C
  | x, .tup ys, C, Q => isFlat x ∧ flats ys eqDeep = true ∧ Q (.bl (if neg then !inL x ys else inL x ys)) C
  | x, .cl ys, C, Q => isFlat x ∧ flats ys eqDeep = true ∧ Q (.bl (if neg then !inL x ys else inL x ys)) C
  | x, .ref a, C, Q => ∃ ys, C a = some (.lst ys) ∧ isFlat x ∧ flats ys eqDeep = true ∧ Q (.bl (if neg then !inL x ys else inL x ys)) C
  | _, _, _, _ => False
abbrev wIn : W2 := wInG false
abbrev wNotIn : W2 := wInG true
def cut {α : Type} (xs : List α) (lo hi : Option Int) : List α := (xs.drop (HT.sIx xs.length 0 lo)).take (HT.sIx xs.length xs.length hi - HT.sIx xs.length 0 lo)
def wIdx : W2
  | .tup xs, .int i, C, Q => ∃ v, atI xs i = some v ∧ Q v C
  | .cl xs, .int i, C, Q => ∃ v, atI xs i = some v ∧ Q v C
  | .str z, .int i, C, Q => z.length ≤ sizeLine ∧ ∃ c, atI z.cps.toList i = some c ∧ Q (.str ⟨#[c]⟩) C
  | .ref a, .int i, C, Q => ∃ xs v, C a = some (.lst xs) ∧ atI xs i = some v ∧ Q v C
  | _, _, _, _ => False
def oNo : Sw → Hw → (Option Int → Hw → Prop) → WX → Prop := fun _ C Q _ => Q none C
def oSome (a : WE) : Sw → Hw → (Option Int → Hw → Prop) → WX → Prop := fun τ C Q χ => a τ C (fun x C1 => ∃ i, x = .int i ∧ Q (some i) C1) χ
def wSl : T → Option Int → Option Int → Hw → WK → Prop
  | .tup xs, lo, hi, C, Q => ¬ (HT.sIx xs.length 0 lo = 0 ∧ HT.sIx xs.length xs.length hi = xs.length) ∧ Q (.tup (cut xs lo hi)) C
  | .cl xs, lo, hi, C, Q => ∀ p, C p = none → Q (.ref p) (up C p (.lst (cut xs lo hi)))
  | .str z, lo, hi, C, Q => z.length ≤ sizeLine ∧ Q (.str (Txt.slice z lo hi)) C
  | .ref a, lo, hi, C, Q => ∃ xs, C a = some (.lst xs) ∧ ∀ p, C p = none → Q (.ref p) (up C p (.lst (cut xs lo hi)))
  | _, _, _, _, _ => False
def eSl (a : WE) (lo hi : Sw → Hw → (Option Int → Hw → Prop) → WX → Prop) : WE := fun τ C Q χ => a τ C (fun x C1 => lo τ C1 (fun l C2 => hi τ C2 (fun h C3 => wSl x l h C3 Q) χ) χ) χ
def bLen : List T → Hw → WK → Prop := fun vs C Q => ∃ x, vs = [x] ∧ match x with
  | .str z => z.length ≤ sizeLine ∧ Q (.int z.length) C
  | .tup xs => Q (.int xs.length) C
  | .cl xs => Q (.int xs.length) C
  | .ref a => ∃ xs, C a = some (.lst xs) ∧ Q (.int xs.length) C
  | _ => False
def bMax : List T → Hw → WK → Prop := fun vs C Q => ∃ i j, vs = [.int i, .int j] ∧ Q (.int (if j > i then j else i)) C
def bMin : List T → Hw → WK → Prop := fun vs C Q => ∃ i j, vs = [.int i, .int j] ∧ Q (.int (if j < i then j else i)) C
def bTuple : List T → Hw → WK → Prop := fun vs C Q => ∃ x, vs = [x] ∧ match x with
  | .tup xs => Q (.tup xs) C
  | .cl xs => Q (.tup xs) C
  | .ref a => ∃ xs, C a = some (.lst xs) ∧ Q (.tup xs) C
  | _ => False
def bList : List T → Hw → WK → Prop := fun vs C Q => ∃ x, vs = [x] ∧ match x with
  | .tup xs => ∀ p, C p = none → Q (.ref p) (up C p (.lst xs))
  | .cl xs => ∀ p, C p = none → Q (.ref p) (up C p (.lst xs))
  | .ref a => ∃ xs, C a = some (.lst xs) ∧ ∀ p, C p = none → Q (.ref p) (up C p (.lst xs))
  | _ => False
/-- the name of a value's class -/
def tyN : T → Hw → String → Prop
  | .non, _, n => n = "NoneType"
  | .bl _, _, n => n = "bool"
  | .int _, _, n => n = "int"
  | .str _, _, n => n = "str"
  | .tup _, _, n => n = "tuple"
  | .cl _, _, n => n = "list"
  | .ref a, C, n => (n = "list" ∧ ∃ xs, C a = some (.lst xs)) ∨ (n = "dict" ∧ ∃ kvs, C a = some (.dic kvs))
def isCls (n c : String) : Bool := n == c || (n == "bool" && c == "int")
/-- isinstance(a, c), c a class of Python's own -/
def eIsi (a : WE) (c : String) : WE := fun τ C Q χ => a τ C (fun x C1 => ∃ n, tyN x C1 n ∧ Q (.bl (isCls n c)) C1) χ
def tyL' : T → Hw → Prop := fun x C => ∃ a xs, x = .ref a ∧ C a = some (.lst xs)
def tyS : T → Hw → Prop := fun x _ => ∃ z, x = .str z
def mAppend : T → List T → Hw → WK → Prop := fun x vs C Q => ∃ a xs y, x = .ref a ∧ vs = [y] ∧ C a = some (.lst xs) ∧ xs.length < sizeLine ∧ Q .non (up C a (.lst (xs ++ [y])))
def mPop : T → List T → Hw → WK → Prop := fun x vs C Q => ∃ a xs y, x = .ref a ∧ vs = [] ∧ C a = some (.lst xs) ∧ xs[xs.length - 1]? = some y ∧ Q y (up C a (.lst xs.dropLast))
def mPopAt : T → List T → Hw → WK → Prop := fun x vs C Q => ∃ a xs i k y, x = .ref a ∧ vs = [.int i] ∧ C a = some (.lst xs) ∧ -(2 ^ 63) ≤ i ∧ i < 2 ^ 63 ∧ seqIndex? i xs.length = some k ∧ xs[k]? = some y ∧ Q y (up C a (.lst (xs.eraseIdx k)))
/-! ### targets, statements -/
def gNm (i : Nat) : WG := fun v τ C Q _ => Q (τ.set i (some v)) C
def gsNil : WGs := fun vs τ C Q _ => vs = [] ∧ Q τ C
def gsCons (g : WG) (gs : WGs) : WGs := fun vs τ C Q χ => ∃ v r, vs = v :: r ∧ g v τ C (fun τ' C' => gs r τ' C' Q χ) χ
def gTp (gs : WGs) : WG := fun v τ C Q χ => ∃ xs, v = .tup xs ∧ gs xs τ C Q χ
/-- o[i] = .. -/
def gSb (o i : WE) : WG := fun v τ C Q χ => o τ C (fun x C1 => i τ C1 (fun y C2 => ∃ a xs k j, x = .ref a ∧ y = .int k ∧ C2 a = some (.lst xs) ∧ ixN xs.length k = some j ∧ Q τ (up C2 a (.lst (xs.set j v)))) χ) χ
def sPass : WS := fun D τ C => D.nx τ C
def sSeq (a b : WS) : WS := fun D τ C => a { D with nx := b D } τ C
def sExpr (e : WE) : WS := fun D τ C => e τ C (fun _ C1 => D.nx τ C1) D.xc
def sRet (e : WE) : WS := fun D τ C => e τ C D.rt D.xc
def sRetN : WS := fun D _ C => D.rt .non C
def sIf (c : WT) (a b : WS) : WS := fun D τ C => c τ C (fun k C1 => if k = true then a D τ C1 else b D τ C1) D.xc
def sAsg (e : WE) (g : WG) : WS := fun D τ C => e τ C (fun x C1 => g x τ C1 D.nx D.xc) D.xc
def sBrk : WS := fun D τ C => D.bk τ C
def sCont : WS := fun D τ C => D.ct τ C
def sNever : WS := fun _ _ _ => False
def forW (g : WG) (b : WS) (ok : Hw → Prop) (D : We) : List T → Sw → Hw → Prop
  | [], τ, C => ok C ∧ D.nx τ C
  | x :: xs, τ, C => ok C ∧ g x τ C (fun τ2 C2 => b { D with nx := forW g b ok D xs, ct := forW g b ok D xs, bk := D.nx } τ2 C2) D.xc
def sFor (i : WI) (g : WG) (b : WS) : WS := fun D τ C => i τ C (fun xs ok C1 => forW g b ok D xs τ C1) D.xc
def iSeq (e : WE) : WI := fun τ C R χ => e τ C (fun v C1 => match v with
  | .tup xs => R xs (fun _ => True) C1
  | .cl xs => R xs (fun _ => True) C1
  | .str z => R (z.cps.toList.map fun c => T.str ⟨#[c]⟩) (fun _ => True) C1
  | .ref a => ∃ xs, C1 a = some (.lst xs) ∧ R xs (fun C2 => C2 a = some (.lst xs)) C1
  | _ => False) χ
def rng (lo : Int) (n : Nat) : List T := (List.range n).map fun k : Nat => T.int (lo + k)
def iR1 (a : WA) : WI := fun τ C R χ => a τ C (fun vs C1 => ∃ j : Int, vs = [.int j] ∧ -(2 ^ 62) ≤ j ∧ j < 2 ^ 62 ∧ R (rng 0 j.toNat) (fun _ => True) C1) χ
def iR2 (a : WA) : WI := fun τ C R χ => a τ C (fun vs C1 => ∃ i j : Int, vs = [.int i, .int j] ∧ (-(2 ^ 62) ≤ i ∧ i < 2 ^ 62 ∧ -(2 ^ 62) ≤ j ∧ j < 2 ^ 62) ∧ R (rng i (j - i).toNat) (fun _ => True) C1) χ
def iEn (a : WA) : WI := fun τ C R χ => a τ C (fun vs C1 => ∃ z, vs = [.str z] ∧ R (z.cps.toList.zipIdx.map fun c => T.tup [.int c.2, .str ⟨#[c.1]⟩]) (fun _ => True) C1) χ
def capW (cap : List (Option Nat)) (τ : Sw) : Sw := cap.map fun o => o.bind fun i => (τ[i]?).join
def tYes : WT := fun _ C Q _ => Q true C
def compW (g : WG) (c : WT) (e : WE) (ok : Hw → Prop) (τ : Sw) (Q : List T → Hw → Prop) (χ : WX) : List T → List T → Hw → Prop
  | [], acc, C => ok C ∧ Q acc C
  | x :: xs, acc, C => ok C ∧ g x τ C (fun τ2 C2 => c τ2 C2 (fun b C3 => if b = true then e τ2 C3 (fun v C4 => acc.length < sizeLine ∧ compW g c e ok τ Q χ xs (acc ++ [v]) C4) χ else compW g c e ok τ Q χ xs acc C3) χ) χ
def eComp (cap : List (Option Nat)) (i : WI) (g : WG) (c : WT) (e : WE) : WE := fun τ C Q χ => i τ C (fun xs ok C1 => compW g c e ok (capW cap τ) (fun vs C2 => ∀ p, C2 p = none → Q (.ref p) (up C2 p (.lst vs))) χ xs [] C1) χ
/-! ### defs -/
structure Df where
  n : Nat
  ar : Nat
  body : Calls → WS
def wpc (pr : List Df) : Nat → Calls
  | 0 => fun _ _ _ _ _ => False
  | n + 1 => fun i vs C Q χ => ∃ d, pr[i]? = some d ∧ vs.length = d.ar ∧ d.body (wpc pr n) { nx := fun _ C' => Q .non C', rt := Q, xc := χ } (vs.map some ++ List.replicate (d.n - d.ar) none) C
end WL
set_option Elab.async false
set_option linter.all false
set_option maxRecDepth 100000
set_option maxHeartbeats 4000000
namespace WL
open PySem PySem.Spec PyProof.Rows L2
/-! ### equality of values over the heap -/
section
variable {X : Cx} {pins : List (Addr × Obj)} {σ : L2.St} {H : Hp} {s : Shared}
def sc : T → Option V
  | .non => some .non
  | .bl b => some (.bl b)
  | .int i => some (.int i)
  | .str z => some (.str z)
  | _ => none
theorem rep_sc {K : PySem.W.Frag} {H : Hp} {x z : V} {v : T} (h : sc v = some z) (r : Rep K H x v) : x = z ∧ flatV z = true := by
  cases v with
  | non => cases h; exact ⟨of_non r, rfl⟩
  | bl b => cases h; exact ⟨of_bl r, rfl⟩
  | int i => cases h; exact ⟨of_int r, rfl⟩
  | str z => cases h; exact ⟨of_str r, rfl⟩
  | _ => cases h
theorem eqT_sc {v w : T} {a b : V} (h : sc v = some a) (h' : sc w = some b) : eqT v w = eqV a b := by
  cases v <;> cases w <;> cases h <;> cases h' <;> unfold eqT <;> rfl
mutual
theorem eqT_refl : ∀ (v : T) {n : Nat}, flat v n = true → eqT v v = true
  | .non, _, _ => by unfold eqT; rfl
  | .bl b, _, _ => by unfold eqT; simp
  | .int b, _, _ => by unfold eqT; simp
  | .str b, _, _ => by unfold eqT; simp
  | .tup xs, 0, h => by unfold flat at h; cases h
  | .tup xs, n + 1, h => by unfold flat at h; unfold eqT; exact eqTs_refl xs h
  | .ref a, _, h => by unfold flat at h; cases h
  | .cl a, _, h => by unfold flat at h; cases h
theorem eqTs_refl : ∀ (v : List T) {n : Nat}, flats v n = true → eqTs v v = true
  | [], _, _ => by unfold eqTs; rfl
  | x :: xs, n, h => by
    unfold flats at h
    rw [Bool.and_eq_true] at h
    unfold eqTs
    rw [eqT_refl x h.1, eqTs_refl xs h.2]; rfl
end
theorem sc_none {v : T} {n : Nat} (h : flat v n = true) (e : sc v = none) : ∃ ts m, v = .tup ts ∧ n = m + 1 ∧ flats ts m = true := by
  cases v with
  | tup ts =>
    cases n with
    | zero => unfold flat at h; cases h
    | succ m => unfold flat at h; exact ⟨ts, m, rfl, rfl, h⟩
  | ref a => unfold flat at h; cases h
  | cl a => unfold flat at h; cases h
  | non => cases e
  | bl b => cases e
  | int b => cases e
  | str b => cases e
theorem flats_get : ∀ {vs : List T} {n i : Nat} {v : T}, flats vs n = true → vs[i]? = some v → flat v n = true
  | [], _, _, _, _, e => by simp at e
  | x :: xs, n, 0, v, h, e => by
    unfold flats at h
    rw [Bool.and_eq_true] at h
    simp at e; subst e; exact h.1
  | x :: xs, n, i + 1, v, h, e => by
    unfold flats at h
    rw [Bool.and_eq_true] at h
    exact flats_get h.2 (by simpa using e)
/-- the same thing stands for one flat value alone -/
theorem rep_inj (I : Inv X pins σ H s) : ∀ (n : Nat) {v w : T} {x : V}, flat v n = true → flat w n = true → Rep X.K H x v → Rep X.K H x w → v = w := by
  intro n
  induction n with
  | zero =>
    intro v w x fv fw rv rw'
    cases ev : sc v with
    | none => obtain ⟨_, _, _, h, _⟩ := sc_none fv ev; cases h
    | some a =>
      cases ew : sc w with
      | none => obtain ⟨_, _, _, h, _⟩ := sc_none fw ew; cases h
      | some b =>
        obtain ⟨e1, _⟩ := rep_sc ev rv
        obtain ⟨e2, _⟩ := rep_sc ew rw'
        have e : a = b := e1.symm.trans e2
        subst e
        cases v <;> cases ev <;> cases w <;> cases ew <;> rfl
  | succ n ih =>
    intro v w x fv fw rv rw'
    have lists : ∀ {ys : List V} {vs ws : List T}, flats vs n = true → flats ws n = true → Reps X.K H ys vs → Reps X.K H ys ws → vs = ws := by
      intro ys vs
      induction vs generalizing ys with
      | nil =>
        intro ws _ _ a b
        have := of_nil a
        subst this
        cases ws with
        | nil => rfl
        | cons w ws => obtain ⟨_, _, e, _⟩ := of_cons b; cases e
      | cons v vs ihv =>
        intro ws fa fb a b
        obtain ⟨y, r, rfl, a1, a2⟩ := of_cons a
        cases ws with
        | nil => have := of_nil b; cases this
        | cons w ws =>
          obtain ⟨y', r', e, b1, b2⟩ := of_cons b
          cases e
          unfold flats at fa fb
          rw [Bool.and_eq_true] at fa fb
          rw [ih fa.1 fb.1 a1 b1, ihv fa.2 fb.2 a2 b2]
    cases ev : sc v with
    | none =>
      obtain ⟨ts, m, rfl, em, ft⟩ := sc_none fv ev
      cases em
      obtain ⟨a, ys, rfl, hq, r⟩ := of_tup rv
      cases ew : sc w with
      | none =>
        obtain ⟨us, m', rfl, em, fu⟩ := sc_none fw ew
        cases em
        obtain ⟨b, zs, e, hq', r'⟩ := of_tup rw'
        cases e
        have e := I.tuple_inj hq hq'
        subst e
        rw [lists ft fu r r']
      | some b =>
        obtain ⟨e2, f⟩ := rep_sc ew rw'
        subst e2
        cases f
    | some a =>
      obtain ⟨e1, f⟩ := rep_sc ev rv
      cases ew : sc w with
      | none =>
        obtain ⟨us, m', rfl, em, fu⟩ := sc_none fw ew
        obtain ⟨b, zs, e, hq', r'⟩ := of_tup rw'
        subst e1
        subst e
        cases f
      | some b =>
        obtain ⟨e2, _⟩ := rep_sc ew rw'
        have e : a = b := e1.symm.trans e2
        subst e
        cases v <;> cases ev <;> cases w <;> cases ew <;> rfl
def eqJ (ts us : List T) (j : Nat) : Bool := match ts[j]?, us[j]? with
  | some a, some b => eqT a b
  | _, _ => true
theorem eqTs_range : ∀ (vs ws : List T), ((List.range (min vs.length ws.length)).all (eqJ vs ws) && vs.length == ws.length) = eqTs vs ws
  | [], [] => by unfold eqTs; rfl
  | [], _ :: _ => by unfold eqTs; simp
  | _ :: _, [] => by unfold eqTs; simp
  | v :: vs, w :: ws => by
    unfold eqTs
    rw [← eqTs_range vs ws]
    rw [List.length_cons, List.length_cons, show min (vs.length + 1) (ws.length + 1) = min vs.length ws.length + 1 by omega, List.range_succ_eq_map, List.all_cons, List.all_map]
    have e1 : eqJ (v :: vs) (w :: ws) 0 = eqT v w := rfl
    have e2 : (eqJ (v :: vs) (w :: ws) ∘ Nat.succ) = eqJ vs ws := by funext j; simp [Function.comp_def, eqJ]
    rw [e1, e2]
    simp [Bool.and_assoc]
/-- == within another comparison -/
theorem eqAtT (I : Inv X pins σ H s) : ∀ (n : Nat) {v w : T} {x y : V} {u u' : Value} {A : Around}, flat v n = true → flat w n = true → Rep X.K H x v → Rep X.K H y w → RelV x u → RelV y u' → A.units + n < cLine →
    SeqAt.EqAt A s u u' (eqT v w) := by
  intro n
  induction n with
  | zero =>
    intro v w x y u u' A fv fw rv rw' ru ru' hu
    cases ev : sc v with
    | none => obtain ⟨_, _, _, h, _⟩ := sc_none fv ev; cases h
    | some a =>
      cases ew : sc w with
      | none => obtain ⟨_, _, _, h, _⟩ := sc_none fw ew; cases h
      | some b =>
        obtain ⟨rfl, f1⟩ := rep_sc ev rv
        obtain ⟨rfl, f2⟩ := rep_sc ew rw'
        rw [eqT_sc ev ew]
        exact eqAt_V ru ru' f1 f2
  | succ n ih =>
    intro v w x y u u' A fv fw rv rw' ru ru' hu
    have hu0 : A.units < cLine := by omega
    cases ev : sc v with
    | some a =>
      obtain ⟨rfl, f1⟩ := rep_sc ev rv
      cases ew : sc w with
      | some b =>
        obtain ⟨rfl, f2⟩ := rep_sc ew rw'
        rw [eqT_sc ev ew]
        exact eqAt_V ru ru' f1 f2
      | none =>
        obtain ⟨ts, m, rfl, em, ft⟩ := sc_none fw ew
        obtain ⟨b, zs, rfl, hq, r⟩ := of_tup rw'
        cases ru'
        obtain ⟨its, _, p, _⟩ := I.tuple hq
        cases v with
        | non => cases ev; cases ru; unfold eqT; exact SeqAt.EqAt.none_tuple p hu0
        | bl c => cases ev; cases ru; unfold eqT; exact SeqAt.EqAt.bool_tuple c p hu0
        | int i => cases ev; obtain ⟨t, rfl⟩ := ru; unfold eqT; exact SeqAt.EqAt.int_tuple i t p hu0
        | str i => cases ev; obtain ⟨t, rfl⟩ := ru; unfold eqT; exact SeqAt.EqAt.str_tuple i t p hu0
        | _ => cases ev
    | none =>
      obtain ⟨ts, m, rfl, em, ft⟩ := sc_none fv ev
      cases em
      obtain ⟨a, ys, rfl, hq, r⟩ := of_tup rv
      cases ru
      obtain ⟨its, rI, p, _⟩ := I.tuple hq
      cases ew : sc w with
      | some b =>
        obtain ⟨rfl, f2⟩ := rep_sc ew rw'
        cases w with
        | non => cases ew; cases ru'; unfold eqT; exact SeqAt.EqAt.tuple_none p hu0
        | bl c => cases ew; cases ru'; unfold eqT; exact SeqAt.EqAt.tuple_bool c p hu0
        | int i => cases ew; obtain ⟨t, rfl⟩ := ru'; unfold eqT; exact SeqAt.EqAt.tuple_int i t p hu0
        | str i => cases ew; obtain ⟨t, rfl⟩ := ru'; unfold eqT; exact SeqAt.EqAt.tuple_str i t p hu0
        | _ => cases ew
      | none =>
        obtain ⟨us, m', rfl, em, fu⟩ := sc_none fw ew
        cases em
        obtain ⟨b, zs, rfl, hq', r'⟩ := of_tup rw'
        cases ru'
        obtain ⟨its', rI', p', _⟩ := I.tuple hq'
        by_cases hne : a = b
        · subst hne
          have e := rep_inj I (n + 1) fv fw (rep_tup hq r) (rep_tup hq' r')
          rw [e, eqT_refl _ fw]
          exact SeqAt.EqAt.same _
        · have l1 : its.toArray.size = ts.length := by rw [List.size_toArray, ← rI.length, r.length]
          have l2 : its'.toArray.size = us.length := by rw [List.size_toArray, ← rI'.length, r'.length]
          have key := SeqAt.EqAt.of_refs hne (SeqAt.RcAt.tuples (A := A) (e := eqJ ts us) p p' hu0 (fun j h1 h2 => by
            have i1 : ts[j]? = some (ts[j]'(by omega)) := by simp [l1 ▸ h1]
            have i2 : us[j]? = some (us[j]'(by omega)) := by simp [l2 ▸ h2]
            obtain ⟨x1, g1, q1⟩ := r.get i1
            obtain ⟨x2, g2, q2⟩ := r'.get i2
            obtain ⟨u1, k1, z1⟩ := rI.get g1
            obtain ⟨u2, k2, z2⟩ := rI'.get g2
            have e1 : its.toArray[j] = u1 := by
              have : its[j]? = some its.toArray[j] := by simp
              rw [k1] at this; exact (Option.some.inj this).symm
            have e2 : its'.toArray[j] = u2 := by
              have : its'[j]? = some its'.toArray[j] := by simp
              rw [k2] at this; exact (Option.some.inj this).symm
            rw [e1, e2]
            unfold eqJ
            simp only [i1, i2]
            exact ih (flats_get ft i1) (flats_get fu i2) q1 q2 z1 z2 (by show A.units + 1 + n < cLine; omega)))
          rw [l1, l2, eqTs_range] at key
          unfold eqT
          exact key
end
end WL
set_option Elab.async false
set_option linter.all false
set_option maxRecDepth 100000
set_option maxHeartbeats 4000000
namespace WL
open PySem PySem.Spec PyProof.Rows L2
def RepS (K : PySem.W.Frag) (H : Hp) (σ : L2.St) (τ : Sw) : Prop := σ.length = τ.length ∧ ∀ (i : Nat) (v : T), τ[i]? = some (some v) → ∃ x, σ[i]? = some (some x) ∧ Rep K H x v
theorem RepS.tx {K : PySem.W.Frag} {H H' : Hp} {σ : L2.St} {τ : Sw} (h : RepS K H σ τ) (t : Tx H H') : RepS K H' σ τ := ⟨h.1, fun i v e => let ⟨x, a, b⟩ := h.2 i v e; ⟨x, a, b.tx t⟩⟩
theorem RepS.set {K : PySem.W.Frag} {H : Hp} {σ : L2.St} {τ : Sw} (h : RepS K H σ τ) {i : Nat} {x : V} {v : T} (r : Rep K H x v) : RepS K H (σ.set i (some x)) (τ.set i (some v)) := by
  refine ⟨by rw [List.length_set, List.length_set]; exact h.1, fun j w e => ?_⟩
  by_cases hj : i = j
  · subst hj
    by_cases hi : i < τ.length
    · rw [List.getElem?_set_self hi] at e
      cases e
      exact ⟨x, List.getElem?_set_self (by rw [h.1]; exact hi), r⟩
    · rw [List.getElem?_eq_none (by rw [List.length_set]; omega)] at e
      cases e
  · rw [List.getElem?_set_ne hj] at e ⊢
    exact h.2 j w e
abbrev QE (K : PySem.W.Frag) (F H : Hp) (Q : VK) (Q' : WK) : Prop := ∀ x v H' C', Rl K F H' C' → Tx H H' → Rep K H' x v → Q' v C' → Q x H'
abbrev QT (K : PySem.W.Frag) (F H : Hp) (Q : Bool → Hp → Prop) (Q' : Bool → Hw → Prop) : Prop := ∀ b H' C', Rl K F H' C' → Tx H H' → Q' b C' → Q b H'
abbrev QA (K : PySem.W.Frag) (F H : Hp) (Q : List V → Hp → Prop) (Q' : List T → Hw → Prop) : Prop := ∀ xs vs H' C', Rl K F H' C' → Tx H H' → Reps K H' xs vs → Q' vs C' → Q xs H'
theorem QE.at {K : PySem.W.Frag} {F H H1 : Hp} {Q : VK} {Q' : WK} (q : QE K F H Q Q') (t : Tx H H1) : QE K F H1 Q Q' := fun x v H' C' R t' => q x v H' C' R (t.trans t')
def SimE (K : PySem.W.Frag) (te : TE) (we : WE) : Prop := ∀ (F H : Hp) (C : Hw) (σ : L2.St) (τ : Sw) (Q : VK) (Q' : WK) (χ : WX), Rl K F H C → RepS K H σ τ → we τ C Q' χ → QE K F H Q Q' → te σ H Q
def SimT (K : PySem.W.Frag) (te : TT) (we : WT) : Prop := ∀ (F H : Hp) (C : Hw) (σ : L2.St) (τ : Sw) (Q : Bool → Hp → Prop) (Q' : Bool → Hw → Prop) (χ : WX), Rl K F H C → RepS K H σ τ → we τ C Q' χ → QT K F H Q Q' → te σ H Q
def SimA (K : PySem.W.Frag) (te : TA) (we : WA) : Prop := ∀ (F H : Hp) (C : Hw) (σ : L2.St) (τ : Sw) (Q : List V → Hp → Prop) (Q' : List T → Hw → Prop) (χ : WX), Rl K F H C → RepS K H σ τ → we τ C Q' χ → QA K F H Q Q' → te σ H Q
def SimR (K : PySem.W.Frag) (r : R2) (w : W2) : Prop := ∀ (F H : Hp) (C : Hw) (x y : V) (v u : T) (Q : VK) (Q' : WK), Rl K F H C → Rep K H x v → Rep K H y u → w v u C Q' → QE K F H Q Q' → r x y H Q
def SimB (K : PySem.W.Frag) (r : List V → Hp → VK → Prop) (w : List T → Hw → WK → Prop) : Prop := ∀ (F H : Hp) (C : Hw) (xs : List V) (vs : List T) (Q : VK) (Q' : WK), Rl K F H C → Reps K H xs vs → w vs C Q' → QE K F H Q Q' → r xs H Q
def SimM (K : PySem.W.Frag) (r : V → List V → Hp → VK → Prop) (w : T → List T → Hw → WK → Prop) : Prop := ∀ (F H : Hp) (C : Hw) (x : V) (v : T) (xs : List V) (vs : List T) (Q : VK) (Q' : WK), Rl K F H C → Rep K H x v → Reps K H xs vs → w v vs C Q' → QE K F H Q Q' → r x xs H Q
def SimU (K : PySem.W.Frag) (r : V → Hp → VK → Prop) (w : T → Hw → WK → Prop) : Prop := ∀ (F H : Hp) (C : Hw) (x : V) (v : T) (Q : VK) (Q' : WK), Rl K F H C → Rep K H x v → w v C Q' → QE K F H Q Q' → r x H Q
def SdE (X : Cx) (e : Expr) (w : WE) : Prop := ∃ t, PE X e t ∧ SimE X.K t w
def SdT (X : Cx) (e : Expr) (w : WT) : Prop := ∃ t, PT X e t ∧ SimT X.K t w
def SdW (X : Cx) (e : Expr) (w : WT) : Prop := ∃ t, PW X e t ∧ SimT X.K t w
def SdA (X : Cx) (es : List Expr) (w : WA) : Prop := ∃ t, PA X es t ∧ SimA X.K t w
def OpS (X : Cx) (f : Value → Value → Sem Value) (w : W2) : Prop := ∃ r, OpR X f r ∧ SimR X.K r w
def IxS (X : Cx) (w : W2) : Prop := ∃ r, IxR X r ∧ SimR X.K r w
def CallS (X : Cx) (f : Value) (w : List T → Hw → WK → Prop) : Prop := ∃ r, CallR X f r ∧ SimB X.K r w
def MtS (X : Cx) (id : String) (w : T → List T → Hw → WK → Prop) : Prop := ∃ r, MtR X id r ∧ SimM X.K r w
section
variable {K : PySem.W.Frag} {ta tb tc : TE} {wa wb wc : WE} {r r' : R2} {w w' : W2}
theorem s_var {i : Nat} : SimE K (tVar i) (eVar i) := fun F H C σ τ Q Q' χ R S h q => by
  obtain ⟨v, e, h⟩ := h
  obtain ⟨x, ex, rx⟩ := S.2 i v e
  exact ⟨x, ex, q x v H C R (Tx.refl H) rx h⟩
theorem s_c {x : V} {v : T} (h : ∀ H, Rep K H x v) : SimE K (tC x) (eC v) := fun F H C σ τ Q Q' χ R S w q => q x v H C R (Tx.refl H) (h H) w
theorem s_op (ha : SimE K ta wa) (hb : SimE K tb wb) (hr : SimR K r w) : SimE K (tOp r ta tb) (eBin w wa wb) := fun F H C σ τ Q Q' χ R S h q => by
  refine ha F H C σ τ _ _ χ R S h fun x v H1 C1 R1 t1 rx h1 => ?_
  refine hb F H1 C1 σ τ _ _ χ R1 (S.tx t1) h1 fun y u H2 C2 R2 t2 ry h2 => ?_
  exact hr F H2 C2 x y v u Q Q' R2 (rx.tx t2) ry h2 (QE.at q (t1.trans t2))
theorem s_un {r : V → Hp → VK → Prop} {w : T → Hw → WK → Prop} (ha : SimE K ta wa) (hr : SimU K r w) : SimE K (tUn r ta) (eUn w wa) := fun F H C σ τ Q Q' χ R S h q => by
  refine ha F H C σ τ _ _ χ R S h fun x v H1 C1 R1 t1 rx h1 => ?_
  exact hr F H1 C1 x v Q Q' R1 rx h1 (QE.at q t1)
theorem s_nil : SimA K tNil aNil := fun F H C σ τ Q Q' χ R S h q => q [] [] H C R (Tx.refl H) reps_nil h
theorem s_cons {t : TA} {wt : WA} (ha : SimE K ta wa) (hb : SimA K t wt) : SimA K (tCons ta t) (aCons wa wt) := fun F H C σ τ Q Q' χ R S h q => by
  refine ha F H C σ τ _ _ χ R S h fun x v H1 C1 R1 t1 rx h1 => ?_
  exact hb F H1 C1 σ τ _ _ χ R1 (S.tx t1) h1 fun xs vs H2 C2 R2 t2 rs h2 => q (x :: xs) (v :: vs) H2 C2 R2 (t1.trans t2) (reps_cons (rx.tx t2) rs) h2
theorem s_tup {t : TA} {wt : WA} (ha : SimA K t wt) : SimE K (tTup t) (eTup wt) := fun F H C σ τ Q Q' χ R S h q => by
  refine ha F H C σ τ _ _ χ R S h fun xs vs H1 C1 R1 t1 rs h1 => ⟨by rw [rs.length]; exact h1.1, fun p hp => ?_⟩
  exact q _ _ _ C1 (R1.hid hp) (t1.trans (Tx.new hp)) (rep_tup (SqT.of upd_same) (rs.tx (Tx.new hp))) h1.2
theorem s_lst {t : TA} {wt : WA} (ha : SimA K t wt) : SimE K (tLst t) (eLst wt) := fun F H C σ τ Q Q' χ R S h q => by
  refine ha F H C σ τ _ _ χ R S h fun xs vs H1 C1 R1 t1 rs h1 => ⟨by rw [rs.length]; exact h1.1, fun p hp => ?_⟩
  exact q _ _ _ _ (R1.newL hp rs) (t1.trans (Tx.new hp)) rep_ref (h1.2 p (R1.free hp))
theorem s_bi {r : List V → Hp → VK → Prop} {w : List T → Hw → WK → Prop} {t : TA} {wt : WA} (hr : SimB K r w) (ha : SimA K t wt) : SimE K (tCB r t) (eBi w wt) := fun F H C σ τ Q Q' χ R S h q => by
  refine ha F H C σ τ _ _ χ R S h fun xs vs H1 C1 R1 t1 rs h1 => ?_
  exact hr F H1 C1 xs vs Q Q' R1 rs h1 (QE.at q t1)
theorem s_and (ha : SimE K ta wa) (hb : SimE K tb wb) : SimE K (tAndV ta tb) (eAnd wa wb) := fun F H C σ τ Q Q' χ R S h q => by
  refine ha F H C σ τ _ _ χ R S h fun x v H1 C1 R1 t1 rx h1 => ?_
  obtain ⟨k, rfl, h1⟩ := h1
  refine ⟨k, of_bl rx, ?_⟩
  cases k with
  | true => exact hb F H1 C1 σ τ Q Q' χ R1 (S.tx t1) h1 (QE.at q t1)
  | false => exact q _ _ H1 C1 R1 t1 rep_bl h1
/-! tests -/
theorem s_bl (ha : SimE K ta wa) : SimT K (tTest ta) (tBl wa) := fun F H C σ τ Q Q' χ R S h q => by
  refine ha F H C σ τ _ _ χ R S h fun x v H1 C1 R1 t1 rx h1 => ?_
  obtain ⟨k, rfl, h1⟩ := h1
  exact ⟨k, of_bl rx, q k H1 C1 R1 t1 h1⟩
theorem s_tru (ha : SimE K ta wa) : SimT K (fun σ H Q => ta σ H fun x H' => ∃ k, TruV K x H' k ∧ Q k H') (tTru wa) := fun F H C σ τ Q Q' χ R S h q => by
  refine ha F H C σ τ _ _ χ R S h fun x v H1 C1 R1 t1 rx h1 => ?_
  obtain ⟨k, hk, h1⟩ := h1
  refine ⟨k, ?_, q k H1 C1 R1 t1 h1⟩
  have emp : ∀ {ys : List V} {xs : List T}, Reps K H1 ys xs → ys.isEmpty = xs.isEmpty := fun {ys xs} r => by
    have := r.length
    cases ys <;> cases xs <;> simp_all
  cases v with
  | non => cases of_non rx; exact hk
  | bl b => cases of_bl rx; exact hk
  | int i => cases of_int rx; exact hk
  | str z => cases of_str rx; exact hk
  | tup xs =>
    obtain ⟨a, ys, rfl, hq, r⟩ := of_tup rx
    refine .inr (.inl ⟨ys, hq, ?_⟩)
    rw [emp r]; exact hk
  | cl xs =>
    obtain ⟨a, ys, rfl, hq, r⟩ := of_cl rx
    refine .inl ⟨ys, hq.sq, ?_⟩
    rw [emp r]; exact hk
  | ref a =>
    cases of_ref rx
    rcases hk with ⟨xs, hx, e⟩ | ⟨kvs, hx, e⟩
    · obtain ⟨ys, hy, r⟩ := R1.lst hx
      refine .inl ⟨ys, SqL.of hy, ?_⟩
      rw [emp r]; exact e
    · obtain ⟨ks, hy, r⟩ := R1.obj a _ hx
      refine .inr (.inr ⟨ks, hy, ?_⟩)
      have := Paired.length r
      rw [e]
      cases ks <;> cases kvs <;> simp_all
theorem s_an {t u : TT} {w w' : WT} (ha : SimT K t w) (hb : SimT K u w') : SimT K (tAnd t u) (tAn w w') := fun F H C σ τ Q Q' χ R S h q => by
  refine ha F H C σ τ _ _ χ R S h fun k H1 C1 R1 t1 h1 => ?_
  cases k with
  | true => exact hb F H1 C1 σ τ Q Q' χ R1 (S.tx t1) h1 fun b H' C' R' t' => q b H' C' R' (t1.trans t')
  | false => exact q _ H1 C1 R1 t1 h1
theorem s_or' {t u : TT} {w w' : WT} (ha : SimT K t w) (hb : SimT K u w') : SimT K (tOr t u) (tOr' w w') := fun F H C σ τ Q Q' χ R S h q => by
  refine ha F H C σ τ _ _ χ R S h fun k H1 C1 R1 t1 h1 => ?_
  cases k with
  | true => exact q _ H1 C1 R1 t1 h1
  | false => exact hb F H1 C1 σ τ Q Q' χ R1 (S.tx t1) h1 fun b H' C' R' t' => q b H' C' R' (t1.trans t')
theorem s_no {t : TT} {w : WT} (ha : SimT K t w) : SimT K (tNot t) (tNo w) := fun F H C σ τ Q Q' χ R S h q => by
  refine ha F H C σ τ _ _ χ R S h fun k H1 C1 R1 t1 h1 => ?_
  exact q _ H1 C1 R1 t1 h1
end
/-! ### the operations -/
section
variable {X : Cx}
theorem o_add : OpS X (binaryOp .Add) wAdd := ⟨_, op_add.or (op_add_str.or (op_cat.or (op_catT0.or op_catT))), fun F H C x y v u Q Q' R rx ry h q => by
  cases v <;> cases u <;> first | exact False.elim h | skip
  case int.int i j => cases of_int rx; cases of_int ry; exact .inl ⟨i, j, rfl, rfl, q _ _ H C R (Tx.refl H) rep_int h⟩
  case str.str i j => cases of_str rx; cases of_str ry; exact .inr (.inl ⟨i, j, rfl, rfl, h.1, q _ _ H C R (Tx.refl H) rep_str h.2⟩)
  case ref.ref a b =>
    cases of_ref rx; cases of_ref ry
    obtain ⟨xs, ys, ha, hb, hl, h⟩ := h
    obtain ⟨zs, hz, rz⟩ := R.lst ha
    obtain ⟨ws, hw, rw'⟩ := R.lst hb
    exact .inr (.inr (.inl ⟨a, b, zs, ws, rfl, rfl, hz, hw, by rw [rz.length, rw'.length]; exact hl, fun p hp => q _ _ _ _ (R.newL hp (rz.app rw')) (Tx.new hp) rep_ref (h p (R.free hp))⟩))
  case tup.tup xs ys =>
    obtain ⟨a, zs, rfl, hz, rz⟩ := of_tup rx
    obtain ⟨b, ws, rfl, hw, rw'⟩ := of_tup ry
    by_cases e : zs = []
    · subst e
      have e2 : xs = [] := by
        have := rz.length
        cases xs with
        | nil => rfl
        | cons _ _ => cases this
      subst e2
      exact .inr (.inr (.inr (.inl ⟨a, b, ws, rfl, rfl, hz, hw, q _ _ H C R (Tx.refl H) (rep_tup hw rw') h.2⟩)))
    · refine .inr (.inr (.inr (.inr ⟨a, b, zs, ws, rfl, rfl, hz, hw, e, by rw [rz.length, rw'.length]; exact h.1, fun e2 => ?_, fun e2 p hp => ?_⟩)))
      · subst e2
        have e3 : ys = [] := by
          have := rw'.length
          cases ys with
          | nil => rfl
          | cons _ _ => cases this
        subst e3
        refine q _ _ H C R (Tx.refl H) (rep_tup hz rz) ?_
        have := h.2
        rw [List.append_nil] at this
        exact this
      · exact q _ _ _ C (R.hid hp) (Tx.new hp) (rep_tup (SqT.of upd_same) ((rz.app rw').tx (Tx.new hp))) h.2⟩
theorem o_sub : OpS X (binaryOp .Sub) wSub := ⟨_, op_sub, fun F H C x y v u Q Q' R rx ry h q => by
  cases v <;> cases u <;> first | exact False.elim h | skip
  case int.int i j => cases of_int rx; cases of_int ry; exact ⟨i, j, rfl, rfl, q _ _ H C R (Tx.refl H) rep_int h⟩⟩
theorem o_mul : OpS X (binaryOp .Mult) wMul := ⟨_, op_mul, fun F H C x y v u Q Q' R rx ry h q => by
  cases v <;> cases u <;> first | exact False.elim h | skip
  case int.int i j => cases of_int rx; cases of_int ry; exact ⟨i, j, rfl, rfl, h.1, q _ _ H C R (Tx.refl H) rep_int h.2⟩⟩
theorem o_div : OpS X (binaryOp .FloorDiv) wDiv := ⟨_, op_fdiv, fun F H C x y v u Q Q' R rx ry h q => by
  cases v <;> cases u <;> first | exact False.elim h | skip
  case int.int i j => cases of_int rx; cases of_int ry; exact ⟨i, j, rfl, rfl, h.1, q _ _ H C R (Tx.refl H) rep_int h.2⟩⟩
theorem o_mod : OpS X (binaryOp .Mod) wMod := ⟨_, op_mod, fun F H C x y v u Q Q' R rx ry h q => by
  cases v <;> cases u <;> first | exact False.elim h | skip
  case int.int i j => cases of_int rx; cases of_int ry; exact ⟨i, j, rfl, rfl, h.1, q _ _ H C R (Tx.refl H) rep_int h.2⟩⟩
theorem o_pow : OpS X (binaryOp .Pow) wPow := ⟨_, op_pow, fun F H C x y v u Q Q' R rx ry h q => by
  cases v <;> cases u <;> first | exact False.elim h | skip
  case int.int i j => cases of_int rx; cases of_int ry; exact ⟨i, j, rfl, rfl, h.1, q _ _ H C R (Tx.refl H) rep_int h.2⟩⟩
theorem o_lt : OpS X (compareOp .Lt) wLt := ⟨_, op_lt.or op_lt_str, fun F H C x y v u Q Q' R rx ry h q => by
  cases v <;> cases u <;> first | exact False.elim h | skip
  case int.int i j => cases of_int rx; cases of_int ry; exact .inl ⟨i, j, rfl, rfl, q _ _ H C R (Tx.refl H) rep_bl h⟩
  case str.str i j => cases of_str rx; cases of_str ry; exact .inr ⟨i, j, rfl, rfl, q _ _ H C R (Tx.refl H) rep_bl h⟩⟩
theorem o_gt : OpS X (compareOp .Gt) wGt := ⟨_, op_gt, fun F H C x y v u Q Q' R rx ry h q => by
  cases v <;> cases u <;> first | exact False.elim h | skip
  case int.int i j => cases of_int rx; cases of_int ry; exact ⟨i, j, rfl, rfl, q _ _ H C R (Tx.refl H) rep_bl h⟩⟩
/-- a rule that stands over the state itself, by values -/
def rDir (X : Cx) (f : Value → Value → Sem Value) : R2 := fun x y H Q => ∀ (pins : List (Addr × Obj)) (s : Shared) (σ : L2.St) (v u : Value), Inv X pins σ H s → RelV x v → RelV y u → wpAny (model X.prog X.w) X.A (f v u) (EP X pins σ Q) X.xe s
theorem op_dir {f : Value → Value → Sem Value} : OpR X f (rDir X f) := fun pins s σ H x y v u Q I rx ry h => h pins s σ v u I rx ry
/-- the items of two lists, one by one -/
theorem items_at {pins : List (Addr × Obj)} {σ : L2.St} {H : Hp} {s : Shared} {A : Around} {n : Nat} {ts us : List T} {ys zs : List V} {its its' : List Value} (I : Inv X pins σ H s) (r : Reps X.K H ys ts) (r' : Reps X.K H zs us) (rI : Vals ys its) (rI' : Vals zs its')
    (f : flats ts n = true) (f' : flats us n = true) (hu : A.units + n < cLine) :
    ∀ j (h1 : j < its.toArray.size) (h2 : j < its'.toArray.size), SeqAt.EqAt A s its.toArray[j] its'.toArray[j] (eqJ ts us j) := fun j h1 h2 => by
  have l1 : its.toArray.size = ts.length := by rw [List.size_toArray, ← rI.length, r.length]
  have l2 : its'.toArray.size = us.length := by rw [List.size_toArray, ← rI'.length, r'.length]
  have i1 : ts[j]? = some (ts[j]'(by omega)) := by simp [l1 ▸ h1]
  have i2 : us[j]? = some (us[j]'(by omega)) := by simp [l2 ▸ h2]
  obtain ⟨x1, g1, q1⟩ := r.get i1
  obtain ⟨x2, g2, q2⟩ := r'.get i2
  obtain ⟨u1, k1, z1⟩ := rI.get g1
  obtain ⟨u2, k2, z2⟩ := rI'.get g2
  have e1 : its.toArray[j] = u1 := by
    have : its[j]? = some its.toArray[j] := by simp
    rw [k1] at this; exact (Option.some.inj this).symm
  have e2 : its'.toArray[j] = u2 := by
    have : its'[j]? = some its'.toArray[j] := by simp
    rw [k2] at this; exact (Option.some.inj this).symm
  rw [e1, e2]
  unfold eqJ
  simp only [i1, i2]
  exact eqAtT I n (flats_get f i1) (flats_get f' i2) q1 q2 z1 z2 hu
theorem eqTs_len {vs ws : List T} (h : vs.length ≠ ws.length) : eqTs vs ws = false := by
  rw [← eqTs_range, show (vs.length == ws.length) = false from beq_eq_false_iff_ne.mpr h, Bool.and_false]
theorem eqTs_same {vs ws : List T} (h : vs.length = ws.length) : (List.range vs.length).all (eqJ vs ws) = eqTs vs ws := by
  rw [← eqTs_range, h, Nat.min_self, beq_self_eq_true, Bool.and_true]
/-- == of two values at the top, nothing of the heap in them -/
theorem rcT {pins : List (Addr × Obj)} {σ : L2.St} {H : Hp} {s : Shared} {v w : T} {x y : V} {u u' : Value} {A : Around} {n : Nat} (I : Inv X pins σ H s) (fv : flat v n = true) (fw : flat w n = true) (rv : Rep X.K H x v) (rw' : Rep X.K H y w)
    (ru : RelV x u) (ru' : RelV y u') (hu : A.units + n + 1 < cLine) : SeqAt.RcAt A s u u' (eqT v w) ∧ SeqAt.RcNeAt A s u u' (!eqT v w) := by
  have hu0 : A.units < cLine := by omega
  cases ev : sc v with
  | some a =>
    obtain ⟨rfl, f1⟩ := rep_sc ev rv
    cases ew : sc w with
    | some b =>
      obtain ⟨rfl, f2⟩ := rep_sc ew rw'
      cases v with
      | non =>
        cases ev; cases ru
        cases w with
        | non => cases ew; cases ru'; unfold eqT; exact ⟨.none_none, .none_none⟩
        | bl c => cases ew; cases ru'; unfold eqT; exact ⟨.none_bool c, .none_bool c⟩
        | int c => cases ew; obtain ⟨t, rfl⟩ := ru'; unfold eqT; exact ⟨.none_int c t, .none_int c t⟩
        | str c => cases ew; obtain ⟨t, rfl⟩ := ru'; unfold eqT; exact ⟨.none_str c t, .none_str c t⟩
        | _ => cases ew
      | bl d =>
        cases ev; cases ru
        cases w with
        | non => cases ew; cases ru'; unfold eqT; exact ⟨.bool_none d, .bool_none d⟩
        | bl c => cases ew; cases ru'; unfold eqT; exact ⟨.bool_bool d c, .bool_bool d c⟩
        | int c => cases ew; obtain ⟨t, rfl⟩ := ru'; unfold eqT; exact ⟨.bool_int d c t, .bool_int d c t⟩
        | str c => cases ew; obtain ⟨t, rfl⟩ := ru'; unfold eqT; exact ⟨.bool_str d c t, .bool_str d c t⟩
        | _ => cases ew
      | int d =>
        cases ev; obtain ⟨t', rfl⟩ := ru
        cases w with
        | non => cases ew; cases ru'; unfold eqT; exact ⟨.int_none d t', .int_none d t'⟩
        | bl c => cases ew; cases ru'; unfold eqT; exact ⟨.int_bool d t' c, .int_bool d t' c⟩
        | int c => cases ew; obtain ⟨t, rfl⟩ := ru'; unfold eqT; exact ⟨.int_int d t' c t, .int_int d t' c t⟩
        | str c => cases ew; obtain ⟨t, rfl⟩ := ru'; unfold eqT; exact ⟨.int_str d t' c t, .int_str d t' c t⟩
        | _ => cases ew
      | str d =>
        cases ev; obtain ⟨t', rfl⟩ := ru
        cases w with
        | non => cases ew; cases ru'; unfold eqT; exact ⟨.str_none d t', .str_none d t'⟩
        | bl c => cases ew; cases ru'; unfold eqT; exact ⟨.str_bool d t' c, .str_bool d t' c⟩
        | int c => cases ew; obtain ⟨t, rfl⟩ := ru'; unfold eqT; exact ⟨.str_int d t' c t, .str_int d t' c t⟩
        | str c => cases ew; obtain ⟨t, rfl⟩ := ru'; unfold eqT; exact ⟨.str_str d t' c t, .str_str d t' c t⟩
        | _ => cases ew
      | _ => cases ev
    | none =>
      obtain ⟨ts, m, rfl, em, ft⟩ := sc_none fw ew
      obtain ⟨b, zs, rfl, hq, r⟩ := of_tup rw'
      cases ru'
      obtain ⟨its, _, p, _⟩ := I.tuple hq
      cases v with
      | non => cases ev; cases ru; unfold eqT; exact ⟨.none_tuple p hu0, .none_tuple p hu0⟩
      | bl c => cases ev; cases ru; unfold eqT; exact ⟨.bool_tuple c p hu0, .bool_tuple c p hu0⟩
      | int i => cases ev; obtain ⟨t, rfl⟩ := ru; unfold eqT; exact ⟨.int_tuple i t p hu0, .int_tuple i t p hu0⟩
      | str i => cases ev; obtain ⟨t, rfl⟩ := ru; unfold eqT; exact ⟨.str_tuple i t p hu0, .str_tuple i t p hu0⟩
      | _ => cases ev
  | none =>
    obtain ⟨ts, m, rfl, em, ft⟩ := sc_none fv ev
    subst em
    obtain ⟨a, ys, rfl, hq, r⟩ := of_tup rv
    cases ru
    obtain ⟨its, rI, p, _⟩ := I.tuple hq
    cases ew : sc w with
    | some b =>
      obtain ⟨rfl, f2⟩ := rep_sc ew rw'
      cases w with
      | non => cases ew; cases ru'; unfold eqT; exact ⟨.tuple_none p hu0, .tuple_none p hu0⟩
      | bl c => cases ew; cases ru'; unfold eqT; exact ⟨.tuple_bool c p hu0, .tuple_bool c p hu0⟩
      | int i => cases ew; obtain ⟨t, rfl⟩ := ru'; unfold eqT; exact ⟨.tuple_int i t p hu0, .tuple_int i t p hu0⟩
      | str i => cases ew; obtain ⟨t, rfl⟩ := ru'; unfold eqT; exact ⟨.tuple_str i t p hu0, .tuple_str i t p hu0⟩
      | _ => cases ew
    | none =>
      obtain ⟨us, m', rfl, em, fu⟩ := sc_none fw ew
      cases em
      obtain ⟨b, zs, rfl, hq', r'⟩ := of_tup rw'
      cases ru'
      obtain ⟨its', rI', p', _⟩ := I.tuple hq'
      have l1 : its.toArray.size = ts.length := by rw [List.size_toArray, ← rI.length, r.length]
      have l2 : its'.toArray.size = us.length := by rw [List.size_toArray, ← rI'.length, r'.length]
      have hi := items_at (A := A.in1) I r r' rI rI' ft fu (by show A.units + 1 + m < cLine; omega)
      have k1 := SeqAt.RcAt.tuples (A := A) p p' hu0 hi
      have k2 := SeqAt.RcNeAt.tuples (A := A) p p' hu0 hi
      rw [l1, l2, eqTs_range] at k1 k2
      unfold eqT
      exact ⟨k1, k2⟩
theorem list_vs {pins : List (Addr × Obj)} {σ : L2.St} {H : Hp} {s : Shared} {w : T} {y : V} {u' : Value} {A : Around} {n : Nat} {a : Addr} {its : List Value} (I : Inv X pins σ H s) (fw : flat w n = true) (rw' : Rep X.K H y w) (ru' : RelV y u') (hu0 : A.units < cLine)
    (p : s.heap.IsList a its.toArray) : (SeqAt.RcAt A s (.ref a) u' false ∧ SeqAt.RcNeAt A s (.ref a) u' true) ∧ (SeqAt.RcAt A s u' (.ref a) false ∧ SeqAt.RcNeAt A s u' (.ref a) true) := by
  cases w with
  | non => cases of_non rw'; cases ru'; exact ⟨⟨.list_none p hu0, .list_none p hu0⟩, .none_list p hu0, .none_list p hu0⟩
  | bl c => cases of_bl rw'; cases ru'; exact ⟨⟨.list_bool c p hu0, .list_bool c p hu0⟩, .bool_list c p hu0, .bool_list c p hu0⟩
  | int c => cases of_int rw'; obtain ⟨t, rfl⟩ := ru'; exact ⟨⟨.list_int c t p hu0, .list_int c t p hu0⟩, .int_list c t p hu0, .int_list c t p hu0⟩
  | str c => cases of_str rw'; obtain ⟨t, rfl⟩ := ru'; exact ⟨⟨.list_str c t p hu0, .list_str c t p hu0⟩, .str_list c t p hu0, .str_list c t p hu0⟩
  | tup ts =>
    obtain ⟨b, zs, rfl, hq, r⟩ := of_tup rw'
    cases ru'
    obtain ⟨its', _, p', _⟩ := I.tuple hq
    exact ⟨⟨.list_tuple p p' hu0, .list_tuple p p' hu0⟩, .tuple_list p' p hu0, .tuple_list p' p hu0⟩
  | ref b => unfold flat at fw; cases fw
  | cl b => unfold flat at fw; cases fw
theorem o_eqG (neg : Bool) (hu : X.A.units + 150 < cLine) : OpS X (compareOp (if neg then .NotEq else .Eq)) (wEqG neg) := ⟨_, op_dir, fun F H C x y v u Q Q' R rx ry h q pins s σ v' u' I r1 r2 => by
  have fin : ∀ {k : Bool}, SeqAt.RcAt X.A s v' u' k ∧ SeqAt.RcNeAt X.A s v' u' (!k) → Q (.bl (if neg then !k else k)) H → wpAny (model X.prog X.w) X.A (compareOp (if neg then .NotEq else .Eq) v' u') (EP X pins σ Q) X.xe s := fun {k} e hq => by
    cases neg with
    | true => exact EqBoolInt.of_rcne e.2 ⟨.bl (!k), H, I, rfl, hq⟩
    | false => exact EqBoolInt.of_rc e.1 ⟨.bl k, H, I, rfl, hq⟩
  have two : ∀ {v u : T}, Rep X.K H x v → Rep X.K H y u → isFlat v ∧ isFlat u ∧ Q' (.bl (if neg then !eqT v u else eqT v u)) C → wpAny (model X.prog X.w) X.A (compareOp (if neg then .NotEq else .Eq) v' u') (EP X pins σ Q) X.xe s := fun {v u} rx ry h =>
    fin (rcT I h.1 h.2.1 rx ry r1 r2 (show X.A.units + 100 + 1 < cLine by omega)) (q _ _ H C R (Tx.refl H) rep_bl h.2.2)
  have hn : (if neg then !false else false) = neg := by cases neg <;> rfl
  have lft : ∀ {a : Addr} {u : T}, v' = .ref a → Rep X.K H y u → (∃ xs, C a = some (.lst xs)) ∧ isFlat u ∧ Q' (.bl neg) C → wpAny (model X.prog X.w) X.A (compareOp (if neg then .NotEq else .Eq) v' u') (EP X pins σ Q) X.xe s := fun {a u} ev ry h => by
    obtain ⟨⟨xs, hx⟩, f, hq⟩ := h
    obtain ⟨ys, hy, r⟩ := R.lst hx
    obtain ⟨its, _, p, _⟩ := I.list (SqL.of hy)
    have z := (list_vs (A := X.A) I f ry r2 (by omega) p.isList).1
    subst ev
    refine fin (k := false) z ?_
    rw [hn]
    exact q _ _ H C R (Tx.refl H) rep_bl hq
  have rgt : ∀ {b : Addr} {v : T}, u' = .ref b → Rep X.K H x v → (∃ xs, C b = some (.lst xs)) ∧ isFlat v ∧ Q' (.bl neg) C → wpAny (model X.prog X.w) X.A (compareOp (if neg then .NotEq else .Eq) v' u') (EP X pins σ Q) X.xe s := fun {b v} eu rx h => by
    obtain ⟨⟨xs, hx⟩, f, hq⟩ := h
    obtain ⟨ys, hy, r⟩ := R.lst hx
    obtain ⟨its, _, p, _⟩ := I.list (SqL.of hy)
    have z := (list_vs (A := X.A) I f rx r1 (by omega) p.isList).2
    subst eu
    refine fin (k := false) z ?_
    rw [hn]
    exact q _ _ H C R (Tx.refl H) rep_bl hq
  cases v with
  | ref a =>
    have ev : v' = .ref a := by cases of_ref rx; exact r1
    cases u with
    | ref b =>
      have eu : u' = .ref b := by cases of_ref ry; exact r2
      obtain ⟨xs, ys, ha, hb, hf, hq⟩ := h
      obtain ⟨zs, hz, rz⟩ := R.lst ha
      obtain ⟨ws, hw, rw'⟩ := R.lst hb
      obtain ⟨its, rI, p, _⟩ := I.list (SqL.of hz)
      obtain ⟨its', rI', p', _⟩ := I.list (SqL.of hw)
      have l1 : its.toArray.size = xs.length := by rw [List.size_toArray, ← rI.length, rz.length]
      have l2 : its'.toArray.size = ys.length := by rw [List.size_toArray, ← rI'.length, rw'.length]
      subst ev
      subst eu
      refine fin ?_ (q _ _ H C R (Tx.refl H) rep_bl hq)
      by_cases hl : xs.length = ys.length
      · obtain ⟨f1, f2⟩ := hf hl
        have hi := items_at (A := X.A.in1) I rz rw' rI rI' f1 f2 (by show X.A.units + 1 + 100 < cLine; omega)
        have k1 := SeqAt.RcAt.lists (A := X.A) p.isList p'.isList (by rw [l1, l2, hl]) (by omega) hi
        have k2 := SeqAt.RcNeAt.lists (A := X.A) p.isList p'.isList (by rw [l1, l2, hl]) (by omega) hi
        rw [l1, eqTs_same hl] at k1 k2
        exact ⟨k1, k2⟩
      · rw [eqTs_len hl]
        have hne : (its.toArray.size != its'.toArray.size) = true := by rw [l1, l2]; exact bne_iff_ne.mpr hl
        exact ⟨SeqAt.RcAt.lists_lengths p.isList p'.isList hne (by omega), SeqAt.RcNeAt.lists_lengths p.isList p'.isList hne (by omega)⟩
    | non => exact lft ev ry h
    | bl b => exact lft ev ry h
    | int b => exact lft ev ry h
    | str b => exact lft ev ry h
    | tup b => exact lft ev ry h
    | cl b => exact lft ev ry h
  | non =>
    cases u with
    | ref b => exact rgt (by cases of_ref ry; exact r2) rx h
    | _ => exact two rx ry h
  | bl _ =>
    cases u with
    | ref b => exact rgt (by cases of_ref ry; exact r2) rx h
    | _ => exact two rx ry h
  | int _ =>
    cases u with
    | ref b => exact rgt (by cases of_ref ry; exact r2) rx h
    | _ => exact two rx ry h
  | str _ =>
    cases u with
    | ref b => exact rgt (by cases of_ref ry; exact r2) rx h
    | _ => exact two rx ry h
  | tup _ =>
    cases u with
    | ref b => exact rgt (by cases of_ref ry; exact r2) rx h
    | _ => exact two rx ry h
  | cl _ =>
    cases u with
    | ref b => exact rgt (by cases of_ref ry; exact r2) rx h
    | _ => exact two rx ry h⟩
theorem o_eq (hu : X.A.units + 150 < cLine) : OpS X (compareOp .Eq) wEq := o_eqG false hu
theorem o_ne (hu : X.A.units + 150 < cLine) : OpS X (compareOp .NotEq) wNe := o_eqG true hu
open Classical in
/-- the items' answers, by the values -/
noncomputable def eqAns (v : T) (us : List Value) (ts : List T) (u : Value) : Bool := match (us.zip ts).find? fun p => decide (p.1 = u) with
  | some p => eqT p.2 v
  | none => false
open Classical in
theorem eqAns_at {pins : List (Addr × Obj)} {σ : L2.St} {H : Hp} {s : Shared} {n : Nat} {v : T} {ts : List T} {ys : List V} {us : List Value} (I : Inv X pins σ H s) (r : Reps X.K H ys ts) (rI : Vals ys us) (f : flats ts n = true) {j : Nat} {u : Value} {t : T} (hu : us[j]? = some u) (ht : ts[j]? = some t) :
    eqAns v us ts u = eqT t v := by
  unfold eqAns
  have hm : (u, t) ∈ us.zip ts := by
    refine List.mem_iff_getElem?.mpr ⟨j, ?_⟩
    rw [List.getElem?_zip_eq_some]
    exact ⟨hu, ht⟩
  cases e : (us.zip ts).find? fun p => decide (p.1 = u) with
  | none =>
    have := List.find?_eq_none.mp e (u, t) hm
    simp at this
  | some p =>
    have h1 := List.find?_some e
    have h2 := List.mem_of_find?_eq_some e
    simp only [decide_eq_true_eq] at h1
    obtain ⟨i, hi⟩ := List.mem_iff_getElem?.mp h2
    obtain ⟨g1, g2⟩ := List.getElem?_zip_eq_some.mp hi
    obtain ⟨x1, k1, q1⟩ := r.get g2
    obtain ⟨x2, k2, q2⟩ := r.get ht
    obtain ⟨u1, m1, z1⟩ := rI.get k1
    obtain ⟨u2, m2, z2⟩ := rI.get k2
    rw [g1] at m1; cases m1
    rw [hu] at m2; cases m2
    rw [h1] at z1
    have e2 := z1.inj z2
    subst e2
    show eqT p.2 v = eqT t v
    rw [rep_inj I n (flats_get f g2) (flats_get f ht) q1 q2]
theorem any_ans {pins : List (Addr × Obj)} {σ : L2.St} {H : Hp} {s : Shared} {n : Nat} {v : T} {ts : List T} {ys : List V} {us : List Value} (I : Inv X pins σ H s) (r : Reps X.K H ys ts) (rI : Vals ys us) (f : flats ts n = true) : us.any (eqAns v us ts) = inL v ts := by
  have hl : us.length = ts.length := by rw [← rI.length, r.length]
  have hat : ∀ j, us[j]?.map (eqAns v us ts) = ts[j]?.map fun t => eqT t v := fun j => by
    by_cases hj : j < us.length
    · have e1 : us[j]? = some us[j] := by simp [hj]
      have e2 : ts[j]? = some (ts[j]'(by omega)) := by simp [hl ▸ hj]
      rw [e1, e2, Option.map_some, Option.map_some, eqAns_at I r rI f e1 e2]
    · rw [List.getElem?_eq_none (by omega), List.getElem?_eq_none (by omega)]; rfl
  have hm : us.map (eqAns v us ts) = ts.map fun t => eqT t v := by
    refine List.ext_getElem? fun j => ?_
    rw [List.getElem?_map, List.getElem?_map]
    exact hat j
  unfold inL
  have a1 : us.any (eqAns v us ts) = (us.map (eqAns v us ts)).any id := by rw [List.any_map]; rfl
  have a2 : (ts.any fun y => eqT y v) = (ts.map fun t => eqT t v).any id := by rw [List.any_map]; rfl
  rw [a1, a2, hm]
theorem o_inG (neg : Bool) (hu : X.A.units + 150 < cLine) : OpS X (compareOp (if neg then .NotIn else .In)) (wInG neg) := ⟨_, op_dir, fun F H C x y v u Q Q' R rx ry h q pins s σ v' u' I r1 r2 => by
  have sq : ∀ {p : Addr} {ys : List V} {ts : List T}, u' = .ref p → (SqL X.K H p ys ∨ SqT X.K H p ys) → Reps X.K H ys ts → isFlat v → flats ts eqDeep = true → Q' (.bl (if neg then !inL v ts else inL v ts)) C →
      wpAny (model X.prog X.w) X.A (compareOp (if neg then .NotIn else .In) v' u') (EP X pins σ Q) X.xe s := fun {p ys ts} eu hq r fv ft hq' => by
    subst eu
    have at1 : ∀ {its : List Value}, Vals ys its → ∀ w, w ∈ its.toArray → SeqAt.EqAt X.A.in1 s w v' (eqAns v its ts w) := fun {its} rI w hw => by
      have hw' : w ∈ its := by simpa using hw
      obtain ⟨j, hj⟩ := List.mem_iff_getElem?.mp hw'
      have hlt : j < its.length := (List.getElem?_eq_some_iff.mp hj).1
      have hl : its.length = ts.length := by rw [← rI.length, r.length]
      have e2 : ts[j]? = some (ts[j]'(by omega)) := by simp [hl ▸ hlt]
      rw [eqAns_at I r rI ft hj e2]
      obtain ⟨x2, k2, q2⟩ := r.get e2
      obtain ⟨u2, m2, z2⟩ := rI.get k2
      rw [hj] at m2; cases m2
      exact eqAtT I 100 (flats_get ft e2) fv q2 rx z2 r1 (by show X.A.units + 1 + 100 < cLine; omega)
    rcases hq with hq | hq
    · obtain ⟨its, rI, p, _⟩ := I.list hq
      have e : its.toArray.any (eqAns v its ts) = inL v ts := by rw [← any_ans I r rI ft]; simp
      cases neg with
      | true => refine SeqAt.notIn_listAt (eqAns v its ts) p.isList (at1 rI) ⟨.bl _, H, I, rfl, ?_⟩; rw [e]; exact q _ _ H C R (Tx.refl H) rep_bl hq'
      | false => refine SeqAt.in_listAt (eqAns v its ts) p.isList (at1 rI) ⟨.bl _, H, I, rfl, ?_⟩; rw [e]; exact q _ _ H C R (Tx.refl H) rep_bl hq'
    · obtain ⟨its, rI, p, _⟩ := I.tuple hq
      have e : its.toArray.any (eqAns v its ts) = inL v ts := by rw [← any_ans I r rI ft]; simp
      cases neg with
      | true => refine SeqAt.notIn_tupleAt (eqAns v its ts) p (at1 rI) ⟨.bl _, H, I, rfl, ?_⟩; rw [e]; exact q _ _ H C R (Tx.refl H) rep_bl hq'
      | false => refine SeqAt.in_tupleAt (eqAns v its ts) p (at1 rI) ⟨.bl _, H, I, rfl, ?_⟩; rw [e]; exact q _ _ H C R (Tx.refl H) rep_bl hq'
  have tpl : ∀ {ts : List T}, Rep X.K H y (.tup ts) → isFlat v ∧ flats ts eqDeep = true ∧ Q' (.bl (if neg then !inL v ts else inL v ts)) C → wpAny (model X.prog X.w) X.A (compareOp (if neg then .NotIn else .In) v' u') (EP X pins σ Q) X.xe s := fun {ts} ry h => by
    obtain ⟨a, ys, rfl, hq, r⟩ := of_tup ry
    exact sq r2 (.inr hq) r h.1 h.2.1 h.2.2
  have cls : ∀ {ts : List T}, Rep X.K H y (.cl ts) → isFlat v ∧ flats ts eqDeep = true ∧ Q' (.bl (if neg then !inL v ts else inL v ts)) C → wpAny (model X.prog X.w) X.A (compareOp (if neg then .NotIn else .In) v' u') (EP X pins σ Q) X.xe s := fun {ts} ry h => by
    obtain ⟨a, ys, rfl, hq, r⟩ := of_cl ry
    exact sq r2 (.inl hq.sq) r h.1 h.2.1 h.2.2
  have rf : ∀ {a : Addr}, Rep X.K H y (.ref a) → (∃ ys, C a = some (.lst ys) ∧ isFlat v ∧ flats ys eqDeep = true ∧ Q' (.bl (if neg then !inL v ys else inL v ys)) C) → wpAny (model X.prog X.w) X.A (compareOp (if neg then .NotIn else .In) v' u') (EP X pins σ Q) X.xe s := fun {a} ry h => by
    obtain ⟨ts, ht, h1, h2, h3⟩ := h
    obtain ⟨zs, hz, rz⟩ := R.lst ht
    cases of_ref ry
    exact sq r2 (.inl (SqL.of hz)) rz h1 h2 h3
  cases u with
  | tup ts => cases v <;> exact tpl ry h
  | cl ts => cases v <;> exact cls ry h
  | ref a => cases v <;> exact rf ry h
  | str j =>
    cases v with
    | str i =>
      cases of_str rx; cases of_str ry
      obtain ⟨t, rfl⟩ := r1
      obtain ⟨t', rfl⟩ := r2
      cases neg with
      | true => exact notIn_str ⟨.bl _, H, I, rfl, q _ _ H C R (Tx.refl H) rep_bl h⟩
      | false => exact in_str ⟨.bl _, H, I, rfl, q _ _ H C R (Tx.refl H) rep_bl h⟩
    | _ => exact False.elim h
  | non => cases v <;> exact False.elim h
  | bl _ => cases v <;> exact False.elim h
  | int _ => cases v <;> exact False.elim h⟩
theorem o_in (hu : X.A.units + 150 < cLine) : OpS X (compareOp .In) wIn := o_inG false hu
theorem o_notIn (hu : X.A.units + 150 < cLine) : OpS X (compareOp .NotIn) wNotIn := o_inG true hu
theorem o_ix : IxS X wIdx := ⟨_, ix_seq, fun F H C x y v u Q Q' R rx ry h q => by
  cases v <;> cases u <;> first | exact False.elim h | skip
  case tup.int xs i =>
    obtain ⟨a, ys, rfl, hq, r⟩ := of_tup rx
    cases of_int ry
    obtain ⟨v, hv, h⟩ := h
    obtain ⟨z, hz, rz⟩ := r.at hv
    exact .inr (.inl ⟨a, ys, i, z, rfl, rfl, hq, hz, q _ _ H C R (Tx.refl H) rz h⟩)
  case cl.int xs i =>
    obtain ⟨a, ys, rfl, hq, r⟩ := of_cl rx
    cases of_int ry
    obtain ⟨v, hv, h⟩ := h
    obtain ⟨z, hz, rz⟩ := r.at hv
    exact .inl ⟨a, ys, i, z, rfl, rfl, hq.sq, hz, q _ _ H C R (Tx.refl H) rz h⟩
  case ref.int a i =>
    cases of_ref rx
    cases of_int ry
    obtain ⟨xs, v, hx, hv, h⟩ := h
    obtain ⟨ys, hy, r⟩ := R.lst hx
    obtain ⟨z, hz, rz⟩ := r.at hv
    exact .inl ⟨a, ys, i, z, rfl, rfl, SqL.of hy, hz, q _ _ H C R (Tx.refl H) rz h⟩
  case str.int z i =>
    cases of_str rx
    cases of_int ry
    obtain ⟨hl, c, hc, h⟩ := h
    exact .inr (.inr ⟨z, i, c, rfl, rfl, hl, hc, q _ _ H C R (Tx.refl H) rep_str h⟩)⟩
/-! slices -/
def SlS (X : Cx) (w : T → Option Int → Option Int → Hw → WK → Prop) : Prop := ∃ r, SlR X r ∧ ∀ (F H : Hp) (C : Hw) (x : V) (v : T) (lo hi : Option Int) (Q : VK) (Q' : WK), Rl X.K F H C → Rep X.K H x v → w v lo hi C Q' → QE X.K F H Q Q' → r x lo hi H Q
theorem cut_reps {K : PySem.W.Frag} {H : Hp} {ys : List V} {xs : List T} (r : Reps K H ys xs) (lo hi : Option Int) : Reps K H (cutV ys lo hi) (cut xs lo hi) := by
  unfold cutV cut
  rw [r.length]
  exact (r.drop _).take _
theorem o_sl : SlS X wSl := ⟨_, sl_tup.or (sl_list.or sl_str), fun F H C x v lo hi Q Q' R rx h q => by
  cases v with
  | tup xs =>
    obtain ⟨a, ys, rfl, hq, r⟩ := of_tup rx
    exact .inl ⟨a, ys, rfl, hq, by rw [r.length]; exact h.1, fun p hp => q _ _ _ C (R.hid hp) (Tx.new hp) (rep_tup (SqT.of upd_same) ((cut_reps r lo hi).tx (Tx.new hp))) h.2⟩
  | cl xs =>
    obtain ⟨a, ys, rfl, hq, r⟩ := of_cl rx
    exact .inr (.inl ⟨a, ys, rfl, hq.sq, fun p hp => q _ _ _ _ (R.newL hp (cut_reps r lo hi)) (Tx.new hp) rep_ref (h p (R.free hp))⟩)
  | ref a =>
    cases of_ref rx
    obtain ⟨xs, hx, h⟩ := h
    obtain ⟨ys, hy, r⟩ := R.lst hx
    exact .inr (.inl ⟨a, ys, rfl, SqL.of hy, fun p hp => q _ _ _ _ (R.newL hp (cut_reps r lo hi)) (Tx.new hp) rep_ref (h p (R.free hp))⟩)
  | str z => cases of_str rx; exact .inr (.inr ⟨z, rfl, h.1, q _ _ H C R (Tx.refl H) rep_str h.2⟩)
  | _ => exact False.elim h⟩
/-! calls of builtins -/
theorem of_one {K : PySem.W.Frag} {H : Hp} {xs : List V} {v : T} (h : Reps K H xs [v]) : ∃ x, xs = [x] ∧ Rep K H x v := by
  obtain ⟨y, r, rfl, a, b⟩ := of_cons h
  cases of_nil b
  exact ⟨y, rfl, a⟩
theorem b_len : CallS X (.builtin "len") bLen := ⟨_, call_len_seq.or call_len_str, fun F H C xs vs Q Q' R rs h q => by
  obtain ⟨v, rfl, h⟩ := h
  obtain ⟨x, rfl, rx⟩ := of_one rs
  cases v with
  | str z => cases of_str rx; exact .inr ⟨z, rfl, h.1, q _ _ H C R (Tx.refl H) rep_int h.2⟩
  | tup xs =>
    obtain ⟨a, ys, rfl, hq, r⟩ := of_tup rx
    exact .inl ⟨a, ys, rfl, .inr hq, by rw [r.length]; exact q _ _ H C R (Tx.refl H) rep_int h⟩
  | cl xs =>
    obtain ⟨a, ys, rfl, hq, r⟩ := of_cl rx
    exact .inl ⟨a, ys, rfl, .inl hq.sq, by rw [r.length]; exact q _ _ H C R (Tx.refl H) rep_int h⟩
  | ref a =>
    cases of_ref rx
    obtain ⟨xs, hx, h⟩ := h
    obtain ⟨ys, hy, r⟩ := R.lst hx
    exact .inl ⟨a, ys, rfl, .inl (SqL.of hy), by rw [r.length]; exact q _ _ H C R (Tx.refl H) rep_int h⟩
  | _ => exact False.elim h⟩
theorem b_tuple : CallS X (.type "tuple") bTuple := ⟨_, call_tuple_of, fun F H C xs vs Q Q' R rs h q => by
  obtain ⟨v, rfl, h⟩ := h
  obtain ⟨x, rfl, rx⟩ := of_one rs
  cases v with
  | tup xs =>
    obtain ⟨a, ys, rfl, hq, r⟩ := of_tup rx
    exact ⟨a, ys, rfl, .inr ⟨hq, q _ _ H C R (Tx.refl H) (rep_tup hq r) h⟩⟩
  | cl xs =>
    obtain ⟨a, ys, rfl, hq, r⟩ := of_cl rx
    exact ⟨a, ys, rfl, .inl ⟨hq.sq, fun p hp => q _ _ _ C (R.hid hp) (Tx.new hp) (rep_tup (SqT.of upd_same) (r.tx (Tx.new hp))) h⟩⟩
  | ref a =>
    cases of_ref rx
    obtain ⟨xs, hx, h⟩ := h
    obtain ⟨ys, hy, r⟩ := R.lst hx
    exact ⟨a, ys, rfl, .inl ⟨SqL.of hy, fun p hp => q _ _ _ C (R.hid hp) (Tx.new hp) (rep_tup (SqT.of upd_same) (r.tx (Tx.new hp))) h⟩⟩
  | _ => exact False.elim h⟩
/-! methods of lists -/
theorem m_append : MtS X "list.append" mAppend := ⟨_, mt_append, fun F H C x v xs vs Q Q' R rx rs h q => by
  obtain ⟨a, ts, y, rfl, rfl, hx, hl, h⟩ := h
  cases of_ref rx
  obtain ⟨z, rfl, rz⟩ := of_one rs
  obtain ⟨ys, hy, r⟩ := R.lst hx
  obtain ⟨R', t⟩ := R.putL hx (r.snoc rz)
  exact ⟨a, ys, z, rfl, rfl, hy, by rw [r.length]; exact hl, q _ _ _ _ R' t rep_non h⟩⟩
theorem m_pop : MtS X "list.pop" mPop := ⟨_, mt_pop, fun F H C x v xs vs Q Q' R rx rs h q => by
  obtain ⟨a, ts, y, rfl, rfl, hx, hy, h⟩ := h
  cases of_ref rx
  cases of_nil rs
  obtain ⟨ys, hys, r⟩ := R.lst hx
  obtain ⟨z, hz, rz⟩ := r.get hy
  obtain ⟨R', t⟩ := R.putL hx r.dropLast
  exact ⟨a, ys, z, rfl, rfl, hys, by rw [r.length]; exact hz, q _ _ _ _ R' t (rz.tx t) h⟩⟩
end
end WL
set_option Elab.async false
set_option linter.all false
set_option maxRecDepth 100000
set_option maxHeartbeats 4000000
namespace WL
open PySem PySem.Spec PyProof.Rows L2
/-! ### expressions -/
section
variable {X : Cx} {a b c e : Expr} {es : List Expr} {wa wb wc : WE} {wt wt' : WT} {wA : WA} {w w' : W2} {pos p apos cpos : Pos} {rest : List Expr}
theorem d_var (i : Nat) {x : Str} (hN : X.N[i]? = some x := by rfl) (hv : Vis X.env.scope x := by first | exact Or.inl rfl | exact Or.inr (Or.inl rfl) | exact Or.inr (Or.inr rfl)) (hd : (x == ("__debug__" : Str)) = false := by decide)
    (hcd : (x == ("__classdict__" : Str)) = false := by decide) : SdE X (.Name x pos) (eVar i) := ⟨_, pe_var hN hv hd hcd, s_var⟩
theorem d_int {i j} : SdE X (.Constant (.int i) j pos) (eC (.int i)) := ⟨_, pe_int, s_c fun _ => rep_int⟩
theorem d_str {i j} : SdE X (.Constant (.str i) j pos) (eC (.str i)) := ⟨_, pe_str, s_c fun _ => rep_str⟩
theorem d_bl {i j} : SdE X (.Constant (.bool i) j pos) (eC (.bl i)) := ⟨_, pe_bl, s_c fun _ => rep_bl⟩
/-- a name of the module's top that stands for a value -/
def Glb (K : PySem.W.Frag) (mg : Str → Option Value) (x : Str) (v : T) : Prop := ∃ z u, mg x = some u ∧ RelV z u ∧ ∀ H, Rep K H z v
theorem d_op {op : Operator} (ho : OpS X (binaryOp op) w) (ha : SdE X a wa) (hb : SdE X b wb) : SdE X (.BinOp a op b pos) (eBin w wa wb) := by
  obtain ⟨r, h1, h2⟩ := ho
  obtain ⟨ta, p1, s1⟩ := ha
  obtain ⟨tb, p2, s2⟩ := hb
  exact ⟨_, pe_op h1 p1 p2, s_op s1 s2 h2⟩
theorem d_neg (ha : SdE X a wa) : SdE X (.UnaryOp .USub a pos) (eUn wNeg wa) := by
  obtain ⟨ta, p1, s1⟩ := ha
  exact ⟨_, pe_un un_neg p1, s_un s1 fun F H C x v Q Q' R rx h q => by
    cases v with
    | int i => cases of_int rx; exact ⟨i, rfl, q _ _ H C R (Tx.refl H) rep_int h⟩
    | _ => exact False.elim h⟩
theorem d_cmp {op : CmpOp} (ho : OpS X (compareOp op) w) (ha : SdE X a wa) (hb : SdE X b wb) (hm : behindInMarks op b = false) : SdE X (.Compare a [op] [b] pos) (eBin w wa wb) := by
  obtain ⟨r, h1, h2⟩ := ho
  obtain ⟨ta, p1, s1⟩ := ha
  obtain ⟨tb, p2, s2⟩ := hb
  exact ⟨_, pe_cmpR h1 p1 p2 hm, s_op s1 s2 h2⟩
theorem d_and (ha : SdE X a wa) (hb : SdE X (.BoolOp .And (b :: rest) pos) wb) : SdE X (.BoolOp .And (a :: b :: rest) pos) (eAnd wa wb) := by
  obtain ⟨ta, p1, s1⟩ := ha
  obtain ⟨tb, p2, s2⟩ := hb
  exact ⟨_, pe_and p1 p2, s_and s1 s2⟩
theorem d_one {op} (ha : SdE X a wa) : SdE X (.BoolOp op [a] pos) wa := by
  obtain ⟨ta, p1, s1⟩ := ha
  exact ⟨_, pe_one p1, s1⟩
theorem da_nil : SdA X [] aNil := ⟨_, pa_nil, s_nil⟩
theorem da_cons (ha : SdE X a wa) (hb : SdA X es wA) (hs : starEach (a :: es) X.env = (false, eval a X.env) :: starEach es X.env := by rfl) : SdA X (a :: es) (aCons wa wA) := by
  obtain ⟨ta, p1, s1⟩ := ha
  obtain ⟨tb, p2, s2⟩ := hb
  exact ⟨_, pa_cons p1 p2 hs, s_cons s1 s2⟩
theorem d_tup {x1} (h : SdA X es wA) : SdE X (.Tuple es x1 pos) (eTup wA) := by
  obtain ⟨t, p, s⟩ := h
  exact ⟨_, pe_tup p, s_tup s⟩
theorem d_lst (h : SdA X es wA) : SdE X (.List es pos) (eLst wA) := by
  obtain ⟨t, p, s⟩ := h
  exact ⟨_, pe_lst p, s_lst s⟩
theorem d_ix (ha : SdE X a wa) (hb : SdE X b wb) (hs : PlainIx b) : SdE X (.Subscript a b pos) (eBin wIdx wa wb) := by
  obtain ⟨r, h1, h2⟩ := o_ix (X := X)
  obtain ⟨ta, p1, s1⟩ := ha
  obtain ⟨tb, p2, s2⟩ := hb
  exact ⟨_, pe_ix h1 p1 p2 hs, s_op s1 s2 h2⟩
def SdO (X : Cx) (e : Option Expr) (w : Sw → Hw → (Option Int → Hw → Prop) → WX → Prop) : Prop := ∃ t, PO X e t ∧ ∀ (F H : Hp) (C : Hw) (σ : L2.St) (τ : Sw) (Q : Option Int → Hp → Prop) (Q' : Option Int → Hw → Prop) (χ : WX), Rl X.K F H C → RepS X.K H σ τ → w τ C Q' χ →
  (∀ o H' C', Rl X.K F H' C' → Tx H H' → Q' o C' → Q o H') → t σ H Q
theorem do_none : SdO X none oNo := ⟨_, po_none, fun F H C σ τ Q Q' χ R S h q => q none H C R (Tx.refl H) h⟩
theorem do_some (ha : SdE X a wa) : SdO X (some a) (oSome wa) := by
  obtain ⟨ta, p1, s1⟩ := ha
  refine ⟨_, po_some p1, fun F H C σ τ Q Q' χ R S h q => ?_⟩
  refine s1 F H C σ τ _ _ χ R S h fun x v H1 C1 R1 t1 rx h1 => ?_
  obtain ⟨i, rfl, h1⟩ := h1
  exact ⟨i, of_int rx, q (some i) H1 C1 R1 t1 h1⟩
theorem d_sl {lo hi : Option Expr} {wl wh : Sw → Hw → (Option Int → Hw → Prop) → WX → Prop} {p2 : Pos} (ha : SdE X a wa) (hl : SdO X lo wl) (hh : SdO X hi wh) : SdE X (.Subscript a (.Slice lo hi none p2) pos) (eSl wa wl wh) := by
  obtain ⟨r, h1, h2⟩ := o_sl (X := X)
  obtain ⟨ta, p1, s1⟩ := ha
  obtain ⟨tl, p3, s3⟩ := hl
  obtain ⟨th, p4, s4⟩ := hh
  refine ⟨_, pe_slice h1 p1 p3 p4, fun F H C σ τ Q Q' χ R S h q => ?_⟩
  refine s1 F H C σ τ _ _ χ R S h fun x v H1 C1 R1 t1 rx h1 => ?_
  refine s3 F H1 C1 σ τ _ _ χ R1 (S.tx t1) h1 fun l H2 C2 R2 t2 h2' => ?_
  refine s4 F H2 C2 σ τ _ _ χ R2 (S.tx (t1.trans t2)) h2' fun u H3 C3 R3 t3 h3 => ?_
  exact h2 F H3 C3 x v l u Q Q' R3 ((rx.tx t2).tx t3) h3 (QE.at q ((t1.trans t2).trans t3))
/-- f(e, ..), f a function of Python's own -/
theorem d_bi {x : Str} {id : String} {r : List T → Hw → WK → Prop} (hc : CallS X (.builtin id) r) (hg : Gl X x) (hm : X.mg x = none) (hv : bootBuiltins x = some (.builtin id)) (ha : SdA X (e :: es) wA) (hn : x ≠ "__name__" := by decide) (hdb : (x == ("__debug__" : Str)) = false := by decide)
    (he : starEach (e :: es) X.env = (false, eval e X.env) :: starEach es X.env := by rfl) (hpl : (backTo pos (starEach es X.env)).any (·.1) = false := by rfl) : SdE X (.Call (.Name x p) (e :: es) [] pos) (eBi r wA) := by
  obtain ⟨r, h1, h2⟩ := hc
  obtain ⟨t, p1, s1⟩ := ha
  exact ⟨_, pe_callB h1 hg hm hv p1 hn hdb he hpl, s_bi h2 s1⟩
theorem d_ty {x : Str} {id : String} {r : List T → Hw → WK → Prop} (hc : CallS X (.type id) r) (hg : Gl X x) (hm : X.mg x = none) (hv : bootBuiltins x = some (.type id)) (ha : SdA X (e :: es) wA) (hn : x ≠ "__name__" := by decide) (hdb : (x == ("__debug__" : Str)) = false := by decide)
    (he : starEach (e :: es) X.env = (false, eval e X.env) :: starEach es X.env := by rfl) (hpl : (backTo pos (starEach es X.env)).any (·.1) = false := by rfl) : SdE X (.Call (.Name x p) (e :: es) [] pos) (eBi r wA) := by
  obtain ⟨r, h1, h2⟩ := hc
  obtain ⟨t, p1, s1⟩ := ha
  exact ⟨_, pe_callTy h1 hg hm hv p1 hn hdb he hpl, s_bi h2 s1⟩
/-- the receiver's class -/
def TyS (X : Cx) (Tn : String) (ty : T → Hw → Prop) : Prop := ∀ (F H : Hp) (C : Hw) (x : V) (v : T), Rl X.K F H C → Rep X.K H x v → ty v C → tyV X.K Tn x H
theorem ty_list : TyS X "list" tyL' := fun F H C x v R rx h => by
  obtain ⟨a, xs, rfl, hx⟩ := h
  cases of_ref rx
  obtain ⟨ys, hy, r⟩ := R.lst hx
  exact L2.tyL hy
theorem d_mt {o : Expr} {wo : WE} {name : Str} {Tn id : String} {ty : T → Hw → Prop} {r : T → List T → Hw → WK → Prop} (pa : PlainAttrs Tn) (slot : Slot Tn name id) (hty : typeOf (.builtin id) = pure (.type "method_descriptor")) (hT : TyS X Tn ty) (hm : MtS X id r) (ho : SdE X o wo) (ha : SdA X (e :: es) wA)
    (hbase : attributeBase o name X.env (eval o X.env) = eval o X.env := by rfl)
    (hfew : ((backTo cpos (starEach (e :: es) X.env)).all (fun x => !x.1) && (backToKw cpos (keywordEach [] X.env)).all (fun x => x.1.isSome)
      && decide ((e :: es).length + ([] : List Keyword).length + (if ([] : List Keyword).isEmpty then 0 else 1) < 30)) = true := by rfl)
    (hline : (apos.endLine == cpos.line) = true := by rfl) (hs : starEach (e :: es) X.env = (false, eval e X.env) :: starEach es X.env := by rfl) (hplain : (backTo cpos (starEach es X.env)).any (·.1) = false := by rfl) :
    SdE X (.Call (.Attribute o name apos) (e :: es) [] cpos) (eMt ty r wo wA) := by
  obtain ⟨rr, h1, h2⟩ := hm
  obtain ⟨to, p1, s1⟩ := ho
  obtain ⟨ta, p2, s2⟩ := ha
  refine ⟨_, pe_bm pa slot hty h1 p1 p2 hbase hfew hline hs hplain, fun F H C σ τ Q Q' χ R S h q => ?_⟩
  refine s1 F H C σ τ _ _ χ R S h fun x v H1 C1 R1 t1 rx h1' => ⟨hT F H1 C1 x v R1 rx h1'.1, ?_⟩
  refine s2 F H1 C1 σ τ _ _ χ R1 (S.tx t1) h1'.2 fun xs vs H2 C2 R2 t2 rs h2' => ?_
  exact h2 F H2 C2 x v xs vs Q Q' R2 (rx.tx t2) rs h2' (QE.at q (t1.trans t2))
theorem d_mt0 {o : Expr} {wo : WE} {name : Str} {Tn id : String} {ty : T → Hw → Prop} {r : T → List T → Hw → WK → Prop} (pa : PlainAttrs Tn) (slot : Slot Tn name id) (hty : typeOf (.builtin id) = pure (.type "method_descriptor")) (hT : TyS X Tn ty) (hm : MtS X id r) (ho : SdE X o wo)
    (hbase : attributeBase o name X.env (eval o X.env) = eval o X.env := by rfl) (hline : (apos.endLine == cpos.line) = true := by rfl) :
    SdE X (.Call (.Attribute o name apos) [] [] cpos) (eMt ty r wo aNil) := by
  obtain ⟨rr, h1, h2⟩ := hm
  obtain ⟨to, p1, s1⟩ := ho
  refine ⟨_, pe_bm0 pa slot hty h1 p1 hbase hline, fun F H C σ τ Q Q' χ R S h q => ?_⟩
  refine s1 F H C σ τ _ _ χ R S h fun x v H1 C1 R1 t1 rx h1' => ⟨hT F H1 C1 x v R1 rx h1'.1, ?_⟩
  exact h2 F H1 C1 x v [] [] Q Q' R1 rx reps_nil h1'.2 (QE.at q t1)
/-! isinstance -/
theorem kit_cls {K : PySem.W.Frag} {n c : String} (hn : n ∈ ["NoneType", "bool", "int", "str", "tuple", "list", "dict"]) (hc : c ∈ ["bool", "int", "str", "tuple", "list", "dict"]) : PySem.W.kitOne K (.type n) (.type c) = some (isCls n c) := by
  simp only [List.mem_cons, List.not_mem_nil, or_false] at hn hc
  rcases hn with rfl | rfl | rfl | rfl | rfl | rfl | rfl <;> rcases hc with rfl | rfl | rfl | rfl | rfl | rfl <;> rfl
theorem tyN_mem {v : T} {C : Hw} {n : String} (h : tyN v C n) : n ∈ ["NoneType", "bool", "int", "str", "tuple", "list", "dict"] := by
  cases v with
  | non => cases h; decide
  | bl _ => cases h; decide
  | int _ => cases h; decide
  | str _ => cases h; decide
  | tup _ => cases h; decide
  | cl _ => cases h; decide
  | ref _ => rcases h with ⟨rfl, _⟩ | ⟨rfl, _⟩ <;> decide
theorem isi_of {pins : List (Addr × Obj)} {σ : L2.St} {F H : Hp} {C : Hw} {s : Shared} {x : V} {v : T} {u : Value} {n c : String} {Q : Value → Shared → Prop} (I : Inv X pins σ H s) (R : Rl X.K F H C) (rx : Rep X.K H x v) (ru : RelV x u) (hn : tyN v C n) (hc : c ∈ ["bool", "int", "str", "tuple", "list", "dict"])
    (h : ∀ tk, Q (.bool (isCls n c)) { s with toks := tk }) : wpAny (model X.prog X.w) X.A (call (.builtin "isinstance") [u, .type c]) Q X.xe s := by
  have e := kit_cls (K := X.K) (tyN_mem hn) hc
  cases v with
  | non => cases hn; cases of_non rx; exact isinst_ok I ru .non e h
  | bl b => cases hn; cases of_bl rx; exact isinst_ok I ru (.bl b) e h
  | int b => cases hn; cases of_int rx; exact isinst_ok I ru (.int b) e h
  | str b => cases hn; cases of_str rx; exact isinst_ok I ru (.str b) e h
  | tup xs =>
    cases hn
    obtain ⟨a, ys, rfl, hq, r⟩ := of_tup rx
    cases ru
    obtain ⟨its, _, ⟨o, h1, h2, _⟩, _⟩ := I.tuple hq
    exact PySem.W.kia_one PySem.W.kitx_tuple I.kIn ⟨o, h1, h2⟩ e (fun z => nomatch z) h
  | cl xs =>
    cases hn
    obtain ⟨a, ys, rfl, hq, r⟩ := of_cl rx
    cases ru
    obtain ⟨its, _, p, _⟩ := I.list hq.sq
    obtain ⟨o, h1, h2, _⟩ := p.isList
    exact PySem.W.kia_one PySem.W.kitx_list I.kIn ⟨o, h1, h2⟩ e (fun z => nomatch z) h
  | ref a =>
    cases of_ref rx
    rcases hn with ⟨rfl, xs, hx⟩ | ⟨rfl, kvs, hx⟩
    · obtain ⟨ys, hy, r⟩ := R.lst hx
      exact isinst_ok I ru (.lst hy) e h
    · obtain ⟨ks, hy, r⟩ := R.obj a _ hx
      exact isinst_ok I ru (.dK hy) e h
theorem d_isi {x : Str} {q2 : Pos} {c : String} (hg : Gl X "isinstance") (hm : X.mg "isinstance" = none) (hgx : Gl X x) (hmx : X.mg x = none) (hvx : bootBuiltins x = some (.type c)) (hc : c ∈ ["bool", "int", "str", "tuple", "list", "dict"]) (ha : SdE X a wa)
    (hnx : x ≠ "__name__" := by decide) (hdx : (x == ("__debug__" : Str)) = false := by decide) (he : starEach [a, .Name x q2] X.env = [(false, eval a X.env), (false, eval (.Name x q2) X.env)] := by rfl) : SdE X (.Call (.Name "isinstance" p) [a, .Name x q2] [] pos) (eIsi wa c) := by
  obtain ⟨ta, p1, s1⟩ := ha
  let r : List V → Hp → VK → Prop := fun xs H Q => ∃ y F C v n, xs = [y, .ty c] ∧ Rl X.K F H C ∧ Rep X.K H y v ∧ tyN v C n ∧ Q (.bl (isCls n c)) H
  have hr : CallR X (.builtin "isinstance") r := by
    intro pins s σ H xs us Q I rs h
    obtain ⟨y, F, C, v, n, rfl, R, ry, hn, q⟩ := h
    obtain ⟨u, u2, rfl, ru, ru2⟩ := rs.two
    cases ru2
    exact isi_of I R ry ru hn hc fun tk => ⟨.bl _, H, I.tok tk, rfl, q⟩
  refine ⟨_, pe_callB hr hg hm bt_isinstance (pa_cons p1 (pa_cons (pe_bltn (v := .ty c) hgx hmx hvx rfl hnx hdx) pa_nil (by rw [show starEach [Expr.Name x q2] X.env = [(false, eval (.Name x q2) X.env)] from rfl]; rfl)) ?_) (by decide) (by decide) ?_ ?_, ?_⟩
  · rw [he]; rfl
  · rw [he]; rfl
  · rfl
  · intro F H C σ τ Q Q' χ R S h q
    refine s1 F H C σ τ _ _ χ R S h fun y v H1 C1 R1 t1 ry h1 => ?_
    obtain ⟨n, hn, h1⟩ := h1
    exact ⟨y, F, C1, v, n, rfl, R1, ry, hn, q _ _ H1 C1 R1 t1 rep_bl h1⟩
/-! tests -/
theorem dt_cmp {op : CmpOp} (ho : OpS X (compareOp op) w) (ha : SdE X a wa) (hb : SdE X b wb) (hm : behindInMarks op b = false) : SdT X (.Compare a [op] [b] pos) (tBl (eBin w wa wb)) := by
  obtain ⟨r, h1, h2⟩ := ho
  obtain ⟨ta, p1, s1⟩ := ha
  obtain ⟨tb, p2, s2⟩ := hb
  exact ⟨_, pt_cmpR h1 p1 p2 hm, s_bl (s_op s1 s2 h2)⟩
theorem dt_tru (ha : SdE X a wa) (he : ∀ whole, isTrue a X.env whole = (do let v ← whole; standAt a.pos; holding [v] (truthy v)) := by intro _; rfl) : SdT X a (tTru wa) := by
  obtain ⟨ta, p1, s1⟩ := ha
  exact ⟨_, pt_truth p1 he, s_tru s1⟩
theorem dw_and1 (ha : SdT X a wt) : SdW X (.BoolOp .And [a] pos) wt := by
  obtain ⟨t, p, s⟩ := ha
  exact ⟨_, pw_and1 p, s⟩
theorem dw_or1 (ha : SdT X a wt) : SdW X (.BoolOp .Or [a] pos) wt := by
  obtain ⟨t, p, s⟩ := ha
  exact ⟨_, pw_or1 p, s⟩
theorem dw_and (ha : SdT X a wt) (hb : SdW X (.BoolOp .And (b :: rest) pos) wt') : SdW X (.BoolOp .And (a :: b :: rest) pos) (tAn wt wt') := by
  obtain ⟨t, p, s⟩ := ha
  obtain ⟨t', p', s'⟩ := hb
  exact ⟨_, pw_and p p', s_an s s'⟩
theorem dw_or (ha : SdT X a wt) (hb : SdW X (.BoolOp .Or (b :: rest) pos) wt') : SdW X (.BoolOp .Or (a :: b :: rest) pos) (tOr' wt wt') := by
  obtain ⟨t, p, s⟩ := ha
  obtain ⟨t', p', s'⟩ := hb
  exact ⟨_, pw_or p p', s_or' s s'⟩
theorem dt_w (h : SdW X a wt) : SdT X a wt := by
  obtain ⟨t, p, s⟩ := h
  exact ⟨_, p.pt, s⟩
theorem dt_not (ha : SdT X a wt) : SdT X (.UnaryOp .Not a pos) (tNo wt) := by
  obtain ⟨t, p, s⟩ := ha
  exact ⟨_, pt_not p, s_no s⟩
end
/-! ### statements -/
structure DRel (K : PySem.W.Frag) (F H : Hp) (D : Ends) (D' : We) : Prop where
  nx : ∀ σ τ H' C', Rl K F H' C' → Tx H H' → RepS K H' σ τ → D'.nx τ C' → D.nx σ H'
  rt : ∀ x v H' C', Rl K F H' C' → Tx H H' → Rep K H' x v → D'.rt v C' → D.rt x H'
  bk : ∀ σ τ H' C', Rl K F H' C' → Tx H H' → RepS K H' σ τ → D'.bk τ C' → D.bk σ H'
  ct : ∀ σ τ H' C', Rl K F H' C' → Tx H H' → RepS K H' σ τ → D'.ct τ C' → D.ct σ H'
theorem DRel.at {K : PySem.W.Frag} {F H H1 : Hp} {D : Ends} {D' : We} (h : DRel K F H D D') (t : Tx H H1) : DRel K F H1 D D' :=
  ⟨fun σ τ H' C' R t' => h.nx σ τ H' C' R (t.trans t'), fun x v H' C' R t' => h.rt x v H' C' R (t.trans t'), fun σ τ H' C' R t' => h.bk σ τ H' C' R (t.trans t'), fun σ τ H' C' R t' => h.ct σ τ H' C' R (t.trans t')⟩
def SimS (K : PySem.W.Frag) (t : TS) (w : WS) : Prop := ∀ (F H : Hp) (C : Hw) (σ : L2.St) (τ : Sw) (D : Ends) (D' : We), Rl K F H C → RepS K H σ τ → w D' τ C → DRel K F H D D' → t D σ H
def SimG (K : PySem.W.Frag) (t : TG) (w : WG) : Prop := ∀ (F H : Hp) (C : Hw) (σ : L2.St) (τ : Sw) (x : V) (v : T) (Q : L2.St → Hp → Prop) (Q' : Sw → Hw → Prop) (χ : WX), Rl K F H C → RepS K H σ τ → Rep K H x v → w v τ C Q' χ →
  (∀ σ' τ' H' C', Rl K F H' C' → Tx H H' → RepS K H' σ' τ' → Q' τ' C' → Q σ' H') → t x σ H Q
def SimGs (K : PySem.W.Frag) (t : TGs) (w : WGs) : Prop := ∀ (F H : Hp) (C : Hw) (σ : L2.St) (τ : Sw) (x : List V) (v : List T) (Q : L2.St → Hp → Prop) (Q' : Sw → Hw → Prop) (χ : WX), Rl K F H C → RepS K H σ τ → Reps K H x v → w v τ C Q' χ →
  (∀ σ' τ' H' C', Rl K F H' C' → Tx H H' → RepS K H' σ' τ' → Q' τ' C' → Q σ' H') → t x σ H Q
def SdS (X : Cx) (st : Stmt) (w : WS) : Prop := ∃ t, PS X st t ∧ SimS X.K t w
def SdB (X : Cx) (st : List Stmt) (w : WS) : Prop := ∃ t, PSs X st t ∧ SimS X.K t w
/-- a target: also what a comprehension asks of it -/
def SdG (X : Cx) (e : Expr) (w : WG) : Prop := ∃ t, PG X e t ∧ SimG X.K t w
def SdGs (X : Cx) (e : List Expr) (w : WGs) : Prop := ∃ t, PGs X e t ∧ SimGs X.K t w
section
variable {X : Cx} {st : Stmt} {rest : List Stmt} {w u : WS} {e tg : Expr} {we : WE} {wt : WT} {g : WG} {gs : WGs} {pos : Pos}
theorem sg_name {K : PySem.W.Frag} {i : Nat} : SimG K (gName i) (gNm i) := fun F H C σ τ x v Q Q' χ R S r h q => q _ _ H C R (Tx.refl H) (S.set r) h
theorem sg_nil {K : PySem.W.Frag} : SimGs K gNil gsNil := fun F H C σ τ x v Q Q' χ R S r h q => by
  obtain ⟨rfl, h⟩ := h
  exact ⟨of_nil r, q _ _ H C R (Tx.refl H) S h⟩
theorem sg_cons {K : PySem.W.Frag} {t : TG} {u : TGs} {g : WG} {gs : WGs} (a : SimG K t g) (b : SimGs K u gs) : SimGs K (gCons t u) (gsCons g gs) := fun F H C σ τ x v Q Q' χ R S r h q => by
  obtain ⟨v1, vs, rfl, h⟩ := h
  obtain ⟨y, ys, rfl, r1, r2⟩ := of_cons r
  refine ⟨y, ys, rfl, a F H C σ τ y v1 _ _ χ R S r1 h fun σ' τ' H' C' R' t' S' h' => ?_⟩
  exact b F H' C' σ' τ' ys vs Q Q' χ R' S' (r2.tx t') h' fun σ2 τ2 H2 C2 R2 t2 => q σ2 τ2 H2 C2 R2 (t'.trans t2)
theorem sg_tup {K : PySem.W.Frag} {u : TGs} {gs : WGs} {n : Nat} (b : SimGs K u gs) (hn : ∀ vs τ C Q χ, gs vs τ C Q χ → vs.length = n) : SimG K (gTup K n u) (gTp gs) := fun F H C σ τ x v Q Q' χ R S r h q => by
  obtain ⟨vs, rfl, h⟩ := h
  obtain ⟨a, ys, rfl, hq, rs⟩ := of_tup r
  exact ⟨a, ys, rfl, hq, by rw [rs.length]; exact hn _ _ _ _ _ h, b F H C σ τ ys vs Q Q' χ R S rs h q⟩
/-- how many a row of targets takes -/
def GsLen (n : Nat) (gs : WGs) : Prop := ∀ vs τ C Q χ, gs vs τ C Q χ → vs.length = n
theorem gl_nil : GsLen 0 gsNil := fun vs τ C Q χ h => by rw [h.1]; rfl
theorem gl_cons1 {n i : Nat} {gs : WGs} (b : GsLen n gs) : GsLen (n + 1) (gsCons (gNm i) gs) := fun vs τ C Q χ h => by
  obtain ⟨v, r, rfl, h⟩ := h
  rw [List.length_cons, b r _ _ _ _ h]
theorem dg_name {i : Nat} {x : Str} (hN : X.N.Nodup) (hi : X.N[i]? = some x := by rfl) (hx : Loc X.env.scope x := by first | exact Or.inl rfl | exact Or.inr rfl) (hf : X.fn x = true ∨ X.env.scope.names.lookup x = some .local := by first | exact .inl rfl | exact .inr rfl | assumption) : SdG X (.Name x pos) (gNm i) := ⟨_, pg_name hN hi hx hf, sg_name⟩
theorem dg_nil : SdGs X [] gsNil := ⟨_, pgs_nil, sg_nil⟩
theorem dg_cons {es : List Expr} (a : SdG X e g) (b : SdGs X es gs) (hs : (assignEach (e :: es) X.env).map (·.2) = assign e X.env :: (assignEach es X.env).map (·.2) := by rfl) : SdGs X (e :: es) (gsCons g gs) := by
  obtain ⟨t, p, s⟩ := a
  obtain ⟨t', p', s'⟩ := b
  exact ⟨_, pgs_cons p p' hs, sg_cons s s'⟩
theorem dg_tup {es : List Expr} {k n : Nat} (hc : X.calm = true) (b : SdGs X es gs) (hl : GsLen n gs) (hn : (assignEach es X.env).length = n := by rfl) (hst : (assignEach es X.env).findIdx? (·.1) = none := by rfl) : SdG X (.Tuple es k pos) (gTp gs) := by
  obtain ⟨t, p, s⟩ := b
  exact ⟨_, pg_tup hc p hn hst, sg_tup s hl⟩
theorem db_nil : SdB X [] sPass := ⟨_, pss_nil, fun F H C σ τ D D' R S h d => d.nx σ τ H C R (Tx.refl H) S h⟩
theorem db_one (a : SdS X st w) : SdB X [st] w := by
  obtain ⟨t, p, s⟩ := a
  exact ⟨_, pss_one p, s⟩
theorem db_cons (a : SdS X st w) (b : SdB X rest u) : SdB X (st :: rest) (sSeq w u) := by
  obtain ⟨t, p, s⟩ := a
  obtain ⟨t', p', s'⟩ := b
  refine ⟨_, pss_cons p p', fun F H C σ τ D D' R S h d => ?_⟩
  exact s F H C σ τ _ _ R S h ⟨fun σ' τ' H' C' R' t' S' h' => s' F H' C' σ' τ' D D' R' S' h' (d.at t'), d.rt, d.bk, d.ct⟩
theorem ds_expr (a : SdE X e we) (hs : swapsWith e none pos.line X.env = pure false := by rfl) : SdS X (.Expr e pos) (sExpr we) := by
  obtain ⟨t, p, s⟩ := a
  refine ⟨_, ps_expr p hs, fun F H C σ τ D D' R S h d => ?_⟩
  exact s F H C σ τ _ _ D'.xc R S h fun x v H1 C1 R1 t1 rx h1 => d.nx σ τ H1 C1 R1 t1 (S.tx t1) h1
theorem ds_ret (a : SdE X e we) : SdS X (.Return (some e) pos) (sRet we) := by
  obtain ⟨t, p, s⟩ := a
  refine ⟨_, ps_ret p, fun F H C σ τ D D' R S h d => ?_⟩
  exact s F H C σ τ _ _ D'.xc R S h d.rt
theorem ds_if {c : Expr} {a b : List Stmt} {wa wb : WS} (hc : SdT X c wt) (ha : SdB X a wa) (hb : SdB X b wb) : SdS X (.If c a b pos) (sIf wt wa wb) := by
  obtain ⟨t, p, s⟩ := hc
  obtain ⟨t1, p1, s1⟩ := ha
  obtain ⟨t2, p2, s2⟩ := hb
  refine ⟨_, ps_if p p1 p2, fun F H C σ τ D D' R S h d => ?_⟩
  refine s F H C σ τ _ _ D'.xc R S h fun k H1 C1 R1 t1 h1 => ?_
  cases k with
  | true => exact s1 F H1 C1 σ τ D D' R1 (S.tx t1) h1 (d.at t1)
  | false => exact s2 F H1 C1 σ τ D D' R1 (S.tx t1) h1 (d.at t1)
theorem ds_asg (he : SdE X e we) (hg : SdG X tg g) (hs : swapsWithSole [tg] e pos.line X.env = pure false := by rfl) (hw : swappedStores [tg] e X.env = pure none := by rfl)
    (h1 : (assignEach [tg] X.env).map (·.2) = [assign tg X.env] := by rfl) : SdS X (.Assign [tg] e pos) (sAsg we g) := by
  obtain ⟨t, p, s⟩ := he
  obtain ⟨t', p', s'⟩ := hg
  refine ⟨_, ps_asg p p' hs hw h1, fun F H C σ τ D D' R S h d => ?_⟩
  refine s F H C σ τ _ _ D'.xc R S h fun x v H1 C1 R1 t1 rx h1 => ?_
  exact s' F H1 C1 σ τ x v _ _ D'.xc R1 (S.tx t1) rx h1 fun σ' τ' H' C' R' t' => d.nx σ' τ' H' C' R' (t1.trans t')
theorem ds_set {i : Nat} {x : Str} {pos' : Pos} (hN : X.N.Nodup) (he : SdE X e we) (hi : X.N[i]? = some x := by rfl) (hx : Loc X.env.scope x := by first | exact Or.inl rfl | exact Or.inr rfl) (hs : swapsWith e (some (.Name x pos')) pos.line X.env = pure false := by rfl)
    (hf : X.fn x = true ∨ X.env.scope.names.lookup x = some .local := by first | exact .inl rfl | exact .inr rfl | assumption) : SdS X (.Assign [.Name x pos'] e pos) (sAsg we (gNm i)) := by
  obtain ⟨t, p, s⟩ := he
  refine ⟨_, ps_set hN hi hx p hs hf, fun F H C σ τ D D' R S h d => ?_⟩
  refine s F H C σ τ _ _ D'.xc R S h fun x v H1 C1 R1 t1 rx h1 => ?_
  exact sg_name F H1 C1 σ τ x v _ _ D'.xc R1 (S.tx t1) rx h1 fun σ' τ' H' C' R' t' => d.nx σ' τ' H' C' R' (t1.trans t')
end
/-! ### what is walked -/
/-- the iterator gives these items, as long as ok holds -/
def ItRel (K : PySem.W.Frag) (F H0 : Hp) (J : It) (xs : List T) (ok : Hw → Prop) : Prop := ∀ (i : Nat) (H : Hp) (C : Hw), Rl K F H C → Tx H0 H → ok C →
  (i < xs.length → J.go i H ∧ ∀ x H', J.yld i H x H' → ∃ v, xs[i]? = some v ∧ Rl K F H' C ∧ Tx H H' ∧ Rep K H' x v) ∧ (i = xs.length → J.stop i H)
def SimI (K : PySem.W.Frag) (wi : TI) (w : WI) : Prop := ∀ (F H : Hp) (C : Hw) (σ : L2.St) (τ : Sw) (R : It → Hp → Prop) (R' : List T → (Hw → Prop) → Hw → Prop) (χ : WX), Rl K F H C → RepS K H σ τ → w τ C R' χ →
  (∀ J H' xs ok C', Rl K F H' C' → Tx H H' → (∀ F', ItRel K F' H' J xs ok) → R' xs ok C' → R J H') → wi σ H R
def SdI (X : Cx) (tg e : Expr) (w : WI) : Prop := ∃ t, PI X tg e t ∧ SimI X.K t w
section
variable {X : Cx} {tg e a b : Expr} {we : WE} {wA : WA} {pos p : Pos}
theorem it_list {K : PySem.W.Frag} {F H0 : Hp} {l : Addr} {xs : List T} : ItRel K F H0 (Itl K l) xs (fun C => C l = some (.lst xs)) := fun i H C R t ok => by
  obtain ⟨ys, hy, r⟩ := R.lst ok
  refine ⟨fun hi => ?_, fun hi => ⟨ys, SqL.of hy, by rw [r.length]; omega⟩⟩
  have ev : xs[i]? = some xs[i] := by simp [hi]
  obtain ⟨y, ey, ry⟩ := r.get ev
  refine ⟨⟨ys, y, SqL.of hy, ey⟩, fun x H' h => ?_⟩
  obtain ⟨rfl, h⟩ := h
  have e2 := h ys (SqL.of hy)
  rw [ey] at e2; cases e2
  exact ⟨_, ev, R, Tx.refl _, ry⟩
theorem it_cl {K : PySem.W.Frag} {F H0 : Hp} {l : Addr} {ys : List V} {xs : List T} (h0 : SqC K H0 l ys) (r0 : Reps K H0 ys xs) : ItRel K F H0 (Itl K l) xs (fun _ => True) := fun i H C R t ok => by
  have hy := (t.sqc h0).sq
  have r := r0.tx t
  refine ⟨fun hi => ?_, fun hi => ⟨ys, hy, by rw [r.length]; omega⟩⟩
  have ev : xs[i]? = some xs[i] := by simp [hi]
  obtain ⟨y, ey, ry⟩ := r.get ev
  refine ⟨⟨ys, y, hy, ey⟩, fun x H' h => ?_⟩
  obtain ⟨rfl, h⟩ := h
  have e2 := h ys hy
  rw [ey] at e2; cases e2
  exact ⟨_, ev, R, Tx.refl _, ry⟩
theorem it_tup {K : PySem.W.Frag} {F H0 : Hp} {l : Addr} {ys : List V} {xs : List T} (h0 : SqT K H0 l ys) (r0 : Reps K H0 ys xs) : ItRel K F H0 (Itt K l) xs (fun _ => True) := fun i H C R t ok => by
  have hy := t.sqt h0
  have r := r0.tx t
  refine ⟨fun hi => ?_, fun hi => ⟨ys, hy, by rw [r.length]; omega⟩⟩
  have ev : xs[i]? = some xs[i] := by simp [hi]
  obtain ⟨y, ey, ry⟩ := r.get ev
  refine ⟨⟨ys, y, hy, ey⟩, fun x H' h => ?_⟩
  obtain ⟨rfl, h⟩ := h
  have e2 := h ys hy
  rw [ey] at e2; cases e2
  exact ⟨_, ev, R, Tx.refl _, ry⟩
theorem it_str {K : PySem.W.Frag} {F H0 : Hp} {z : Str} : ItRel K F H0 (Its z) (z.cps.toList.map fun c => T.str ⟨#[c]⟩) (fun _ => True) := fun i H C R t ok => by
  refine ⟨fun hi => ⟨by show i < z.cps.size; simpa using hi, fun x H' h => ?_⟩, fun hi => by show i = z.cps.size; simpa using hi⟩
  obtain ⟨rfl, c, hc, rfl⟩ := h
  refine ⟨.str ⟨#[c]⟩, ?_, R, Tx.refl _, rep_str⟩
  rw [List.getElem?_map, Array.getElem?_toList, hc]; rfl
theorem it_rng {K : PySem.W.Frag} {F H0 : Hp} {lo : Int} {n : Nat} : ItRel K F H0 (Itr lo n) (rng lo n) (fun _ => True) := fun i H C R t ok => by
  have hl : (rng lo n).length = n := by unfold rng; simp
  refine ⟨fun hi => ⟨by rw [hl] at hi; exact hi, fun x H' h => ?_⟩, fun hi => by show n ≤ i; omega⟩
  obtain ⟨rfl, rfl⟩ := h
  refine ⟨.int (lo + i), ?_, R, Tx.refl _, rep_int⟩
  unfold rng
  rw [hl] at hi
  rw [List.getElem?_map, List.getElem?_range hi]; rfl
theorem str_iter {pins : List (Addr × Obj)} {σ : L2.St} {H1 : Hp} {s1 : Shared} {R : It → Hp → Prop} {z : Str} {v : Value} (I1 : Inv X pins σ H1 s1) (r1 : RelV (.str z) v) (q : R (Its z) H1) : wpAny (model X.prog X.w) X.A (pyIter v) (PIE X pins σ tg R) X.xe s1 := by
  obtain ⟨t, rfl⟩ := r1
  have fin : ∀ b ∈ [s1.heap.objs.size], FpOk X pins H1 b := fun b hb => by
    have e : b = s1.heap.objs.size := by simpa using hb
    subst e
    exact I1.fpOk (Nat.le_refl _) I1.fresh
  cases ha : z.cps.all (· < 128)
  · refine wpAny_pyIter_wide ha ⟨s1.heap.objs.size, [s1.heap.objs.size], _, _, H1, rfl, I1.kept (t' := s1.toks) fun b o e => Heap.get?_push_of_some _ e, turn_walks (ty := "str_iterator") (by decide) (fun A hA => Walks.strWide hA _ z t) fun _ _ _ _ _ st h => wpAny_pyIter_striter_wide st h, ⟨_, Heap.get?_push_size _ rfl, rfl, rfl⟩, fin, q⟩
  · refine wpAny_pyIter_ascii ha ⟨s1.heap.objs.size, [s1.heap.objs.size], _, _, H1, rfl, I1.kept (t' := s1.toks) fun b o e => Heap.get?_push_of_some _ e, turn_walks (ty := "str_ascii_iterator") (by decide) (fun A hA => Walks.strAscii hA _ z t) fun _ _ _ _ _ st h => wpAny_pyIter_striter_ascii st h, ⟨_, Heap.get?_push_size _ rfl, rfl, rfl⟩, fin, q⟩
/-- a list, a tuple or a text, whichever it is -/
def iDyn (K : PySem.W.Frag) (tl : TE) : TI := fun σ H R => tl σ H fun x H1 => (∃ a, x = .ref a ∧ (∃ xs, SqL K H1 a xs) ∧ R (Itl K a) H1) ∨ (∃ a, x = .ref a ∧ (∃ xs, SqT K H1 a xs) ∧ R (Itt K a) H1) ∨ ∃ z, x = .str z ∧ R (Its z) H1
theorem pi_dyn {tl : TE} (hl : PE X e tl) : PI X tg e (iDyn X.K tl) := by
  intro pins s σ H R I h
  refine thn (hl pins s σ H _ I h) fun v s1 ⟨x, H1, I1, r1, q1⟩ => ?_
  rcases q1 with ⟨a, rfl, ⟨xs, hq⟩, q⟩ | ⟨a, rfl, ⟨xs, hq⟩, q⟩ | ⟨z, rfl, q⟩
  · cases r1
    obtain ⟨its, rv, p, hz⟩ := I1.list hq
    refine wpAny_pyIter_list p.isList ?_
    refine ⟨s1.heap.objs.size, [s1.heap.objs.size], _, _, H1, rfl, I1.kept (t' := s1.toks) fun b o e => Heap.get?_push_of_some _ e, turn_list a _, ⟨_, Heap.get?_push_size _ rfl, rfl, rfl⟩, fun b hb => ?_, q⟩
    have e : b = s1.heap.objs.size := by simpa using hb
    subst e
    exact I1.fpOk (Nat.le_refl _) (I1.hok.fresh (Nat.le_refl _))
  · cases r1
    obtain ⟨its, rv, p, hz⟩ := I1.tuple hq
    refine wpAny_pyIter_tuple (show s1.heap.IsTuple a its.toArray from p) ?_
    refine ⟨s1.heap.objs.size, [s1.heap.objs.size], _, _, H1, rfl, I1.kept (t' := s1.toks) fun b o e => Heap.get?_push_of_some _ e, turn_tuple a _, ⟨_, Heap.get?_push_size _ rfl, rfl, rfl⟩, fun b hb => ?_, q⟩
    have e : b = s1.heap.objs.size := by simpa using hb
    subst e
    exact I1.fpOk (Nat.le_refl _) (I1.hok.fresh (Nat.le_refl _))
  · exact str_iter I1 r1 q
theorem di_seq (h : SdE X e we) : SdI X tg e (iSeq we) := by
  obtain ⟨t, p, s⟩ := h
  refine ⟨_, pi_dyn p, fun F H C σ τ R R' χ Rr S h q => ?_⟩
  refine s F H C σ τ _ _ χ Rr S h fun x v H1 C1 R1 t1 rx h1 => ?_
  cases v with
  | tup xs =>
    obtain ⟨a, ys, rfl, hq, r⟩ := of_tup rx
    exact .inr (.inl ⟨a, rfl, ⟨ys, hq⟩, q _ H1 xs _ C1 R1 t1 (fun _ => it_tup hq r) h1⟩)
  | cl xs =>
    obtain ⟨a, ys, rfl, hq, r⟩ := of_cl rx
    exact .inl ⟨a, rfl, ⟨ys, hq.sq⟩, q _ H1 xs _ C1 R1 t1 (fun _ => it_cl hq r) h1⟩
  | str z => cases of_str rx; exact .inr (.inr ⟨z, rfl, q _ H1 _ _ C1 R1 t1 (fun _ => it_str) h1⟩)
  | ref a =>
    cases of_ref rx
    obtain ⟨xs, hx, h1⟩ := h1
    obtain ⟨ys, hy, r⟩ := R1.lst hx
    exact .inl ⟨a, rfl, ⟨ys, SqL.of hy⟩, q _ H1 xs _ C1 R1 t1 (fun _ => it_list) h1⟩
  | _ => exact False.elim h1
theorem di_r1 (hg : Gl X "range") (hm : X.mg "range" = none) (ha : SdA X [a] wA) (hs : starEach [a] X.env = [(false, eval a X.env)] := by rfl) : SdI X tg (.Call (.Name "range" p) [a] [] pos) (iR1 wA) := by
  obtain ⟨t, p1, s⟩ := ha
  refine ⟨_, pi_range1 hg hm p1 hs, fun F H C σ τ R R' χ Rr S h q => ?_⟩
  refine s F H C σ τ _ _ χ Rr S h fun xs vs H1 C1 R1 t1 rs h1 => ?_
  obtain ⟨j, rfl, h2, h3, h1⟩ := h1
  obtain ⟨x, rfl, rx⟩ := of_one rs
  cases of_int rx
  exact ⟨j, rfl, h2, h3, q _ H1 _ _ C1 R1 t1 (fun _ => it_rng) h1⟩
end
/-! ### for -/
theorem sim_for {K : PySem.W.Frag} {wi : TI} {g : TG} {tb : TS} {i : WI} {g' : WG} {b : WS} (hi : SimI K wi i) (hg : SimG K g g') (hb : SimS K tb b) : SimS K (tFor wi g tb) (sFor i g' b) := fun F H C σ τ D D' R S h d => by
  refine hi F H C σ τ _ _ D'.xc R S h fun J H1 xs ok C1 R1 t1 it h1 => ?_
  have it1 := it F
  refine ⟨fun i m σ H => m = xs.length - i ∧ i ≤ xs.length ∧ ∃ τ C, Rl K F H C ∧ Tx H1 H ∧ RepS K H σ τ ∧ forW g' b ok D' (xs.drop i) τ C, ⟨xs.length, by simp, Nat.zero_le _, τ, C1, R1, Tx.refl _, S.tx t1, h1⟩, ?_⟩
  rintro i m σ2 H2 ⟨rfl, hle, τ2, C2, R2, t2, S2, h2⟩
  by_cases hlt : i < xs.length
  · right
    have ed : xs.drop i = xs[i] :: xs.drop (i + 1) := List.drop_eq_getElem_cons hlt
    rw [ed] at h2
    obtain ⟨hok, h2⟩ := h2
    obtain ⟨hgo, hy⟩ := (it1 i H2 C2 R2 t2 hok).1 hlt
    refine ⟨hgo, fun σ' H' => ∃ τ' C', Rl K F H' C' ∧ Tx H1 H' ∧ RepS K H' σ' τ' ∧ forW g' b ok D' (xs.drop (i + 1)) τ' C', fun σ' H' q => ⟨xs.length - (i + 1), by omega, rfl, hlt, q⟩, fun x H' hx => ?_⟩
    obtain ⟨v, ev, R3, t3, rv⟩ := hy x H' hx
    have : v = xs[i] := by
      have e : xs[i]? = some xs[i] := by simp [hlt]
      rw [e] at ev; exact (Option.some.inj ev).symm
    subst this
    refine hg F H' C2 σ2 τ2 x _ _ _ D'.xc R3 (S2.tx t3) rv h2 fun σ4 τ4 H4 C4 R4 t4 S4 h4 => ?_
    have tt : Tx H1 H4 := (t2.trans t3).trans t4
    exact hb F H4 C4 σ4 τ4 _ _ R4 S4 h4 ⟨fun σ5 τ5 H5 C5 R5 t5 S5 h5 => ⟨τ5, C5, R5, tt.trans t5, S5, h5⟩, fun x v H5 C5 R5 t5 => d.rt x v H5 C5 R5 ((t1.trans tt).trans t5), fun σ5 τ5 H5 C5 R5 t5 S5 h5 => d.nx σ5 τ5 H5 C5 R5 ((t1.trans tt).trans t5) S5 h5,
      fun σ5 τ5 H5 C5 R5 t5 S5 h5 => ⟨τ5, C5, R5, tt.trans t5, S5, h5⟩⟩
  · left
    have e : i = xs.length := by omega
    subst e
    rw [List.drop_length] at h2
    obtain ⟨hok, h2⟩ := h2
    exact ⟨(it1 _ H2 C2 R2 t2 hok).2 rfl, d.nx σ2 τ2 H2 C2 R2 (t1.trans t2) S2 h2⟩
theorem ds_for {X : Cx} {tg iter : Expr} {body : List Stmt} {i : WI} {g : WG} {b : WS} {pos : Pos} (hp : PassesOwn (model X.prog X.w) X.A X.env X.xe) (hc : X.calm = true) (hi : SdI X tg iter i) (hg : SdG X tg g) (hb : SdB X body b)
    (hs : ∀ x, foldedSetIterable iter X.env x = pure x := by intro _; rfl) : SdS X (.For tg iter body [] pos) (sFor i g b) := by
  obtain ⟨t, p, s⟩ := hi
  obtain ⟨t', p', s'⟩ := hg
  obtain ⟨t2, p2, s2⟩ := hb
  exact ⟨_, ps_for hp hc p p' p2 hs, sim_for s s' s2⟩
end WL
set_option Elab.async false
set_option linter.all false
set_option maxRecDepth 100000
set_option maxHeartbeats 4000000
namespace WL
open PySem PySem.Spec PyProof.Rows L2
/-! ### comprehensions -/
def tOf (K : PySem.W.Frag) (we : WE) : TE := fun σ H Q => ∃ (F : Hp) (C : Hw) (τ : Sw) (Q' : WK) (χ : WX), Rl K F H C ∧ RepS K H σ τ ∧ we τ C Q' χ ∧ QE K F H Q Q'
def ttOf (K : PySem.W.Frag) (wt : WT) : TT := fun σ H Q => ∃ (F : Hp) (C : Hw) (τ : Sw) (Q' : Bool → Hw → Prop) (χ : WX), Rl K F H C ∧ RepS K H σ τ ∧ wt τ C Q' χ ∧ QT K F H Q Q'
theorem SdE.pe {X : Cx} {e : Expr} {we : WE} (h : SdE X e we) : PE X e (tOf X.K we) := by
  obtain ⟨t, p, s⟩ := h
  intro pins st σ H Q I hq
  obtain ⟨F, C, τ, Q', χ, R, S, hw, q⟩ := hq
  exact p pins st σ H Q I (s F H C σ τ Q Q' χ R S hw q)
def SdIf (X : Cx) (ifs : List Expr) (w : WT) : Prop := ∃ t, PIfs X ifs t ∧ SimT X.K t w
theorem dif_nil {X : Cx} : SdIf X [] tYes := ⟨_, pif_nil, fun F H C σ τ Q Q' χ R S h q => q true H C R (Tx.refl H) h⟩
theorem dif_one {X : Cx} {e : Expr} {wt : WT} (h : SdT X e wt) : SdIf X [e] wt := by
  obtain ⟨t, p, s⟩ := h
  exact ⟨t, pif_one p, s⟩
theorem SdIf.pif {X : Cx} {ifs : List Expr} {w : WT} (h : SdIf X ifs w) : PIfs X ifs (ttOf X.K w) := by
  obtain ⟨t, p, s⟩ := h
  intro pins st σ H Q I hq
  obtain ⟨F, C, τ, Q', χ, R, S, hw, q⟩ := hq
  exact p pins st σ H Q I (s F H C σ τ Q Q' χ R S hw q)
theorem RepS.cap {K : PySem.W.Frag} {H : Hp} {σ : L2.St} {τ : Sw} (h : RepS K H σ τ) (cap : List (Option Nat)) : RepS K H (capS cap σ) (capW cap τ) := by
  refine ⟨by unfold capS capW; rw [List.length_map, List.length_map], fun i v e => ?_⟩
  unfold capW at e
  unfold capS
  rw [List.getElem?_map] at e ⊢
  cases ho : cap[i]? with
  | none => rw [ho] at e; cases e
  | some o =>
    rw [ho] at e
    cases o with
    | none => simp at e
    | some j =>
      have e' : (τ[j]?).join = some v := by simpa using e
      have e2 : τ[j]? = some (some v) := by
        cases hj : τ[j]? with
        | none => rw [hj] at e'; cases e'
        | some z => rw [hj] at e'; rw [show z = some v from e']
      obtain ⟨x, hx, r⟩ := h.2 j v e2
      exact ⟨x, by simp [hx], r⟩
/-- the frame with the list that grows -/
def frP (F : Hp) (p : Addr) (ys : List V) : Hp := fun b => if b = p then some (.lst ys) else F b
theorem frP_same {F : Hp} {p : Addr} {ys : List V} : frP F p ys p = some (.lst ys) := by unfold frP; rw [if_pos rfl]
theorem frP_ne {F : Hp} {p b : Addr} {ys : List V} (h : b ≠ p) : frP F p ys b = F b := by unfold frP; rw [if_neg h]
theorem sim_comp {K : PySem.W.Frag} {cap : List (Option Nat)} {wi : TI} {g : TG} {i : WI} {wg : WG} {wc : WT} {we : WE} (hi : SimI K wi i) (hg : SimG K g wg) {F H : Hp} {C : Hw} {σ : L2.St} {τ : Sw} {Q : Addr → Hp → Prop} {Q' : WK} {χ : WX}
    (R : Rl K F H C) (S : RepS K H σ τ) (h : eComp cap i wg wc we τ C Q' χ) (q : ∀ p H' C', Rl K F H' C' → Tx H H' → Q' (.ref p) C' → Q p H') : tCompL cap wi g (ttOf K wc) (tOf K we) σ H Q := by
  refine hi F H C σ τ _ _ χ R S h fun J H1 xs ok C1 R1 t1 it h1 => ?_
  intro p hp
  have hn : ∀ a o, F a = some o → a ≠ p := fun a o e => ne_of_none (R1.frm a o e).1 hp
  refine ⟨fun i m H2 => m = xs.length - i ∧ i ≤ xs.length ∧ ∃ C2 ys acc, Rl K (frP F p ys) H2 C2 ∧ Tx H1 H2 ∧ Reps K H2 ys acc ∧ compW wg wc we ok (capW cap τ) (fun vs C2 => ∀ p, C2 p = none → Q' (.ref p) (up C2 p (.lst vs))) χ (xs.drop i) acc C2,
    ⟨xs.length, by simp, Nat.zero_le _, C1, [], [], ?_, Tx.new hp, reps_nil, h1⟩, ?_⟩
  · refine ⟨(R1.hid hp).obj, fun a o e => ?_⟩
    by_cases ea : a = p
    · subst ea
      rw [frP_same] at e; cases e
      exact ⟨upd_same, R1.free hp⟩
    · rw [frP_ne ea] at e
      exact (R1.hid hp).frm a o e
  rintro i m H2 ⟨rfl, hle, C2, ys, acc, R2, t2, ra, h2⟩
  by_cases hlt : i < xs.length
  · right
    have ed : xs.drop i = xs[i] :: xs.drop (i + 1) := List.drop_eq_getElem_cons hlt
    rw [ed] at h2
    obtain ⟨hok, h2⟩ := h2
    obtain ⟨hgo, hy⟩ := (it (frP F p ys) i H2 C2 R2 t2 hok).1 hlt
    refine ⟨hgo, fun H' => ∃ C2 ys acc, Rl K (frP F p ys) H' C2 ∧ Tx H1 H' ∧ Reps K H' ys acc ∧ compW wg wc we ok (capW cap τ) (fun vs C2 => ∀ p, C2 p = none → Q' (.ref p) (up C2 p (.lst vs))) χ (xs.drop (i + 1)) acc C2,
      fun H' z => ⟨xs.length - (i + 1), by omega, rfl, hlt, z⟩, fun x H' hx => ?_⟩
    obtain ⟨v, ev, R3, t3, rv⟩ := hy x H' hx
    have : v = xs[i] := by
      have e : xs[i]? = some xs[i] := by simp [hlt]
      rw [e] at ev; exact (Option.some.inj ev).symm
    subst this
    have S3 : RepS K H' (capS cap σ) (capW cap τ) := (S.tx ((t1.trans t2).trans t3)).cap cap
    refine hg (frP F p ys) H' C2 (capS cap σ) (capW cap τ) x _ _ _ χ R3 S3 rv h2 fun σ4 τ4 H4 C4 R4 t4 S4 h4 => ?_
    refine ⟨frP F p ys, C4, τ4, _, χ, R4, S4, h4, fun b H5 C5 R5 t5 h5 => ?_⟩
    have t15 : Tx H2 H5 := (t3.trans t4).trans t5
    cases b with
    | true =>
      refine ⟨frP F p ys, C5, τ4, _, χ, R5, S4.tx t5, h5, fun y vy H6 C6 R6 t6 ry h6 => ?_⟩
      obtain ⟨e6, n6⟩ := R6.frm p _ frP_same
      have tp : Tx H6 (upd H6 p (.lst (ys ++ [y]))) := Tx.put e6 (fun z => z)
      refine ⟨ys, e6, by rw [ra.length]; exact h6.1, C6, ys ++ [y], acc ++ [vy], ⟨fun a o e => ?_, fun a o e => ?_⟩, (t2.trans (t15.trans t6)).trans tp, ((ra.tx (t15.trans t6)).snoc ry).tx tp, h6.2⟩
      · have ea : a ≠ p := fun z => by subst z; rw [n6] at e; cases e
        exact (R6.obj a o e).stay tp (upd_ne ea)
      · by_cases ea : a = p
        · subst ea
          rw [frP_same] at e; cases e
          exact ⟨upd_same, n6⟩
        · rw [frP_ne ea] at e
          rw [upd_ne ea]
          exact R6.frm a o (by rw [frP_ne ea]; exact e)
    | false => exact ⟨C5, ys, acc, R5, t2.trans t15, ra.tx t15, h5⟩
  · left
    have e : i = xs.length := by omega
    subst e
    rw [List.drop_length] at h2
    obtain ⟨hok, h2⟩ := h2
    refine ⟨(it (frP F p ys) _ H2 C2 R2 t2 hok).2 rfl, ?_⟩
    obtain ⟨e6, n6⟩ := R2.frm p _ frP_same
    refine q p H2 (up C2 p (.lst acc)) ⟨fun a o e => ?_, fun a o e => ?_⟩ (t1.trans t2) (h2 p n6)
    · by_cases ea : a = p
      · subst ea
        rw [up_same] at e; cases e
        exact ⟨ys, e6, ra⟩
      · rw [up_ne ea] at e
        exact R2.obj a o e
    · have ea := hn a o e
      rw [up_ne ea]
      exact R2.frm a o (by rw [frP_ne ea]; exact e)
section
variable {X : Cx} {tg iter elt : Expr} {ifs : List Expr} {scope : Scope} {pos : Pos} {cN : List Str} {cap : List (Option Nat)} {cl : List (Str × Addr)} {js : List Nat} {i : WI} {g : TG} {wg : WG} {wc : WT} {we : WE}
theorem ttOf_mono {K : PySem.W.Frag} {w : WT} : ∀ (σ : L2.St) (H : Hp) (Q Q' : Bool → Hp → Prop), (∀ b H', Q b H' → Q' b H') → ttOf K w σ H Q → ttOf K w σ H Q' := fun σ H Q Q' m h => by
  obtain ⟨F, C, τ, R', χ, R, S, hw, q⟩ := h
  exact ⟨F, C, τ, R', χ, R, S, hw, fun b H' C' r t h => m _ _ (q b H' C' r t h)⟩
/-- what is asked of a comprehension -/
structure CompD (X : Cx) (tg iter elt : Expr) (ifs : List Expr) (scope : Scope) (cN : List Str) (cap : List (Option Nat)) (cl : List (Str × Addr)) (js : List Nat) (i : WI) (g : TG) (wg : WG) (wc : WT) (we : WE) : Prop where
  calm : X.calm = true
  ok : X.Ok → CompOk X cN cap scope cl
  it : SdI X tg iter i
  tgt : ∀ fp s H, PG (cxComp X cN scope cl fp s H) tg g
  gm : TGmono g
  gk : GKeep js g
  sg : SimG X.K g wg
  js0 : ∀ j ∈ js, (cap[j]?).join = none
  ts : ∀ fp s H, SdIf (cxComp X cN scope cl fp s H) ifs wc
  el : ∀ fp s H, SdE (cxComp X cN scope cl fp s H) elt we
  fold : ∀ x, foldedSetIterable iter X.env x = pure x
theorem d_comp (D : CompD X tg iter elt ifs scope cN cap cl js i g wg wc we) : SdE X (.ListComp elt [⟨tg, iter, ifs, 0⟩] scope pos) (eComp cap i wg wc we) := by
  obtain ⟨wi, p, s⟩ := D.it
  have P : CompP X tg iter elt ifs scope cN cap cl js wi g (ttOf X.K wc) (tOf X.K we) := ⟨D.calm, D.ok, p, D.tgt, D.gm, D.gk, D.js0, fun fp s H => (D.ts fp s H).pif, ttOf_mono, fun fp s H => (D.el fp s H).pe, D.fold⟩
  exact ⟨_, pe_comp P, fun F H C σ τ Q Q' χ R S h q => sim_comp s D.sg R S h fun p H' C' R' t' h' => q _ _ H' C' R' t' rep_ref h'⟩
end
theorem hu150 {A : Around} {k : Nat} (hr : Room k A) : A.units + 150 < cLine := by have := hr.un; omega
/-! ### calls of own defs -/
def spW (K : PySem.W.Frag) (pr : List Df) (n i : Nat) : Sp := fun vs H Q _ => ∃ (F : Hp) (C : Hw) (vs' : List T) (Q' : WK) (χ : WX), Rl K F H C ∧ Reps K H vs vs' ∧ wpc pr n i vs' C Q' χ ∧ QE K F H Q Q'
theorem d_call {X : Cx} {k i : Nat} {x : Str} {ps : List Str} {pr : List Df} {p pos : Pos} {e : Expr} {es : List Expr} {wA : WA} (Cc : Ca X.prog X.w X.K X.mg X.base k x ps (spW X.K pr k i)) (hr : Room k X.A) (hg : Gl X x) (ha : SdA X (e :: es) wA)
    (hdb : (x == ("__debug__" : Str)) = false := by decide) (he : starEach (e :: es) X.env = (false, eval e X.env) :: starEach es X.env := by rfl) (hpl : (backTo pos (starEach es X.env)).any (·.1) = false := by rfl) :
    SdE X (.Call (.Name x p) (e :: es) [] pos) (eCall (wpc pr k) i wA) := by
  obtain ⟨t, p1, s⟩ := ha
  refine ⟨_, pe_ca Cc hr hg p1 hdb he hpl, fun F H C σ τ Q Q' χ R S h q => ?_⟩
  refine s F H C σ τ _ _ χ R S h fun xs vs H1 C1 R1 t1 rs h1 => ?_
  refine ⟨F, C1, vs, Q', χ, R1, ?_, h1, QE.at q t1⟩
  rw [List.append_nil]; exact rs
theorem RepS.start {K : PySem.W.Frag} {H : Hp} {vs : List V} {vs' : List T} (h : Reps K H vs vs') (N : List Str) (m : Nat) (e : m = N.length - vs.length) : RepS K H (start N vs) (vs'.map some ++ List.replicate m none) := by
  refine ⟨?_, fun i v hv => ?_⟩
  · unfold L2.start
    rw [List.length_append, List.length_append, List.length_map, List.length_map, List.length_replicate, List.length_replicate, h.length, e, h.length]
  · unfold L2.start
    by_cases hi : i < vs'.length
    · rw [List.getElem?_append_left (by rw [List.length_map]; exact hi), List.getElem?_map] at hv
      cases hg : vs'[i]? with
      | none => rw [hg] at hv; cases hv
      | some z =>
        rw [hg] at hv
        cases hv
        obtain ⟨x, hx, r⟩ := h.get hg
        refine ⟨x, ?_, r⟩
        rw [List.getElem?_append_left (by rw [List.length_map, h.length]; exact hi), List.getElem?_map, hx]
        rfl
    · rw [List.getElem?_append_right (by rw [List.length_map]; omega), List.getElem?_replicate] at hv
      split at hv
      · cases hv
      · cases hv
theorem ca_zero {P : Program} {w : World} {K : PySem.W.Frag} {mg : Str → Option Value} {base : Heap} {x : Str} {st : Stmt} {f : Addr} {fd : FuncData} {ps : List Str} {pr : List Df} {i : Nat} (F : Fun K x x st f fd) (hb : Binds K fd ps []) (hm : mg x = some (.ref f)) : Ca P w K mg base 0 x ps (spW K pr 0 i) :=
  ⟨f, fd, ⟨fun vs H Q E h => by obtain ⟨_, _, _, _, _, _, _, z, _⟩ := h; exact z.elim, fun A outer s H args us vs Q E _ _ _ _ h => by obtain ⟨_, _, _, _, _, _, _, z, _⟩ := h; exact z.elim⟩, hb, F.kp, hm⟩
theorem ca_succ {P : Program} {w : World} {K : PySem.W.Frag} {mg : Str → Option Value} {base : Heap} {x : Str} {st : Stmt} {f : Addr} {fd : FuncData} {ps : List Str} {sp : Sp} {n : Nat} (F : Fun K x x st f fd) (hb : Binds K fd ps []) (hm : mg x = some (.ref f)) (G : FnOk P w K mg base CX0 n f fd ps sp) : Ca P w K mg base n x ps sp :=
  ⟨f, fd, G, hb, F.kp, hm⟩
/-- the law's own promise, from what it does at the script -/
theorem law_sp {K : PySem.W.Frag} {pr : List Df} {n i : Nat} {H : Hp} {a : Addr} {ns : List Int} (hO : Only H) (hS : SqL K H a (ns.map V.int)) (h : wpc pr n i [.cl (ns.map T.int)] (fun _ => none) (fun v _ => v = .bl true) (fun _ _ => False)) :
    spW K pr n i [.ref a] H (fun v _ => v = .bl true) (fun _ _ _ => False) := by
  have hq : SqC K H a (ns.map V.int) := by
    rcases hS with (h | ⟨o, h⟩) | h
    · rcases hO a with e | ⟨o, xs, e⟩
      · rw [e] at h; cases h
      · rw [e] at h; cases h
    · exact .inl ⟨o, h⟩
    · exact .inr h
  refine ⟨fun _ => none, fun _ => none, [.cl (ns.map T.int)], _, _, ⟨(fun _ _ e => by cases e), (fun _ _ e => by cases e)⟩, reps_cons ?_ reps_nil, h, fun x v H' C' R t r e => ?_⟩
  · unfold Rep
    exact ⟨a, _, rfl, hq, reps_ints ns⟩
  · subst e; exact of_bl r
end WL
set_option Elab.async false
set_option linter.all false
set_option maxRecDepth 100000
set_option maxHeartbeats 4000000
namespace L2
open PySem PySem.Spec PyProof.Rows
/-! ### lists of pairs as tables -/
section
variable {κ : Type} [DecidableEq κ]
def valV (kvs : List (κ × V)) (k : κ) : Option V := (kvs.find? fun kv => decide (kv.1 = k)).map (·.2)
/-- in its place, or at the end -/
def putK (kvs : List (κ × V)) (k : κ) (v : V) : List (κ × V) :=
  if (kvs.any fun kv => decide (kv.1 = k)) = true then kvs.map (fun kv => if kv.1 = k then (kv.1, v) else kv) else kvs ++ [(k, v)]
def dropK (kvs : List (κ × V)) (k : κ) : List (κ × V) := kvs.filter fun kv => decide (kv.1 ≠ k)
theorem valV_pos {p : κ × V} {r : List (κ × V)} {k : κ} (e : p.1 = k) : valV (p :: r) k = some p.2 := by simp [valV, List.find?_cons, e]
theorem valV_neg {p : κ × V} {r : List (κ × V)} {k : κ} (e : ¬ p.1 = k) : valV (p :: r) k = valV r k := by simp [valV, List.find?_cons, e]
theorem valV_any (k : κ) : ∀ kvs : List (κ × V), (kvs.any fun kv => decide (kv.1 = k)) = (valV kvs k).isSome
  | [] => rfl
  | p :: r => by
    rw [List.any_cons]
    by_cases e : p.1 = k
    · simp only [valV_pos e, decide_eq_true e, Bool.true_or, Option.isSome_some]
    · rw [valV_neg e, decide_eq_false e, Bool.false_or]; exact valV_any k r
theorem length_putK (kvs : List (κ × V)) (k : κ) (v : V) : (putK kvs k v).length ≤ kvs.length + 1 := by
  unfold putK
  split
  · rw [List.length_map]; omega
  · rw [List.length_append, List.length_cons, List.length_nil]; omega
theorem RelO.isSome_eq {o : Option V} {u : Option Value} (r : RelO o u) : o.isSome = u.isSome := by
  cases o with
  | none => cases u with
    | none => rfl
    | some _ => exact (show False from r).elim
  | some _ => cases u with
    | none => exact (show False from r).elim
    | some _ => rfl
theorem KV.any {kvs : List (κ × V)} {vs : List (κ × Value)} (r : KV kvs vs) (k : κ) : (kvs.any fun kv => decide (kv.1 = k)) = vs.any fun kv => decide (kv.1 = k) := by
  unfold KV at r
  induction r with
  | nil => rfl
  | cons h t ih => rw [List.any_cons, List.any_cons, ih, h.1]
theorem KV.repl {kvs : List (κ × V)} {vs : List (κ × Value)} (r : KV kvs vs) (k : κ) {y : V} {u : Value} (ry : RelV y u) :
    KV (kvs.map fun kv => if kv.1 = k then (kv.1, y) else kv) (vs.map fun kv => if kv.1 = k then (kv.1, u) else kv) := by
  unfold KV at r ⊢
  induction r with
  | nil => exact .nil
  | @cons p q ps qs h t ih =>
    rw [List.map_cons, List.map_cons]
    refine .cons ?_ ih
    obtain ⟨h1, h2⟩ := h
    by_cases e : p.1 = k
    · rw [if_pos e, if_pos (h1.symm.trans e)]; exact ⟨h1, ry⟩
    · rw [if_neg e, if_neg (fun z => e (h1.trans z))]; exact ⟨h1, h2⟩
theorem KV.put {kvs : List (κ × V)} {vs : List (κ × Value)} (r : KV kvs vs) (k : κ) {y : V} {u : Value} (ry : RelV y u) : KV (putK kvs k y) (stored vs k u) := by
  unfold putK stored
  rw [r.any k]
  by_cases e : (vs.any fun kv => decide (kv.1 = k)) = true
  · rw [if_pos e, if_pos e]; exact r.repl k ry
  · rw [if_neg e, if_neg e]; exact Paired.snoc r ⟨rfl, ry⟩
theorem KV.length {kvs : List (κ × V)} {vs : List (κ × Value)} (r : KV kvs vs) : kvs.length = vs.length := Paired.length r
end
/-! ### a tracked dict, its keys ints and texts or tuples of these -/
theorem kV_is {P : Program} {w : World} {k : Key} {u : Value} (r : RelV (kV k) u) : (mixKind P w).is k u = true := by
  cases k with
  | inl i => obtain ⟨t, e⟩ := (show ∃ t, u = Value.int i t from r); subst e; exact mixKind_int P w i t
  | inr x => obtain ⟨t, e⟩ := (show ∃ t, u = Value.str x t from r); subst e; exact mixKind_str P w x t
theorem items_are {P : Program} {w : World} : ∀ {ks : List Key} {us : List Value}, Vals (ks.map kV) us → ItemsAre (mixKind P w) ks us
  | [], _, r => by rw [List.map_nil] at r; cases r; exact .nil
  | k :: ks, _, r => by
    rw [List.map_cons] at r
    cases r with
    | cons h t => exact .cons (kV_is h) (items_are t)
/-- raw entries of a dict with tuple keys -/
abbrev KT (H : Hp) : List (List Key × V) → List (List Key × Addr × Value) → Prop := Paired fun p q => p.1 = q.1 ∧ H q.2.1 = some (.tup (p.1.map kV)) ∧ RelV p.2 q.2.2
theorem KT.val {H : Hp} {kvs : List (List Key × V)} {xs : List (List Key × Addr × Value)} (r : KT H kvs xs) (k : List Key) : RelO (valV kvs k) ((atKey xs k).map (·.2)) := by
  induction r with
  | nil => exact True.intro
  | @cons p q ps qs h t ih =>
    obtain ⟨h1, _, h2⟩ := h
    by_cases e : p.1 = k
    · have e' : q.1 = k := h1.symm.trans e
      have b : atKey (q :: qs) k = some q.2 := by simp [atKey, List.find?_cons, e']
      rw [valV_pos e, b]; exact h2
    · have e' : ¬ q.1 = k := fun z => e (h1.trans z)
      have b : atKey (q :: qs) k = atKey qs k := by simp [atKey, List.find?_cons, e']
      rw [valV_neg e, b]; exact ih
theorem KT.repl {H : Hp} {kvs : List (List Key × V)} {xs : List (List Key × Addr × Value)} (r : KT H kvs xs) (k : List Key) {y : V} {u : Value} (ry : RelV y u) :
    KT H (kvs.map fun kv => if kv.1 = k then (kv.1, y) else kv) (xs.map (putAt k u)) := by
  induction r with
  | nil => exact .nil
  | @cons p q ps qs h t ih =>
    rw [List.map_cons, List.map_cons]
    refine .cons ?_ ih
    obtain ⟨h1, h2, h3⟩ := h
    unfold putAt
    by_cases e : p.1 = k
    · rw [if_pos e, if_pos (h1.symm.trans e)]; exact ⟨h1, h2, ry⟩
    · rw [if_neg e, if_neg (fun z => e (h1.trans z))]; exact ⟨h1, h2, h3⟩
theorem KT.put {H : Hp} {kvs : List (List Key × V)} {xs : List (List Key × Addr × Value)} (r : KT H kvs xs) (k : List Key) {b : Addr} {y : V} {u : Value} (hb : H b = some (.tup (k.map kV))) (ry : RelV y u) :
    KT H (putK kvs k y) (storedH xs k b u) := by
  have e : (kvs.any fun kv => decide (kv.1 = k)) = (atKey xs k).isSome := by
    rw [valV_any, (r.val k).isSome_eq, Option.isSome_map]
  unfold putK storedH
  rw [e]
  by_cases q : (atKey xs k).isSome = true
  · rw [if_pos q, if_pos q]; exact r.repl k ry
  · rw [if_neg q, if_neg q]; exact Paired.snoc r ⟨rfl, hb, ry⟩
theorem KT.keeps {H H' : Hp} {kvs : List (List Key × V)} {xs : List (List Key × Addr × Value)} (r : KT H kvs xs) (ht : ∀ b ys, H b = some (.tup ys) → H' b = some (.tup ys)) : KT H' kvs xs :=
  Paired.mapP r fun _ _ z => ⟨z.1, ht _ _ z.2.1, z.2.2⟩
section
variable {P : Program} {w : World} {H : Hp} {h : Heap} {a : Addr}
theorem rd_of {u : HO} (ok : HOk P w H h) (e : Rd H a u) : ObjOk P w H h a u := e.ok ok
theorem dk_rd {kvs : List (Key × V)} (ok : HOk P w H h) (e : Rd H a (.dK kvs)) : kvs.length ≤ sizeLine ∧ (a == sysModules) = false ∧ ∃ vs, KV kvs vs ∧ h.DictOf (mixKind P w) a vs :=
  show ObjOk P w H h a (.dK kvs) from rd_of ok e
theorem dk_of {kvs : List (Key × V)} (ok : HOk P w H h) (e : H a = some (.dK kvs)) : kvs.length ≤ sizeLine ∧ (a == sysModules) = false ∧ ∃ vs, KV kvs vs ∧ h.DictOf (mixKind P w) a vs := dk_rd ok (.inl e)
/-- a tracked tuple of ints and texts is a key -/
theorem key_of {ks : List Key} (ok : HOk P w H h) (e : H a = some (.tup (ks.map kV))) : (tupleKind (mixKind P w)).is h ks a := by
  obtain ⟨_, its, r, o, h1, h2, n, h3⟩ := (show ObjOk P w H h a (.tup (ks.map kV)) from ok a _ e)
  exact ⟨o, its.toArray, n, h1, h2, h3, by simpa using items_are r⟩
theorem dt_rd {kvs : List (List Key × V)} (ok : HOk P w H h) (e : Rd H a (.dT kvs)) : kvs.length ≤ sizeLine ∧ (a == sysModules) = false ∧
    ∃ xs, KT H kvs xs ∧ h.DictOfH (tupleKind (mixKind P w)) a xs := by
  obtain ⟨z, y, xs, r, o, es, ep, h1, h2, h3, h4, h5⟩ := (show ObjOk P w H h a (.dT kvs) from rd_of ok e)
  refine ⟨z, y, xs, r, o, es, ep, h1, h2, h3, h4, fun x hx => ?_, h5⟩
  have all : ∀ {l : List (List Key × V)} {m : List (List Key × Addr × Value)}, KT H l m → ∀ x ∈ m, (tupleKind (mixKind P w)).is h x.1 x.2.1 := by
    intro l m q
    induction q with
    | nil => intro x hx; exact nomatch hx
    | @cons p q ps qs hq t ih =>
      intro x hx
      rcases List.mem_cons.mp hx with e | hx
      · subst e
        exact key_of ok (by rw [← hq.1]; exact hq.2.1)
      · exact ih x hx
  exact all r x hx
theorem dt_of {kvs : List (List Key × V)} (ok : HOk P w H h) (e : H a = some (.dT kvs)) : kvs.length ≤ sizeLine ∧ (a == sysModules) = false ∧
    ∃ xs, KT H kvs xs ∧ h.DictOfH (tupleKind (mixKind P w)) a xs := dt_rd ok (.inl e)
end
/-- what the dict at a holds at the key y -/
def DGet (H : Hp) (a : Addr) (y : V) (r : Option V) : Prop :=
  (∃ kvs k, Rd H a (.dK kvs) ∧ y = kV k ∧ r = valV kvs k) ∨ ∃ kvs k b, Rd H a (.dT kvs) ∧ y = .ref b ∧ H b = some (.tup (k.map kV)) ∧ r = valV kvs k
/-- the heap behind a[y] = v -/
def DPut (H : Hp) (a : Addr) (y v : V) (H' : Hp) : Prop :=
  (∃ kvs k, H a = some (.dK kvs) ∧ y = kV k ∧ kvs.length < sizeLine ∧ H' = upd H a (.dK (putK kvs k v))) ∨
  ∃ kvs k b, H a = some (.dT kvs) ∧ y = .ref b ∧ H b = some (.tup (k.map kV)) ∧ kvs.length < sizeLine ∧ H' = upd H a (.dT (putK kvs k v))
theorem DPut.k {H : Hp} {a : Addr} {kvs : List (Key × V)} {k : Key} {v : V} (e : H a = some (.dK kvs)) (hl : kvs.length < sizeLine) : DPut H a (kV k) v (upd H a (.dK (putK kvs k v))) := .inl ⟨kvs, k, e, rfl, hl, rfl⟩
section
variable {X : Cx} {pins : List (Addr × Obj)} {σ : St} {H : Hp} {s : Shared} {a : Addr} {y v : V} {u r : Value} {o : Option V} {A : Around} {E : Value → Shared → Prop}
theorem Inv.big (I : Inv X pins σ H s) : sysModules < s.heap.objs.size := by
  have h : mainGlobals < s.heap.objs.size := (I.mod.glob.keeps I.bk).lt
  exact Nat.lt_trans (by decide) h
/-- a dict's object is replaced -/
theorem d_write {h' : Heap} {t' : Nat} {ob : HO} (I : Inv X pins σ H s) (mu : Mut (H a)) (hs : Heap.SameBut a s.heap h') (he : ∃ q, h'.get? a = some q) (new : ObjOk X.prog X.w (upd H a ob) h' a ob) :
    Inv X pins σ (upd H a ob) { s with heap := h', toks := t' } :=
  I.write (x := a) (e := a) mu (.inl rfl) (fun b q hb z => (hs.2 b hb).trans z) he new
theorem dk_new {P : Program} {w : World} {H' : Hp} {h' : Heap} {kvs : List (Key × V)} {vs : List (Key × Value)} (z : kvs.length ≤ sizeLine) (hd : (a == sysModules) = false) (rel : KV kvs vs) (dd : h'.DictOf (mixKind P w) a vs) :
    ObjOk P w H' h' a (.dK kvs) := ⟨z, hd, vs, rel, dd⟩
/-- d[y] = v -/
theorem d_setItem {H' : Hp} {Q : Unit → Shared → Prop} (hu : A.units + 1 < cLine) (I : Inv X pins σ H s) (g : DPut H a y v H') (ry : RelV y u) (rv : RelV v r) (h : ∀ s', Inv X pins σ H' s' → Q () s') :
    wpAny (model X.prog X.w) A (setItem (.ref a) u r) Q E s := by
  rcases g with ⟨kvs, k, e, ey, l, eH⟩ | ⟨kvs, k, b, e, ey, eb, l, eH⟩
  · subst ey eH
    obtain ⟨z, hd, vs, rel, dd⟩ := dk_of I.hok e
    have hz : vs.length ≤ sizeLine := by rw [← rel.length]; exact z
    have hl : (putK kvs k v).length ≤ sizeLine := by have := length_putK kvs k v; omega
    refine wpAny_setItem_pairs (hsz := hz) (kV_is ry) dd fun h' dd' hs => h _ ?_
    have he : ∃ q, h'.get? a = some q := let ⟨q, _, _, hq, _⟩ := dd'; ⟨q, hq⟩
    exact d_write I (by rw [e]; exact True.intro) hs he (dk_new hl hd (rel.put k rv) dd')
  · subst ey eH
    cases (show u = Value.ref b from ry)
    obtain ⟨z, hd, xs, rel, dd⟩ := dt_of I.hok e
    have hz : xs.length ≤ sizeLine := by rw [← Paired.length rel]; exact z
    have hl : (putK kvs k v).length ≤ sizeLine := by have := length_putK kvs k v; omega
    refine wpAny_setItem_heap (hsz := hz) (tupleKind_room_in1 hu) (key_of I.hok eb) dd fun h' dd' hs => h _ ?_
    obtain ⟨q, es, ep, hq, h2, h3, h4, _, h5⟩ := dd'
    refine d_write I (by rw [e]; exact True.intro) hs ⟨q, hq⟩ ⟨hl, hd, _, (rel.put k eb rv).keeps fun c ys ec => ?_, q, es, ep, hq, h2, h3, h4, h5⟩
    rw [upd_ne (ne_of ec e (fun z => nomatch z))]
    exact ec
end
section
variable {X : Cx} {pins : List (Addr × Obj)} {σ : St} {H : Hp} {s : Shared} {a : Addr} {kvs : List (Key × V)} {k : Key} {u : Value} {A : Around} {E : Value → Shared → Prop}
end
/-! ### readings and rules -/
/-- the element of a subscription, not a slice -/
def NoSl (i : Expr) : Prop := ∀ ov iv, subscripted i false ov iv = operate [ov, iv] (getItem ov iv)
/-- d[y] -/
def tDGet (td ty : TE) : TE := fun σ H Q => td σ H fun x H1 => ty σ H1 fun y H2 => ∃ a v, x = .ref a ∧ DGet H2 a y (some v) ∧ Q v H2
/-- y in d, y not in d -/
def tDIn (ty td : TE) : TE := fun σ H Q => ty σ H fun y H1 => td σ H1 fun x H2 => ∃ a o, x = .ref a ∧ DGet H2 a y o ∧ Q (.bl o.isSome) H2
/-- d[y] = v -/
def sDPut (td ty tv : TE) : TS := fun D σ H => tv σ H fun v H1 => td σ H1 fun x H2 => ty σ H2 fun y H3 => ∃ a H4, x = .ref a ∧ DPut H3 a y v H4 ∧ D.nx σ H4
/-- d[y] op= v -/
def sDAug (td ty tv : TE) (rd : V → V → Hp → VK → Prop) : TS := fun D σ H => td σ H fun x H1 => ty σ H1 fun y H2 => ∃ a v, x = .ref a ∧ DGet H2 a y (some v) ∧
  tv σ H2 fun y2 H3 => rd v y2 H3 fun z H4 => ∃ H5, DPut H4 a y z H5 ∧ D.nx σ H5
/-- del d[y] -/
def sDDel (td ty : TE) : TS := fun D σ H => td σ H fun x H1 => ty σ H1 fun y H2 => ∃ a kvs k, x = .ref a ∧ H2 a = some (.dK kvs) ∧ y = kV k ∧ (valV kvs k).isSome = true ∧ D.nx σ (upd H2 a (.dK (dropK kvs k)))
section
variable {X : Cx} {o i e value : Expr} {pos pos' tpos : Pos} {td ty tv : TE}
end
/-! ### displays -/
theorem dk_empty {P : Program} {w : World} {H : Hp} (h : Heap) (hb : sysModules < h.objs.size) : ObjOk P w H (h.push { cls := .type "dict", data := .dict #[] }) h.objs.size (.dK []) :=
  ⟨Nat.zero_le _, beq_eq_false_iff_ne.mpr (Ne.symm (Nat.ne_of_lt hb)), [], .nil, Heap.DictOf.new h⟩
/-- {}, to be a dict of the kind that is wanted -/
def tDNewK : TE := fun _ H Q => ∀ p, H p = none → Q (.ref p) (upd H p (.dK []))
section
variable {X : Cx} {pos : Pos}
theorem pe_dnewK : PE X (.Dict [] [] pos) tDNewK := fun pins s σ H Q I h =>
  wpAny_Dict_empty ⟨.ref s.heap.objs.size, _, I.laid (a := s.heap.objs.size) (o := .dK []) (t' := s.toks) (fun _ _ q => Heap.get?_push_of_some _ q) (Nat.le_refl _) (dk_empty s.heap I.big), rfl, h _ (I.hok.fresh (Nat.le_refl _))⟩
end
/-- the pairs of a display, from the left -/
def tPairs : List (TE × TE) → St → Hp → (List (V × V) → Hp → Prop) → Prop
  | [], _, H, Q => Q [] H
  | (tk, tv) :: r, σ, H, Q => tk σ H fun x H1 => tv σ H1 fun y H2 => tPairs r σ H2 fun ps H3 => Q ((x, y) :: ps) H3
def mergeK (kvs more : List (Key × V)) : List (Key × V) := more.foldl (fun acc kv => putK acc kv.1 kv.2) kvs
/-- {k: v, ..} with keys ints and texts; the new dict stands empty while the pairs are made -/
def tDisp (trs : List (TE × TE)) : TE := fun σ H Q => ∀ p, H p = none → tPairs trs σ (upd H p (.dK [])) fun ps H2 => H2 p = some (.dK []) ∧ ∃ kvs : List (Key × V), ps = kvs.map (fun kv => (kV kv.1, kv.2)) ∧ kvs.length ≤ 15 ∧ Q (.ref p) (upd H2 p (.dK (mergeK [] kvs)))
/-! ### methods -/
/-- a method call o.m(e) of a built-in, with one argument: what must be seen of the text -/
structure M1 (X : Cx) (o : Expr) (m : Str) (apos : Pos) (e : Expr) (cpos : Pos) : Prop where
  base : attributeBase o m X.env (eval o X.env) = eval o X.env
  few : ((backTo cpos (starEach [e] X.env)).all (fun x => !x.1) && (backToKw cpos (keywordEach [] X.env)).all (fun x => x.1.isSome)
    && decide (([e] : List Expr).length + ([] : List Keyword).length + (if ([] : List Keyword).isEmpty then 0 else 1) < 30)) = true
  line : (apos.endLine == cpos.line) = true
  trees : backTo cpos (starEach [e] X.env) = [(false, eval e X.env)]
structure M2 (X : Cx) (o : Expr) (m : Str) (apos : Pos) (e f : Expr) (cpos : Pos) : Prop where
  base : attributeBase o m X.env (eval o X.env) = eval o X.env
  few : ((backTo cpos (starEach [e, f] X.env)).all (fun x => !x.1) && (backToKw cpos (keywordEach [] X.env)).all (fun x => x.1.isSome)
    && decide (([e, f] : List Expr).length + ([] : List Keyword).length + (if ([] : List Keyword).isEmpty then 0 else 1) < 30)) = true
  line : (apos.endLine == cpos.line) = true
  trees : backTo cpos (starEach [e, f] X.env) = [(false, eval e X.env), (false, eval f X.env)]
/-- a is a dict, whatever its keys -/
def IsD (H : Hp) (a : Addr) : Prop := (∃ kvs, Rd H a (.dK kvs)) ∨ ∃ kvs, Rd H a (.dT kvs)
section
variable {X : Cx} {pins : List (Addr × Obj)} {σ : St} {H : Hp} {s : Shared} {a : Addr} {y d : V} {u r : Value} {o : Option V} {A : Around} {E : Value → Shared → Prop}
end
/-- d.pop(k): there; d.pop(k, x): there or not -/
def tDPop1 (td ty : TE) : TE := fun σ H Q => td σ H fun x H1 => ∃ a, x = .ref a ∧ IsD H1 a ∧ ty σ H1 fun y H2 => ∃ kvs k v, H2 a = some (.dK kvs) ∧ y = kV k ∧ valV kvs k = some v ∧ Q v (upd H2 a (.dK (dropK kvs k)))
section
variable {X : Cx} {o e f : Expr} {apos cpos : Pos} {td ty tx : TE}
end
/-! ### dict(d): a copy -/
section
variable {X : Cx} {pins : List (Addr × Obj)} {σ : St} {H : Hp} {s : Shared} {a : Addr} {kvs : List (Key × V)} {A : Around} {E : Value → Shared → Prop}
end
section
variable {X : Cx} {pins : List (Addr × Obj)} {σ : St} {H : Hp} {s : Shared} {a : Addr} {y : V} {u : Value} {A : Around} {E : Value → Shared → Prop}
end
end L2
set_option Elab.async false
set_option linter.all false
set_option maxRecDepth 100000
set_option maxHeartbeats 4000000
/-! the second level: while, numbers as texts, dicts whose keys are ints or texts -/
namespace WL
open PySem PySem.Spec PyProof.Rows L2
/-! ### while -/
def whileN (c : WT) (b : WS) (D : We) : Nat → Sw → Hw → Prop
  | 0, _, _ => False
  | n + 1, τ, C => c τ C (fun k C1 => if k = true then b { D with nx := whileN c b D n, ct := whileN c b D n, bk := D.nx } τ C1 else D.nx τ C1) D.xc
def sWhile (c : WT) (b : WS) : WS := fun D τ C => ∃ n, whileN c b D n τ C
theorem sim_while {K : PySem.W.Frag} {c : TT} {tb : TS} {c' : WT} {b' : WS} (hc : SimT K c c') (hb : SimS K tb b') : SimS K (tWhile c tb) (sWhile c' b') := fun F H C σ τ D D' R S h d => by
  obtain ⟨n, h⟩ := h
  refine ⟨fun m σ H2 => ∃ τ C, Rl K F H2 C ∧ Tx H H2 ∧ RepS K H2 σ τ ∧ whileN c' b' D' m τ C, ⟨n, τ, C, R, Tx.refl _, S, h⟩, ?_⟩
  rintro m σ2 H2 ⟨τ2, C2, R2, t2, S2, h2⟩
  cases m with
  | zero => exact h2.elim
  | succ m =>
    refine hc F H2 C2 σ2 τ2 _ _ D'.xc R2 S2 h2 fun k H3 C3 R3 t3 h3 => ?_
    cases k with
    | true =>
      refine ⟨fun σ' H' => ∃ τ' C', Rl K F H' C' ∧ Tx H H' ∧ RepS K H' σ' τ' ∧ whileN c' b' D' m τ' C', fun σ' H' z => ⟨m, Nat.lt_succ_self m, z⟩, ?_⟩
      have t13 := t2.trans t3
      exact hb F H3 C3 σ2 τ2 _ _ R3 (S2.tx t3) h3 ⟨fun σ' τ' H' C' R' t' S' h' => ⟨τ', C', R', t13.trans t', S', h'⟩, fun x v H' C' R' t' => d.rt x v H' C' R' (t13.trans t'), fun σ' τ' H' C' R' t' S' h' => d.nx σ' τ' H' C' R' (t13.trans t') S' h', fun σ' τ' H' C' R' t' S' h' => ⟨τ', C', R', t13.trans t', S', h'⟩⟩
    | false => exact d.nx σ2 τ2 H3 C3 R3 (t2.trans t3) (S2.tx t3) h3
theorem ds_while {X : Cx} {c : Expr} {body : List Stmt} {wc : WT} {b : WS} {pos : Pos} (hp : PassesOwn (model X.prog X.w) X.A X.env X.xe) (hc : SdT X c wc) (hb : SdB X body b) : SdS X (.While c body [] pos) (sWhile wc b) := by
  obtain ⟨t, p, s⟩ := hc
  obtain ⟨t', p', s'⟩ := hb
  exact ⟨_, ps_while hp p p', sim_while s s'⟩
/-- a loop by what holds of the state and a number that falls -/
theorem while_inv {c : WT} {b : WS} {D : We} (Pv : Nat → Sw → Hw → Prop) {τ : Sw} {C : Hw} {m : Nat} (h0 : Pv m τ C)
    (hs : ∀ m τ C (N : Sw → Hw → Prop), Pv m τ C → (∀ m' τ' C', m' < m → Pv m' τ' C' → N τ' C') → c τ C (fun k C1 => if k = true then b { D with nx := N, ct := N, bk := D.nx } τ C1 else D.nx τ C1) D.xc) : sWhile c b D τ C := by
  have key : ∀ (n m : Nat) (τ : Sw) (C : Hw), m < n → Pv m τ C → whileN c b D n τ C := by
    intro n
    induction n with
    | zero => intro m τ C h _; omega
    | succ n ih => intro m τ C hm hp; exact hs m τ C _ hp fun m' τ' C' hlt hp' => ih m' τ' C' (by omega) hp'
  exact ⟨m + 1, key (m + 1) m τ C (Nat.lt_succ_self m) h0⟩
section
variable {X : Cx} {a b c e o i : Expr} {es : List Expr} {wa wb wc wo wi : WE} {wA : WA} {pos p p2 apos cpos : Pos}
/-! ### str(n), int(n) -/
end
/-! ### dicts: tables of values -/
def kT : T → Option Key
  | .int i => some (.inl i)
  | .str x => some (.inr x)
  | _ => none
def tK : Key → T
  | .inl i => .int i
  | .inr x => .str x
def getT (kvs : List (Key × T)) (k : Key) : Option T := (kvs.find? fun kv => decide (kv.1 = k)).map (·.2)
def putT (kvs : List (Key × T)) (k : Key) (v : T) : List (Key × T) :=
  if (kvs.any fun kv => decide (kv.1 = k)) = true then kvs.map (fun kv => if kv.1 = k then (kv.1, v) else kv) else kvs ++ [(k, v)]
theorem rep_key {K : PySem.W.Frag} {H : Hp} {x : V} {v : T} {k : Key} (h : kT v = some k) (r : Rep K H x v) : x = kV k := by
  cases v with
  | int i => cases h; exact of_int r
  | str z => cases h; exact of_str r
  | _ => cases h
theorem PR.any {K : PySem.W.Frag} {H : Hp} : ∀ {ks : List (Key × V)} {kvs : List (Key × T)} (_ : PR K H ks kvs) (k : Key), (ks.any fun kv => decide (kv.1 = k)) = kvs.any fun kv => decide (kv.1 = k)
  | _, _, .nil, k => rfl
  | p :: r, q :: s, .cons h t, k => by rw [List.any_cons, List.any_cons, PR.any t k, h.1]
theorem PR.mapK {K : PySem.W.Frag} {H : Hp} {k : Key} {x : V} {v : T} (rx : Rep K H x v) : ∀ {ks : List (Key × V)} {kvs : List (Key × T)} (_ : PR K H ks kvs), PR K H (ks.map fun kv => if kv.1 = k then (kv.1, x) else kv) (kvs.map fun kv => if kv.1 = k then (kv.1, v) else kv)
  | _, _, .nil => .nil
  | p :: r, q :: s, .cons h t => by
    refine .cons ?_ (PR.mapK rx t)
    obtain ⟨e, rp⟩ := h
    by_cases c : q.1 = k
    · have c' : p.1 = k := e.trans c
      dsimp only
      rw [if_pos c, if_pos c']; exact ⟨e, rx⟩
    · have c' : ¬ p.1 = k := fun z => c (e.symm.trans z)
      dsimp only
      rw [if_neg c, if_neg c']; exact ⟨e, rp⟩
theorem PR.put {K : PySem.W.Frag} {H : Hp} {ks : List (Key × V)} {kvs : List (Key × T)} (h : PR K H ks kvs) {k : Key} {x : V} {v : T} (rx : Rep K H x v) : PR K H (putK ks k x) (putT kvs k v) := by
  unfold putK putT
  rw [PR.any h k]
  split
  · exact PR.mapK rx h
  · exact h.snoc ⟨rfl, rx⟩
theorem PR.length {K : PySem.W.Frag} {H : Hp} {ks : List (Key × V)} {kvs : List (Key × T)} (h : PR K H ks kvs) : ks.length = kvs.length := Paired.length h
section
variable {K : PySem.W.Frag} {F H : Hp} {C : Hw}
theorem Rl.dic (R : Rl K F H C) {a : Addr} {kvs : List (Key × T)} (h : C a = some (.dic kvs)) : ∃ ks, H a = some (.dK ks) ∧ PR K H ks kvs := R.obj a _ h
theorem Rl.putD (R : Rl K F H C) {p : Addr} {kvs kvs' : List (Key × T)} {ks' : List (Key × V)} (h : C p = some (.dic kvs)) (r : PR K H ks' kvs') : Rl K F (upd H p (.dK ks')) (up C p (.dic kvs')) ∧ Tx H (upd H p (.dK ks')) := by
  obtain ⟨w, hw, ns⟩ := (R.obj p _ h).some trivial
  exact R.put h ⟨ks', upd_same, pr_tx (Tx.put hw ns) r⟩
theorem Rl.newD (R : Rl K F H C) {p : Addr} {kvs : List (Key × T)} {ks : List (Key × V)} (h : H p = none) (r : PR K H ks kvs) : Rl K F (upd H p (.dK ks)) (up C p (.dic kvs)) := R.new h ⟨ks, upd_same, pr_tx (Tx.new h) r⟩
end
/-! ### dicts: readings and rules -/
def eDict0 : WE := fun _ C Q _ => ∀ p, C p = none → Q (.ref p) (up C p (.dic []))
def gSd (o i : WE) : WG := fun v τ C Q χ => o τ C (fun x C1 => i τ C1 (fun y C2 => ∃ a kvs k, x = .ref a ∧ kT y = some k ∧ C2 a = some (.dic kvs) ∧ kvs.length < sizeLine ∧ Q τ (up C2 a (.dic (putT kvs k v)))) χ) χ
section
variable {X : Cx} {a b c e o i f : Expr} {es : List Expr} {wa wb wc wo wi wd : WE} {wA : WA} {pos p p2 apos cpos : Pos}
theorem d_dict0 : SdE X (.Dict [] [] pos) eDict0 := ⟨_, pe_dnewK, fun F H C σ τ Q Q' χ R S h q p hp => q _ _ _ _ (R.newD hp .nil) (Tx.new hp) rep_ref (h p (R.free hp))⟩
def rSetD : V → V → V → Hp → (Hp → Prop) → Prop := fun o i v H Q => ∃ p ks k, o = .ref p ∧ i = kV k ∧ H p = some (.dK ks) ∧ ks.length < sizeLine ∧ Q (upd H p (.dK (putK ks k v)))
theorem set_dict (hu : X.A.units + 150 < cLine) : PSet X rSetD := by
  intro pins s σ H o i v ov iv u Q I ro ri rv h
  obtain ⟨p, ks, k, rfl, rfl, hp, hl, q⟩ := h
  cases ro
  exact d_setItem (by omega) I (DPut.k hp hl) ri rv fun s' I' => ⟨_, I', q⟩
theorem dg_subD (hu : X.A.units + 150 < cLine) (ho : SdE X o wo) (hi : SdE X i wi)
    (ha : ∀ v, assign (.Subscript o i pos) X.env v = (do
      let ov ← holding [v] (eval o X.env)
      let iv ← holding [v, ov] (eval i X.env)
      standAt pos
      holding [v, ov, iv] (setItem ov iv v)
      release [v, ov, iv] []) := by intro _; rfl) : SdG X (.Subscript o i pos) (gSd wo wi) := by
  obtain ⟨t, p, s⟩ := ho
  obtain ⟨t', p', s'⟩ := hi
  refine ⟨_, pg_sub p p' (set_dict hu) ha, fun F H C σ τ x v Q Q' χ R S r h q => ?_⟩
  refine s F H C σ τ _ _ χ R S h fun y vy H1 C1 R1 t1 ry h1 => ?_
  refine s' F H1 C1 σ τ _ _ χ R1 (S.tx t1) h1 fun z vz H2 C2 R2 t2 rz h2 => ?_
  obtain ⟨l, kvs, k, rfl, hk, hC, hl, h2⟩ := h2
  cases of_ref ry
  obtain ⟨ks, hH, pr⟩ := R2.dic hC
  have t12 := t1.trans t2
  obtain ⟨R', t'⟩ := R2.putD hC (PR.put pr (k := k) (r.tx t12))
  exact ⟨l, ks, k, rfl, rep_key hk rz, hH, by rw [PR.length pr]; exact hl, q _ _ _ _ R' (t12.trans t') (S.tx (t12.trans t')) h2⟩
end
end WL
set_option Elab.async false
set_option linter.all false
set_option maxRecDepth 100000
set_option maxHeartbeats 4000000
namespace L2
open PySem PySem.Spec PyProof.Rows
/-! ### sets of texts: what a set's table keeps of led and plain -/
def byTx (w : World) : Bool := w.params.followText "set-order"
theorem osi_led (t : SetTable) (n : Nat) : (t.orStandIn n).led = t.led := by
  unfold SetTable.orStandIn
  split <;> rfl
theorem lay_led (t : SetTable) (es : Array (Int × Value)) (h : Int) (x : Value) : (layNew t es h x).2.1.led = t.led := by
  unfold layNew
  split
  · exact osi_led _ _
  · rfl
theorem relay_led (t : SetTable) (es : Array (Int × Value)) (n : Nat) : (relayAll t es n).2.1.led = t.led := by
  unfold relayAll
  split
  · rename_i t' order e
    unfold SetTable.relaid SetTable.laid at e
    cases hq : SetTable.layClean (SetTable.sizeAbove n - 1) (es.map (·.1)) with
    | none => rw [hq] at e; cases e
    | some ow =>
      rw [hq] at e
      simp only [Option.bind_eq_bind, Option.bind_some, Option.pure_def, Option.some.injEq, Prod.mk.injEq] at e
      obtain ⟨rfl, rfl⟩ := e
      dsimp only
      split <;> rfl
  · rfl
def txOf (e : Int × Value) : Str := strOf e.2
/-- the set at a: its texts in the order of its table -/
structure TxSet (P : Program) (w : World) (h : Heap) (a : Addr) (es : Array (Int × Value)) (ep : Nat) (t : SetTable) : Prop where
  get : h.get? a = some { cls := .type "set", dict := none, data := .set es ep t, slots := #[] }
  els : ElemsOf (PySem.strKind P w) es.toList
  fit : t.fits es.size = true
  bnd : es.size < scanBound
  pln : es.size ≠ 0 → t.plain = false
  led : t.led = !byTx w
  nod : (es.toList.map txOf).Nodup
section
variable {prog : Program} {w : World} {A : Around} {E : Value → Shared → Prop} {s : Shared}
theorem put_get {h : Heap} {a : Addr} {es : Array (Int × Value)} {ep : Nat} {t : SetTable} (g : h.get? a = some { cls := .type "set", dict := none, data := .set es ep t, slots := #[] }) (es' : Array (Int × Value)) (t' : SetTable) :
    (h.update a (Obj.putSet es' t')).get? a = some { cls := .type "set", dict := none, data := .set es' (ep + 1) t', slots := #[] } := by
  have q := Heap.get?_update_self (Obj.putSet es' t') g (by rw [putSet_of es' t' rfl]; rfl)
  rw [putSet_of es' t' rfl] at q
  exact q
end
section
variable {prog : Program} {w : World} {A : Around} {R : Result → Shared → Prop} {I : Addr} {fp wr : List Addr} {G : Array GenState → Array GenState → Prop} {n : Nat} {P : Nat → Value → Prop} {St : Nat → Shared → Prop}
end
section
variable {prog : Program} {w : World} {A : Around} {E : Value → Shared → Prop} {s : Shared}
abbrev freshSet (w : World) : Obj := { cls := .type "set", dict := none, data := .set #[] 0 (.fresh 0 0 (!byTx w)) }
theorem new_set (a : Value) {Q₁ : Value → Shared → Prop} (h : Q₁ (.ref s.heap.objs.size) { s with heap := s.heap.push (freshSet w) }) :
    codeAny (model prog w) A (.call (.builtin "set.__new__") ⟨[.type "set", a], []⟩) (wants Q₁ E) s := by
  refine codeAny_of_tree ?_
  show wpAny _ A.in1 (do checkBuiltinCall "set.__new__" ⟨[.type "set", a], []⟩; again (.builtin "set.__new__" ⟨[.type "set", a], []⟩)) _ _ s
  refine wpAny_bind (wpAny_of_eq (F.newCall_set_1 a) (wpAny_pure ⟨plainId_quiet F.plain_set_new _, codeAny_builtin F.entry_set_new ?_⟩))
  rw [Around.under_plainId F.plain_set_new _]
  unfold Builtin.«set.__new__» Builtin.Frozenset.newClass
  have hsub := sub_set_self
  obtain ⟨hp, g, d, tk, os⟩ := s
  dsimp only
  wp_walk
  refine wpAny_askSetting (wpAny_pure ?_)
  dsimp only
  simp only [newObj]
  refine wpAny_bind (wpAny_alloc (wpAny_pure ?_))
  exact wpAny_pure h
end
section
variable {prog : Program} {w : World} {A : Around} {E : Value → Shared → Prop} {s : Shared}
end
end L2
set_option Elab.async false
set_option linter.all false
set_option maxRecDepth 100000
set_option maxHeartbeats 4000000
namespace L2
open PySem PySem.Spec PyProof.Rows
/-! ### sets of texts, walked -/
theorem sit_next : Slot "set_iterator" "__next__" "set_iterator.__next__" := by
  refine .of (owner := "set_iterator") (n := "__next__") ?_ (by decide +kernel) (by decide +kernel) (by decide +kernel) ?_ ?_
  · rw [typeLookup_type, builtinLookup_eq_fast]; kernel_rfl
  · first
      | exact .inl (by decide +kernel)
      | exact .inr (by decide +kernel)
  · rw [isSubtype_type]; kernel_rfl
theorem sit_iter : Slot "set_iterator" "__iter__" "set_iterator.__iter__" := by
  refine .of (owner := "set_iterator") (n := "__iter__") ?_ (by decide +kernel) (by decide +kernel) (by decide +kernel) ?_ ?_
  · rw [typeLookup_type, builtinLookup_eq_fast]; kernel_rfl
  · first
      | exact .inl (by decide +kernel)
      | exact .inr (by decide +kernel)
  · rw [isSubtype_type]; kernel_rfl
theorem sit_next_e : entryFor table "set_iterator.__next__" = some Builtin.«set_iterator.__next__» := entryFor_of_tree (by kernel_rfl)
theorem sit_iter_e : entryFor table "set_iterator.__iter__" = some Builtin.«dict_keyiterator.__iter__» :=
  entryFor_alias (id' := "dict_keyiterator.__iter__") (by kernel_rfl) rfl (by decide +kernel) (by kernel_rfl)
theorem set_iter_e : entryFor table "set.__iter__" = some Builtin.«frozenset.__iter__» :=
  entryFor_alias (id' := "frozenset.__iter__") (by kernel_rfl) rfl (by decide +kernel) (by kernel_rfl)
theorem sit_owner : Manifest.owners.lookup (String.ofList ['r', 'o', 't', 'a', 'r', 'e', 't', 'i', '_', 't', 'e', 's'].reverse) = some Manifest.sig_set_iterator := by kernel_rfl
theorem sit_next_a (a : Value) : argsOk "set_iterator.__next__" ⟨[a], []⟩ := by
  unfold argsOk
  rw [signature?_of (id := "set_iterator.__next__") (n := ['_', '_', 't', 'x', 'e', 'n', '_', '_']) (o := ['r', 'o', 't', 'a', 'r', 'e', 't', 'i', '_', 't', 'e', 's']) (by kernel_rfl) sit_owner]
  kernel_rfl
theorem sit_iter_a (a : Value) : argsOk "set_iterator.__iter__" ⟨[a], []⟩ := by
  unfold argsOk
  rw [signature?_of (id := "set_iterator.__iter__") (n := ['_', '_', 'r', 'e', 't', 'i', '_', '_']) (o := ['r', 'o', 't', 'a', 'r', 'e', 't', 'i', '_', 't', 'e', 's']) (by kernel_rfl) sit_owner]
  kernel_rfl
abbrev itO (f : Value) (i : Nat) (a : Addr) (n ep : Nat) : Obj := { cls := .type "set_iterator", dict := none, data := .fields #[f, .int i 0, .ref a, .int n 0, .int ep 0], slots := #[] }
section
variable {prog : Program} {w : World} {A : Around} {E : Value → Shared → Prop} {s : Shared}
theorem stop_new {α : Type} {Q : α → Shared → Prop} (hh : A.handled = none)
    (h : ∀ h' e, (∀ b o, s.heap.get? b = some o → h'.get? b = some o) → (∃ o, h'.get? e = some o ∧ o.cls = .type "StopIteration") → E (.ref e) { s with heap := h' }) :
    wpAny (model prog w) A (newExc (.type "StopIteration") [] >>= fun e => (raiseNew e : Sem α)) Q E s := by
  refine wpAny_bind ?_
  simp only [newExc, newTuple]
  refine wpAny_bind (wpAny_newObj_type ?_ (by size_fits))
  refine wpAny_bind (m := firstArgMember _ _) (wpAny_of_eq (a := Value.none) (by first | rfl | (simp only [firstArgMember]; rfl)) ?_)
  refine wpAny_newObj_type ?_ (by size_fits)
  simp only [raiseNew]
  refine wpAny_bind (wpAny_handled ?_)
  rw [hh]
  refine wpAny_bind (wpAny_pure (wpAny_throw ?_))
  exact h _ _ (fun b o e => Heap.get?_push_of_some _ (Heap.get?_push_of_some _ e)) ⟨_, Heap.get?_push_size _ rfl, rfl⟩
theorem sit_self {I : Addr} {f : Value} {i n ep : Nat} {a : Addr} {Q : Value → Shared → Prop} (hI : s.heap.get? I = some (itO f i a n ep)) (h : Q (.ref I) s) : wpAny (model prog w) A (pyIter (.ref I)) Q E s := by
  have hT : s.TypeIs (.ref I) "set_iterator" := ⟨_, hI, rfl⟩
  refine wpAny_pyIter_slot hT sit_iter (wpAny_call_entry sit_iter hT sit_iter_e ?_ (sit_iter_a _))
  show wpAny _ _ (ret (.ref I)) _ _ s
  exact wpAny_pure ⟨_, rfl, "set_iterator", _, hT, sit_next.lookup, h⟩
end
theorem era_perm {α : Type} {l : List α} {i : Nat} (h : i < l.length) : List.Perm (l[i] :: l.eraseIdx i) l := by
  rw [List.eraseIdx_eq_take_drop_succ]
  have e : l = l.take i ++ l[i] :: l.drop (i + 1) := by rw [← List.drop_eq_getElem_cons h, List.take_append_drop]
  exact List.perm_middle.symm.trans (List.Perm.of_eq e.symm)
theorem pick_go {α : Type} (next : Nat → Nat) : ∀ (k : Nat) (left : List α) (out : Array α) (m : Nat), left.length = k → List.Perm (pickOrder.go next k m left out).toList (out.toList ++ left) := by
  intro k
  induction k with
  | zero =>
    intro left out m e
    have : left = [] := List.length_eq_zero_iff.mp e
    subst this
    unfold pickOrder.go
    simp
  | succ k ih =>
    intro left out m e
    unfold pickOrder.go
    have hl : next m % left.length < left.length := Nat.mod_lt _ (by omega)
    rw [List.getElem?_eq_getElem hl]
    dsimp only
    refine (ih _ _ _ (by rw [List.length_eraseIdx_of_lt hl]; omega)).trans ?_
    rw [Array.toList_push, List.append_assoc]
    refine List.Perm.append_left _ ?_
    exact era_perm hl
theorem pick_perm {α : Type} (next : Nat → Nat) (xs : Array α) : List.Perm (pickOrder next xs).toList xs.toList := by
  unfold pickOrder
  have := pick_go next xs.size xs.toList #[] 0 (by simp)
  simpa using this
section
variable {prog : Program} {w : World} {A : Around} {E : Value → Shared → Prop} {s : Shared}
theorem by_tx {Q : Bool → Shared → Prop} (h : Q (byTx w) s) : wpAny (model prog w) A setsByText Q E s := by
  unfold setsByText
  exact wpAny_bind (wpAny_askSetting (wpAny_pure h))
theorem draw_ok {α : Type} : ∀ (n : Nat) (xs : List α) (s : Shared) (Q : List α → Shared → Prop), xs.length = n → (∀ (ys : List α) d', ys.Perm xs → Q ys { s with drawn := d' }) → wpAny (model prog w) A (drawOrder n xs) Q E s := by
  intro n
  induction n with
  | zero =>
    intro xs s Q e h
    have : xs = [] := List.length_eq_zero_iff.mp e
    subst this
    unfold drawOrder
    exact wpAny_pure (h [] s.drawn (List.Perm.refl _))
  | succ n ih =>
    intro xs s Q e h
    cases xs with
    | nil => cases e
    | cons x r =>
      unfold drawOrder
      refine wpAny_bind (m := choose .order _) ?_
      intro Γ p hΓ
      refine ⟨by simp, ?_⟩
      generalize hi : (model prog w).w.draws .order (s.drawn.get .order) % (x :: r).length = i
      have hl : i < (x :: r).length := by rw [← hi]; exact Nat.mod_lt _ (by simp)
      show wpAny _ _ _ _ _ _
      rw [List.getElem?_eq_getElem hl]
      dsimp only
      refine wpAny_bind (ih _ _ _ (by rw [List.length_eraseIdx_of_lt hl, e]; rfl) fun ys d' q => wpAny_pure (h _ d' ?_))
      exact (List.Perm.cons _ q).trans (era_perm hl)
abbrev PW2 (ys : List (Int × Value)) : Nat → Value → Prop := fun i v => ∃ e, ys[i]? = some e ∧ v = e.2
end
end L2
set_option Elab.async false
set_option linter.all false
set_option maxRecDepth 100000
set_option maxHeartbeats 4000000
namespace L2
open PySem PySem.Spec PyProof.Rows
section
variable {prog : Program} {w : World} {A : Around} {E : Value → Shared → Prop} {s : Shared}
end
end L2
set_option Elab.async false
set_option linter.all false
set_option maxRecDepth 100000
set_option maxHeartbeats 4000000
namespace L2
open PySem PySem.Spec PyProof.Rows
section
variable {prog : Program} {w : World} {A : Around} {E : Value → Shared → Prop} {s : Shared}
theorem hint_set {r : Addr} {Q : Bool → Shared → Prop} (hT : s.TypeIs (.ref r) "set") (h : Q false s) : wpAny (model prog w) A (Builtin.List.listLengthHint (.ref r)) Q E s := by
  unfold Builtin.List.listLengthHint
  refine wpAny_bind (wpAny_specialOf hT PySem.F.slot_set_len.lookup ?_)
  generalize hid : ("set.__len__" : String) = id0
  wp_delta
  rw [show splitId id0 = some ("set", "__len__") from by subst hid; decide +kernel]
  subst hid
  refine wpAny_bind (wpAny_isInstance (T := "set") (b := true) hT (by rw [isSubtype_type]; kernel_rfl) ?_)
  refine wpAny_ite_split (fun hab => absurd hab (by decide)) (fun _ => ?_)
  refine wpAny_ite_split (fun _ => ?_) (fun hab => absurd (by decide +kernel) hab)
  refine wpAny_bind (wpAny_typeOf hT ?_)
  exact wpAny_pure h
end
end L2
set_option Elab.async false
set_option linter.all false
set_option maxRecDepth 100000
set_option maxHeartbeats 4000000
namespace L2
open PySem PySem.Spec PyProof.Rows
section
variable {prog : Program} {w : World} {A : Around} {E : Value → Shared → Prop} {s : Shared}
end
section
variable {X : Cx} {pins : List (Addr × Obj)} {s : Shared} {σ : St} {H : Hp}
theorem kept_d {h' : Heap} {d' : Drawn} {t' : Nat} (I : Inv X pins σ H s) (k : ∀ b u, s.heap.get? b = some u → h'.get? b = some u) : Inv X pins σ H { s with heap := h', drawn := d', toks := t' } := by
  refine I.step (g' := s.gens) (ch := []) (fun _ z => nomatch z) (fun b o _ _ _ e _ => k b o e) (fun b o _ _ _ e _ => ⟨o.slots, k b o e⟩) (fun b o _ _ n => n) (fun b o _ e => ⟨o, k b o e⟩) (fun _ _ e => e) (fun _ _ _ e => e) (fun b ps e => ⟨#[], by simpa using e⟩) (fun m hm => ?_) (I.hok.kept k) I.bare
  obtain ⟨o, es, ep, ho, r⟩ := hm
  exact ⟨o, es, ep, k _ o ho, r⟩
/-- a set of texts -/
def setO (P : Program) (w : World) (a : Addr) (xs : List Str) : HO := .ext fun h => ∃ es ep t, TxSet P w h a es ep t ∧ ∀ y, y ∈ es.toList.map txOf ↔ y ∈ xs
theorem kv_keys {kvs : List (Key × V)} {vs : List (Key × Value)} (h : KV kvs vs) : vs.map (·.1) = kvs.map (·.1) := by
  induction h with
  | nil => rfl
  | cons a b ih => rw [List.map_cons, List.map_cons, ih, a.1]
end
end L2
set_option Elab.async false
set_option linter.all false
set_option maxRecDepth 100000
set_option maxHeartbeats 4000000
namespace WL
open PySem PySem.Spec PyProof.Rows L2
/-! ### sorted of a dict of texts, sorted of the set of a list of texts -/
theorem bt_sorted : bootBuiltins "sorted" = some (.builtin "sorted") := by decide +kernel
theorem bt_set : bootBuiltins "set" = some (.type "set") := by decide +kernel
theorem PR.keys {K : PySem.W.Frag} {H : Hp} : ∀ {ks : List (Key × V)} {kvs : List (Key × T)} (_ : PR K H ks kvs), ks.map (·.1) = kvs.map (·.1)
  | _, _, .nil => rfl
  | _, _, .cons h t => by rw [List.map_cons, List.map_cons, PR.keys t, h.1]
section
variable {X : Cx} {e : Expr} {we : WE} {pos p p2 pos2 : Pos}
end
end WL
set_option Elab.async false
set_option linter.all false
set_option maxRecDepth 100000
set_option maxHeartbeats 4000000
namespace L2
open PySem PySem.Spec PyProof.Rows
/-! ### for x in reversed(a list), the list as long as it was -/
section
variable {X : Cx} {tg : Expr}
end
end L2
set_option Elab.async false
set_option linter.all false
set_option maxRecDepth 100000
set_option maxHeartbeats 4000000
namespace WL
open PySem PySem.Spec PyProof.Rows L2
/-! ### for x in reversed(a list) -/
section
variable {X : Cx} {tg a : Expr} {wA : WA} {pos p : Pos}
end
end WL
set_option Elab.async false
set_option linter.all false
set_option maxRecDepth 100000
set_option maxHeartbeats 4000000
/-! texts joined -/
namespace L2
open PySem PySem.Spec PyProof.Rows
section
variable {X : Cx}
end
end L2
set_option Elab.async false
set_option linter.all false
set_option maxRecDepth 100000
set_option maxHeartbeats 4000000
/-! the second level: join -/
namespace WL
open PySem PySem.Spec PyProof.Rows L2
section
variable {X : Cx}
end
end WL
set_option Elab.async false
set_option linter.all false
set_option maxRecDepth 100000
set_option maxHeartbeats 4000000
/-! list(reversed(a list)) -/
namespace L2
open PySem PySem.Spec PyProof.Rows
section
variable {prog : Program} {w : World} {A : Around} {E : Value → Shared → Prop} {s : Shared} {it l : Addr} {i : Int}
end
section
variable {X : Cx}
end
end L2
set_option Elab.async false
set_option linter.all false
set_option maxRecDepth 100000
set_option maxHeartbeats 4000000
/-! texts: join of a written text, replace by written texts -/
namespace L2
open PySem PySem.Spec PyProof.Rows
section
variable {X : Cx}
/-- as PE, and some token was given by then -/
def PEp (X : Cx) (e : Expr) (t : TE) : Prop :=
  ∀ (pins : List (Addr × Obj)) (s : Shared) (σ : St) (H : Hp) (Q : VK), Inv X pins σ H s → t σ H Q → wpAny (model X.prog X.w) X.A (eval e X.env) (fun v s' => 1 ≤ s'.toks ∧ EP X pins σ Q v s') X.xe s
variable {o e : Expr} {es : List Expr} {to : TE} {t : TA} {apos cpos : Pos} {z y : Str} {k k1 k2 : Nat} {lp lp1 lp2 : Pos}
end
end L2
set_option Elab.async false
set_option linter.all false
set_option maxRecDepth 100000
set_option maxHeartbeats 4000000
/-! the second level: extend, list(reversed(a list)), str(a text), replace -/
namespace WL
open PySem PySem.Spec PyProof.Rows L2
section
variable {X : Cx} {e o : Expr} {we wo : WE} {p p2 pos pos2 apos cpos : Pos}
def mExtend : T → List T → Hw → WK → Prop := fun x vs C Q => ∃ a b xs zs, x = .ref a ∧ vs = [.ref b] ∧ C a = some (.lst xs) ∧ C b = some (.lst zs) ∧ xs.length + zs.length ≤ sizeLine ∧ Q .non (up C a (.lst (xs ++ zs)))
theorem m_extend : MtS X "list.extend" mExtend := ⟨_, mt_extend, fun F H C x v xs vs Q Q' R rx rs h q => by
  obtain ⟨a, b, ts, us, rfl, rfl, ha, hb, hl, h⟩ := h
  cases of_ref rx
  obtain ⟨y, rfl, ry⟩ := of_one rs
  cases of_ref ry
  obtain ⟨ys, hy, r⟩ := R.lst ha
  obtain ⟨zs, hz, r2⟩ := R.lst hb
  obtain ⟨R', t⟩ := R.putL ha (r.app r2)
  exact ⟨a, b, ys, zs, rfl, rfl, hy, hz, by rw [r.length, r2.length]; exact hl, q _ _ _ _ R' t rep_non h⟩⟩
/-- list(reversed(e)) -/
def eLRev (e : WE) : WE := fun τ C Q χ => e τ C (fun x C1 => ∃ a xs, x = .ref a ∧ C1 a = some (.lst xs) ∧ ∀ p, C1 p = none → Q (.ref p) (up C1 p (.lst xs.reverse))) χ
theorem call_str_str : CallR X (.type "str") (fun xs H Q => ∃ z, xs = [.str z] ∧ Q (.str z) H) := by
  intro pins s σ H xs us Q I r h
  obtain ⟨z, rfl, q⟩ := h
  obtain ⟨u, rfl, t, rfl⟩ := vals1 r
  exact PySem.P.str_of_str ⟨.str z, H, I, ⟨_, rfl⟩, q⟩
/-- str(a number or a text) -/
def bStr2 : List T → Hw → WK → Prop := fun vs C Q => (∃ i : Int, vs = [.int i] ∧ i.natAbs.log2 < 1920 ∧ Q (.str (toString i)) C) ∨ ∃ z, vs = [.str z] ∧ Q (.str z) C
theorem b_str2 : CallS X (.type "str") bStr2 := ⟨_, call_str_int.or call_str_str, fun F H C xs vs Q Q' R rs h q => by
  rcases h with ⟨j, rfl, hl, h⟩ | ⟨z, rfl, h⟩
  · obtain ⟨x, rfl, rx⟩ := of_one rs
    cases of_int rx
    exact .inl ⟨j, rfl, hl, q _ _ H C R (Tx.refl H) rep_str h⟩
  · obtain ⟨x, rfl, rx⟩ := of_one rs
    cases of_str rx
    exact .inr ⟨z, rfl, q _ _ H C R (Tx.refl H) rep_str h⟩⟩
/-- as SdE, some token given -/
def SdP (X : Cx) (e : Expr) (w : WE) : Prop := ∃ t, PEp X e t ∧ SimE X.K t w
/-- o.replace(y, z) -/
def eRepl (y z : Str) (o : WE) : WE := fun τ C Q χ => o τ C (fun x C1 => ∃ u, x = .str u ∧ u.length ≤ 1048576 ∧ Q (.str (Txt.replace u y z)) C1) χ
end
end WL
set_option Elab.async false
set_option linter.all false
set_option maxRecDepth 100000
set_option maxHeartbeats 4000000
/-! dicts compared: of unlike sizes, or the same keys in the same order and alike values -/
namespace L2
open PySem PySem.Spec PyProof.Rows
section
variable {prog : Program} {w : World} {A : Around} {E : Value → Shared → Prop} {s : Shared} {a b : Addr} {oa ob : Obj} {ea eb : Array DictEntry} {pa pb : Nat}
end
end L2
set_option Elab.async false
set_option linter.all false
set_option maxRecDepth 100000
set_option maxHeartbeats 4000000
/-! zip of a tuple and a list, of two tuples: both of one length -/
namespace L2
open PySem PySem.Spec PyProof.Rows
section
variable {prog : Program} {w : World} {A : Around} {E : Value → Shared → Prop} {s : Shared}
end
/-- what stands apart -/
structure ZAp (z TI TO i1 i2 : Addr) (f1 f2 : List Addr) : Prop where
  m1 : i1 ∈ f1
  m2 : i2 ∈ f2
  z1 : z ∉ f1
  z2 : z ∉ f2
  o1 : TO ∉ f1
  o2 : TO ∉ f2
  a12 : i1 ∉ f2
  a21 : i2 ∉ f1
  tz : TI ≠ z
  oz : TO ≠ z
  io : TI ≠ TO
  t1 : TI ≠ i1
  t2 : TI ≠ i2
section
variable {prog : Program} {w : World} {A : Around} {E : Value → Shared → Prop} {s : Shared} {z TI TO i1 i2 : Addr} {f1 f2 : List Addr} {n : Nat} {P1 P2 : Nat → Value → Prop} {S1 S2 : Nat → Heap → Prop}
end
end L2
set_option Elab.async false
set_option linter.all false
set_option maxRecDepth 100000
set_option maxHeartbeats 4000000
/-! for a, b in zip(..) -/
namespace L2
open PySem PySem.Spec PyProof.Rows Builtin
abbrev itOb (c : String) (l : Addr) : Obj := { cls := .type c, data := .fields #[.ref l, .int 0 0] }
def SrX (b : Bool) (h : Heap) (l : Addr) (its : Array Value) : Prop := if b then h.IsList l its else h.IsTuple l its
/-- what stands behind a zip made new -/
structure ZNew (h h2 : Heap) (c1 : String) (l1 : Addr) (c2 : String) (l2 : Addr) : Prop where
  zip : IsZip h2 (h.objs.size + 4) (h.objs.size + 2) (h.objs.size + 3) .none
  its : IsPair h2 (h.objs.size + 2) (.ref h.objs.size) (.ref (h.objs.size + 1))
  own : IsPair h2 (h.objs.size + 3) .none .none
  i1 : h2.get? h.objs.size = some (itOb c1 l1)
  i2 : h2.get? (h.objs.size + 1) = some (itOb c2 l2)
  keep : ∀ c o, h.get? c = some o → h2.get? c = some o
section
variable {prog : Program} {w : World} {A : Around} {E : Value → Shared → Prop} {s : Shared}
end
/-! ### the walk, by values -/
/-- the second one is a list (true) or a tuple -/
def SqX (b : Bool) (K : PySem.W.Frag) (H : Hp) (a : Addr) (xs : List V) : Prop := if b then SqL K H a xs else SqT K H a xs
def ItX (b : Bool) (h : Heap) (it l : Addr) (i : Nat) : Prop := if b then h.IsListIter it l i else h.IsTupleIter it l i
section
variable {X : Cx} {pins : List (Addr × Obj)} {σ : St} {H : Hp} {s : Shared}
end
section
variable {X : Cx} {elts : List Expr} {ek : Nat} {epos : Pos}
end
end L2
set_option Elab.async false
set_option linter.all false
set_option maxRecDepth 100000
set_option maxHeartbeats 4000000
/-! the second level: any, dict(d), d.pop(k, x), dicts compared, zip -/
namespace L2
open PySem PySem.Spec PyProof.Rows
section
variable {X : Cx}
end
/-! keys found -/
section
variable {prog : Program} {w : World} {K : Type} [DecidableEq K] {knd : KeyKind prog w K}
end
end L2
namespace WL
open PySem PySem.Spec PyProof.Rows L2
section
variable {X : Cx} {e o a b f : Expr} {we wo wa wb wi wd : WE} {wA : WA} {p p2 pos pos2 apos cpos : Pos}
def dropT (kvs : List (Key × T)) (k : Key) : List (Key × T) := kvs.filter fun kv => decide (kv.1 ≠ k)
/-- o.pop(i, d) -/
def eDpop2 (o i d : WE) : WE := fun τ C Q χ => o τ C (fun x C1 => (∃ a kvs, x = .ref a ∧ C1 a = some (.dic kvs)) ∧ i τ C1 (fun y C2 => d τ C2 (fun z C3 => ∃ a kvs k, x = .ref a ∧ kT y = some k ∧ C3 a = some (.dic kvs) ∧
  (∀ v, getT kvs k = some v → Q v (up C3 a (.dic (dropT kvs k)))) ∧ (getT kvs k = none → Q z C3)) χ) χ) χ
/-! dicts compared -/
/-! ### zip -/
end
end WL
set_option Elab.async false
set_option linter.all false
set_option maxRecDepth 100000
set_option maxHeartbeats 4000000
/-! for k in a dict: from then on the dict is read alone -/
namespace L2
open PySem PySem.Spec PyProof.Rows
section
variable {X : Cx} {pins : List (Addr × Obj)} {σ : St} {H : Hp} {s : Shared}
end
def Itd (o : Obj) (d : Addr) (ks : List (Key × V)) : It :=
  ⟨fun i H => H d = some (.frz o (.dK ks)) ∧ i < ks.length, fun i H x H' => H' = H ∧ ∃ kv, ks[i]? = some kv ∧ x = kV kv.1, fun i H => H d = some (.frz o (.dK ks)) ∧ i = ks.length⟩
section
variable {X : Cx} {tg e : Expr}
/-- for k in e, e a dict -/
def iDic (td : TE) : TI := fun σ H R => td σ H fun x H1 => ∃ d ks, x = .ref d ∧ Rd H1 d (.dK ks) ∧ ∀ o, (∀ o', H1 d = some (.frz o' (.dK ks)) → o' = o) → R (Itd o d ks) (upd H1 d (.frz o (.dK ks)))
end
end L2
set_option Elab.async false
set_option linter.all false
set_option maxRecDepth 100000
set_option maxHeartbeats 4000000
/-! the second level: dicts that are read, walked -/
namespace WL
open PySem PySem.Spec PyProof.Rows L2
/-- a dict that may be read -/
def RdC (C : Hw) (a : Addr) (kvs : List (Key × T)) : Prop := C a = some (.dic kvs) ∨ C a = some (.fdic kvs)
section
variable {X : Cx} {e o a b c f i : Expr} {we wo wa wb wi wd : WE} {wA : WA} {p p2 pos pos2 apos cpos : Pos} {tg : Expr}
/-! reading -/
/-! ### for k in a dict -/
end
end WL
set_option Elab.async false
set_option linter.all false
set_option maxRecDepth 100000
set_option maxHeartbeats 4000000
/-! the second level: get with one argument of a dict that is read -/
namespace WL
open PySem PySem.Spec PyProof.Rows L2
section
variable {X : Cx} {e o : Expr} {we wo wi : WE} {apos cpos : Pos}
end
end WL
set_option Elab.async false
set_option linter.all false
set_option maxRecDepth 100000
set_option maxHeartbeats 4000000
/-! the second level: objects of own classes -/
namespace WL
open PySem PySem.Spec PyProof.Rows L2
/-! ### attributes -/
def putFT (f : Str) (v : T) : List (Str × T) → List (Str × T)
  | [] => [(f, v)]
  | (g, x) :: r => if g = f then (g, v) :: r else (g, x) :: putFT f v r
section
variable {K : PySem.W.Frag} {H : Hp}
theorem pr_putF {f : Str} {y : V} {v : T} (q : Rep K H y v) : ∀ {ks : List (Str × V)} {fs : List (Str × T)}, PR K H ks fs → PR K H (putF f y ks) (putFT f v fs)
  | [], [], _ => .cons ⟨rfl, q⟩ .nil
  | (k, x) :: ks, (g, z) :: fs, .cons h r => by
    obtain ⟨e, q'⟩ := h
    cases e
    show PR K H (if k = f then (k, y) :: ks else (k, x) :: putF f y ks) (if k = f then (k, v) :: fs else (k, z) :: putFT f v fs)
    by_cases c : k = f
    · rw [if_pos c, if_pos c]; exact .cons ⟨rfl, q⟩ r
    · rw [if_neg c, if_neg c]; exact .cons ⟨rfl, q'⟩ (pr_putF q r)
theorem pr_look {f : Str} : ∀ {ks : List (Str × V)} {fs : List (Str × T)}, PR K H ks fs → (∀ v, fs.lookup f = some v → ∃ y, ks.lookup f = some y ∧ Rep K H y v) ∧ (fs.lookup f = none → ks.lookup f = none)
  | [], [], _ => ⟨fun v h => by simp at h, fun _ => rfl⟩
  | (k, x) :: ks, (g, z) :: fs, .cons h r => by
    obtain ⟨e, q'⟩ := h
    cases e
    by_cases c : f = k
    · have hb : (f == k) = true := beq_iff_eq.mpr c
      simp only [List.lookup, hb]
      exact ⟨fun v h => by cases h; exact ⟨x, rfl, q'⟩, fun h => by cases h⟩
    · have hb : (f == k) = false := beq_eq_false_iff_ne.mpr c
      simp only [List.lookup, hb]
      exact pr_look r
theorem pr_len : ∀ {κ : Type} {ks : List (κ × V)} {fs : List (κ × T)}, PR K H ks fs → ks.length = fs.length
  | _, [], [], _ => rfl
  | _, _ :: _, _ :: _, .cons _ r => by rw [List.length_cons, List.length_cons, pr_len r]
end
/-- the class of the name -/
abbrev ClsAt (K : PySem.W.Frag) (cn : Str) (Cl : Addr) : Prop := PySem.W.nsIn K mainGlobals cn = some (some (.ref Cl))
/-- what a class must have, and no class of it has the name f -/
structure KF (K : PySem.W.Frag) (f cn : Str) : Prop where
  ex : ∃ Cl, ClsAt K cn Cl ∧ Cls K Cl ∧ NoAttr K Cl f
theorem KF.at {K : PySem.W.Frag} {f cn : Str} (h : KF K f cn) {Cl : Addr} (c : ClsAt K cn Cl) : Cls K Cl ∧ NoAttr K Cl f := by
  obtain ⟨C2, h1, h2⟩ := h.ex
  have e : some (some (Value.ref C2)) = some (some (Value.ref Cl)) := h1.symm.trans c
  cases e
  exact h2
def eFld (cs : List Str) (f : Str) (o : WE) : WE := fun τ C Q χ => o τ C (fun x C1 => ∃ a cn fs v, x = .ref a ∧ C1 a = some (.ins cn fs) ∧ cn ∈ cs ∧ fs.lookup f = some v ∧ Q v C1) χ
def gFd (cs : List Str) (f : Str) (o : WE) : WG := fun v τ C Q χ => o τ C (fun x C1 => ∃ a cn fs, x = .ref a ∧ C1 a = some (.ins cn fs) ∧ cn ∈ cs ∧ fs.length < 1000 ∧ Q τ (up C1 a (.ins cn (putFT f v fs)))) χ
theorem Rl.ins {K : PySem.W.Frag} {F H : Hp} {C : Hw} (R : Rl K F H C) {a : Addr} {cn : Str} {fs : List (Str × T)} (h : C a = some (.ins cn fs)) : ∃ Cl dx ks, ClsAt K cn Cl ∧ H a = some (.ins Cl dx ks) ∧ PR K H ks fs := R.obj a _ h
section
variable {X : Cx} {e o value : Expr} {we wo wv : WE} {f : Str} {cs : List Str} {pos pos' apos cpos : Pos}
theorem d_fld (hk : ∀ cn ∈ cs, KF X.K f cn) (he : SdE X e we) (hb : attributeBase e f X.env (eval e X.env) = eval e X.env := by rfl) : SdE X (.Attribute e f pos) (eFld cs f we) := by
  obtain ⟨ta, p1, s1⟩ := he
  refine ⟨_, pe_fld p1 hb, fun F H C σ τ Q Q' χ R S h q => ?_⟩
  refine s1 F H C σ τ _ _ χ R S h fun x v H1 C1 R1 t1 rx h1 => ?_
  obtain ⟨a, cn, fs, v', rfl, hC, hcn, hl, h1⟩ := h1
  cases of_ref rx
  obtain ⟨Cl, dx, ks, hc, hH, pr⟩ := R1.ins hC
  obtain ⟨y, hy, ry⟩ := (pr_look pr).1 v' hl
  obtain ⟨c1, c2⟩ := (hk cn hcn).at hc
  exact ⟨a, Cl, dx, ks, y, rfl, hH, c1, c2, hy, q _ _ H1 C1 R1 t1 ry h1⟩
theorem ds_fld (hk : ∀ cn ∈ cs, KF X.K f cn) (ho : SdE X o wo) (hv : SdE X value wv) (hs : swapsWith value (some (.Attribute o f pos')) pos.line X.env = pure false := by rfl) : SdS X (.Assign [.Attribute o f pos'] value pos) (sAsg wv (gFd cs f wo)) := by
  obtain ⟨ta, p1, s1⟩ := ho
  obtain ⟨tv, p2, s2⟩ := hv
  refine ⟨_, ps_fld p1 p2 hs, fun F H C σ τ D D' R S h d => ?_⟩
  refine s2 F H C σ τ _ _ D'.xc R S h fun y v H1 C1 R1 t1 ry h1 => ?_
  refine s1 F H1 C1 σ τ _ _ D'.xc R1 (S.tx t1) h1 fun x u H2 C2 R2 t2 rx h2 => ?_
  obtain ⟨a, cn, fs, rfl, hC, hcn, hl, h2⟩ := h2
  cases of_ref rx
  obtain ⟨Cl, dx, ks, hc, hH, pr⟩ := R2.ins hC
  obtain ⟨c1, c2⟩ := (hk cn hcn).at hc
  have tp : Tx H2 (upd H2 a (.ins Cl dx (putF f y ks))) := Tx.put hH (fun z => z)
  obtain ⟨R3, t3⟩ := R2.put (u := .ins Cl dx (putF f y ks)) (o' := .ins cn (putFT f v fs)) hC ⟨Cl, dx, _, hc, upd_same, pr_tx tp (pr_putF (ry.tx t2) pr)⟩
  exact ⟨a, Cl, dx, ks, rfl, hH, c1, c2, by rw [pr_len pr]; exact hl, d.nx _ _ _ _ R3 ((t1.trans t2).trans t3) (S.tx ((t1.trans t2).trans t3)) h2⟩
end
/-! ### methods -/
/-- o.m(..), by the class of o -/
def tMethD (MT : Addr → L2.Sp → Prop) (m : Str) (E : XK) (ta : TE) (t : TA) : TE := fun σ H Q => ta σ H fun x H1 => ∃ a C dx fs sp, x = .ref a ∧ H1 a = some (.ins C dx fs) ∧ MT C sp ∧ fs.lookup m = none ∧ t σ H1 fun vs H2 => sp (x :: vs) H2 Q E
section
variable {X : Cx} {k : Nat} {E : XK} {m : Str} {p pos apos : Pos} {e o : Expr} {es : List Expr} {ta : TE} {t : TA} {MT : Addr → L2.Sp → Prop}
def MOk (X : Cx) (k : Nat) (m : Str) (MT : Addr → L2.Sp → Prop) : Prop := ∀ C sp, MT C sp → ∃ f fd ps, Cls X.K C ∧ Meth X.K C m f ∧ FnOk X.prog X.w X.K X.mg X.base CX0 k f fd ps sp ∧ Binds X.K fd ps []
theorem pe_methD0 {pl : Sem Bool} (he : PE X o ta) (hM : MOk X k m MT) (hr : Room k X.A)
    (ht : eval (.Call (.Attribute o m apos) [] [] pos) X.env = (do
      let ov ← eval o X.env
      standAt apos.atName
      let (f, first) ← holding [ov] (getMethod ov m pl)
      callWith pos f first (backTo pos (starEach [] X.env)) (backToKw pos (keywordEach [] X.env))) := by rfl) :
    PE X (.Call (.Attribute o m apos) [] [] pos) (tMethD MT m E0 ta tNil) := by
  intro pins s σ H Q I h
  refine PySem.W.methodCall_KW (pl := pl) (thn (he pins s σ H _ I h) fun u s1 ⟨x, H1, I1, rx, a, C, dx, fs, sp, ex, ea, hmt, l, q⟩ => ?_) ht
  subst ex
  obtain rfl : u = Value.ref a := rx
  obtain ⟨f, fd, ps, c, hm, F, hb⟩ := hM C sp hmt
  refine getmeth_ok I1 ea c hm l ?_
  exact PySem.W.callWith_K0 (first := [.ref a]) I1.kIn hm.kp (run_fn (us := [.ref a]) (vs := [.ref a]) (dvs := []) F hr hb .nil pass0 I1 (.cons rfl .nil) q)
end
/-- a method's promise -/
def Cm (P : Program) (w : World) (K : PySem.W.Frag) (mg : Str → Option Value) (base : Heap) (n : Nat) (cn m : Str) (ps : List Str) (sp : L2.Sp) : Prop :=
  ∃ Cl f fd, ClsAt K cn Cl ∧ Cls K Cl ∧ Meth K Cl m f ∧ FnOk P w K mg base CX0 n f fd ps sp ∧ Binds K fd ps []
/-- the methods of the name m, by classes -/
def MTb (P : Program) (w : World) (K : PySem.W.Frag) (mg : Str → Option Value) (base : Heap) (n : Nat) (pr : List Df) (m : Str) (tb : List (Str × Nat)) : Prop := ∀ cn i, tb.lookup cn = some i → ∃ ps, Cm P w K mg base n cn m ps (spW K pr n i)
section
variable {P : Program} {w : World} {K : PySem.W.Frag} {mg : Str → Option Value} {base : Heap} {n : Nat} {pr : List Df} {m : Str} {tb : List (Str × Nat)}
theorem mt_nil : MTb P w K mg base n pr m [] := fun cn i h => by simp at h
theorem mt_cons {cn : Str} {i : Nat} {ps : List Str} (h : Cm P w K mg base n cn m ps (spW K pr n i)) (r : MTb P w K mg base n pr m tb) : MTb P w K mg base n pr m ((cn, i) :: tb) := fun c j e => by
  by_cases q : c = cn
  · have hb : (c == cn) = true := beq_iff_eq.mpr q
    simp only [List.lookup, hb] at e
    cases e; subst q; exact ⟨ps, h⟩
  · have hb : (c == cn) = false := beq_eq_false_iff_ne.mpr q
    simp only [List.lookup, hb] at e
    exact r c j e
end
def eMth (P : Calls) (tb : List (Str × Nat)) (m : Str) (o : WE) (a : WA) : WE := fun τ C Q χ => o τ C (fun x C1 => ∃ ad cn fs i, x = .ref ad ∧ C1 ad = some (.ins cn fs) ∧ tb.lookup cn = some i ∧ fs.lookup m = none ∧ a τ C1 (fun vs C2 => P i (x :: vs) C2 Q χ) χ) χ
section
variable {X : Cx} {k : Nat} {m : Str} {p pos apos : Pos} {e o : Expr} {es : List Expr} {wo : WE} {wA : WA} {tb : List (Str × Nat)} {pr : List Df}
theorem mok_of (T : MTb X.prog X.w X.K X.mg X.base k pr m tb) : MOk X k m (fun C sp => ∃ cn i, ClsAt X.K cn C ∧ tb.lookup cn = some i ∧ sp = spW X.K pr k i) := fun C sp h => by
  obtain ⟨cn, i, hc, hl, rfl⟩ := h
  obtain ⟨ps, Cl, f, fd, h1, h2, h3, h4, h5⟩ := T cn i hl
  have ee : some (some (Value.ref Cl)) = some (some (Value.ref C)) := h1.symm.trans hc
  cases ee
  exact ⟨f, fd, ps, h2, h3, h4, h5⟩
theorem d_meth0 {pl : Sem Bool} (T : MTb X.prog X.w X.K X.mg X.base k pr m tb) (hr : Room k X.A) (ho : SdE X o wo)
    (ht : eval (.Call (.Attribute o m apos) [] [] pos) X.env = (do
      let ov ← eval o X.env
      standAt apos.atName
      let (f, first) ← holding [ov] (getMethod ov m pl)
      callWith pos f first (backTo pos (starEach [] X.env)) (backToKw pos (keywordEach [] X.env))) := by rfl) :
    SdE X (.Call (.Attribute o m apos) [] [] pos) (eMth (wpc pr k) tb m wo aNil) := by
  obtain ⟨to, p1, s1⟩ := ho
  refine ⟨_, pe_methD0 (pl := pl) p1 (mok_of T) hr ht, fun F H C σ τ Q Q' χ R S h q => ?_⟩
  refine s1 F H C σ τ _ _ χ R S h fun x v H1 C1 R1 t1 rx h1 => ?_
  obtain ⟨a, cn, fs, i, rfl, hC, hl, hm, h1⟩ := h1
  cases of_ref rx
  obtain ⟨Cl, dx, ks, hc, hH, prr⟩ := R1.ins hC
  refine ⟨a, Cl, dx, ks, _, rfl, hH, ⟨cn, i, hc, hl, rfl⟩, (pr_look prr).2 hm, ?_⟩
  exact ⟨F, C1, [.ref a], Q', χ, R1, reps_cons rep_ref reps_nil, h1, QE.at q t1⟩
end
/-! ### a class called -/
/-- the def that makes an object: it is no def of the text -/
def wNew (cn : Str) (i : Nat) (P : Calls) : WS := fun D τ C => ∃ vs, τ = vs.map some ∧ ∀ p, C p = none → P i (.ref p :: vs) (up C p (.ins cn [])) (fun v C2 => v = .non ∧ D.rt (.ref p) C2) D.xc
/-- a class's promise: the j-th def makes its objects, the i-th is __init__ -/
def Cn (P : Program) (w : World) (K : PySem.W.Frag) (mg : Str → Option Value) (base : Heap) (n : Nat) (pr : List Df) (cn : Str) (i j : Nat) : Prop :=
  (∃ ar, pr[j]? = some ⟨ar, ar, wNew cn i⟩) ∧ ∃ Cl f, ClsAt K cn Cl ∧ mg cn = some (.ref Cl) ∧ L2.Mk K Cl f ∧ (n = 0 ∨ ∃ k fd ps, n = k + 1 ∧ FnOk P w K mg base CX0 k f fd ps (spW K pr k i) ∧ Binds K fd ps [])
section
variable {X : Cx} {k i j : Nat} {cn : Str} {p pos : Pos} {e : Expr} {es : List Expr} {wA : WA} {pr : List Df}
theorem d_new (Cc : Cn X.prog X.w X.K X.mg X.base k pr cn i j) (hr : Room k X.A) (hg : Gl X cn) (ha : SdA X (e :: es) wA)
    (hdb : (cn == ("__debug__" : Str)) = false := by decide) (he : starEach (e :: es) X.env = (false, eval e X.env) :: starEach es X.env := by rfl) (hpl : (backTo pos (starEach es X.env)).any (·.1) = false := by rfl) :
    SdE X (.Call (.Name cn p) (e :: es) [] pos) (eCall (wpc pr k) j wA) := by
  obtain ⟨⟨ar, hj⟩, Cl, f, hc, hm, M, h0 | ⟨k', fd, ps, rfl, F, hb⟩⟩ := Cc
  · subst h0
    obtain ⟨ta, p2, s2⟩ := ha
    refine ⟨fun σ H Q => ta σ H fun _ _ => False, fun pins s σ H Q I h => ?_, fun F H C σ τ Q Q' χ R S h q => ?_⟩
    · refine wpAny_Call_Name_kw (ld_glob I hg hm ?_ hdb)
      exact PySem.W.callWith_K (h₀ := X.base) I.ok.mod.kin M.kp (thn (p2 pos pins s σ H _ I h) fun us s1 ⟨vs, H1, I1, r, q⟩ => q.elim) he hpl
    · exact s2 F H C σ τ _ _ χ R S h fun xs vs H2 C2 R2 t2 rs h2 => h2.elim
  · obtain ⟨ta, p2, s2⟩ := ha
    refine ⟨_, pe_make (dvs := []) M F hr hg hm hb .nil pass0 p2 hdb he hpl, fun F' H C σ τ Q Q' χ R S h q => ?_⟩
    refine s2 F' H C σ τ _ _ χ R S h fun xs vs H2 C2 R2 t2 rs h2 => ?_
    intro x dx hx hdx hne
    obtain ⟨d', e1, e2, h2⟩ := h2
    rw [hj] at e1
    cases e1
    obtain ⟨vs', ev, h2⟩ := h2
    have evs : vs = vs' := by
      have : ar - ar = 0 := Nat.sub_self _
      rw [this, List.replicate_zero, List.append_nil] at ev
      exact (List.map_inj_right fun a b z => by cases z; rfl).mp ev
    subst evs
    have hCx : C2 x = none := R2.free hx
    have R3 : Rl X.K F' (upd H2 dx (.own x)) C2 := R2.hid hdx
    have hx3 : upd H2 dx (.own x) x = none := by rw [upd_ne hne.symm]; exact hx
    have R4 : Rl X.K F' (upd (upd H2 dx (.own x)) x (.ins Cl dx [])) (up C2 x (.ins cn [])) := R3.new hx3 ⟨Cl, dx, [], hc, upd_same, .nil⟩
    have t4 : Tx H2 (upd (upd H2 dx (.own x)) x (.ins Cl dx [])) := (Tx.new hdx).trans (Tx.new hx3)
    refine ⟨F', _, .ref x :: vs, _, χ, R4, ?_, h2 x hCx, ?_⟩
    · rw [List.append_nil]; exact reps_cons rep_ref (rs.tx t4)
    · intro y v H5 C5 R5 t5 ry h5
      obtain ⟨rfl, h5⟩ := h5
      exact ⟨of_non ry, q _ _ H5 C5 R5 ((t2.trans t4).trans t5) rep_ref h5⟩
end
/-! ### the promises -/
theorem fn_okQ {P : Program} {w : World} {K : PySem.W.Frag} {mg : Str → Option Value} {base : Heap} {x qual : Str} {st : Stmt} {f : Addr} {fd : FuncData} {N ps : List Str} {pr : List Df} {n i : Nat} {d : Df} (F : Fun K x qual st f fd) (S : FnScope N ps (defScope st)) (hd : pr[i]? = some d) (hn : d.n = N.length) (har : d.ar = ps.length)
    (hb : ∀ (cdv : Value) (A : Around) (outer : List Env) (s : Shared) (H : Hp) (E : XK), Room n (A.deeper (envOfC qual (defScope st) s.heap.objs.size f cdv)) → SdB (cxOf CX0 P w K mg base N qual (defScope st) f cdv A outer s H E).nox (defBody st) (d.body (wpc pr n))) :
    FnOk P w K mg base CX0 (n + 1) f fd ps (spW K pr (n + 1) i) := by
  refine F.ok S (fun vs H Q E h => ?_) (fun cdv A outer s H vs Q E hr h => ?_)
  · obtain ⟨F', C, vs', Q', χ, R, rs, ⟨d', e1, e2, _⟩, _⟩ := h
    rw [hd] at e1; cases e1
    rw [rs.length, e2, har]
  · obtain ⟨F', C, vs', Q', χ, R, rs, ⟨d', e1, e2, h⟩, q⟩ := h
    rw [hd] at e1; cases e1
    obtain ⟨t, p, sm⟩ := hb cdv A outer s H E hr
    refine ⟨t, p, sm F' H C _ _ _ _ R (RepS.start rs N _ (by rw [rs.length, e2, hn])) h ⟨fun σ τ H' C' R' t' _ h' => q .non .non H' C' R' t' rep_non h', q, fun _ _ _ _ _ _ _ z => z.elim, fun _ _ _ _ _ _ _ z => z.elim⟩⟩
theorem fnok_zero {P : Program} {w : World} {K : PySem.W.Frag} {mg : Str → Option Value} {base : Heap} {f : Addr} {fd : FuncData} {ps : List Str} {pr : List Df} {i : Nat} : FnOk P w K mg base CX0 0 f fd ps (spW K pr 0 i) :=
  ⟨fun vs H Q E h => by obtain ⟨_, _, _, _, _, _, _, z, _⟩ := h; exact z.elim, fun A outer s H args us vs Q E _ _ _ _ h => by obtain ⟨_, _, _, _, _, _, _, z, _⟩ := h; exact z.elim⟩
/-- what of the text a class must have -/
structure Kl (K : PySem.W.Frag) (mg : Str → Option Value) (cn : Str) (Cl : Addr) : Prop where
  at_ : ClsAt K cn Cl
  mg : mg cn = some (.ref Cl)
  cls : Cls K Cl
theorem cm_mk {P : Program} {w : World} {K : PySem.W.Frag} {mg : Str → Option Value} {base : Heap} {n : Nat} {cn m : Str} {ps : List Str} {sp : L2.Sp} {Cl f : Addr} {fd : FuncData} (k : Kl K mg cn Cl) (m' : Meth K Cl m f) (G : FnOk P w K mg base CX0 n f fd ps sp) (hb : Binds K fd ps []) : Cm P w K mg base n cn m ps sp :=
  ⟨Cl, f, fd, k.at_, k.cls, m', G, hb⟩
theorem cn_zero {P : Program} {w : World} {K : PySem.W.Frag} {mg : Str → Option Value} {base : Heap} {pr : List Df} {cn : Str} {i j ar : Nat} {Cl f : Addr} (hj : pr[j]? = some ⟨ar, ar, wNew cn i⟩) (k : Kl K mg cn Cl) (M : L2.Mk K Cl f) : Cn P w K mg base 0 pr cn i j := ⟨⟨ar, hj⟩, Cl, f, k.at_, k.mg, M, .inl rfl⟩
theorem cn_succ {P : Program} {w : World} {K : PySem.W.Frag} {mg : Str → Option Value} {base : Heap} {pr : List Df} {cn : Str} {n i j ar : Nat} {Cl f : Addr} {fd : FuncData} {ps : List Str} (hj : pr[j]? = some ⟨ar, ar, wNew cn i⟩) (k : Kl K mg cn Cl) (M : L2.Mk K Cl f) (G : FnOk P w K mg base CX0 n f fd ps (spW K pr n i)) (hb : Binds K fd ps []) : Cn P w K mg base (n + 1) pr cn i j :=
  ⟨⟨ar, hj⟩, Cl, f, k.at_, k.mg, M, .inr ⟨n, fd, ps, rfl, G, hb⟩⟩
theorem cn_ofCm {P : Program} {w : World} {K : PySem.W.Frag} {mg : Str → Option Value} {base : Heap} {pr : List Df} {cn : Str} {n i j ar : Nat} {Cl : Addr} {ps : List Str} (hj : pr[j]? = some ⟨ar, ar, wNew cn i⟩) (k : Kl K mg cn Cl) (mk : PySem.W.makesIn K Cl = true) (kc : PySem.W.keepIn K (.ref Cl) = true)
    (h : Cm P w K mg base n cn "__init__" ps (spW K pr n i)) : Cn P w K mg base (n + 1) pr cn i j := by
  obtain ⟨C2, f, fd, h1, h2, h3, h4, h5⟩ := h
  have e : some (some (Value.ref C2)) = some (some (Value.ref Cl)) := h1.symm.trans k.at_
  cases e
  exact cn_succ hj k ⟨mk, h3.at_, h3.fn, kc⟩ h4 h5
theorem kf_nil {K : PySem.W.Frag} {f : Str} : ∀ cn ∈ ([] : List Str), KF K f cn := fun _ h => by cases h
theorem kf_cons {K : PySem.W.Frag} {f cn : Str} {cs : List Str} (a : KF K f cn) (r : ∀ c ∈ cs, KF K f c) : ∀ c ∈ cn :: cs, KF K f c := fun c h => by
  rcases List.mem_cons.mp h with rfl | h
  · exact a
  · exact r c h
end WL
set_option Elab.async false
set_option linter.all false
set_option maxRecDepth 100000
set_option maxHeartbeats 4000000
/-! the second level: == of tuples and lists with lists in them; calls with defaults -/
namespace WL
open PySem PySem.Spec PyProof.Rows L2
/-- v == w is b, nested at most n deep -/
def EqH (C : Hw) : Nat → T → T → Bool → Prop
  | 0, v, w, b => flat v 0 = true ∧ flat w 0 = true ∧ b = eqT v w
  | n + 1, v, w, b => (flat v n = true ∧ flat w n = true ∧ b = eqT v w) ∨
      (∃ (xs ys : List T) (e : Nat → Bool), v = .tup xs ∧ w = .tup ys ∧ (∀ j x y, xs[j]? = some x → ys[j]? = some y → EqH C n x y (e j)) ∧ b = ((List.range (min xs.length ys.length)).all e && xs.length == ys.length)) ∨
      (∃ (a a' : Addr) (xs ys : List T) (e : Nat → Bool), v = .ref a ∧ w = .ref a' ∧ C a = some (.lst xs) ∧ C a' = some (.lst ys) ∧ (xs.length = ys.length → ∀ j x y, xs[j]? = some x → ys[j]? = some y → EqH C n x y (e j)) ∧
        b = (if xs.length = ys.length then (List.range xs.length).all e else false))
section
variable {X : Cx} {pins : List (Addr × Obj)} {σ : L2.St} {F H : Hp} {s : Shared} {C : Hw}
end
section
variable {X : Cx}
end
/-! ### defaults -/
structure FunD (K : PySem.W.Frag) (x qual : Str) (st : Stmt) (f : Addr) (fd : FuncData) : Prop where
  ex : ∃ (oc : Value) (od : Option Addr) (dV kV doc pm : Value) (an : Option Addr) (cdv ct : Value) (osl : Array (Option Value)),
    fd = PySem.W.fnOf x qual (defArgs st) (defBody st) (defScope st) dV kV doc pm an cdv ct ∧ K.lookup f = some ⟨oc, od, .func fd, osl⟩ ∧ PySem.W.codeIn K cdv qual = true
  kp : PySem.W.keepIn K (.ref f) = true
/-- a def's promise; ds: the defaults of the last parameters, whole numbers -/
def CaD (P : Program) (w : World) (K : PySem.W.Frag) (mg : Str → Option Value) (base : Heap) (n : Nat) (x : Str) (ps : List Str) (ds : List Int) (sp : L2.Sp) : Prop :=
  ∃ f fd, FnOk P w K mg base CX0 n f fd ps sp ∧ (∃ us : List Value, Vals (ds.map V.int) us ∧ ∀ j, j ≤ ds.length → Binds K fd ps (us.drop j)) ∧ PySem.W.keepIn K (.ref f) = true ∧ mg x = some (.ref f)
def aApp (ws : List T) (a : WA) : WA := fun τ C Q χ => a τ C (fun vs C1 => Q (vs ++ ws) C1) χ
end WL
set_option Elab.async false
set_option linter.all false
set_option maxRecDepth 100000
set_option maxHeartbeats 4000000
/-! dict(zip(a, b)) -/
namespace PySem
open Sem (wp)
namespace F
end F
section
variable {z : Addr}
end
end PySem
set_option Elab.async false
set_option linter.all false
set_option maxRecDepth 100000
set_option maxHeartbeats 4000000
/-! a zip walked, its tuples kept -/
namespace L2
open PySem PySem.Spec PyProof.Rows
/-- a zip whose owned tuple was handed out -/
abbrev IsZipB (h : Heap) (z TI TO T : Addr) (b : Bool) : Prop :=
  h.get? z = some { cls := .type "zip", dict := none, data := .fields #[rawInt T, .bool b, .bool false, .ref TI, .ref TO], slots := #[] }
section
variable {prog : Program} {w : World} {A : Around} {E : Value → Shared → Prop} {s : Shared} {z TI TO i1 i2 : Addr} {f1 f2 : List Addr} {n : Nat} {P1 P2 : Nat → Value → Prop} {S1 S2 : Nat → Heap → Prop}
end
end L2
set_option Elab.async false
set_option linter.all false
set_option maxRecDepth 100000
set_option maxHeartbeats 4000000
namespace PySem.F
end PySem.F
namespace L2
open PySem PySem.Spec PyProof.Rows
/-- a zip of two tuples (lists: zb), i items drawn -/
structure ZS (zb : Bool) (z TI TO i1 i2 l1 l2 : Addr) (xs ys : Array Value) (i : Nat) (h : Heap) : Prop where
  zip : IsZip h z TI TO .none ∨ ∃ T b, IsZipB h z TI TO T b ∧ (∃ o, h.get? T = some o) ∧ T ≠ z ∧ T ≠ TO ∧ T ≠ i1 ∧ T ≠ i2
  its : IsPair h TI (.ref i1) (.ref i2)
  own : ∃ a b, IsPair h TO a b
  s1 : ItX zb h i1 l1 i ∧ SrX zb h l1 xs
  s2 : ItX zb h i2 l2 i ∧ SrX zb h l2 ys
section
variable {prog : Program} {w : World} {A : Around} {E : Value → Shared → Prop} {s : Shared} {zb : Bool} {z TI TO i1 i2 l1 l2 : Addr} {xs ys : Array Value}
end
end L2
set_option Elab.async false
set_option linter.all false
set_option maxRecDepth 100000
set_option maxHeartbeats 4000000
namespace L2
open PySem PySem.Spec PyProof.Rows
/-- the table of keys and values, one after another -/
def dzK {α : Type} (put : List (Key × α) → Key → α → List (Key × α)) (ks : List Key) (ys : List α) : List (Key × α) := (ks.zip ys).foldl (fun a kv => put a kv.1 kv.2) []
section
variable {X : Cx}
end
end L2
set_option Elab.async false
set_option linter.all false
set_option maxRecDepth 100000
set_option maxHeartbeats 4000000
/-! the second level: dict(zip(a, b)) of two tuples -/
namespace WL
open PySem PySem.Spec PyProof.Rows L2
section
variable {X : Cx} {a c : Expr} {wA : WA} {p pos p2 pos2 : Pos}
end
end WL
set_option Elab.async false
set_option linter.all false
set_option maxRecDepth 100000
set_option maxHeartbeats 4000000
/-! texts laid together in place: f"{a}.{b}" -/
namespace L2
open PySem PySem.Spec PyProof.Rows
section
variable {X : Cx}
/-- {e} of a text or a whole number -/
def tFv (te : TE) : TE := fun σ H Q => te σ H fun x H1 => (∃ z : Str, x = .str z ∧ z.length ≤ sizeLine ∧ Q (.str z) H1) ∨ ∃ i : Int, x = .int i ∧ i.natAbs.log2 < 1920 ∧ Q (.str (toString i)) H1
def tJ : List TE → Str → TE
  | [], out => fun _ H Q => Q (.str out) H
  | t :: ts, out => fun σ H Q => t σ H fun x H1 => ∃ z : Str, x = .str z ∧ (out ++ z).length ≤ sizeLine ∧ tJ ts (out ++ z) σ H1 Q
inductive PEs (X : Cx) : List Expr → List TE → Prop
  | nil : PEs X [] []
  | cons {e : Expr} {es : List Expr} {t : TE} {ts : List TE} (h : PE X e t) (r : PEs X es ts) : PEs X (e :: es) (t :: ts)
end
end L2
set_option Elab.async false
set_option linter.all false
set_option maxRecDepth 100000
set_option maxHeartbeats 4000000
/-! the second level: f"{a}.{b}", {k: v} -/
namespace WL
open PySem PySem.Spec PyProof.Rows L2
def eJ : List WE → Str → WE
  | [], out => fun _ C Q _ => Q (.str out) C
  | w :: ws, out => fun τ C Q χ => w τ C (fun v C1 => ∃ z : Str, v = .str z ∧ (out ++ z).length ≤ sizeLine ∧ eJ ws (out ++ z) τ C1 Q χ) χ
section
variable {X : Cx} {e k v : Expr} {we wk wv : WE} {pos : Pos}
/-- the parts of a text -/
def SdJ (X : Cx) (es : List Expr) (ws : List WE) : Prop := ∃ ts, PEs X es ts ∧ ∀ (out : Str), SimE X.K (tJ ts out) (eJ ws out)
/-- {k: v} -/
def eDisp1 (k v : WE) : WE := fun τ C Q χ => ∀ p, C p = none → k τ (up C p (.dic [])) (fun x C1 => v τ C1 (fun y C2 => ∃ kk, kT x = some kk ∧ C2 p = some (.dic []) ∧ Q (.ref p) (up C2 p (.dic [(kk, y)]))) χ) χ
end
end WL
set_option Elab.async false
set_option linter.all false
set_option maxRecDepth 100000
set_option maxHeartbeats 4000000
/-! list.insert at a place within the list or at its end -/
namespace L2
open PySem PySem.Spec PyProof.Rows
section
variable {X : Cx}
end
end L2
set_option Elab.async false
set_option linter.all false
set_option maxRecDepth 100000
set_option maxHeartbeats 4000000
/-! the second level: list.insert -/
namespace WL
open PySem PySem.Spec PyProof.Rows L2
section
variable {X : Cx}
end
end WL
set_option Elab.async false
set_option linter.all false
set_option maxRecDepth 100000
set_option maxHeartbeats 4000000
/-! enumerate(a tuple, start=1) -/
namespace L2
open PySem PySem.Spec PyProof.Rows
open AutoSeq1 (wpAny_loadPart')
end L2
set_option Elab.async false
set_option linter.all false
set_option maxRecDepth 100000
set_option maxHeartbeats 4000000
/-! the call enumerate(a tuple, start=1) -/
namespace L2
open PySem PySem.Spec PyProof.Rows
section
variable {prog : Program} {w : World} {A : Around} {E : Value → Shared → Prop} {s : Shared}
end
end L2
set_option Elab.async false
set_option linter.all false
set_option maxRecDepth 100000
set_option maxHeartbeats 4000000
/-! for k, x in enumerate(a tuple, start=1) -/
namespace L2
open PySem PySem.Spec PyProof.Rows
section
variable {prog : Program} {w : World} {A : Around} {E : Value → Shared → Prop} {s : Shared}
end
end L2
set_option Elab.async false
set_option linter.all false
set_option maxRecDepth 100000
set_option maxHeartbeats 4000000
/-! enumerate(a, start=1) as what a for walks -/
namespace L2
open PySem PySem.Spec PyProof.Rows
section
variable {X : Cx} {elts : List Expr} {ek : Nat} {epos : Pos}
end
end L2
set_option Elab.async false
set_option linter.all false
set_option maxRecDepth 100000
set_option maxHeartbeats 4000000
/-! the second level: for k, x in enumerate(a tuple, start=1) -/
namespace WL
open PySem PySem.Spec PyProof.Rows L2
/-- a row's things with their places, from 1 on -/
def numz (z : Nat) (xs : List T) : List T := xs.zipIdx.map fun c => T.tup [.int ((c.2 + z : Nat) : Int), c.1]
section
variable {X : Cx} {a : Expr} {wA : WA} {p pos kp kc : Pos} {j : Nat}
end
end WL
set_option Elab.async false
set_option linter.all false
set_option maxRecDepth 100000
set_option maxHeartbeats 4000000
/-! the second level: a call with nothing given -/
namespace WL
open PySem PySem.Spec PyProof.Rows L2
end WL
set_option Elab.async false
set_option linter.all false
set_option maxRecDepth 100000
set_option maxHeartbeats 4000000
/-! the second level: a list times a number -/
namespace WL
open PySem PySem.Spec PyProof.Rows L2
section
variable {X : Cx}
end
end WL
set_option Elab.async false
set_option linter.all false
set_option maxRecDepth 100000
set_option maxHeartbeats 4000000
/-! d.update(d') -/
namespace L2
open PySem PySem.Spec PyProof.Rows
section
variable {X : Cx} {pins : List (Addr × Obj)} {σ : St} {H : Hp} {s : Shared} {a b : Addr} {kvs more : List (Key × V)} {A : Around} {E : Value → Shared → Prop}
end
section
variable {X : Cx} {o e : Expr} {apos cpos : Pos} {td ty : TE}
end
end L2
set_option Elab.async false
set_option linter.all false
set_option maxRecDepth 100000
set_option maxHeartbeats 4000000
/-! the second level: a dict of many pairs, d.update(d') -/
namespace WL
open PySem PySem.Spec PyProof.Rows L2
abbrev WPs := Sw → Hw → (List (Key × T) → Hw → Prop) → WX → Prop
section
variable {X : Cx} {pos apos cpos : Pos} {k v o e : Expr} {ks : List (Option Expr)} {vs : List Expr} {wk wv wo we : WE} {w : WPs}
end
end WL
set_option Elab.async false
set_option linter.all false
set_option maxRecDepth 100000
set_option maxHeartbeats 4000000
/-! // by a great divisor, ** of a great number -/
namespace L2
open PySem PySem.Spec PyProof.Rows
section
variable {X : Cx}
end
end L2
namespace WL
open PySem PySem.Spec PyProof.Rows L2
section
variable {X : Cx}
end
end WL
set_option Elab.async false
set_option linter.all false
set_option maxRecDepth 100000
set_option maxHeartbeats 4000000
/-! the second level: what is known of a def at its place, in one -/
namespace WL
open PySem PySem.Spec PyProof.Rows L2
section
variable {P : Program} {w : World} {K : PySem.W.Frag} {mg : Str → Option Value} {base h : Heap} {x q cn : Str} {st : Stmt} {ps : List Str} {pr : List Df} {n i j ar : Nat} {sp : Sp} {Cl : Addr}
def Fg (K : PySem.W.Frag) (x : Str) (st : Stmt) : Prop := ∃ f fd, PySem.W.nsIn K mainGlobals x = some (some (.ref f)) ∧ Fun K x x st f fd
def Fh (K : PySem.W.Frag) (Cl : Addr) (x q : Str) (st : Stmt) : Prop := ∃ f fd, Meth K Cl x f ∧ Fun K x q st f fd
def Ld (K : PySem.W.Frag) (mg : Str → Option Value) (x : Str) (st : Stmt) (ps : List Str) : Prop := ∃ f fd, Fun K x x st f fd ∧ Binds K fd ps [] ∧ mg x = some (.ref f)
def Lm (K : PySem.W.Frag) (Cl : Addr) (x q : Str) (st : Stmt) (ps : List Str) : Prop := ∃ f fd, Meth K Cl x f ∧ Fun K x q st f fd ∧ Binds K fd ps []
/-- how a call binds -/
def Bq (x q : Str) (st : Stmt) (ps : List Str) : Prop := ∀ (kV doc pm : Value) (an : Option Addr) (cdv ct : Value) (us : List Value), us.length = ps.length → bindArgs (PySem.W.fnOf x q (defArgs st) (defBody st) (defScope st) .none kV doc pm an cdv ct) ⟨us, []⟩ = pure (ps.zip us)
theorem ld_mk (X : K.In h) (G : h.Ns mainGlobals mg) (l : Fg K x st) (hb : Bq x x st ps) : Ld K mg x st ps := by
  obtain ⟨f, fd, a, F⟩ := l
  exact ⟨f, fd, F, F.binds hb, PySem.W.mg_of X G a⟩
theorem ld0 (L : Ld K mg x st ps) : Ca P w K mg base 0 x ps (spW K pr 0 i) := by
  obtain ⟨f, fd, F, B, M⟩ := L
  exact ca_zero F B M
theorem ld1 (L : Ld K mg x st ps) (G : ∀ {f fd}, Fun K x x st f fd → FnOk P w K mg base CX0 n f fd ps sp) : Ca P w K mg base n x ps sp := by
  obtain ⟨f, fd, F, B, M⟩ := L
  exact ca_succ F B M (G F)
theorem lm_mk (l : Fh K Cl x q st) (hb : Bq x q st ps) : Lm K Cl x q st ps := by
  obtain ⟨f, fd, a, F⟩ := l
  exact ⟨f, fd, a, F, F.binds hb⟩
theorem lm0 (k : Kl K mg cn Cl) (L : Lm K Cl x q st ps) : Cm P w K mg base 0 cn x ps (spW K pr 0 i) := by
  obtain ⟨f, fd, M, F, B⟩ := L
  exact cm_mk k M fnok_zero B
theorem lm1 (k : Kl K mg cn Cl) (L : Lm K Cl x q st ps) (G : ∀ {f fd}, Fun K x q st f fd → FnOk P w K mg base CX0 n f fd ps sp) : Cm P w K mg base n cn x ps sp := by
  obtain ⟨f, fd, M, F, B⟩ := L
  exact cm_mk k M (G F) B
theorem ln0 (hj : pr[j]? = some ⟨ar, ar, wNew cn i⟩) (k : Kl K mg cn Cl) (mk : PySem.W.makesIn K Cl = true) (kc : PySem.W.keepIn K (.ref Cl) = true) (L : Lm K Cl "__init__" q st ps) : Cn P w K mg base 0 pr cn i j := by
  obtain ⟨f, fd, M, F, B⟩ := L
  exact cn_zero hj k ⟨mk, M.at_, M.fn, kc⟩
theorem cP {X : Cx} {e : Expr} {wA : WA} {k : Nat} {Q : Calls} (hP : wpc pr k = Q) (h : SdE X e (eCall (wpc pr k) i wA)) : SdE X e (eCall Q i wA) := hP ▸ h
theorem mP {X : Cx} {e : Expr} {wA : WA} {wo : WE} {k : Nat} {m : Str} {tb : List (Str × Nat)} {Q : Calls} (hP : wpc pr k = Q) (h : SdE X e (eMth (wpc pr k) tb m wo wA)) : SdE X e (eMth Q tb m wo wA) := hP ▸ h
end
end WL
set_option Elab.async false
set_option linter.all false
set_option maxRecDepth 100000
set_option maxHeartbeats 4000000
/-! list(zip(a, b)): a new list of new tuples -/
namespace L2
open PySem PySem.Spec PyProof.Rows
section
variable {prog : Program} {w : World} {A : Around} {E : Value → Shared → Prop} {s : Shared} {zb : Bool} {z TI TO i1 i2 l1 l2 : Addr} {xs ys : Array Value}
/-- tuples that were made -/
abbrev Prs (h : Heap) (as : List Addr) (ps : List (Value × Value)) : Prop := Paired (fun a p => IsPair h a p.1 p.2) as ps
end
section
variable {X : Cx} {pins : List (Addr × Obj)} {σ : St} {H : Hp} {s : Shared}
/-- the new tuples -/
def updP (H : Hp) : List Addr → List (V × V) → Hp
  | a :: as, p :: ps => updP (upd H a (.tup [p.1, p.2])) as ps
  | _, _ => H
end
end L2
set_option Elab.async false
set_option linter.all false
set_option maxRecDepth 100000
set_option maxHeartbeats 4000000
/-! the second level: list(zip(a, b)) of two tuples -/
namespace WL
open PySem PySem.Spec PyProof.Rows L2
section
variable {X : Cx} {a c : Expr} {wA : WA} {p pos p2 pos2 : Pos}
end
end WL
set_option Elab.async false
set_option linter.all false
set_option maxRecDepth 100000
set_option maxHeartbeats 4000000
/-! d.setdefault(k, x) -/
namespace L2
open PySem PySem.Spec PyProof.Rows
section
variable {X : Cx} {pins : List (Addr × Obj)} {σ : St} {H : Hp} {s : Shared} {a : Addr} {kvs : List (Key × V)} {A : Around} {E : Value → Shared → Prop} {k : Key} {u r : Value} {y : V}
end
section
variable {X : Cx} {o e f : Expr} {apos cpos : Pos} {td ty tx : TE}
end
end L2
set_option Elab.async false
set_option linter.all false
set_option maxRecDepth 100000
set_option maxHeartbeats 4000000
/-! the second level: d.setdefault(k, x) -/
namespace WL
open PySem PySem.Spec PyProof.Rows L2
section
variable {X : Cx} {o e f : Expr} {wo wi wd : WE} {apos cpos : Pos}
/-- o.setdefault(i, d) -/
def eDsd (o i d : WE) : WE := fun τ C Q χ => o τ C (fun x C1 => (∃ a kvs, x = .ref a ∧ C1 a = some (.dic kvs)) ∧ i τ C1 (fun y C2 => d τ C2 (fun z C3 => ∃ a kvs k, x = .ref a ∧ kT y = some k ∧ C3 a = some (.dic kvs) ∧ kvs.length < sizeLine ∧
  (∀ v, getT kvs k = some v → Q v C3) ∧ (getT kvs k = none → Q z (up C3 a (.dic (putT kvs k z))))) χ) χ) χ
end
end WL
set_option Elab.async false
set_option linter.all false
set_option maxRecDepth 100000
set_option maxHeartbeats 4000000
/-! the second level: C() without arguments -/
namespace WL
open PySem PySem.Spec PyProof.Rows L2
section
variable {X : Cx} {k i j : Nat} {pr : List Df} {cn : Str} {p pos : Pos}
end
end WL
set_option Elab.async false
set_option linter.all false
set_option maxRecDepth 100000
set_option maxHeartbeats 4000000
/-! t[lo:hi] that is the whole of a tuple: the tuple itself -/
namespace HT
open PySem PySem.Spec PyProof.Rows
section
variable {prog : Program} {w : World} {A : Around} {E : Value → Shared → Prop} {s : Shared}
end
end HT
namespace L2
open PySem PySem.Spec PyProof.Rows
section
variable {X : Cx}
end
end L2
set_option Elab.async false
set_option linter.all false
set_option maxRecDepth 100000
set_option maxHeartbeats 4000000
/-! the second level: t[lo:hi] of a tuple, the whole of it too -/
namespace WL
open PySem PySem.Spec PyProof.Rows L2
section
variable {X : Cx} {a : Expr} {wa : WE} {pos : Pos}
end
end WL
set_option Elab.async false
set_option linter.all false
set_option maxRecDepth 100000
set_option maxHeartbeats 4000000
/-! for a, b in d.items(): from then on the dict is read alone -/
namespace L2
open PySem PySem.Spec PyProof.Rows
def Iti (o : Obj) (d : Addr) (ks : List (Key × V)) : It :=
  ⟨fun i H => H d = some (.frz o (.dK ks)) ∧ i < ks.length, fun i H x H' => ∃ kv T, ks[i]? = some kv ∧ x = .ref T ∧ H T = none ∧ H' = upd H T (.tup [kV kv.1, kv.2]), fun i H => H d = some (.frz o (.dK ks)) ∧ i = ks.length⟩
section
variable {X : Cx} {e : Expr} {elts : List Expr} {ek : Nat} {epos apos cpos : Pos}
/-- for a, b in e.items(), e a dict -/
def iDit (td : TE) : TI := fun σ H R => td σ H fun x H1 => ∃ d ks, x = .ref d ∧ Rd H1 d (.dK ks) ∧ ∀ o, (∀ o', H1 d = some (.frz o' (.dK ks)) → o' = o) → R (Iti o d ks) (upd H1 d (.frz o (.dK ks)))
end
end L2
set_option Elab.async false
set_option linter.all false
set_option maxRecDepth 100000
set_option maxHeartbeats 4000000
/-! for a, b in d.items() -/
namespace WL
open PySem PySem.Spec PyProof.Rows L2
section
variable {X : Cx} {e : Expr} {we : WE}
def rI (kvs : List (Key × T)) : List T := kvs.map fun kv => .tup [tK kv.1, kv.2]
end
end WL
set_option Elab.async false
set_option linter.all false
set_option maxRecDepth 100000
set_option maxHeartbeats 4000000
/-! sum of a list of whole numbers, of any size -/
namespace L2
open PySem PySem.Spec PyProof.Rows
theorem call_sumG {X : Cx} (hc : X.calm = true) : CallR X (.builtin "sum") (fun xs H Q => ∃ (p : Addr) (ns : List Int), xs = [.ref p] ∧ SqL X.K H p (ns.map V.int) ∧ Q (.int ns.sum) H) := by
  intro pins s σ H xs us Q I r h
  obtain ⟨p, ns, rfl, hq, q⟩ := h
  obtain ⟨u, rfl, ru⟩ := vals1 r
  cases ru
  obtain ⟨its, rv, pl, hz⟩ := I.list hq
  have hl := pl.isList
  have hlt : p < s.heap.objs.size := by obtain ⟨_, e, _⟩ := hl; exact Heap.lt_size e
  have hlen : its.length = ns.length := by have := rv.length; simp at this; omega
  refine call_sum_walkG (wpAny_pyIter_list hl ?_)
  refine ⟨s.heap.objs.size, [s.heap.objs.size, p], [s.heap.objs.size], its.toArray.size, _, _, fun i => ns.getD i 0, rfl, Walks.list (A := X.A.in1) (I.ok.hd hc) _ p (Nat.ne_of_lt hlt) its.toArray,
    ⟨⟨_, Heap.get?_push_size _ rfl, rfl, rfl⟩, hl.push _⟩, fun b hb => ?_, fun i v hP => ?_, fun h' tk t' hk => ?_⟩
  · have e : (s.heap.push { cls := .type "list_iterator", data := .fields #[.ref p, .int 0 0] }).objs.size = s.heap.objs.size + 1 := Heap.size_push ..
    show b < (s.heap.push { cls := .type "list_iterator", data := .fields #[.ref p, .int 0 0] }).objs.size
    rw [e]
    rcases List.mem_cons.mp hb with z | z
    · rw [z]; exact Nat.lt_succ_self _
    · rw [List.mem_singleton.mp z]; exact Nat.lt_succ_of_lt hlt
  · have hv : its[i]? = some v := by simpa using hP
    have hi : i < its.length := (List.getElem?_eq_some_iff.mp hv).1
    have hb : (ns.map V.int)[i]? = some (.int ns[i]) := by simp [show i < ns.length by omega]
    obtain ⟨u, hu, ru⟩ := rv.get hb
    rw [hv] at hu; cases hu
    obtain ⟨t, rfl⟩ := ru
    exact ⟨t, by simp [List.getD, show i < ns.length by omega]⟩
  · have e : preSum (fun i => ns.getD i 0) its.toArray.size = ns.sum := by rw [preSum_getD, List.size_toArray, hlen, List.take_length]
    rw [e]
    refine ⟨.int ns.sum, H, ?_, ⟨_, rfl⟩, q⟩
    exact I.kept (t' := tk) fun b o eb => hk b o (fun z => by
      rw [List.mem_singleton.mp z] at eb
      exact absurd (Heap.lt_size eb) (Nat.lt_irrefl _)) (Heap.get?_push_of_some _ eb)
end L2
set_option Elab.async false
set_option linter.all false
set_option maxRecDepth 100000
set_option maxHeartbeats 4000000
/-! the second level: sum of a list of whole numbers, of any size -/
namespace WL
open PySem PySem.Spec PyProof.Rows L2
theorem reps_intsG {K : PySem.W.Frag} {H : Hp} : ∀ {ns : List Int} {ys : List V}, Reps K H ys (ns.map T.int) → ys = ns.map V.int
  | [], ys, h => by cases of_nil h; rfl
  | n :: ns, ys, h => by
    have hl := h.length
    match ys, hl with
    | y :: ys, _ =>
      obtain ⟨y', e, r⟩ := h.get (i := 0) rfl
      cases e
      cases of_int r
      have := reps_intsG (ns := ns) (h.drop 1)
      have e2 : ys = ns.map V.int := this
      rw [e2]; rfl
def bSumG : List T → Hw → WK → Prop := fun vs C Q => ∃ (a : Addr) (ns : List Int), vs = [.ref a] ∧ C a = some (.lst (ns.map T.int)) ∧ Q (.int ns.sum) C
theorem bt_sumG : bootBuiltins "sum" = some (.builtin "sum") := by decide +kernel
section
variable {X : Cx}
theorem b_sumG (hc : X.calm = true) : CallS X (.builtin "sum") bSumG := ⟨_, call_sumG hc, fun F H C xs vs Q Q' R rs h q => by
  obtain ⟨a, ns, rfl, hx, h⟩ := h
  obtain ⟨x, rfl, rx⟩ := of_one rs
  cases of_ref rx
  obtain ⟨ys, hy, r⟩ := R.lst hx
  cases reps_intsG r
  exact ⟨a, ns, rfl, SqL.of hy, q _ _ H C R (Tx.refl H) rep_int h⟩⟩
end
end WL
set_option Elab.async false
set_option linter.all false
set_option maxRecDepth 100000
set_option maxHeartbeats 4000000
/-! the second level: list.clear -/
namespace WL
open PySem PySem.Spec PyProof.Rows L2
section
variable {X : Cx}
end
end WL
set_option Elab.async false
set_option linter.all false
set_option maxRecDepth 100000
set_option maxHeartbeats 4000000
/-! for k, x in enumerate(a list) -/
namespace L2
open PySem PySem.Spec PyProof.Rows
open AutoSeq1 (wpAny_loadPart')
section
variable {prog : Program} {w : World} {A : Around} {E : Value → Shared → Prop} {s : Shared}
end
section
variable {X : Cx} {elts : List Expr} {ek : Nat} {epos : Pos}
end
end L2
set_option Elab.async false
set_option linter.all false
set_option maxRecDepth 100000
set_option maxHeartbeats 4000000
/-! the second level: for k, x in enumerate(a list) -/
namespace WL
open PySem PySem.Spec PyProof.Rows L2
section
variable {X : Cx} {a : Expr} {wA : WA} {p pos : Pos}
end
end WL
set_option Elab.async false
set_option linter.all false
set_option maxRecDepth 100000
set_option maxHeartbeats 4000000
/-! zip where the first one may be the shorter -/
namespace L2
open PySem PySem.Spec PyProof.Rows Builtin
section
variable {prog : Program} {w : World} {A : Around} {E : Value → Shared → Prop} {s : Shared} {z TI TO i1 i2 : Addr} {f1 f2 : List Addr} {n n2 : Nat} {P1 P2 : Nat → Value → Prop} {S1 S2 : Nat → Heap → Prop}
end
section
variable {X : Cx} {elts : List Expr} {ek : Nat} {epos : Pos}
end
end L2
set_option Elab.async false
set_option linter.all false
set_option maxRecDepth 100000
set_option maxHeartbeats 4000000
/-! the second level: zip where the first one may be the shorter -/
namespace WL
open PySem PySem.Spec PyProof.Rows L2
section
variable {X : Cx} {a b : Expr} {wA : WA} {p pos : Pos}
end
end WL
set_option Elab.async false
set_option linter.all false
set_option maxRecDepth 100000
set_option maxHeartbeats 400000
/-! classes: made without an __init__, a method taken from the class, isinstance of own classes -/
namespace L2
open PySem PySem.Spec PyProof.Rows
section
variable {X : Cx} {C : Addr} {x : Str} {p pos : Pos}
def tMk0 (C : Addr) : TE := fun σ H Q => ∀ x dx, H x = none → H dx = none → dx ≠ x → Q (.ref x) (upd (upd H dx (.own x)) x (.ins C dx []))
structure Mk0 (K : PySem.W.Frag) (C : Addr) : Prop where
  makes : PySem.W.makesIn K C = true
  init : PySem.W.findIn K (.ref C) "__init__" = some (some (.builtin "object.__init__"))
  kp : PySem.W.keepIn K (.ref C) = true
theorem pe_mk0 (M : Mk0 X.K C) (hg : Gl X x) (hm : X.mg x = some (.ref C)) (hdb : (x == ("__debug__" : Str)) = false := by decide) : PE X (.Call (.Name x p) [] [] pos) (tMk0 C) := by
  intro pins s σ H Q I h
  refine wpAny_Call_Name_kw (ld_glob I hg hm ?_ hdb)
  refine PySem.W.callWith_K0 I.kIn M.kp ?_
  have hq := h (s.heap.objs.size + 1) s.heap.objs.size (I.hok.fresh (Nat.le_succ _)) (I.hok.fresh (Nat.le_refl _)) (Nat.ne_of_lt (Nat.lt_succ_self _))
  have I2 := Inv.made (C := C) I
  refine wpAny_call (make_map0 I.kIn M.makes M.init (fun self => PySem.W.Looks.of_pure (PySem.W.oi_bind self)) ?_)
  refine codeAny_call_builtin (id := "object.__init__") (b := Builtin.«object.__init__») PySem.W.oi_plain PySem.W.entry_oi ?_
  have oi := PySem.W.oi_run (.ref (s.heap.objs.size + 1))
  refine PySem.W.check_slot (i := "object.__init__") (owner := "object") (n := "__init__") (self := .ref (s.heap.objs.size + 1)) (rest := []) (kw := []) PySem.W.oi_kind PySem.W.oi_split ?_ (PySem.W.oi_args (.ref (s.heap.objs.size + 1))) ?_
  · have k : ∀ (b : Addr) (o : Obj), s.heap.get? b = some o → ((s.heap.push PySem.W.emptyDict).push (PySem.W.instObj C s.heap.objs.size)).get? b = some o := fun b o e => Heap.get?_push_of_some _ (Heap.get?_push_of_some _ e)
    have e2 : ((s.heap.push PySem.W.emptyDict).push (PySem.W.instObj C s.heap.objs.size)).get? (s.heap.objs.size + 1) = some (PySem.W.instObj C s.heap.objs.size) := by
      have := Heap.get?_push_size (s.heap.push PySem.W.emptyDict) (o := PySem.W.instObj C s.heap.objs.size) rfl
      rw [Heap.size_push] at this
      exact this
    refine PySem.W.Looks.andThen (a := .ref C) ?_ ((PySem.W.Makes.top (PySem.W.makes_of I.kIn M.makes)).keeps k)
    exact (PySem.W.Looks.ld e2).andThen .now
  · rw [oi]
    exact wpAny_pure ⟨rfl, ⟨V.ref (s.heap.objs.size + 1), _, I2, rfl, hq⟩⟩
end
section
variable {X : Cx} {CX : CXT} {k : Nat} {f C : Addr} {fd : FuncData} {ps : List Str} {sp : Sp} {E : XK} {x m : Str} {p pos apos : Pos} {e : Expr} {es : List Expr} {t : TA} {ds : List Value} {dvs : List V}
/-- what a class must have to be asked for a method -/
structure Ck (K : PySem.W.Frag) (C : Addr) (m : Str) (f : Addr) : Prop where
  ga : PySem.W.specialIn K (.ref C) "__getattribute__" = some (some (.builtin "type.__getattribute__"))
  rd : ∃ mc, PySem.W.readsIn K C mc = true ∧ PySem.W.findCls K (.ref C) mc m = some (.val (.ref f))
  kp : PySem.W.keepIn K (.ref f) = true
end
section
variable {X : Cx}
/-- what a class must have for isinstance of its objects -/
structure Ik (K : PySem.W.Frag) (C : Addr) : Prop where
  pg : PySem.W.plainGet K C "__class__" = true
  hd : PySem.W.hasDictIn K C = true
  at_ : PySem.W.findIn K (.ref C) "__class__" = some (some (.builtin "object.__class__"))
  gt : PySem.W.specialIn K (.builtin "object.__class__") "__get__" = some (some (.builtin "getset_descriptor.__get__"))
  tk : PySem.W.takesIn K (.builtin "object.__class__") = some true
  ob : PySem.W.mroIn K C (.type "object") = some true
theorem call_isI {c : Addr} : CallR X (.builtin "isinstance") (fun xs H Q => ∃ y C dx fs b, xs = [.ref y, .ref c] ∧ H y = some (.ins C dx fs) ∧ Ik X.K C ∧ PySem.W.kitOne X.K (.ref C) (.ref c) = some b ∧ Q (.bl b) H) := by
  intro pins s σ H xs us Q I rs h
  obtain ⟨y, C, dx, fs, b, rfl, hy, F, hk, q⟩ := h
  obtain ⟨u, u2, rfl, ru, ru2⟩ := rs.two
  cases ru
  cases ru2
  obtain ⟨mA, O, _, _, _, _⟩ := ins_get I.hok hy
  obtain ⟨od, J, hl⟩ := O.look
  exact PySem.W.kia_one (PySem.W.kitx_own F.pg F.hd F.at_ F.gt F.tk F.ob) I.kIn J hk (fun z => nomatch z) fun tk => ⟨.bl b, H, I.tok tk, rfl, q⟩
end
end L2
set_option Elab.async false
set_option linter.all false
set_option maxRecDepth 100000
set_option maxHeartbeats 4000000
/-! for x in range(a, b, c), c a small number above 0 -/
namespace L2
open PySem PySem.Spec PyProof.Rows
def Itr3 (lo c : Int) (n : Nat) : It := ⟨fun i _ => i < n, fun i H x H' => H' = H ∧ x = .int (lo + i * c), fun i _ => n ≤ i⟩
theorem turn_range3 {P : Program} {w : World} {K : PySem.W.Frag} {tg : Expr} (it : Addr) (lo c : Int) (n : Nat) : Turn P w K tg (Itr3 lo c n) [it] it (fun i h => IsRangeIter h it (lo + (i : Nat) * c) ((n : Int) - (i : Nat)) c) where
  mem := by simp
  obj := fun i h st b hb => by
    have e : b = it := by simpa using hb
    subst e
    exact ⟨_, st, fun v z => by
      have z' : Data.fields _ = Data.cell v := z
      cases z'⟩
  keep := fun i h h' st k => k it (by simp) _ st
  item := by
    intro X hP hw hK hc i pins s σ H E I hf st hg
    subst hP hw hK
    obtain ⟨f0, f1, f2, f3, f4, f5⟩ := hf it (by simp)
    have W := Walks.range (prog := X.prog) (w := X.w) (I.ok.hd hc) it lo c n
    refine W.item i s _ _ hg st fun v h' tk hv st' kk => ?_
    obtain ⟨t, rfl⟩ := hv
    have I1 : Inv X pins σ H { s with heap := h', toks := tk } := I.turned (fun b o hb e => kk b o (by simpa using hb) e) f0 f1 f3 f4 f5
    exact ⟨_, rfl, go_of (s := { s with heap := h', toks := tk }) (n := "range_iterator") st' rfl rfl (by decide) ⟨.int (lo + i * c), H, I1, ⟨t, rfl⟩, ⟨rfl, rfl⟩, st', fun b hb => (hf b hb).1⟩⟩
  done := by
    intro X hP hw hK hc i pins s σ H E I hf st hg
    subst hP hw hK
    obtain ⟨f0, f1, f2, f3, f4, f5⟩ := hf it (by simp)
    exact wpAny_pyNext_range_end (I.ok.hd hc) st (by have : n ≤ i := hg; omega) fun h' eb => ⟨rfl, I.turned (t' := s.toks) (fun b o hb e => eb b o hb e) f0 f1 f3 f4 f5⟩
  self := fun _ _ _ _ _ st h => wpAny_pyIter_rangeiter st h
/-- how many numbers range(a, b, c) has -/
def many3 (lo hi c : Int) : Nat := if lo < hi then ((hi - lo - 1) / c + 1).toNat else 0
theorem size3 {lo hi c : Int} (hc : 0 < c) : Builtin.Range.rangeSize lo hi c = (many3 lo hi c : Int) := by
  unfold Builtin.Range.rangeSize many3
  rw [if_pos hc]
  by_cases h : lo < hi
  · rw [if_pos h, if_pos h]
    have : 0 ≤ (hi - lo - 1) / c := Int.ediv_nonneg (by omega) (by omega)
    omega
  · rw [if_neg h, if_neg h]; rfl
section
variable {X : Cx} {tg : Expr}
theorem range_it3 {pins : List (Addr × Obj)} {σ : St} {H : Hp} {s : Shared} {R : It → Hp → Prop} {E : Value → Shared → Prop} {lo hi c : Int} {t u v : Tok} {tk : Nat} (I : Inv X pins σ H s) (hc : 0 < c) (hs : Builtin.Range.small lo hi c = true)
    (q : R (Itr3 lo c (many3 lo hi c)) H) : wpAny (model X.prog X.w) X.A (pyIter (.ref s.heap.objs.size)) (PIE X pins σ tg R) E { s with heap := s.heap.push { cls := .type "range", data := .fields #[.int lo t, .int hi u, .int c v] }, toks := tk } := by
  refine wpAny_pyIter_range (IsRange.new ..) hs ?_
  have I1 : Inv X pins σ H { s with heap := s.heap.push { cls := .type "range", data := .fields #[.int lo t, .int hi u, .int c v] }, toks := tk } := I.kept fun b o e => Heap.get?_push_of_some _ e
  refine ⟨(s.heap.push { cls := .type "range", data := .fields #[.int lo t, .int hi u, .int c v] }).objs.size, [(s.heap.push { cls := .type "range", data := .fields #[.int lo t, .int hi u, .int c v] }).objs.size], _, _, H, rfl,
    I1.kept (t' := tk) fun b o e => Heap.get?_push_of_some _ e, turn_range3 _ lo c (many3 lo hi c), ?_, fun b hb => ?_, q⟩
  · have e1 : lo + ((0 : Nat) : Int) * c = lo := by simp
    have e2 : ((many3 lo hi c : Nat) : Int) - ((0 : Nat) : Int) = Builtin.Range.rangeSize lo hi c := by rw [size3 hc]; simp
    show IsRangeIter _ _ (lo + ((0 : Nat) : Int) * c) (((many3 lo hi c : Nat) : Int) - ((0 : Nat) : Int)) c
    rw [e1, e2]
    exact Heap.get?_push_size _ rfl
  · have e : b = (s.heap.push { cls := .type "range", data := .fields #[.int lo t, .int hi u, .int c v] }).objs.size := by simpa using hb
    subst e
    exact I1.fpOk (Nat.le_refl _) (I1.hok.fresh (Nat.le_refl _))
end
end L2
set_option Elab.async false
set_option linter.all false
set_option maxRecDepth 100000
set_option maxHeartbeats 4000000
namespace L2
open PySem PySem.Spec PyProof.Rows
theorem small3 {a b c : Int} (ha : -(2 ^ 61) ≤ a) (ha' : a < 2 ^ 61) (hb : -(2 ^ 61) ≤ b) (hb' : b < 2 ^ 61) (hc : 0 < c) (hc' : c < 2 ^ 29) : Builtin.Range.small a b c = true := by
  unfold Builtin.Range.small
  have hd : a < b → (b - a - 1) / c * c ≤ b - a - 1 := fun _ => Int.ediv_mul_le _ (by omega)
  have hq : a < b → 0 ≤ (b - a - 1) / c := fun _ => Int.ediv_nonneg (by omega) (by omega)
  have hq2 : a < b → (b - a - 1) / c ≤ b - a - 1 := fun h => Int.ediv_le_self _ (by omega)
  have hn : -(2 ^ 63) ≤ Builtin.Range.rangeSize a b c ∧ Builtin.Range.rangeSize a b c < 2 ^ 63 := by
    unfold Builtin.Range.rangeSize
    rw [if_pos hc]
    by_cases h : a < b
    · have := hq h; have := hq2 h
      rw [if_pos h]
      omega
    · rw [if_neg h]; omega
  simp only [Builtin.Range.rangeFitsLong, Bool.and_eq_true, Bool.or_eq_true, decide_eq_true_eq, beq_iff_eq, if_pos (show c > 0 from hc)]
  refine ⟨⟨⟨⟨⟨by omega, by omega⟩, by omega, by omega⟩, by omega, by omega⟩, hn.1, hn.2⟩, .inr ⟨by omega, by omega⟩⟩
section
variable {X : Cx} {tg : Expr}
def iRng3 (ta : TA) : TI := fun σ H R => ta σ H fun vs H1 => ∃ i j c : Int, vs = [.int i, .int j, .int c] ∧ (-(2 ^ 61) ≤ i ∧ i < 2 ^ 61 ∧ -(2 ^ 61) ≤ j ∧ j < 2 ^ 61 ∧ 0 < c ∧ c < 2 ^ 29) ∧ R (Itr3 i c (many3 i j c)) H1
theorem pi_range3 {a b d : Expr} {ta : TA} {p pos : Pos} (hg : Gl X "range") (hm : X.mg "range" = none) (ha : PA X [a, b, d] ta) (hs : starEach [a, b, d] X.env = [(false, eval a X.env), (false, eval b X.env), (false, eval d X.env)] := by rfl) (hs2 : starEach [b, d] X.env = [(false, eval b X.env), (false, eval d X.env)] := by rfl) :
    PI X tg (.Call (.Name "range" p) [a, b, d] [] pos) (iRng3 ta) := by
  intro pins s σ H R I h
  refine Call_ (ld_blt I hg hm boot_range (PyProof.Rows.callWith_type1 (thn (ha pos pins s σ H _ I h) fun us s1 ⟨vs, H1, I1, r1, q1⟩ => ?_) (by rw [hs, hs2]) (by rw [hs2]; rfl)))
  obtain ⟨i, j, c, e, ⟨q1, q2, q3, q4, q5, q6⟩, q⟩ := q1
  subst e
  cases r1 with
  | cons r rr =>
    cases rr with
    | cons r' rr =>
      cases rr with
      | cons r'' rr =>
        cases rr
        obtain ⟨t, rfl⟩ := r
        obtain ⟨t', rfl⟩ := r'
        obtain ⟨t'', rfl⟩ := r''
        exact call_range_3 (by omega) (range_it3 I1 q5 (small3 q1 q2 q3 q4 q5 q6) q) (Or.inl (PyProof.noPylong_small (by omega)))
end
end L2
set_option Elab.async false
set_option linter.all false
set_option maxRecDepth 100000
set_option maxHeartbeats 4000000
/-! the second level: for x in range(a, b, c) -/
namespace WL
open PySem PySem.Spec PyProof.Rows L2
def rng3 (lo c : Int) (n : Nat) : List T := (List.range n).map fun k : Nat => T.int (lo + k * c)
theorem rng3_len {lo c : Int} {n : Nat} : (rng3 lo c n).length = n := by unfold rng3; simp
theorem rng3_at {lo c : Int} {n i : Nat} (h : i < n) : (rng3 lo c n)[i]? = some (.int (lo + i * c)) := by
  unfold rng3
  rw [List.getElem?_map, List.getElem?_range h]; rfl
def iR3 (a : WA) : WI := fun τ C R χ => a τ C (fun vs C1 => ∃ i j c : Int, vs = [.int i, .int j, .int c] ∧ (-(2 ^ 61) ≤ i ∧ i < 2 ^ 61 ∧ -(2 ^ 61) ≤ j ∧ j < 2 ^ 61 ∧ 0 < c ∧ c < 2 ^ 29) ∧ R (rng3 i c (many3 i j c)) (fun _ => True) C1) χ
theorem it_rng3 {K : PySem.W.Frag} {F H0 : Hp} {lo c : Int} {n : Nat} : ItRel K F H0 (Itr3 lo c n) (rng3 lo c n) (fun _ => True) := fun i H C R t ok => by
  refine ⟨fun hi => ⟨by rw [rng3_len] at hi; exact hi, fun x H' h => ?_⟩, fun hi => by rw [rng3_len] at hi; show n ≤ i; omega⟩
  obtain ⟨rfl, rfl⟩ := h
  rw [rng3_len] at hi
  exact ⟨.int (lo + i * c), rng3_at hi, R, Tx.refl _, rep_int⟩
section
variable {X : Cx} {a b d tg : Expr} {wA : WA} {p pos : Pos}
theorem of_three {K : PySem.W.Frag} {H : Hp} {xs : List V} {u v w : T} (h : Reps K H xs [u, v, w]) : ∃ x y z, xs = [x, y, z] ∧ Rep K H x u ∧ Rep K H y v ∧ Rep K H z w := by
  have hl := h.length
  match xs, hl with
  | [x, y, z], _ =>
    obtain ⟨a, ha, r1⟩ := h.get (i := 0) rfl
    obtain ⟨b, hb, r2⟩ := h.get (i := 1) rfl
    obtain ⟨c, hc, r3⟩ := h.get (i := 2) rfl
    cases ha; cases hb; cases hc
    exact ⟨_, _, _, rfl, r1, r2, r3⟩
theorem di_r3 (hg : Gl X "range") (hm : X.mg "range" = none) (ha : SdA X [a, b, d] wA) (hs : starEach [a, b, d] X.env = [(false, eval a X.env), (false, eval b X.env), (false, eval d X.env)] := by rfl) (hs2 : starEach [b, d] X.env = [(false, eval b X.env), (false, eval d X.env)] := by rfl) :
    SdI X tg (.Call (.Name "range" p) [a, b, d] [] pos) (iR3 wA) := by
  obtain ⟨t, p1, s⟩ := ha
  refine ⟨_, pi_range3 hg hm p1 hs hs2, fun F H C σ τ R R' χ Rr S h q => ?_⟩
  refine s F H C σ τ _ _ χ Rr S h fun xs vs H1 C1 R1 t1 rs h1 => ?_
  obtain ⟨i, j, c, rfl, h2, h1⟩ := h1
  obtain ⟨x, y, z, rfl, rx, ry, rz⟩ := of_three rs
  cases of_int rx; cases of_int ry; cases of_int rz
  exact ⟨i, j, c, rfl, h2, q _ H1 _ _ C1 R1 t1 (fun _ => it_rng3) h1⟩
end
end WL
set_option Elab.async false
set_option linter.all false
set_option maxRecDepth 100000
set_option maxHeartbeats 4000000
/-! a text times a number -/
namespace L2
open PySem PySem.Spec PyProof.Rows
def repS (z : Str) (n : Int) : Str := if n < 1 then Str.empty else if (n == 1 || z.length == 0) = true then z else ⟨(List.replicate n.toNat z.cps).foldl (· ++ ·) #[]⟩
theorem fold_size {α : Type} {a : Array α} : ∀ {k : Nat} {acc : Array α}, (List.foldl (fun x1 x2 => x1 ++ x2) acc (List.replicate k a)).size = acc.size + k * a.size
  | 0, acc => by simp
  | k + 1, acc => by
    rw [List.replicate_succ, List.foldl_cons, fold_size, Array.size_append, Nat.succ_mul]
    omega
theorem op_mulS {X : Cx} : OpR X (binaryOp .Mult) (fun x y H Q => ∃ z n, x = .str z ∧ y = .int n ∧ 0 ≤ n ∧ n ≤ 1000 ∧ z.length ≤ 1000 ∧ Q (.str (repS z n)) H) := by
  intro pins s σ H x y v u Q I rx ry h
  obtain ⟨z, n, rfl, rfl, h0, h1, hz, q⟩ := h
  obtain ⟨t, rfl⟩ := rx
  obtain ⟨t', rfl⟩ := ry
  have hle : z.length * n.toNat ≤ 1000 * 1000 := Nat.mul_le_mul hz (by omega)
  refine P.mul_str (by rw [decide_eq_false (by omega), decide_eq_false (by omega)]; rfl) (fun hn _ => ?_) (fun hn _ => ?_) ?_
  · have : (1000 : Int) ≤ (2 ^ 63 - 1) / n := (Int.le_ediv_iff_mul_le (by omega)).mpr (by omega)
    omega
  · have hs : (1000000 : Nat) ≤ sizeLine := by decide
    show decide (z.length * n.toNat > sizeLine) = false
    exact decide_eq_false (by omega)
  · unfold repS at q
    by_cases c : n < 1
    · rw [if_pos c] at q ⊢
      exact ⟨by decide, ⟨.str Str.empty, H, I.tok _, ⟨_, rfl⟩, q⟩⟩
    · rw [if_neg c] at q ⊢
      by_cases d : (n == 1 || z.length == 0) = true
      · rw [if_pos d] at q ⊢
        exact ⟨.str z, H, I, ⟨_, rfl⟩, q⟩
      · rw [if_neg d] at q ⊢
        refine ⟨?_, ⟨.str _, H, I.tok _, ⟨_, rfl⟩, q⟩⟩
        have hs : (1000000 : Nat) ≤ sizeLine := by decide
        show (List.foldl (fun x1 x2 => x1 ++ x2) #[] (List.replicate n.toNat z.cps)).size ≤ sizeLine
        rw [fold_size]
        have : n.toNat * z.cps.size = z.length * n.toNat := Nat.mul_comm _ _
        simp
        omega
end L2
set_option Elab.async false
set_option linter.all false
set_option maxRecDepth 100000
set_option maxHeartbeats 4000000
/-! the second level: a text times a number -/
namespace WL
open PySem PySem.Spec PyProof.Rows L2
section
variable {X : Cx}
def wMulS : W2 := fun x y C Q => ∃ z n, x = .str z ∧ y = .int n ∧ 0 ≤ n ∧ n ≤ 1000 ∧ z.length ≤ 1000 ∧ Q (.str (repS z n)) C
theorem o_mulS : OpS X (binaryOp .Mult) wMulS := ⟨_, op_mulS, fun F H C x y v u Q Q' R rx ry h q => by
  obtain ⟨z, n, rfl, rfl, h0, h1, h2, h⟩ := h
  cases of_str rx; cases of_int ry
  exact ⟨z, n, rfl, rfl, h0, h1, h2, q _ _ H C R (Tx.refl H) rep_str h⟩⟩
end
end WL
set_option Elab.async false
set_option linter.all false
set_option maxRecDepth 100000
set_option maxHeartbeats 4000000
/-! sum of a list of whole numbers -/
namespace L2
open PySem PySem.Spec PyProof.Rows
end L2
set_option Elab.async false
set_option linter.all false
set_option maxRecDepth 100000
set_option maxHeartbeats 4000000
/-! the second level: sum of a list of whole numbers -/
namespace WL
open PySem PySem.Spec PyProof.Rows L2
theorem reps_ints' {K : PySem.W.Frag} {H : Hp} : ∀ {ns : List Int} {ys : List V}, Reps K H ys (ns.map T.int) → ys = ns.map V.int
  | [], ys, h => by cases of_nil h; rfl
  | n :: ns, ys, h => by
    have hl := h.length
    match ys, hl with
    | y :: ys, _ =>
      obtain ⟨y', e, r⟩ := h.get (i := 0) rfl
      cases e
      cases of_int r
      have := reps_ints' (ns := ns) (h.drop 1)
      have e2 : ys = ns.map V.int := this
      rw [e2]; rfl
section
variable {X : Cx}
end
end WL
set_option Elab.async false
set_option linter.all false
set_option maxRecDepth 100000
set_option maxHeartbeats 4000000
/-! x[lo:hi:c] of a list -/
namespace L2
open PySem PySem.Spec PyProof.Rows
/-- the things of xs[lo:hi:c] -/
def stepCut {α : Type} (xs : List α) (lo hi st : Option Int) : List α :=
  (sliceRange (sliceBounds lo hi st xs.length).1 (sliceBounds lo hi st xs.length).2.1 (sliceBounds lo hi st xs.length).2.2).filterMap (xs[·]?)
theorem Vals.pick {xs : List V} {us : List Value} (r : Vals xs us) : ∀ idx : List Nat, Vals (idx.filterMap (xs[·]?)) (idx.filterMap (us[·]?))
  | [] => .nil
  | i :: idx => by
    by_cases h : i < xs.length
    · have hx : xs[i]? = some xs[i] := by simp [h]
      obtain ⟨u, hu, ru⟩ := r.get hx
      rw [List.filterMap_cons_some hx, List.filterMap_cons_some hu]
      exact .cons ru (Vals.pick r idx)
    · have hx : xs[i]? = none := by simp; omega
      have hu : us[i]? = none := by have := r.length; simp; omega
      rw [List.filterMap_cons_none hx, List.filterMap_cons_none hu]
      exact Vals.pick r idx
theorem pick_eq {its : List Value} {lo hi st : Option Int} : slicePick its.toArray lo hi st = (stepCut its lo hi st).toArray := by
  unfold slicePick stepCut
  simp
section
variable {X : Cx} {e : Expr} {te : TE} {lo hi : Option Expr} {st : Expr} {tl th tc : TO} {pos p2 : Pos}
def tSl3 (K : PySem.W.Frag) (te : TE) (tl th tc : TO) : TE := fun σ H Q => te σ H fun x H1 => tl σ H1 fun l H2 => th σ H2 fun u H3 => tc σ H3 fun c H4 =>
  ∃ a xs, x = .ref a ∧ SqL K H4 a xs ∧ c ≠ some 0 ∧ ∀ p, H4 p = none → Q (.ref p) (upd H4 p (.lst (stepCut xs l u c)))
theorem pe_slice3 (he : PE X e te) (hl : PO X lo tl) (hu : PO X hi th) (hc : PO X (some st) tc) : PE X (.Subscript e (.Slice lo hi (some st) p2) pos) (tSl3 X.K te tl th tc) := by
  intro pins s σ H Q I h
  refine Subscript_ (thn (he pins s σ H _ I h) fun v s1 ⟨x, H1, I1, r1, q1⟩ => ?_)
  refine wpAny_Slice (thn (hl pins s1 σ H1 _ I1 q1) fun vl s2 ⟨l, H2, I2, pl, q2⟩ => thn (hu pins s2 σ H2 _ I2 q2) fun vu s3 ⟨u, H3, I3, pu, q3⟩ => ?_)
  refine thn (hc pins s3 σ H3 _ I3 q3) fun vc s4 ⟨c, H4, I4', pc, q4⟩ => ?_
  obtain ⟨a, xs, rfl, hq, h0, q⟩ := q4
  cases r1
  have I4 : Inv X pins σ H4 { s4 with heap := s4.heap.push { cls := .type "slice", data := .fields #[vl, vu, vc] } } := I4'.kept (t' := s4.toks) fun b ob q => Heap.get?_push_of_some _ q
  obtain ⟨its, rv, p, hz⟩ := I4.list hq
  have hlen : its.length = xs.length := rv.length.symm
  show wpAny (model X.prog X.w) X.A (subscriptTail e (.Slice lo hi (some st) p2) (.ref a) (.ref s4.heap.objs.size)) (EP X pins σ Q) X.xe { s4 with heap := s4.heap.push { cls := .type "slice", data := .fields #[vl, vu, vc] } }
  refine tail_any (ops := [.ref a, .ref s4.heap.objs.size]) p.isList.typeIs slot_list_getitem.lookup ?_ (by with_unfolding_all rfl)
  refine wpAny_getItem_list_slice p.isList (Heap.IsSliceOf.new ..) pl pu pc h0 ?_ (by rw [List.size_toArray]; omega)
  rw [pick_eq]
  have hsz : (stepCut xs l u c).length ≤ sizeLine := by
    have h1 := (rv.pick (sliceRange (sliceBounds l u c xs.length).1 (sliceBounds l u c xs.length).2.1 (sliceBounds l u c xs.length).2.2)).length
    have h2 := slicePick_size_le its.toArray l u c
    rw [pick_eq, List.size_toArray, List.size_toArray] at h2
    have h3 : (stepCut its l u c).length = (stepCut xs l u c).length := by
      unfold stepCut; rw [hlen]; exact h1.symm
    omega
  refine ⟨.ref _, _, I4.laid (t' := s4.toks) (o := .lst (stepCut xs l u c)) (fun b ob q => Heap.get?_push_of_some _ q) (Nat.le_refl _) ?_, rfl, q _ (I4.hok.fresh (Nat.le_refl _))⟩
  refine ⟨hsz, stepCut its l u c, 0, ?_, Heap.get?_push_size _ rfl⟩
  unfold stepCut
  rw [hlen]
  exact rv.pick _
end
end L2
set_option Elab.async false
set_option linter.all false
set_option maxRecDepth 100000
set_option maxHeartbeats 4000000
/-! the second level: x[lo:hi:c] of a list -/
namespace WL
open PySem PySem.Spec PyProof.Rows L2
theorem Reps.pick {K : PySem.W.Frag} {H : Hp} {ys : List V} {xs : List T} (r : Reps K H ys xs) : ∀ idx : List Nat, Reps K H (idx.filterMap (ys[·]?)) (idx.filterMap (xs[·]?))
  | [] => reps_nil
  | i :: idx => by
    by_cases h : i < xs.length
    · have hx : xs[i]? = some xs[i] := by simp [h]
      obtain ⟨u, hu, ru⟩ := r.get hx
      rw [List.filterMap_cons_some hx, List.filterMap_cons_some hu]
      exact reps_cons ru (Reps.pick r idx)
    · have hx : xs[i]? = none := by simp; omega
      have hu : ys[i]? = none := by have := r.length; simp; omega
      rw [List.filterMap_cons_none hx, List.filterMap_cons_none hu]
      exact Reps.pick r idx
def eSl3 (a : WE) (lo hi st : Sw → Hw → (Option Int → Hw → Prop) → WX → Prop) : WE := fun τ C Q χ => a τ C (fun x C1 => lo τ C1 (fun l C2 => hi τ C2 (fun h C3 => st τ C3 (fun c C4 =>
  (∃ xs, x = .cl xs ∧ c ≠ some 0 ∧ ∀ p, C4 p = none → Q (.ref p) (up C4 p (.lst (stepCut xs l h c)))) ∨
  ∃ q xs, x = .ref q ∧ C4 q = some (.lst xs) ∧ c ≠ some 0 ∧ ∀ p, C4 p = none → Q (.ref p) (up C4 p (.lst (stepCut xs l h c)))) χ) χ) χ) χ
section
variable {X : Cx} {a st : Expr} {wa : WE} {pos p2 : Pos}
theorem d_sl3 {lo hi : Option Expr} {wl wh wc : Sw → Hw → (Option Int → Hw → Prop) → WX → Prop} (ha : SdE X a wa) (hl : SdO X lo wl) (hh : SdO X hi wh) (hc : SdO X (some st) wc) : SdE X (.Subscript a (.Slice lo hi (some st) p2) pos) (eSl3 wa wl wh wc) := by
  obtain ⟨ta, p1, s1⟩ := ha
  obtain ⟨tl, p3, s3⟩ := hl
  obtain ⟨th, p4, s4⟩ := hh
  obtain ⟨tc, p5, s5⟩ := hc
  refine ⟨_, pe_slice3 p1 p3 p4 p5, fun F H C σ τ Q Q' χ R S h q => ?_⟩
  refine s1 F H C σ τ _ _ χ R S h fun x v H1 C1 R1 t1 rx h1 => ?_
  refine s3 F H1 C1 σ τ _ _ χ R1 (S.tx t1) h1 fun l H2 C2 R2 t2 h2' => ?_
  refine s4 F H2 C2 σ τ _ _ χ R2 (S.tx (t1.trans t2)) h2' fun u H3 C3 R3 t3 h3 => ?_
  refine s5 F H3 C3 σ τ _ _ χ R3 (S.tx ((t1.trans t2).trans t3)) h3 fun c H4 C4 R4 t4 h4 => ?_
  have rx4 := ((rx.tx t2).tx t3).tx t4
  have tt := ((t1.trans t2).trans t3).trans t4
  rcases h4 with ⟨xs, rfl, h0, h⟩ | ⟨b, xs, rfl, hC, h0, h⟩
  · obtain ⟨b, ys, rfl, hq, r⟩ := of_cl rx4
    refine ⟨b, ys, rfl, hq.sq, h0, fun p hp => ?_⟩
    have hl : ys.length = xs.length := r.length
    have rr : Reps X.K H4 (stepCut ys l u c) (stepCut xs l u c) := by unfold stepCut; rw [hl]; exact r.pick _
    exact q _ _ _ _ (R4.newL hp rr) (tt.trans (Tx.new hp)) rep_ref (h p (R4.free hp))
  · cases of_ref rx4
    obtain ⟨ys, hy, r⟩ := R4.lst hC
    refine ⟨b, ys, rfl, SqL.of hy, h0, fun p hp => ?_⟩
    have hl : ys.length = xs.length := r.length
    have rr : Reps X.K H4 (stepCut ys l u c) (stepCut xs l u c) := by unfold stepCut; rw [hl]; exact r.pick _
    exact q _ _ _ _ (R4.newL hp rr) (tt.trans (Tx.new hp)) rep_ref (h p (R4.free hp))
end
end WL
set_option Elab.async false
set_option linter.all false
set_option maxRecDepth 100000
set_option maxHeartbeats 400000
/-! the second level: classes over classes: C() without an __init__, B.__init__(self, ..), isinstance of own classes -/
namespace WL
open PySem PySem.Spec PyProof.Rows L2
/-- an object of the class, without attributes -/
def eMk0 (cn : Str) : WE := fun _ C Q _ => ∀ p, C p = none → Q (.ref p) (up C p (.ins cn []))
def C0 (K : PySem.W.Frag) (mg : Str → Option Value) (cn : Str) : Prop := ∃ Cl, ClsAt K cn Cl ∧ mg cn = some (.ref Cl) ∧ Mk0 K Cl
/-- a method taken from the class of the name cn -/
def Cb (P : Program) (w : World) (K : PySem.W.Frag) (mg : Str → Option Value) (base : Heap) (n : Nat) (cn m : Str) (ps : List Str) (sp : L2.Sp) : Prop :=
  ∃ Cl f fd, mg cn = some (.ref Cl) ∧ Ck K Cl m f ∧ FnOk P w K mg base CX0 n f fd ps sp ∧ Binds K fd ps []
/-- isinstance(e, c), e an object of an own class: by its class's name -/
def eIsI (tab : List (Str × Bool)) (a : WE) : WE := fun τ C Q χ => a τ C (fun y C1 => ∃ p cn fs b, y = .ref p ∧ C1 p = some (.ins cn fs) ∧ tab.lookup cn = some b ∧ Q (.bl b) C1) χ
section
variable {K : PySem.W.Frag} {D Cl : Addr} {c : Str} {b : Bool} {tab : List (Str × Bool)}
def IsR (K : PySem.W.Frag) (D : Addr) (tab : List (Str × Bool)) : Prop := ∀ cn b, tab.lookup cn = some b → ∀ Cl, ClsAt K cn Cl → Ik K Cl ∧ PySem.W.kitOne K (.ref Cl) (.ref D) = some b
def IsI (K : PySem.W.Frag) (mg : Str → Option Value) (x : Str) (tab : List (Str × Bool)) : Prop := ∃ D, mg x = some (.ref D) ∧ IsR K D tab
theorem is_nil : IsR K D [] := fun cn b h => by cases h
theorem is_cons (h : ClsAt K c Cl) (k : Ik K Cl) (q : PySem.W.kitOne K (.ref Cl) (.ref D) = some b) (r : IsR K D tab) : IsR K D ((c, b) :: tab) := fun cn b' e Cl' h' => by
  rw [List.lookup_cons] at e
  by_cases z : cn = c
  · subst z
    rw [beq_self_eq_true] at e
    cases e
    have e2 : some (some (Value.ref Cl)) = some (some (Value.ref Cl')) := h.symm.trans h'
    cases e2
    exact ⟨k, q⟩
  · rw [beq_eq_false_iff_ne.mpr z] at e
    exact r cn b' e Cl' h'
end
section
variable {X : Cx} {k i : Nat} {x cn m : Str} {ps : List Str} {pr : List Df} {p pos apos q2 : Pos} {a e : Expr} {es : List Expr} {wa : WE} {wA : WA} {tab : List (Str × Bool)}
theorem d_mk0 (c : C0 X.K X.mg cn) (hg : Gl X cn) (hdb : (cn == ("__debug__" : Str)) = false := by decide) : SdE X (.Call (.Name cn p) [] [] pos) (eMk0 cn) := by
  obtain ⟨Cl, h1, h2, h3⟩ := c
  refine ⟨_, pe_mk0 h3 hg h2 hdb, fun F H C σ τ Q Q' χ R S h q => ?_⟩
  intro x dx hx hdx hne
  have hCx : C x = none := R.free hx
  have R3 : Rl X.K F (upd H dx (.own x)) C := R.hid hdx
  have hx3 : upd H dx (.own x) x = none := by rw [upd_ne hne.symm]; exact hx
  have R4 : Rl X.K F (upd (upd H dx (.own x)) x (.ins Cl dx [])) (up C x (.ins cn [])) := R3.new hx3 ⟨Cl, dx, [], h1, upd_same, .nil⟩
  have t4 : Tx H (upd (upd H dx (.own x)) x (.ins Cl dx [])) := (Tx.new hdx).trans (Tx.new hx3)
  exact q _ _ _ _ R4 t4 rep_ref (h x hCx)
theorem d_isI (hg : Gl X "isinstance") (hm : X.mg "isinstance" = none) (hgx : Gl X x) (hx : IsI X.K X.mg x tab) (ha : SdE X a wa)
    (hdx : (x == ("__debug__" : Str)) = false := by decide) (he : starEach [a, .Name x q2] X.env = [(false, eval a X.env), (false, eval (.Name x q2) X.env)] := by rfl) : SdE X (.Call (.Name "isinstance" p) [a, .Name x q2] [] pos) (eIsI tab wa) := by
  obtain ⟨ta, p1, s1⟩ := ha
  obtain ⟨D, h1, h2⟩ := hx
  refine ⟨_, pe_callB (call_isI (c := D)) hg hm bt_isinstance (pa_cons p1 (pa_cons (pe_glob (v := .ref D) hgx h1 rfl hdx) pa_nil (by rw [show starEach [Expr.Name x q2] X.env = [(false, eval (.Name x q2) X.env)] from rfl]; rfl)) ?_) (by decide) (by decide) ?_ ?_, ?_⟩
  · rw [he]; rfl
  · rw [he]; rfl
  · rfl
  · intro F H C σ τ Q Q' χ R S h q
    refine s1 F H C σ τ _ _ χ R S h fun y v H1 C1 R1 t1 ry h1 => ?_
    obtain ⟨p, cn, fs, b, rfl, hp, hb, h1⟩ := h1
    cases of_ref ry
    obtain ⟨Cl, dx, ks, hc, hH, _⟩ := R1.ins hp
    obtain ⟨F1, k1⟩ := h2 cn b hb Cl hc
    exact ⟨p, Cl, dx, ks, b, rfl, hH, F1, k1, q _ _ H1 C1 R1 t1 rep_bl h1⟩
end
end WL
set_option Elab.async false
set_option linter.all false
set_option maxRecDepth 100000
set_option maxHeartbeats 400000
/-! list.index on a list of ints -/
namespace L2
open PySem PySem.Spec PyProof.Rows
section
variable {X : Cx}
theorem ints_vals {vs : List Value} : ∀ {xs : List Int}, Vals (xs.map V.int) vs → IntsAre vs xs := by
  intro xs h
  induction xs generalizing vs with
  | nil => cases h; exact .nil
  | cons x r ih =>
    cases h with
    | cons a b =>
      obtain ⟨t, rfl⟩ := a
      exact .cons x t (ih b)
end
end L2
set_option Elab.async false
set_option linter.all false
set_option maxRecDepth 100000
set_option maxHeartbeats 400000
/-! list(d.values()) -/
namespace L2
open PySem PySem.Spec PyProof.Rows
section
variable {X : Cx} {e : Expr}
end
end L2
set_option Elab.async false
set_option linter.all false
set_option maxRecDepth 100000
set_option maxHeartbeats 400000
/-! the second level: list.index of ints -/
namespace WL
open PySem PySem.Spec PyProof.Rows L2
variable {X : Cx}
/-- list(d.values()) -/
def eLvs (o : WE) : WE := fun τ C Q χ => o τ C (fun x C1 => ∃ a kvs, x = .ref a ∧ RdC C1 a kvs ∧ ∀ p, C1 p = none → Q (.ref p) (up C1 p (.lst (kvs.map (·.2))))) χ
/-- C(..) with the last of its values by default: v -/
def CnD (P : Program) (w : World) (K : PySem.W.Frag) (mg : Str → Option Value) (base : Heap) (n : Nat) (pr : List Df) (cn : Str) (i j : Nat) (v : Int) : Prop :=
  (∃ ar, pr[j]? = some ⟨ar, ar, wNew cn i⟩) ∧ ∃ Cl f, ClsAt K cn Cl ∧ mg cn = some (.ref Cl) ∧ L2.Mk K Cl f ∧ (n = 0 ∨ ∃ k fd ps u, n = k + 1 ∧ FnOk P w K mg base CX0 k f fd ps (spW K pr k i) ∧ RelV (V.int v) u ∧ Binds K fd ps [u])
section
variable {k i j : Nat} {pr : List Df} {cn : Str} {p pos : Pos} {e : Expr} {es : List Expr} {wA : WA} {v : Int}
/-- __init__ and its default -/
def CmD (P : Program) (w : World) (K : PySem.W.Frag) (mg : Str → Option Value) (base : Heap) (n : Nat) (cn : Str) (ps : List Str) (sp : L2.Sp) (v : Int) : Prop :=
  ∃ Cl f fd u, ClsAt K cn Cl ∧ Meth K Cl "__init__" f ∧ FnOk P w K mg base CX0 n f fd ps sp ∧ RelV (V.int v) u ∧ Binds K fd ps [u]
end
end WL
set_option Elab.async false
set_option linter.all false
set_option maxRecDepth 100000
set_option maxHeartbeats 4000000
/-! the second level: list(zip(a, b)) of two lists -/
namespace WL
open PySem PySem.Spec PyProof.Rows L2
section
variable {X : Cx} {a c : Expr} {wA : WA} {p pos p2 pos2 : Pos}
end
end WL
set_option Elab.async false
set_option linter.all false
set_option maxRecDepth 100000
set_option maxHeartbeats 4000000
/-! sorted(set(l)) of a list without items -/
namespace L2
open PySem PySem.Spec PyProof.Rows
def byTx0 (w : World) : Bool := w.params.followText "set-order"
section
variable {prog : Program} {w : World} {A : Around} {E : Value → Shared → Prop} {s : Shared}
abbrev freshSet0 (w : World) : Obj := { cls := .type "set", dict := none, data := .set #[] 0 (.fresh 0 0 (!byTx0 w)) }
end
section
variable {prog : Program} {w : World} {A : Around} {E : Value → Shared → Prop} {s : Shared}
end
section
variable {X : Cx} {pins : List (Addr × Obj)} {s : Shared} {σ : St} {H : Hp}
/-- a set without items -/
def setE (w : World) (a : Addr) : HO := .ext fun h => h.get? a = some (freshSet0 w)
end
end L2
set_option Elab.async false
set_option linter.all false
set_option maxRecDepth 100000
set_option maxHeartbeats 4000000
/-! sorted(set(l)) of a list that is empty -/
namespace WL
open PySem PySem.Spec PyProof.Rows L2
section
variable {X : Cx} {e : Expr} {we : WE} {pos p p2 pos2 : Pos}
end
end WL
set_option Elab.async false
set_option linter.all false
set_option maxRecDepth 100000
set_option maxHeartbeats 4000000
/-! list(range(a, b)) -/
namespace L2
open PySem PySem.Spec PyProof.Rows
section
variable {X : Cx}
end
end L2
set_option Elab.async false
set_option linter.all false
set_option maxRecDepth 100000
set_option maxHeartbeats 4000000
/-! the second level: list.reverse, list(range(a, b)) -/
namespace WL
open PySem PySem.Spec PyProof.Rows L2
section
variable {X : Cx} {a b : Expr} {wA : WA} {p pos p2 pos2 : Pos}
/-- x, y = a, b with two names -/
def sPar (i j : Nat) (wa : WA) : WS := fun D τ C => wa τ C (fun vs C1 => ∃ v w, vs = [v, w] ∧ D.nx ((τ.set i (some v)).set j (some w)) C1) D.xc
end
end WL
namespace PyProof.Rows
set_option autoImplicit false
open PySem
section
variable {prog : Program} {w : World} {A : Around} {E : Value → Shared → Prop} {s : Shared} {κ : KeyKind}
theorem wpS_ltP (hO : κ.OneLt) {st : SortSt} {x y : Keyed} {a b : κ.α} {Q : Option Bool → SortSt → Prop} (hk : kindOf st = oneType')
    (ha : κ.keyOf x.1 = some a) (hb : κ.keyOf y.1 = some b) (h : Q (some (κ.blt a b)) st) : wpS (model prog w) A E s (lt' x y) Q st := by
  rw [lt'_eq]
  refine wpS_bind (wpS_get ?_)
  rw [hk, keyLt'_oneType]
  refine wpS_bind (wpS_lift (wpAny_attempt (hO prog w A _ s x.1 y.1 a b ha hb ⟨rfl, ?_⟩)))
  exact wpS_pure h
theorem wpS_el {st : SortSt} {xs : Array Keyed} {i : Nat} {p : Keyed} {Q : Keyed → SortSt → Prop} (h : xs[i]? = some p) (hq : Q p st) :
    wpS (model prog w) A E s (elem' xs i) Q st := by
  rw [elem'_eq, h]; exact wpS_pure hq
theorem wpS_byd (hO : κ.OneLt) {st : SortSt} {left : Bool} {key : Keyed} {kk : κ.α} {xs : Array Keyed} {j : Nat} {v : Bool} {Q : Option Bool → SortSt → Prop}
    (hk : kindOf st = oneType') (hkk : κ.keyOf key.1 = some kk)
    (hx : ∃ p a, xs[j]? = some p ∧ κ.keyOf p.1 = some a ∧ v = (if left then κ.blt a kk else !κ.blt kk a)) (h : Q (some v) st) :
    wpS (model prog w) A E s (elem' xs j >>= fun x => if left = true then lt' x key else lt' key x >>= fun r => pure (r.map (fun x => !x))) Q st := by
  obtain ⟨p, a, e1, e2, e3⟩ := hx
  refine wpS_bind (wpS_el e1 ?_)
  cases left
  · exact wpS_bind (wpS_ltP hO hk hkk e2 (wpS_pure (by rw [e3] at h; exact h)))
  · exact wpS_ltP hO hk e2 hkk (by rw [e3] at h; exact h)
def gal : Bool → Keyed → Array Keyed → Nat → Nat → Nat → StateT SortSt Sem (Option Nat) := sortPriv% PySem.Builtin.gallop
theorem wpS_gal (hO : κ.OneLt) {st : SortSt} {left : Bool} {key : Keyed} {kk : κ.α} {xs : Array Keyed} {base n hint : Nat} {b : Nat → Bool} {Q : Option Nat → SortSt → Prop}
    (hk : kindOf st = oneType') (hkk : κ.keyOf key.1 = some kk) (hh : hint < n)
    (hx : ∀ i, i < n → ∃ p a, xs[base + i]? = some p ∧ κ.keyOf p.1 = some a ∧ b i = (if left then κ.blt a kk else !κ.blt kk a))
    (hm : ∀ i j, i ≤ j → j < n → b j = true → b i = true)
    (h : ∀ k, k ≤ n → (∀ i, i < k → b i = true) → (∀ i, k ≤ i → i < n → b i = false) → Q (some k) st) :
    wpS (model prog w) A E s (gal left key xs base n hint) Q st := by
  have hm' : ∀ i j, i ≤ j → j < n → b i = false → b j = false := fun i j hij hj e => by
    cases e' : b j with
    | false => rfl
    | true => rw [hm i j hij hj e'] at e; cases e
  unfold gal
  refine wpS_bind (wpS_byd hO hk hkk (hx hint hh) ?_)
  extract_lets jp mo1 mo2
  have fin : ∀ l o lo hi, lo ≤ hi → hi ≤ n → (∀ i, i < lo → b i = true) → (∀ i, hi ≤ i → i < n → b i = false) → wpS (model prog w) A E s (jp () l o lo hi) Q st := by
    intro l o lo hi h1 h2 h3 h4
    refine wpS_bind (wpS_forRange (I := fun x c st' => st' = st ∧ ∃ lo hi, c = (none, lo, hi) ∧ lo ≤ hi ∧ hi ≤ n ∧ hi - lo ≤ n - x ∧ (∀ i, i < lo → b i = true) ∧ (∀ i, hi ≤ i → i < n → b i = false))
      (Q := fun c st' => wpS (model prog w) A E s _ Q st') ?_ ?_ ⟨rfl, lo, hi, rfl, h1, h2, by omega, h3, h4⟩)
    · rintro x c st' _ hx' ⟨rfl, lo, hi, rfl, h1, h2, h5, h3, h4⟩
      dsimp only
      by_cases hge : lo ≥ hi
      · rw [if_pos hge]
        have : lo = hi := by omega
        subst this
        exact wpS_pure (wpS_pure (h lo h2 h3 h4))
      · rw [if_neg hge]
        refine wpS_bind (wpS_byd hO hk hkk (hx (lo + (hi - lo) / 2) (by omega)) ?_)
        cases e : b (lo + (hi - lo) / 2)
        · exact wpS_pure ⟨rfl, lo, _, rfl, by omega, by omega, by omega, h3, fun i a1 a2 => hm' _ i a1 a2 e⟩
        · exact wpS_pure ⟨rfl, _, hi, rfl, by omega, by omega, by omega, fun i a1 => hm i _ (by omega) (by omega) e, h4⟩
    · rintro c st' ⟨rfl, lo, hi, rfl, h1, h2, h5, h3, h4⟩
      have : lo = hi := by omega
      subst this
      exact wpS_pure (h lo h2 h3 h4)
  clear_value jp
  cases e0 : b hint
  · dsimp only
    rw [if_neg (by decide)]
    refine wpS_bind (wpS_forRange (I := fun x c st' => st' = st ∧ ∃ l o, c = (none, l, o) ∧ l ≤ hint ∧ l < o ∧ x + 1 ≤ o ∧ b (hint - l) = false)
      (Q := fun c st' => wpS (model prog w) A E s _ Q st') ?_ ?_ ⟨rfl, 0, 1, rfl, by omega, by omega, by omega, e0⟩)
    · rintro x c st' _ hx' ⟨rfl, l, o, rfl, h1, h2, h3, h4⟩
      dsimp only
      by_cases hge : o ≥ mo2
      · rw [if_pos hge]
        refine wpS_pure (fin l o (hint + 1 - min o (hint + 1)) (hint - l) (by omega) (by omega) (fun i a => by omega) fun i a1 a2 => hm' _ i a1 a2 h4)
      · rw [if_neg hge]
        refine wpS_bind (wpS_byd hO hk hkk (hx (hint - o) (by omega)) ?_)
        cases e : b (hint - o)
        · exact wpS_pure ⟨rfl, _, _, rfl, by omega, by omega, by omega, e⟩
        · exact wpS_pure (fin l o (hint + 1 - min o (hint + 1)) (hint - l) (by omega) (by omega) (fun i a => hm i _ (by omega) (by omega) e) fun i a1 a2 => hm' _ i a1 a2 h4)
    · rintro c st' ⟨rfl, l, o, rfl, h1, h2, h3, h4⟩
      exact fin l o (hint + 1 - min o (hint + 1)) (hint - l) (by omega) (by omega) (fun i a => by omega) fun i a1 a2 => hm' _ i a1 a2 h4
  · dsimp only
    rw [if_pos rfl]
    refine wpS_bind (wpS_forRange (I := fun x c st' => st' = st ∧ ∃ l o, c = (none, l, o) ∧ hint + l < n ∧ l < o ∧ x + 1 ≤ o ∧ b (hint + l) = true)
      (Q := fun c st' => wpS (model prog w) A E s _ Q st') ?_ ?_ ⟨rfl, 0, 1, rfl, by omega, by omega, by omega, e0⟩)
    · rintro x c st' _ hx' ⟨rfl, l, o, rfl, h1, h2, h3, h4⟩
      dsimp only
      by_cases hge : o ≥ mo1
      · rw [if_pos hge]
        refine wpS_pure (fin l o (hint + l + 1) (hint + min o (n - hint)) (by omega) (by omega) (fun i a => hm i _ (by omega) (by omega) h4) fun i a1 a2 => by omega)
      · rw [if_neg hge]
        refine wpS_bind (wpS_byd hO hk hkk (hx (hint + o) (by omega)) ?_)
        cases e : b (hint + o)
        · exact wpS_pure (fin l o (hint + l + 1) (hint + min o (n - hint)) (by omega) (by omega) (fun i a => hm i _ (by omega) (by omega) h4) fun i a1 a2 => hm' _ i (by omega) a2 e)
        · exact wpS_pure ⟨rfl, _, _, rfl, by omega, by omega, by omega, e⟩
    · rintro c st' ⟨rfl, l, o, rfl, h1, h2, h3, h4⟩
      exact fin l o (hint + l + 1) (hint + min o (n - hint)) (by omega) (by omega) (fun i a => hm i _ (by omega) (by omega) h4) fun i a1 a2 => by omega
end
end PyProof.Rows
namespace PyProof.Rows
set_option autoImplicit false
open PySem
section
variable {κ : KeyKind}
def ky (κ : KeyKind) (p : Keyed) : κ.α := (κ.keyOf p.1).getD κ.dflt
def So (κ : KeyKind) (l : List Keyed) : Prop := l.Pairwise fun p q => κ.kle (ky κ p) (ky κ q)
structure Mi (κ : KeyKind) (L out x y : List Keyed) : Prop where
  perm : (out ++ (x ++ y)).Perm L
  so : So κ out
  sx : So κ x
  sy : So κ y
  le : ∀ p, p ∈ out → ∀ q, q ∈ x ++ y → κ.kle (ky κ p) (ky κ q)
theorem Mi.left {L out u x y : List Keyed} (h : Mi κ L out (u ++ x) y) (hu : ∀ p, p ∈ u → ∀ q, q ∈ y → κ.kle (ky κ p) (ky κ q)) : Mi κ L (out ++ u) x y := by
  obtain ⟨h1, h2, h3, h4, h5⟩ := h
  have h3' := List.pairwise_append.mp h3
  refine ⟨by simpa [List.append_assoc] using h1, List.pairwise_append.mpr ⟨h2, h3'.1, fun p hp q hq => h5 p hp q (by simp [hq])⟩, h3'.2.1, h4, ?_⟩
  intro p hp q hq
  rcases List.mem_append.mp hp with hp | hp
  · exact h5 p hp q (by rcases List.mem_append.mp hq with e | e <;> simp [e])
  · rcases List.mem_append.mp hq with hq | hq
    · exact h3'.2.2 p hp q hq
    · exact hu p hp q hq
theorem Mi.flip {L out x y : List Keyed} (h : Mi κ L out x y) : Mi κ L out y x :=
  ⟨(List.perm_append_comm.append_left out).trans h.perm, h.so, h.sy, h.sx, fun p hp q hq => h.le p hp q (by rcases List.mem_append.mp hq with e | e <;> simp [e])⟩
theorem Mi.right {L out u x y : List Keyed} (h : Mi κ L out x (u ++ y)) (hu : ∀ p, p ∈ u → ∀ q, q ∈ x → κ.kle (ky κ p) (ky κ q)) : Mi κ L (out ++ u) x y :=
  (h.flip.left hu).flip
theorem Mi.fin {L out x : List Keyed} (h : Mi κ L out x []) : (out ++ x).Perm L ∧ So κ (out ++ x) :=
  ⟨by simpa using h.perm, List.pairwise_append.mpr ⟨h.so, h.sx, fun p hp q hq => h.le p hp q (by simp [hq])⟩⟩
theorem Mi.last {L out x y : List Keyed} (h : Mi κ L out x y) (hu : ∀ p, p ∈ y → ∀ q, q ∈ x → κ.kle (ky κ p) (ky κ q)) : (out ++ y ++ x).Perm L ∧ So κ (out ++ y ++ x) :=
  Mi.fin (Mi.right (u := y) (by simpa using h) hu)
theorem So.le {l : List Keyed} (h : So κ l) {i j : Nat} {p q : Keyed} (hij : i ≤ j) (hi : l[i]? = some p) (hj : l[j]? = some q) : κ.kle (ky κ p) (ky κ q) := by
  rcases Nat.lt_or_ge i j with h' | h'
  · obtain ⟨a1, rfl⟩ := List.getElem?_eq_some_iff.mp hi
    obtain ⟨a2, rfl⟩ := List.getElem?_eq_some_iff.mp hj
    exact List.pairwise_iff_getElem.mp h i j a1 a2 h'
  · have : i = j := by omega
    subst this
    rw [hi] at hj; cases hj; exact KeyOrd.kle_refl _
theorem KK_ky {xs : Array Keyed} {i : Nat} {p : Keyed} (h : xs[i]? = some p) : KK κ xs i = ky κ p := by unfold KK; rw [h]; rfl
theorem KeysOf.at {xs : Array Keyed} (h : KeysOf κ xs) {i : Nat} {p : Keyed} (e : xs[i]? = some p) : κ.keyOf p.1 = some (ky κ p) := by
  obtain ⟨a, ha⟩ := h p (by rw [← Array.getElem?_toList] at e; exact List.mem_of_getElem? e)
  unfold ky; rw [ha]; rfl
theorem mem_drop_at {l : List Keyed} {n : Nat} {q : Keyed} (h : q ∈ l.drop n) : ∃ i, l[n + i]? = some q := by
  obtain ⟨i, hi⟩ := List.mem_iff_getElem?.mp h
  exact ⟨i, by rw [List.getElem?_drop] at hi; exact hi⟩
theorem So.ge {l : List Keyed} (h : So κ l) {i : Nat} {p : Keyed} {x : κ.α} (hi : l[i]? = some p) (hx : κ.kle x (ky κ p)) : ∀ q, q ∈ l.drop i → κ.kle x (ky κ q) := by
  intro q hq
  obtain ⟨j, hj⟩ := mem_drop_at hq
  exact KeyOrd.kle_trans hx (h.le (Nat.le_add_right i j) hi hj)
abbrev Mj (κ : KeyKind) (a b out : Array Keyed) (ia ib : Nat) : Prop := Mi κ (a.toList ++ b.toList) out.toList (a.toList.drop ia) (b.toList.drop ib)
def Fi (κ : KeyKind) (a b r : Array Keyed) : Prop := r.toList.Perm (a.toList ++ b.toList) ∧ So κ r.toList
theorem cut_drop (a : Array Keyed) (i k : Nat) : a.toList.drop i = (a.extract i (i + k)).toList ++ a.toList.drop (i + k) := by
  rw [Array.toList_extract, List.extract_eq_take_drop, show i + k - i = k by omega, ← List.drop_drop, List.take_append_drop]
theorem ext_end (a : Array Keyed) (i : Nat) : (a.extract i a.size).toList = a.toList.drop i := by
  rw [Array.toList_extract, List.extract_eq_take_drop, List.take_of_length_le (by simp)]
theorem mem_ext {a : Array Keyed} {i k : Nat} {p : Keyed} (h : p ∈ (a.extract i (i + k)).toList) : ∃ j, j < k ∧ a[i + j]? = some p := by
  obtain ⟨j, hj⟩ := List.mem_iff_getElem?.mp h
  rw [Array.getElem?_toList, Array.getElem?_extract] at hj
  split at hj
  · exact ⟨j, by omega, hj⟩
  · cases hj
variable {a b out : Array Keyed} {ia ib k : Nat}
theorem Mj.xa (h : Mj κ a b out ia ib) (hu : ∀ j, j < k → ∀ p, a[ia + j]? = some p → ∀ q, q ∈ b.toList.drop ib → κ.kle (ky κ p) (ky κ q)) : Mj κ a b (out ++ a.extract ia (ia + k)) (ia + k) ib := by
  show Mi _ _ _ _ _
  rw [Array.toList_append]
  refine Mi.left (by rw [← cut_drop]; exact h) fun p hp q hq => ?_
  obtain ⟨j, hj, e⟩ := mem_ext hp
  exact hu j hj p e q hq
theorem Mj.xb (h : Mj κ a b out ia ib) (hu : ∀ j, j < k → ∀ p, b[ib + j]? = some p → ∀ q, q ∈ a.toList.drop ia → κ.kle (ky κ p) (ky κ q)) : Mj κ a b (out ++ b.extract ib (ib + k)) ia (ib + k) := by
  show Mi _ _ _ _ _
  rw [Array.toList_append]
  refine Mi.right (by rw [← cut_drop]; exact h) fun p hp q hq => ?_
  obtain ⟨j, hj, e⟩ := mem_ext hp
  exact hu j hj p e q hq
theorem push_ext {a : Array Keyed} {i : Nat} {p : Keyed} (e : a[i]? = some p) (out : Array Keyed) : out.push p = out ++ a.extract i (i + 1) := by
  obtain ⟨hi, rfl⟩ := Array.getElem?_eq_some_iff.mp e
  apply Array.ext'
  rw [Array.toList_push, Array.toList_append, Array.toList_extract, List.extract_eq_take_drop, show i + 1 - i = 1 by omega,
    List.drop_eq_getElem_cons (by simpa using hi), List.take_succ_cons, List.take_zero]
  simp
theorem Mj.pa {p : Keyed} (h : Mj κ a b out ia ib) (e : a[ia]? = some p) (hu : ∀ q, q ∈ b.toList.drop ib → κ.kle (ky κ p) (ky κ q)) : Mj κ a b (out.push p) (ia + 1) ib := by
  rw [push_ext e]
  refine h.xa fun j hj p' e' q hq => ?_
  have : j = 0 := by omega
  subst this
  rw [Nat.add_zero, e] at e'; cases e'; exact hu q hq
theorem Mj.pb {p : Keyed} (h : Mj κ a b out ia ib) (e : b[ib]? = some p) (hu : ∀ q, q ∈ a.toList.drop ia → κ.kle (ky κ p) (ky κ q)) : Mj κ a b (out.push p) ia (ib + 1) := by
  rw [push_ext e]
  refine h.xb fun j hj p' e' q hq => ?_
  have : j = 0 := by omega
  subst this
  rw [Nat.add_zero, e] at e'; cases e'; exact hu q hq
theorem Mj.doneB (h : Mj κ a b out ia ib) (e : ib = b.size) : Fi κ a b (out ++ a.extract ia a.size ++ b.extract ib b.size) := by
  subst e
  have e0 : b.toList.drop b.size = [] := by simp
  have h' : Mi κ (a.toList ++ b.toList) out.toList (a.toList.drop ia) [] := by rw [← e0]; exact h
  unfold Fi
  rw [Array.toList_append, Array.toList_append, ext_end, ext_end, e0]
  simpa using h'.fin
theorem Mj.doneA (h : Mj κ a b out ia ib) (e : ia = a.size) : Fi κ a b (out ++ a.extract ia a.size ++ b.extract ib b.size) := by
  subst e
  have e0 : a.toList.drop a.size = [] := by simp
  have h' : Mi κ (a.toList ++ b.toList) out.toList [] (b.toList.drop ib) := by rw [← e0]; exact h
  unfold Fi
  rw [Array.toList_append, Array.toList_append, ext_end, ext_end, e0]
  simpa using h'.flip.fin
theorem Mj.lastA (h : Mj κ a b out ia ib) (hu : ∀ p, p ∈ b.toList → ∀ q, q ∈ a.toList.drop ia → κ.kle (ky κ p) (ky κ q)) : Fi κ a b (out ++ b.extract ib b.size ++ a.extract ia a.size) := by
  unfold Fi
  rw [Array.toList_append, Array.toList_append, ext_end, ext_end]
  exact h.last fun p hp => hu p (List.mem_of_mem_drop hp)
end
section
variable {prog : Program} {w : World} {A : Around} {E : Value → Shared → Prop} {s : Shared} {κ : KeyKind}
theorem wpS_galT (hO : κ.OneLt) {st : SortSt} {left : Bool} {key : Keyed} {xs : Array Keyed} {base n hint : Nat} {Q : Option Nat → SortSt → Prop}
    (hk : kindOf st = oneType') (hkk : κ.keyOf key.1 = some (ky κ key)) (hh : hint < n) (hn : base + n ≤ xs.size) (hx : KeysOf κ xs)
    (hs : ∀ i j, i ≤ j → j < n → κ.kle (KK κ xs (base + i)) (KK κ xs (base + j)))
    (h : ∀ k, k ≤ n → (∀ i, i < k → if left then κ.klt (KK κ xs (base + i)) (ky κ key) else κ.kle (KK κ xs (base + i)) (ky κ key)) →
      (∀ i, k ≤ i → i < n → if left then κ.kle (ky κ key) (KK κ xs (base + i)) else κ.klt (ky κ key) (KK κ xs (base + i))) → Q (some k) st) :
    wpS (model prog w) A E s (gal left key xs base n hint) Q st := by
  refine wpS_gal hO (b := fun i => if left then κ.blt (KK κ xs (base + i)) (ky κ key) else !κ.blt (ky κ key) (KK κ xs (base + i))) hk hkk hh ?_ ?_ ?_
  · intro i hi
    have e : xs[base + i]? = some xs[base + i] := getElem?_pos xs _ (by omega)
    exact ⟨_, _, e, hx.at e, by rw [KK_ky e]⟩
  · intro i j hij hj hb
    cases left
    · simp only [Bool.false_eq_true, if_false, Bool.not_eq_true'] at hb ⊢
      exact KeyOrd.kle_trans (hs i j hij hj) hb
    · simp only [if_true] at hb ⊢
      exact KeyOrd.klt_of_kle_of_klt (hs i j hij hj) hb
  · intro k hk' h1 h2
    refine h k hk' (fun i hi => ?_) fun i hi hi' => ?_
    · have := h1 i hi
      cases left
      · simpa [KeyOrd.kle] using this
      · simpa [KeyOrd.klt] using this
    · have := h2 i hi hi'
      cases left
      · simpa [KeyOrd.klt] using this
      · simpa [KeyOrd.kle] using this
end
end PyProof.Rows
namespace PyProof.Rows
set_option autoImplicit false
open PySem
section
variable {prog : Program} {w : World} {A : Around} {E : Value → Shared → Prop} {s : Shared} {κ : KeyKind}
def Sm (st st' : SortSt) : Prop := kindOf st' = kindOf st ∧ arrOf st' = arrOf st ∧ pendingOf st' = pendingOf st ∧ failedOf st' = failedOf st
theorem Sm.refl (st : SortSt) : Sm st st := ⟨rfl, rfl, rfl, rfl⟩
def mlo : Array Keyed → Array Keyed → StateT SortSt Sem (Array Keyed) := sortPriv% PySem.Builtin.mergeLo
def setG : Nat → StateT SortSt Sem Unit := sortPriv% PySem.Builtin.setMinGallop
theorem wpS_setG {st0 st : SortSt} {g : Nat} {Q : Unit → SortSt → Prop} (hS : Sm st0 st) (h : ∀ st', Sm st0 st' → Q () st') : wpS (model prog w) A E s (setG g) Q st := by
  unfold setG
  exact wpS_modify (h _ ⟨hS.1, hS.2.1, hS.2.2.1, hS.2.2.2⟩)
def Liv (κ : KeyKind) (a b out : Array Keyed) (ia ib : Nat) : Prop := ia + 1 < a.size ∧ ib < b.size ∧ Mj κ a b out ia ib
theorem el_of {xs : Array Keyed} {i : Nat} (h : i < xs.size) : ∃ p, xs[i]? = some p := ⟨_, getElem?_pos xs i h⟩
theorem toL {xs : Array Keyed} {i : Nat} {p : Keyed} (h : xs[i]? = some p) : xs.toList[i]? = some p := by rw [Array.getElem?_toList]; exact h
theorem wpS_ite {α : Type} {c : Prop} [Decidable c] {m1 m2 : StateT SortSt Sem α} {st : SortSt} {Q : α → SortSt → Prop}
    (h1 : c → wpS (model prog w) A E s m1 Q st) (h2 : ¬ c → wpS (model prog w) A E s m2 Q st) : wpS (model prog w) A E s (if c then m1 else m2) Q st := by
  by_cases hc : c
  · rw [if_pos hc]; exact h1 hc
  · rw [if_neg hc]; exact h2 hc
theorem wpS_beq {α : Type} {x y : Nat} {m1 m2 : StateT SortSt Sem α} {st : SortSt} {Q : α → SortSt → Prop}
    (h1 : x = y → wpS (model prog w) A E s m1 Q st) (h2 : ¬ x = y → wpS (model prog w) A E s m2 Q st) : wpS (model prog w) A E s (if (x == y) = true then m1 else m2) Q st :=
  wpS_ite (fun e => h1 (by simpa using e)) fun e => h2 (by simpa using e)
abbrev GSt := Option (Array Keyed) × Array Keyed × Nat × Nat × Nat × Nat × Nat
inductive Gp (F : Array Keyed → Prop) (L : Array Keyed → Nat → Nat → Prop) : ForInStep GSt → Prop
  | fin {R : Array Keyed} {c} : F R → Gp F L (.done (some R, c))
  | stop {out : Array Keyed} {i j : Nat} {c} : L out i j → Gp F L (.done (none, out, i, j, c))
  | on {out : Array Keyed} {i j : Nat} {c} : L out i j → Gp F L (.yield (none, out, i, j, c))
theorem wpS_mlo (hO : κ.OneLt) {st : SortSt} {a b : Array Keyed} {Q : Array Keyed → SortSt → Prop}
    (hk : kindOf st = oneType') (ka : KeysOf κ a) (kb : KeysOf κ b) (sa : So κ a.toList) (sb : So κ b.toList) (na : 0 < a.size) (nb : 0 < b.size)
    (hf : ∀ p q, b[0]? = some p → a[0]? = some q → κ.kle (ky κ p) (ky κ q))
    (hl : ∀ p, p ∈ b.toList → ∀ q, a[a.size - 1]? = some q → κ.kle (ky κ p) (ky κ q))
    (h : ∀ r st', Sm st st' → Fi κ a b r → Q r st') :
    wpS (model prog w) A E s (mlo a b) Q st := by
  have hla : ∀ ia, ia + 1 = a.size → ∀ p, p ∈ b.toList → ∀ q, q ∈ a.toList.drop ia → κ.kle (ky κ p) (ky κ q) := by
    intro ia hia p hp q hq
    obtain ⟨j, hj⟩ := mem_drop_at hq
    rw [Array.getElem?_toList] at hj
    obtain ⟨hj', _⟩ := Array.getElem?_eq_some_iff.mp hj
    exact hl p hp q (by rw [← hj]; congr 1; omega)
  unfold mlo
  refine wpS_bind (wpS_lift (wpAny_rule ⟨rfl, ?_⟩))
  extract_lets tot done last
  obtain ⟨p0, e0⟩ := el_of nb
  obtain ⟨q0, f0⟩ := el_of na
  refine wpS_bind (wpS_el e0 ?_)
  have m0 : Mj κ a b #[p0] 0 1 := by
    have : Mj κ a b #[] 0 0 := ⟨by simp, List.Pairwise.nil, by simpa using sa, by simpa using sb, fun p hp => by simp at hp⟩
    exact this.pb e0 (sa.ge (toL f0) (hf _ _ e0 f0))
  refine wpS_beq (x := 1) (fun h1 => ?_) fun h1 => ?_
  · exact wpS_pure (h _ _ (Sm.refl _) (m0.doneB h1))
  refine wpS_beq (x := 0 + 1) (fun h2 => ?_) fun h2 => ?_
  · exact wpS_pure (h _ _ (Sm.refl _) (m0.lastA (hla 0 h2)))
  refine wpS_bind (wpS_get ?_)
  refine wpS_bind (wpS_mono (wpS_forRange
    (I := fun x c st' => Sm st st' ∧ ∃ out ia ib g, c = (none, out, ia, ib, g) ∧ Liv κ a b out ia ib ∧ x + 1 ≤ ia + ib)
    (Q := fun c st' => Sm st st' ∧ ∃ R, c.1 = some R ∧ Fi κ a b R) ?step ?fin ⟨Sm.refl _, _, 0, 1, _, rfl, ⟨by omega, by omega, m0⟩, by omega⟩) ?post)
  case fin =>
    rintro c st' ⟨_, out, ia, ib, g, rfl, ⟨l1, l2, _⟩, hx⟩
    omega
  case post =>
    rintro ⟨c1, c2⟩ st' ⟨hS, R, e, hR⟩
    cases e
    exact wpS_pure (h R st' hS hR)
  case step =>
    rintro x c st1 _ hx ⟨hS, out, ia, ib, g, rfl, hL, hxx⟩
    refine wpS_bind (wpS_mono (wpS_forRange
      (I := fun x c st' => Sm st st' ∧ ∃ out ia' ib' g g', c = (none, out, ia', ib', g, g') ∧ Liv κ a b out ia' ib' ∧ ia + ib + x ≤ ia' + ib')
      (Q := fun c st' => Sm st st' ∧ ((∃ R, c.1 = some R ∧ Fi κ a b R) ∨ ∃ out ia' ib' g g', c = (none, out, ia', ib', g, g') ∧ Liv κ a b out ia' ib' ∧ ia + ib + 1 ≤ ia' + ib'))
      ?st2 ?fi2 ⟨hS, out, ia, ib, _, _, rfl, hL, by omega⟩) ?po2)
    case fi2 =>
      rintro c st' ⟨hS, out, ia', ib', g, g', rfl, hL, hx⟩
      exact ⟨hS, .inr ⟨_, _, _, _, _, rfl, hL, by omega⟩⟩
    case st2 =>
      rintro x c st2 _ hx ⟨hS, out, ia', ib', g, g', rfl, ⟨l1, l2, hM⟩, hxx⟩
      dsimp only
      obtain ⟨p, ep⟩ := el_of l2
      obtain ⟨q, eq⟩ := el_of (show ia' < a.size by omega)
      refine wpS_bind (wpS_el ep (wpS_bind (wpS_el eq (wpS_bind (wpS_ltP hO (hS.1.trans hk) (kb.at ep) (ka.at eq) ?_)))))
      cases e : κ.blt (ky κ p) (ky κ q)
      · dsimp only
        rw [if_neg (by decide)]
        refine wpS_bind (wpS_el eq ?_)
        have hM' := hM.pa eq (sb.ge (toL ep) e)
        by_cases h3 : ia' + 1 + 1 = a.size
        · rw [if_pos (by simpa using h3)]
          exact wpS_pure ⟨hS, .inl ⟨_, rfl, hM'.lastA (hla _ h3)⟩⟩
        · rw [if_neg (by simpa using h3)]
          split
          · exact wpS_pure ⟨hS, .inr ⟨_, _, _, _, _, rfl, ⟨by omega, l2, hM'⟩, by omega⟩⟩
          · exact wpS_pure ⟨hS, _, _, _, _, _, rfl, ⟨by omega, l2, hM'⟩, by omega⟩
      · dsimp only
        rw [if_pos rfl]
        refine wpS_bind (wpS_el ep ?_)
        have hM' := hM.pb ep (sa.ge (toL eq) (KeyOrd.kle_of_klt e))
        by_cases h3 : ib' + 1 = b.size
        · rw [if_pos (by simpa using h3)]
          exact wpS_pure ⟨hS, .inl ⟨_, rfl, hM'.doneB h3⟩⟩
        · rw [if_neg (by simpa using h3)]
          split
          · exact wpS_pure ⟨hS, .inr ⟨_, _, _, _, _, rfl, ⟨by omega, by omega, hM'⟩, by omega⟩⟩
          · exact wpS_pure ⟨hS, _, _, _, _, _, rfl, ⟨by omega, by omega, hM'⟩, by omega⟩
    case po2 =>
      rintro ⟨c1, c2⟩ st2 ⟨hS, ⟨R, e, hR⟩ | ⟨out, ia', ib', g1, g2, e, hL, hx1⟩⟩
      · cases e
        exact wpS_pure ⟨hS, R, rfl, hR⟩
      · cases e
        refine wpS_bind (wpS_lift (wpAny_rule ⟨rfl, ?_⟩))
        refine wpS_bind (wpS_mono (wpS_forRange
          (I := fun x c st' => Sm st st' ∧ ∃ out ia' ib' g0 g g', c = (none, out, ia', ib', g0, g, g') ∧ Liv κ a b out ia' ib' ∧ ia + ib + 1 ≤ ia' + ib')
          (Q := fun c st' => Sm st st' ∧ ((∃ R, c.1 = some R ∧ Fi κ a b R) ∨ ∃ out ia' ib' g0 g g', c = (none, out, ia', ib', g0, g, g') ∧ Liv κ a b out ia' ib' ∧ ia + ib + 1 ≤ ia' + ib'))
          ?st3 ?fi3 ⟨hS, out, ia', ib', _, _, _, rfl, hL, by omega⟩) ?po3)
        case fi3 => exact fun c st' hh => ⟨hh.1, .inr hh.2⟩
        case po3 =>
          rintro ⟨c1, c2⟩ st2 ⟨hS, ⟨R, e, hR⟩ | ⟨out, ia', ib', g0, g1, g2, e, hL, hx1⟩⟩
          · cases e
            exact wpS_pure ⟨hS, R, rfl, hR⟩
          · cases e
            refine wpS_bind (wpS_setG hS fun st' hS' => wpS_pure ⟨hS', out, ia', ib', _, rfl, hL, by omega⟩)
        case st3 =>
          rintro x c st2 _ hx ⟨hS, out, ia', ib', g0, g, g', rfl, ⟨l1, l2, hM⟩, hxx⟩
          refine wpS_mono (Q := fun r st' => Sm st st' ∧ Gp (Fi κ a b) (fun out i j => Liv κ a b out i j ∧ ia + ib + 1 ≤ i + j) r) ?_ ?mo
          case mo =>
            rintro _ st' ⟨hS', @⟨R, ⟨o, i, j, g1, g2, g3⟩, hF⟩ | @⟨o, i, j, ⟨g1, g2, g3⟩, hL⟩ | @⟨o, i, j, ⟨g1, g2, g3⟩, hL⟩⟩
            · exact ⟨hS', .inl ⟨_, rfl, hF⟩⟩
            · exact ⟨hS', .inr ⟨_, _, _, _, _, _, rfl, hL⟩⟩
            · exact ⟨hS', _, _, _, _, _, _, rfl, hL⟩
          extract_lets s1 o1 s2 i1 s3 j1 s4 m1 s5 a1 b1 q1 jp
          have key : ∀ mg st', Sm st st' → wpS (model prog w) A E s (jp () mg) (fun r st' => Sm st st' ∧ Gp (Fi κ a b) (fun out i j => Liv κ a b out i j ∧ ia + ib + 1 ≤ i + j) r) st' := by
            intro mg st' hS'
            refine wpS_bind (wpS_setG hS' fun st' hS' => ?_)
            obtain ⟨p, ep⟩ := el_of l2
            refine wpS_bind (wpS_el (xs := b) (i := ib') ep ?_)
            refine wpS_bind (wpS_galT hO (left := false) (xs := a) (base := ia') (n := a.size - ia') (hint := 0) (hS'.1.trans hk) (kb.at ep) (by omega) (by omega) ka ?_ ?_)
            · intro i j hij hj
              obtain ⟨p1, e1⟩ := el_of (show ia' + i < a.size by omega)
              obtain ⟨p2, e2⟩ := el_of (show ia' + j < a.size by omega)
              rw [KK_ky e1, KK_ky e2]
              exact sa.le (by omega) (toL e1) (toL e2)
            · intro k hk' g1 g2
              dsimp -zeta only
              extract_lets ac jp2
              have key2 : ∀ out2 ia2, Mj κ a b out2 ia2 ib' → ia2 + 1 < a.size → ia' ≤ ia2 → (∀ q, q ∈ a.toList.drop ia2 → κ.kle (ky κ p) (ky κ q)) →
                  wpS (model prog w) A E s (jp2 () out2 ia2) (fun r st' => Sm st st' ∧ Gp (Fi κ a b) (fun out i j => Liv κ a b out i j ∧ ia + ib + 1 ≤ i + j) r) st' := by
                intro out2 ia2 hM2 l3 l4 hp
                have hM3 := hM2.pb ep hp
                refine wpS_bind (wpS_el (xs := b) (i := ib') ep ?_)
                refine wpS_beq (x := ib' + 1) (fun h3 => ?_) fun h3 => ?_
                · exact wpS_pure ⟨hS', .fin (hM3.doneB h3)⟩
                obtain ⟨q, eq⟩ := el_of (show ia2 < a.size by omega)
                refine wpS_bind (wpS_el (xs := a) (i := ia2) eq ?_)
                refine wpS_bind (wpS_galT hO (left := true) (xs := b) (base := ib' + 1) (n := b.size - (ib' + 1)) (hint := 0) (hS'.1.trans hk) (ka.at eq) (by omega) (by omega) kb ?_ ?_)
                · intro i j hij hj
                  obtain ⟨p1, e1⟩ := el_of (show ib' + 1 + i < b.size by omega)
                  obtain ⟨p2, e2⟩ := el_of (show ib' + 1 + j < b.size by omega)
                  rw [KK_ky e1, KK_ky e2]
                  exact sb.le (by omega) (toL e1) (toL e2)
                · intro k2 hk2 g3 g4
                  dsimp -zeta only
                  extract_lets bc q3 jp3
                  have key3 : ∀ out3 ib3, Mj κ a b out3 ia2 ib3 → ib3 < b.size → ib' ≤ ib3 → (∀ r, r ∈ b.toList.drop ib3 → κ.kle (ky κ q) (ky κ r)) →
                      wpS (model prog w) A E s (jp3 () out3 ib3) (fun r st' => Sm st st' ∧ Gp (Fi κ a b) (fun out i j => Liv κ a b out i j ∧ ia + ib + 1 ≤ i + j) r) st' := by
                    intro out3 ib3 hM4 l5 l6 hr
                    refine wpS_bind (wpS_el (xs := a) (i := ia2) eq ?_)
                    have hM5 := hM4.pa eq hr
                    refine wpS_beq (x := ia2 + 1 + 1) (fun h4 => ?_) fun h4 => ?_
                    · exact wpS_pure ⟨hS', .fin (hM5.lastA (hla _ h4))⟩
                    · have hL' : Liv κ a b (out3.push q) (ia2 + 1) ib3 ∧ ia + ib + 1 ≤ ia2 + 1 + ib3 := ⟨⟨by omega, l5, hM5⟩, by omega⟩
                      exact wpS_ite (fun _ => wpS_pure ⟨hS', .stop hL'⟩) fun _ => wpS_pure ⟨hS', .on hL'⟩
                  have hdr : ∀ r, r ∈ b.toList.drop (ib' + 1 + k2) → κ.kle (ky κ q) (ky κ r) := by
                    intro r hr
                    obtain ⟨j, hj⟩ := mem_drop_at hr
                    rw [Array.getElem?_toList] at hj
                    obtain ⟨hj', _⟩ := Array.getElem?_eq_some_iff.mp hj
                    have := g4 (k2 + j) (by omega) (by omega)
                    rw [if_pos rfl, ← Nat.add_assoc, KK_ky hj] at this
                    exact this
                  refine wpS_ite (fun hk0 => ?_) fun hk0 => ?_
                  · have hM4 := hM3.xb (k := k2) fun j hj r hr q' hq' => by
                      have := g3 j hj
                      rw [if_pos rfl, KK_ky hr] at this
                      exact sa.ge (toL eq) (KeyOrd.kle_of_klt this) q' hq'
                    refine wpS_beq (x := ib' + 1 + k2) (fun h5 => ?_) fun h5 => ?_
                    · exact wpS_pure ⟨hS', .fin (hM4.doneB h5)⟩
                    · exact key3 _ (ib' + 1 + k2) hM4 (by omega) (by omega) hdr
                  · have : k2 = 0 := by omega
                    subst this
                    exact key3 _ (ib' + 1) hM3 (by omega) (by omega) hdr
              have hdp : ∀ q, q ∈ a.toList.drop (ia' + k) → κ.kle (ky κ p) (ky κ q) := by
                intro r hr
                obtain ⟨j, hj⟩ := mem_drop_at hr
                rw [Array.getElem?_toList] at hj
                obtain ⟨hj', _⟩ := Array.getElem?_eq_some_iff.mp hj
                have := g2 (k + j) (by omega) (by omega)
                rw [if_neg (by decide), ← Nat.add_assoc, KK_ky hj] at this
                exact KeyOrd.kle_of_klt this
              refine wpS_ite (fun hk0 => ?_) fun hk0 => ?_
              · have hM2 := hM.xa (k := k) fun j hj r hr q' hq' => by
                  have := g1 j hj
                  rw [if_neg (by decide), KK_ky hr] at this
                  exact sb.ge (toL ep) this q' hq'
                refine wpS_beq (x := ia' + k + 1) (fun h5 => ?_) fun h5 => ?_
                · exact wpS_pure ⟨hS', .fin (hM2.lastA (hla _ h5))⟩
                refine wpS_beq (x := ia' + k) (fun h6 => ?_) fun h6 => ?_
                · exact wpS_pure ⟨hS', .fin (hM2.doneA h6)⟩
                · exact key2 _ (ia' + k) hM2 (by omega) (by omega) hdp
              · have : k = 0 := by omega
                subst this
                exact key2 _ ia' hM (by omega) (by omega) hdp
          exact wpS_ite (fun _ => key _ _ hS) fun _ => key _ _ hS
end
end PyProof.Rows
namespace PyProof.Rows
set_option autoImplicit false
open PySem
section
variable {κ : KeyKind}
structure Mh (κ : KeyKind) (L x y o : List Keyed) : Prop where
  perm : (x ++ y ++ o).Perm L
  so : So κ o
  sx : So κ x
  sy : So κ y
  ge : ∀ p, p ∈ o → ∀ q, q ∈ x ++ y → κ.kle (ky κ q) (ky κ p)
theorem Mh.flip {L x y o : List Keyed} (h : Mh κ L x y o) : Mh κ L y x o :=
  ⟨(List.perm_append_comm.append_right o).trans h.perm, h.so, h.sy, h.sx, fun p hp q hq => h.ge p hp q (by rcases List.mem_append.mp hq with e | e <;> simp [e])⟩
theorem Mh.right {L u x y o : List Keyed} (h : Mh κ L x (y ++ u) o) (hu : ∀ p, p ∈ u → ∀ q, q ∈ x → κ.kle (ky κ q) (ky κ p)) : Mh κ L x y (u ++ o) := by
  obtain ⟨h1, h2, h3, h4, h5⟩ := h
  have h4' := List.pairwise_append.mp h4
  refine ⟨by simpa [List.append_assoc] using h1, List.pairwise_append.mpr ⟨h4'.2.1, h2, fun p hp q hq => h5 q hq p (by simp [hp])⟩, h3, h4'.1, ?_⟩
  intro p hp q hq
  rcases List.mem_append.mp hp with hp | hp
  · rcases List.mem_append.mp hq with hq | hq
    · exact hu p hp q hq
    · exact h4'.2.2 q hq p hp
  · exact h5 p hp q (by rcases List.mem_append.mp hq with e | e <;> simp [e])
theorem Mh.left {L u x y o : List Keyed} (h : Mh κ L (x ++ u) y o) (hu : ∀ p, p ∈ u → ∀ q, q ∈ y → κ.kle (ky κ q) (ky κ p)) : Mh κ L x y (u ++ o) :=
  (h.flip.right hu).flip
theorem Mh.fin {L x o : List Keyed} (h : Mh κ L x [] o) : (x ++ o).Perm L ∧ So κ (x ++ o) :=
  ⟨by simpa using h.perm, List.pairwise_append.mpr ⟨h.sx, h.so, fun p hp q hq => h.ge q hq p (by simp [hp])⟩⟩
theorem Mh.last {L x y o : List Keyed} (h : Mh κ L x y o) (hu : ∀ p, p ∈ x → ∀ q, q ∈ y → κ.kle (ky κ q) (ky κ p)) : (y ++ (x ++ o)).Perm L ∧ So κ (y ++ (x ++ o)) :=
  Mh.fin (Mh.left (u := x) (x := []) (by simpa using h) hu).flip
theorem mem_take_at {l : List Keyed} {n : Nat} {q : Keyed} (h : q ∈ l.take n) : ∃ i, i < n ∧ l[i]? = some q := by
  obtain ⟨i, hi⟩ := List.mem_iff_getElem?.mp h
  rw [List.getElem?_take] at hi
  split at hi
  · exact ⟨i, by omega, hi⟩
  · cases hi
theorem So.lt {l : List Keyed} (h : So κ l) {i : Nat} {p : Keyed} {x : κ.α} (hi : l[i]? = some p) (hx : κ.kle (ky κ p) x) : ∀ q, q ∈ l.take (i + 1) → κ.kle (ky κ q) x := by
  intro q hq
  obtain ⟨j, hj, e⟩ := mem_take_at hq
  exact KeyOrd.kle_trans (h.le (by omega) e hi) hx
abbrev Mk (κ : KeyKind) (a b out : Array Keyed) (na nb : Nat) : Prop := Mh κ (a.toList ++ b.toList) (a.toList.take na) (b.toList.take nb) out.toList.reverse
theorem cut_take (a : Array Keyed) {i j : Nat} (h : i ≤ j) : a.toList.take j = a.toList.take i ++ (a.extract i j).toList := by
  rw [Array.toList_extract, List.extract_eq_take_drop]
  obtain ⟨k, rfl⟩ : ∃ k, j = i + k := ⟨j - i, by omega⟩
  rw [show i + k - i = k by omega, List.take_add]
theorem mem_ext' {a : Array Keyed} {i j : Nat} {p : Keyed} (h : p ∈ (a.extract i j).toList) : ∃ k, i ≤ k ∧ k < j ∧ a[k]? = some p := by
  obtain ⟨k, hk⟩ := List.mem_iff_getElem?.mp h
  rw [Array.getElem?_toList, Array.getElem?_extract] at hk
  split at hk
  · exact ⟨i + k, by omega, by omega, hk⟩
  · cases hk
variable {a b out : Array Keyed} {na nb i : Nat}
theorem Mk.xa (h : Mk κ a b out na nb) (hi : i ≤ na) (hu : ∀ j, i ≤ j → j < na → ∀ p, a[j]? = some p → ∀ q, q ∈ b.toList.take nb → κ.kle (ky κ q) (ky κ p)) : Mk κ a b (out ++ (a.extract i na).reverse) i nb := by
  show Mh _ _ _ _ _
  rw [Array.toList_append, List.reverse_append, Array.toList_reverse, List.reverse_reverse]
  refine Mh.left (by rw [← cut_take a hi]; exact h) fun p hp q hq => ?_
  obtain ⟨j, h1, h2, e⟩ := mem_ext' hp
  exact hu j h1 h2 p e q hq
theorem Mk.xb (h : Mk κ a b out na nb) (hi : i ≤ nb) (hu : ∀ j, i ≤ j → j < nb → ∀ p, b[j]? = some p → ∀ q, q ∈ a.toList.take na → κ.kle (ky κ q) (ky κ p)) : Mk κ a b (out ++ (b.extract i nb).reverse) na i := by
  show Mh _ _ _ _ _
  rw [Array.toList_append, List.reverse_append, Array.toList_reverse, List.reverse_reverse]
  refine Mh.right (by rw [← cut_take b hi]; exact h) fun p hp q hq => ?_
  obtain ⟨j, h1, h2, e⟩ := mem_ext' hp
  exact hu j h1 h2 p e q hq
theorem push_rev {a : Array Keyed} {i : Nat} {p : Keyed} (e : a[i]? = some p) (out : Array Keyed) : out.push p = out ++ (a.extract i (i + 1)).reverse := by
  obtain ⟨hi, rfl⟩ := Array.getElem?_eq_some_iff.mp e
  apply Array.ext'
  rw [Array.toList_push, Array.toList_append, Array.toList_reverse, Array.toList_extract, List.extract_eq_take_drop, show i + 1 - i = 1 by omega,
    List.drop_eq_getElem_cons (by simpa using hi), List.take_succ_cons, List.take_zero]
  simp
theorem Mk.pa {p : Keyed} (h : Mk κ a b out (na + 1) nb) (e : a[na]? = some p) (hu : ∀ q, q ∈ b.toList.take nb → κ.kle (ky κ q) (ky κ p)) : Mk κ a b (out.push p) na nb := by
  rw [push_rev e]
  refine h.xa (by omega) fun j h1 h2 p' e' q hq => ?_
  have : j = na := by omega
  subst this
  rw [e] at e'; cases e'; exact hu q hq
theorem Mk.pb {p : Keyed} (h : Mk κ a b out na (nb + 1)) (e : b[nb]? = some p) (hu : ∀ q, q ∈ a.toList.take na → κ.kle (ky κ q) (ky κ p)) : Mk κ a b (out.push p) na nb := by
  rw [push_rev e]
  refine h.xb (by omega) fun j h1 h2 p' e' q hq => ?_
  have : j = nb := by omega
  subst this
  rw [e] at e'; cases e'; exact hu q hq
theorem ext_beg (a : Array Keyed) (i : Nat) : (a.extract 0 i).toList = a.toList.take i := by
  rw [Array.toList_extract, List.extract_eq_take_drop]; simp
theorem Mk.doneA (h : Mk κ a b out na nb) (e : na = 0) : Fi κ a b (a.extract 0 na ++ b.extract 0 nb ++ out.reverse) := by
  subst e
  unfold Fi
  rw [Array.toList_append, Array.toList_append, ext_beg, ext_beg, Array.toList_reverse]
  have h' : Mh κ (a.toList ++ b.toList) [] (b.toList.take nb) out.toList.reverse := by simpa [Mk] using h
  simpa using h'.flip.fin
theorem Mk.doneB (h : Mk κ a b out na nb) (e : nb = 0) : Fi κ a b (a.extract 0 na ++ b.extract 0 nb ++ out.reverse) := by
  subst e
  unfold Fi
  rw [Array.toList_append, Array.toList_append, ext_beg, ext_beg, Array.toList_reverse]
  have h' : Mh κ (a.toList ++ b.toList) (a.toList.take na) [] out.toList.reverse := by simpa [Mk] using h
  simpa using h'.fin
theorem Mk.lastB (h : Mk κ a b out na nb) (hu : ∀ p, p ∈ a.toList → ∀ q, q ∈ b.toList.take nb → κ.kle (ky κ q) (ky κ p)) : Fi κ a b (b.extract 0 nb ++ a.extract 0 na ++ out.reverse) := by
  unfold Fi
  rw [Array.toList_append, Array.toList_append, ext_beg, ext_beg, Array.toList_reverse, List.append_assoc]
  exact h.last fun p hp => hu p (List.mem_of_mem_take hp)
end
section
variable {prog : Program} {w : World} {A : Around} {E : Value → Shared → Prop} {s : Shared} {κ : KeyKind}
def mhi : Array Keyed → Array Keyed → StateT SortSt Sem (Array Keyed) := sortPriv% PySem.Builtin.mergeHi
def Liw (κ : KeyKind) (a b out : Array Keyed) (na nb : Nat) : Prop := 1 ≤ na ∧ 2 ≤ nb ∧ na ≤ a.size ∧ nb ≤ b.size ∧ Mk κ a b out na nb
abbrev HSt := Option (Array Keyed) × Nat × Nat × Array Keyed × Nat × Nat × Nat
inductive Gq (F : Array Keyed → Prop) (L : Array Keyed → Nat → Nat → Prop) : ForInStep HSt → Prop
  | fin {R : Array Keyed} {c} : F R → Gq F L (.done (some R, c))
  | stop {out : Array Keyed} {i j : Nat} {c} : L out i j → Gq F L (.done (none, i, j, out, c))
  | on {out : Array Keyed} {i j : Nat} {c} : L out i j → Gq F L (.yield (none, i, j, out, c))
theorem wpS_mhi (hO : κ.OneLt) {st : SortSt} {a b : Array Keyed} {Q : Array Keyed → SortSt → Prop}
    (hk : kindOf st = oneType') (ka : KeysOf κ a) (kb : KeysOf κ b) (sa : So κ a.toList) (sb : So κ b.toList) (na : 0 < a.size) (nb : 0 < b.size)
    (hf : ∀ p, p ∈ a.toList → ∀ q, b[0]? = some q → κ.kle (ky κ q) (ky κ p))
    (hl : ∀ p, p ∈ b.toList → ∀ q, a[a.size - 1]? = some q → κ.kle (ky κ p) (ky κ q))
    (h : ∀ r st', Sm st st' → Fi κ a b r → Q r st') :
    wpS (model prog w) A E s (mhi a b) Q st := by
  have hla : ∀ nb, nb = 1 → ∀ p, p ∈ a.toList → ∀ q, q ∈ b.toList.take nb → κ.kle (ky κ q) (ky κ p) := by
    intro nb hnb p hp q hq
    obtain ⟨j, hj, e⟩ := mem_take_at hq
    rw [Array.getElem?_toList] at e
    exact hf p hp q (by rw [← e]; congr 1; omega)
  unfold mhi
  refine wpS_bind (wpS_lift (wpAny_rule ⟨rfl, ?_⟩))
  extract_lets tot done last
  obtain ⟨p0, e0⟩ := el_of (show a.size - 1 < a.size by omega)
  refine wpS_bind (wpS_el (xs := a) (i := a.size - 1) e0 ?_)
  have m0 : Mk κ a b #[p0] (a.size - 1) b.size := by
    have : Mk κ a b #[] (a.size - 1 + 1) b.size := by
      have e1 : a.toList.take (a.size - 1 + 1) = a.toList := List.take_of_length_le (by simp; omega)
      have e2 : b.toList.take b.size = b.toList := List.take_of_length_le (by simp)
      show Mh _ _ _ _ _
      rw [e1, e2]
      exact ⟨by simp, List.Pairwise.nil, sa, sb, fun p hp => by simp at hp⟩
    exact this.pa e0 fun q hq => hl q (List.mem_of_mem_take hq) _ e0
  refine wpS_beq (x := a.size - 1) (fun h1 => ?_) fun h1 => ?_
  · exact wpS_pure (h _ _ (Sm.refl _) (m0.doneA h1))
  refine wpS_beq (x := b.size) (fun h2 => ?_) fun h2 => ?_
  · exact wpS_pure (h _ _ (Sm.refl _) (m0.lastB (hla _ h2)))
  refine wpS_bind (wpS_get ?_)
  refine wpS_bind (wpS_mono (wpS_forRange
    (I := fun x c st' => Sm st st' ∧ ∃ out ia ib g, c = (none, ia, ib, out, g) ∧ Liw κ a b out ia ib ∧ x + 1 + ia + ib ≤ tot)
    (Q := fun c st' => Sm st st' ∧ ∃ R, c.1 = some R ∧ Fi κ a b R) ?step ?fin ⟨Sm.refl _, _, a.size - 1, b.size, _, rfl, ⟨by omega, by omega, by omega, by omega, m0⟩, by omega⟩) ?post)
  case fin =>
    rintro c st' ⟨_, out, ia, ib, g, rfl, ⟨l1, l2, _⟩, hx⟩
    omega
  case post =>
    rintro ⟨c1, c2⟩ st' ⟨hS, R, e, hR⟩
    cases e
    exact wpS_pure (h R st' hS hR)
  case step =>
    rintro x c st1 _ hx ⟨hS, out, ia, ib, g, rfl, hL, hxx⟩
    refine wpS_bind (wpS_mono (wpS_forRange
      (I := fun x c st' => Sm st st' ∧ ∃ out ia' ib' g g', c = (none, ia', ib', out, g, g') ∧ Liw κ a b out ia' ib' ∧ ia' + ib' + x ≤ ia + ib)
      (Q := fun c st' => Sm st st' ∧ ((∃ R, c.1 = some R ∧ Fi κ a b R) ∨ ∃ out ia' ib' g g', c = (none, ia', ib', out, g, g') ∧ Liw κ a b out ia' ib' ∧ ia' + ib' + 1 ≤ ia + ib))
      ?st2 ?fi2 ⟨hS, out, ia, ib, _, _, rfl, hL, by omega⟩) ?po2)
    case fi2 =>
      rintro c st' ⟨hS, out, ia', ib', g, g', rfl, hL, hx⟩
      exact ⟨hS, .inr ⟨_, _, _, _, _, rfl, hL, by omega⟩⟩
    case st2 =>
      rintro x c st2 _ hx ⟨hS, out, ia', ib', g, g', rfl, ⟨l1, l2, l3, l4, hM⟩, hxx⟩
      obtain ⟨ia', rfl⟩ : ∃ m, ia' = m + 1 := ⟨ia' - 1, by omega⟩
      obtain ⟨ib', rfl⟩ : ∃ m, ib' = m + 1 := ⟨ib' - 1, by omega⟩
      obtain ⟨p, ep⟩ := el_of (show ib' < b.size by omega)
      obtain ⟨q, eq⟩ := el_of (show ia' < a.size by omega)
      refine wpS_bind (wpS_el (xs := b) (i := ib') ep (wpS_bind (wpS_el (xs := a) (i := ia') eq (wpS_bind (wpS_ltP hO (hS.1.trans hk) (kb.at ep) (ka.at eq) ?_)))))
      cases e : κ.blt (ky κ p) (ky κ q)
      · refine wpS_bind (wpS_el (xs := b) (i := ib') ep ?_)
        have hM' := hM.pb ep (sa.lt (toL eq) e)
        refine wpS_beq (x := ib') (fun h3 => ?_) fun h3 => ?_
        · exact wpS_pure ⟨hS, .inl ⟨_, rfl, hM'.lastB (hla _ h3)⟩⟩
        · refine wpS_ite (fun _ => wpS_pure ⟨hS, .inr ⟨_, ia' + 1, ib', _, _, rfl, ⟨by omega, by omega, by omega, by omega, hM'⟩, by omega⟩⟩) fun _ => wpS_pure ⟨hS, _, ia' + 1, ib', _, _, rfl, ⟨by omega, by omega, by omega, by omega, hM'⟩, by omega⟩
      · refine wpS_bind (wpS_el (xs := a) (i := ia') eq ?_)
        have hM' := hM.pa eq (sb.lt (toL ep) (KeyOrd.kle_of_klt e))
        refine wpS_beq (x := ia') (fun h3 => ?_) fun h3 => ?_
        · exact wpS_pure ⟨hS, .inl ⟨_, rfl, hM'.doneA h3⟩⟩
        · refine wpS_ite (fun _ => wpS_pure ⟨hS, .inr ⟨_, ia', ib' + 1, _, _, rfl, ⟨by omega, by omega, by omega, by omega, hM'⟩, by omega⟩⟩) fun _ => wpS_pure ⟨hS, _, ia', ib' + 1, _, _, rfl, ⟨by omega, by omega, by omega, by omega, hM'⟩, by omega⟩
    case po2 =>
      rintro ⟨c1, c2⟩ st2 ⟨hS, ⟨R, e, hR⟩ | ⟨out, ia', ib', g1, g2, e, hL, hx1⟩⟩
      · cases e
        exact wpS_pure ⟨hS, R, rfl, hR⟩
      · cases e
        refine wpS_bind (wpS_lift (wpAny_rule ⟨rfl, ?_⟩))
        refine wpS_bind (wpS_mono (wpS_forRange
          (I := fun x c st' => Sm st st' ∧ ∃ out ia' ib' g0 g g', c = (none, ia', ib', out, g0, g, g') ∧ Liw κ a b out ia' ib' ∧ ia' + ib' + 1 ≤ ia + ib)
          (Q := fun c st' => Sm st st' ∧ ((∃ R, c.1 = some R ∧ Fi κ a b R) ∨ ∃ out ia' ib' g0 g g', c = (none, ia', ib', out, g0, g, g') ∧ Liw κ a b out ia' ib' ∧ ia' + ib' + 1 ≤ ia + ib))
          ?st3 ?fi3 ⟨hS, out, ia', ib', _, _, _, rfl, hL, by omega⟩) ?po3)
        case fi3 => exact fun c st' hh => ⟨hh.1, .inr hh.2⟩
        case po3 =>
          rintro ⟨c1, c2⟩ st2 ⟨hS, ⟨R, e, hR⟩ | ⟨out, ia', ib', g0, g1, g2, e, hL, hx1⟩⟩
          · cases e
            exact wpS_pure ⟨hS, R, rfl, hR⟩
          · cases e
            refine wpS_bind (wpS_setG hS fun st' hS' => wpS_pure ⟨hS', out, ia', ib', _, rfl, hL, by omega⟩)
        case st3 =>
          rintro x c st2 _ hx ⟨hS, out, ia', ib', g0, g, g', rfl, ⟨l1, l2, l3, l4, hM⟩, hxx⟩
          obtain ⟨ib', rfl⟩ : ∃ m, ib' = m + 1 := ⟨ib' - 1, by omega⟩
          refine wpS_mono (Q := fun r st' => Sm st st' ∧ Gq (Fi κ a b) (fun out i j => Liw κ a b out i j ∧ i + j + 1 ≤ ia + ib) r) ?_ ?mo
          case mo =>
            rintro _ st' ⟨hS', @⟨R, ⟨i, j, o, g1, g2, g3⟩, hF⟩ | @⟨o, i, j, ⟨g1, g2, g3⟩, hL⟩ | @⟨o, i, j, ⟨g1, g2, g3⟩, hL⟩⟩
            · exact ⟨hS', .inl ⟨_, rfl, hF⟩⟩
            · exact ⟨hS', .inr ⟨_, _, _, _, _, _, rfl, hL⟩⟩
            · exact ⟨hS', _, _, _, _, _, _, rfl, hL⟩
          extract_lets s1 i1 s2 j1 s3 o1 s4 m1 s5 a1 b1 q1 jp
          have key : ∀ mg st', Sm st st' → wpS (model prog w) A E s (jp () mg) (fun r st' => Sm st st' ∧ Gq (Fi κ a b) (fun out i j => Liw κ a b out i j ∧ i + j + 1 ≤ ia + ib) r) st' := by
            intro mg st' hS'
            refine wpS_bind (wpS_setG hS' fun st' hS' => ?_)
            obtain ⟨p, ep⟩ := el_of (show ib' < b.size by omega)
            refine wpS_bind (wpS_el (xs := b) (i := ib') ep ?_)
            refine wpS_bind (wpS_galT hO (left := false) (xs := a) (base := 0) (n := ia') (hint := ia' - 1) (hS'.1.trans hk) (kb.at ep) (by omega) (by omega) ka ?_ ?_)
            · intro i j hij hj
              obtain ⟨p1, e1⟩ := el_of (show 0 + i < a.size by omega)
              obtain ⟨p2, e2⟩ := el_of (show 0 + j < a.size by omega)
              rw [KK_ky e1, KK_ky e2]
              exact sa.le (by omega) (toL e1) (toL e2)
            · intro k hk' g1 g2
              dsimp -zeta only
              extract_lets ac ac2 jp2
              have key2 : ∀ na2 out2, Mk κ a b out2 na2 (ib' + 1) → 1 ≤ na2 → na2 ≤ ia' → (∀ q, q ∈ a.toList.take na2 → κ.kle (ky κ q) (ky κ p)) →
                  wpS (model prog w) A E s (jp2 () na2 out2) (fun r st' => Sm st st' ∧ Gq (Fi κ a b) (fun out i j => Liw κ a b out i j ∧ i + j + 1 ≤ ia + ib) r) st' := by
                intro na2 out2 hM2 l5 l6 hp
                obtain ⟨m2, rfl⟩ : ∃ m, na2 = m + 1 := ⟨na2 - 1, by omega⟩
                have hM3 := hM2.pb ep hp
                refine wpS_bind (wpS_el (xs := b) (i := ib') ep ?_)
                refine wpS_beq (x := ib') (fun h3 => ?_) fun h3 => ?_
                · exact wpS_pure ⟨hS', .fin (hM3.lastB (hla _ h3))⟩
                obtain ⟨q, eq⟩ := el_of (show m2 < a.size by omega)
                refine wpS_bind (wpS_el (xs := a) (i := m2) eq ?_)
                refine wpS_bind (wpS_galT hO (left := true) (xs := b) (base := 0) (n := ib') (hint := ib' - 1) (hS'.1.trans hk) (ka.at eq) (by omega) (by omega) kb ?_ ?_)
                · intro i j hij hj
                  obtain ⟨p1, e1⟩ := el_of (show 0 + i < b.size by omega)
                  obtain ⟨p2, e2⟩ := el_of (show 0 + j < b.size by omega)
                  rw [KK_ky e1, KK_ky e2]
                  exact sb.le (by omega) (toL e1) (toL e2)
                · intro k2 hk2 g3 g4
                  dsimp -zeta only
                  extract_lets bc bc2 q3 jp3
                  have key3 : ∀ nb3 out3, Mk κ a b out3 (m2 + 1) nb3 → 2 ≤ nb3 → nb3 ≤ ib' → (∀ r, r ∈ b.toList.take nb3 → κ.kle (ky κ r) (ky κ q)) →
                      wpS (model prog w) A E s (jp3 () nb3 out3) (fun r st' => Sm st st' ∧ Gq (Fi κ a b) (fun out i j => Liw κ a b out i j ∧ i + j + 1 ≤ ia + ib) r) st' := by
                    intro nb3 out3 hM4 l7 l8 hr
                    refine wpS_bind (wpS_el (xs := a) (i := m2) eq ?_)
                    have hM5 := hM4.pa eq hr
                    refine wpS_beq (x := m2) (fun h4 => ?_) fun h4 => ?_
                    · exact wpS_pure ⟨hS', .fin (hM5.doneA h4)⟩
                    · have hL' : Liw κ a b (out3.push q) m2 nb3 ∧ m2 + nb3 + 1 ≤ ia + ib := ⟨⟨by omega, by omega, by omega, by omega, hM5⟩, by omega⟩
                      exact wpS_ite (fun _ => wpS_pure ⟨hS', .stop hL'⟩) fun _ => wpS_pure ⟨hS', .on hL'⟩
                  have hdr : ∀ r, r ∈ b.toList.take k2 → κ.kle (ky κ r) (ky κ q) := by
                    intro r hr
                    obtain ⟨j, hj, e⟩ := mem_take_at hr
                    rw [Array.getElem?_toList] at e
                    have := g3 j hj
                    rw [if_pos rfl, Nat.zero_add, KK_ky e] at this
                    exact KeyOrd.kle_of_klt this
                  refine wpS_ite (fun hk0 => ?_) fun hk0 => ?_
                  · have hM4 := hM3.xb hk2 fun j h1 h2 r hr q' hq' => by
                      have := g4 j h1 h2
                      rw [if_pos rfl, Nat.zero_add, KK_ky hr] at this
                      exact sa.lt (toL eq) this q' hq'
                    refine wpS_beq (x := k2) (fun h5 => ?_) fun h5 => ?_
                    · exact wpS_pure ⟨hS', .fin (hM4.lastB (hla _ h5))⟩
                    refine wpS_beq (x := k2) (fun h6 => ?_) fun h6 => ?_
                    · exact wpS_pure ⟨hS', .fin (hM4.doneB h6)⟩
                    · exact key3 k2 _ hM4 (by omega) (by omega) hdr
                  · have hk1 : ¬ ib' - k2 > 0 := hk0
                    have : k2 = ib' := by omega
                    subst this
                    exact key3 k2 _ hM3 (by omega) (by omega) hdr
              have hdp : ∀ q, q ∈ a.toList.take k → κ.kle (ky κ q) (ky κ p) := by
                intro r hr
                obtain ⟨j, hj, e⟩ := mem_take_at hr
                rw [Array.getElem?_toList] at e
                have := g1 j hj
                rw [if_neg (by decide), Nat.zero_add, KK_ky e] at this
                exact this
              refine wpS_ite (fun hk0 => ?_) fun hk0 => ?_
              · have hM2 := hM.xa hk' fun j h1 h2 r hr q' hq' => by
                  have := g2 j h1 h2
                  rw [if_neg (by decide), Nat.zero_add, KK_ky hr] at this
                  exact sb.lt (toL ep) (KeyOrd.kle_of_klt this) q' hq'
                refine wpS_beq (x := k) (fun h5 => ?_) fun h5 => ?_
                · exact wpS_pure ⟨hS', .fin (hM2.doneA h5)⟩
                · exact key2 k _ hM2 (by omega) (by omega) hdp
              · have hk1 : ¬ ia' - k > 0 := hk0
                have : k = ia' := by omega
                subst this
                exact key2 k _ hM (by omega) (by omega) hdp
          exact wpS_ite (fun _ => key _ _ hS) fun _ => key _ _ hS
end
end PyProof.Rows
namespace PyProof.Rows
set_option autoImplicit false
open PySem
section
variable {κ : KeyKind}
def Sk (κ : KeyKind) (xs : Array Keyed) (lo n : Nat) : Prop := ∀ i j, lo ≤ i → i ≤ j → j < lo + n → κ.kle (KK κ xs i) (KK κ xs j)
theorem get_lay (base : Nat) : ∀ (l : List Keyed) (j : Nat) (xs : Array Keyed), base + j + l.length ≤ xs.size → ∀ k : Nat,
    ((l.zipIdx j).foldl (fun a pj => a.setIfInBounds (base + pj.2) pj.1) xs)[k]? = if base + j ≤ k ∧ k < base + j + l.length then l[k - (base + j)]? else xs[k]?
  | [], j, xs, _, k => by simp; intro h1 h2; omega
  | p :: l, j, xs, h, k => by
    simp only [List.length_cons] at h
    rw [List.zipIdx_cons, List.foldl_cons, get_lay base l (j + 1) _ (by rw [Array.size_setIfInBounds]; omega) k, Array.getElem?_setIfInBounds]
    simp only [List.length_cons]
    by_cases h1 : base + (j + 1) ≤ k ∧ k < base + (j + 1) + l.length
    · rw [if_pos h1, if_pos (by omega), show k - (base + j) = (k - (base + (j + 1))) + 1 by omega, List.getElem?_cons_succ]
    · rw [if_neg h1]
      by_cases h2 : base + j = k
      · subst h2
        rw [if_pos rfl, if_pos (by omega), if_pos (by omega)]; simp
      · rw [if_neg h2, if_neg (by omega)]
theorem lay_toList {base : Nat} {l : List Keyed} {xs : Array Keyed} (h : base + l.length ≤ xs.size) :
    (l.zipIdx.foldl (fun a pj => a.setIfInBounds (base + pj.2) pj.1) xs).toList = xs.toList.take base ++ (l ++ xs.toList.drop (base + l.length)) := by
  apply List.ext_getElem?
  intro k
  have e := get_lay base l 0 xs (by omega) k
  rw [Array.getElem?_toList, e, Nat.add_zero, List.getElem?_append, List.length_take]
  have hs : xs.toList.length = xs.size := by simp
  by_cases h1 : k < base
  · rw [if_neg (by omega), if_pos (by omega), List.getElem?_take, if_pos h1, Array.getElem?_toList]
  · rw [if_neg (show ¬ k < min base xs.toList.length by omega), List.getElem?_append, show min base xs.toList.length = base by omega]
    by_cases h2 : k < base + l.length
    · rw [if_pos (by omega), if_pos (by omega)]
    · rw [if_neg (by omega), if_neg (by omega), List.getElem?_drop, Array.getElem?_toList]
      congr 1; omega
theorem lay_perm {sa sb nb : Nat} {l : List Keyed} {xs : Array Keyed} (h1 : sa ≤ sb) (h2 : sb + nb ≤ xs.size)
    (hl : l.Perm ((xs.extract sa sb).toList ++ (xs.extract sb (sb + nb)).toList)) : (l.zipIdx.foldl (fun a pj => a.setIfInBounds (sa + pj.2) pj.1) xs).Perm xs := by
  have hlen : l.length = sb - sa + nb := by
    rw [hl.length_eq, List.length_append]
    simp only [Array.length_toList, Array.size_extract]; omega
  rw [Array.perm_iff_toList_perm, lay_toList (by omega)]
  have e : xs.toList = xs.toList.take sa ++ (((xs.extract sa sb).toList ++ (xs.extract sb (sb + nb)).toList) ++ xs.toList.drop (sa + l.length)) := by
    have e1 := cut_drop xs sb nb
    have e2 := cut_drop xs sa (sb - sa)
    rw [show sa + (sb - sa) = sb by omega] at e2
    rw [show sa + l.length = sb + nb by omega, List.append_assoc, ← e1, ← e2, List.take_append_drop]
  conv => rhs; rw [e]
  exact (hl.append_right _).append_left _
theorem So_ext {xs : Array Keyed} {lo n : Nat} (h : Sk κ xs lo n) (hn : lo + n ≤ xs.size) {i j : Nat} (hi : lo ≤ i) (hj : j ≤ lo + n) : So κ (xs.extract i j).toList := by
  refine List.pairwise_iff_getElem.mpr fun u v hu hv huv => ?_
  simp only [Array.length_toList, Array.size_extract] at hu hv
  have e1 : xs[i + u]? = some (xs.extract i j).toList[u] := by simp; 
  have e2 : xs[i + v]? = some (xs.extract i j).toList[v] := by simp; 
  rw [← KK_ky e1, ← KK_ky e2]
  exact h _ _ (by omega) (by omega) (by omega)
theorem keys_ext {xs : Array Keyed} (h : KeysOf κ xs) (i j : Nat) : KeysOf κ (xs.extract i j) := by
  intro p hp
  obtain ⟨k, _, _, e⟩ := mem_ext' hp
  exact h p (by rw [← Array.getElem?_toList] at e; exact List.mem_of_getElem? e)
/-- two runs beside one another, of which the middle was laid together -/
theorem Sk_lay {xs : Array Keyed} {sa k na sb nb nb' : Nat} {l : List Keyed} (ha : Sk κ xs sa (k + na)) (hsb : sb = sa + (k + na)) (hb : Sk κ xs sb nb) (hnb : nb' ≤ nb) (h2 : sb + nb ≤ xs.size)
    (hl : l.Perm ((xs.extract (sa + k) sb).toList ++ (xs.extract sb (sb + nb')).toList)) (hs : So κ l)
    (hp : ∀ i, i < k → κ.kle (KK κ xs (sa + i)) (KK κ xs sb)) (hq : ∀ i, nb' ≤ i → i < nb → κ.kle (KK κ xs (sb - 1)) (KK κ xs (sb + i))) (hna : 1 ≤ na) (h0 : 1 ≤ nb) :
    Sk κ (l.zipIdx.foldl (fun a pj => a.setIfInBounds (sa + k + pj.2) pj.1) xs) sa (k + na + nb) := by
  have hlen : l.length = na + nb' := by
    rw [hl.length_eq, List.length_append]
    simp only [Array.length_toList, Array.size_extract]; omega
  have key : ∀ i, KK κ (l.zipIdx.foldl (fun a pj => a.setIfInBounds (sa + k + pj.2) pj.1) xs) i = if sa + k ≤ i ∧ i < sa + k + (na + nb') then KK κ l.toArray (i - (sa + k)) else KK κ xs i := by
    intro i
    have e := get_lay (sa + k) l 0 xs (by omega) i
    rw [Nat.add_zero, hlen] at e
    by_cases h1 : sa + k ≤ i ∧ i < sa + k + (na + nb')
    · rw [if_pos h1] at e ⊢
      exact KK_congr (by rw [e]; simp)
    · rw [if_neg h1] at e ⊢
      exact KK_congr e
  have mid : ∀ i, i < na + nb' → ∃ j, KK κ l.toArray i = KK κ xs j ∧ sa + k ≤ j ∧ j < sb + nb' := by
    intro i hi
    have hi' : i < l.length := by omega
    have hm : l[i] ∈ (xs.extract (sa + k) sb).toList ++ (xs.extract sb (sb + nb')).toList := hl.mem_iff.mp (List.getElem_mem hi')
    have e : l.toArray[i]? = some l[i] := by simp
    rw [KK_ky e]
    rcases List.mem_append.mp hm with hm | hm
    · obtain ⟨j, h3, h4, e'⟩ := mem_ext' hm
      exact ⟨j, (KK_ky e').symm, h3, by omega⟩
    · obtain ⟨j, h3, h4, e'⟩ := mem_ext' hm
      exact ⟨j, (KK_ky e').symm, by omega, by omega⟩
  have pre : ∀ i j, sa ≤ i → i < sa + k → i ≤ j → j < sb + nb → κ.kle (KK κ xs i) (KK κ xs j) := by
    intro i j h3 h4 h5 h6
    by_cases h7 : j < sb
    · exact ha i j h3 h5 (by omega)
    · have := hp (i - sa) (by omega)
      rw [show sa + (i - sa) = i by omega] at this
      exact KeyOrd.kle_trans this (hb sb j (by omega) (by omega) h6)
  have suf : ∀ i j, sa ≤ i → i ≤ j → sb + nb' ≤ j → j < sb + nb → κ.kle (KK κ xs i) (KK κ xs j) := by
    intro i j h3 h5 h4 h6
    by_cases h7 : i < sb
    · have := hq (j - sb) (by omega) (by omega)
      rw [show sb + (j - sb) = j by omega] at this
      exact KeyOrd.kle_trans (ha i (sb - 1) h3 (by omega) (by omega)) this
    · exact hb i j (by omega) h5 h6
  intro i j h3 h4 h5
  rw [key, key]
  by_cases hi : sa + k ≤ i ∧ i < sa + k + (na + nb')
  · rw [if_pos hi]
    by_cases hj : sa + k ≤ j ∧ j < sa + k + (na + nb')
    · rw [if_pos hj]
      have e1 : l.toArray[i - (sa + k)]? = some l[i - (sa + k)] := by simp
      have e2 : l.toArray[j - (sa + k)]? = some l[j - (sa + k)] := by simp
      rw [KK_ky e1, KK_ky e2]
      exact hs.le (show i - (sa + k) ≤ j - (sa + k) by omega) (by simp) (by simp)
    · rw [if_neg hj]
      obtain ⟨u, e, h6, h7⟩ := mid (i - (sa + k)) (by omega)
      rw [e]
      exact suf u j (by omega) (by omega) (by omega) (by omega)
  · rw [if_neg hi]
    by_cases hj : sa + k ≤ j ∧ j < sa + k + (na + nb')
    · rw [if_pos hj]
      obtain ⟨u, e, h6, h7⟩ := mid (j - (sa + k)) (by omega)
      rw [e]
      exact pre i u (by omega) (by omega) (by omega) (by omega)
    · rw [if_neg hj]
      by_cases h8 : i < sa + k
      · exact pre i j (by omega) h8 h4 (by omega)
      · exact suf i j (by omega) h4 (by omega) (by omega)
end
end PyProof.Rows
namespace PyProof.Rows
set_option autoImplicit false
open PySem
section
variable {prog : Program} {w : World} {A : Around} {E : Value → Shared → Prop} {s : Shared} {κ : KeyKind}
structure SB (a₀ : Array Keyed) (st : SortSt) : Prop where
  perm : (arrOf st).Perm a₀
  kind : kindOf st = oneType'
  failed : failedOf st = none
theorem SB.size {a₀ : Array Keyed} {st : SortSt} (h : SB a₀ st) : (arrOf st).size = a₀.size := h.perm.size_eq
theorem SB.keys {a₀ : Array Keyed} {st : SortSt} (h : SB a₀ st) (h0 : KeysOf κ a₀) : KeysOf κ (arrOf st) := fun p hp =>
  h0 p ((Array.perm_iff_toList_perm.mp h.perm).mem_iff.mp hp)
theorem pend_at {l1 l2 : List (Nat × Nat × Nat)} {u v : Nat × Nat × Nat} {p : Array (Nat × Nat × Nat)} (h : p.toList = l1 ++ u :: v :: l2) : p[l1.length]? = some u ∧ p[l1.length + 1]? = some v := by
  rw [← Array.getElem?_toList, ← Array.getElem?_toList, h]
  constructor <;> simp
theorem pend_set {l1 l2 : List (Nat × Nat × Nat)} {u v x : Nat × Nat × Nat} {p : Array (Nat × Nat × Nat)} (h : p.toList = l1 ++ u :: v :: l2) :
    ((p.setIfInBounds l1.length x).eraseIdxIfInBounds (l1.length + 1)).toList = l1 ++ x :: l2 := by
  have e : p = (l1 ++ u :: v :: l2).toArray := by rw [← h]
  subst e
  simp [Array.eraseIdxIfInBounds, List.eraseIdx_append]
  omega
theorem wpS_set {st st' : SortSt} {Q : PUnit → SortSt → Prop} (h : Q ⟨⟩ st') : wpS (model prog w) A E s (set st' : StateT SortSt Sem PUnit) Q st := by
  unfold wpS; rw [StateT.run_set]; exact wpAny_pure ⟨rfl, h⟩
theorem Sk.join {xs : Array Keyed} {sa na nb : Nat} (ha : Sk κ xs sa na) (hb : Sk κ xs (sa + na) nb) (h1 : 1 ≤ na) (h : 1 ≤ nb → κ.kle (KK κ xs (sa + na - 1)) (KK κ xs (sa + na))) : Sk κ xs sa (na + nb) := by
  intro i j h2 h3 h4
  by_cases hj : j < sa + na
  · exact ha i j h2 h3 hj
  · by_cases hi : i < sa + na
    · exact KeyOrd.kle_trans (ha i (sa + na - 1) h2 (by omega) (by omega)) (KeyOrd.kle_trans (h (by omega)) (hb (sa + na) j (by omega) (by omega) (by omega)))
    · exact hb i j (by omega) h3 (by omega)
theorem wpS_mat (hO : κ.OneLt) {a₀ : Array Keyed} (h0 : KeysOf κ a₀) {st : SortSt} {l1 l2 : List (Nat × Nat × Nat)} {sa na pa nb pb : Nat} {Q : Bool → SortSt → Prop} (hB : SB a₀ st)
    (hp : (pendingOf st).toList = l1 ++ (sa, na, pa) :: (sa + na, nb, pb) :: l2) (ha : Sk κ (arrOf st) sa na) (hb : Sk κ (arrOf st) (sa + na) nb) (ha1 : 1 ≤ na) (hb1 : 1 ≤ nb) (hn : sa + na + nb ≤ a₀.size)
    (h : ∀ st', SB a₀ st' → (pendingOf st').toList = l1 ++ (sa, na + nb, pa) :: l2 → Sk κ (arrOf st') sa (na + nb) → (∀ k, k < sa ∨ sa + na + nb ≤ k → KK κ (arrOf st') k = KK κ (arrOf st) k) → Q true st') :
    wpS (model prog w) A E s (mergeAt' l1.length) Q st := by
  unfold mergeAt'
  refine wpS_bind (wpS_get ?_)
  obtain ⟨e1, e2⟩ := pend_at hp
  rw [e1, e2]
  have hsz := hB.size
  have hK := hB.keys h0
  have hn' : sa + na + nb ≤ (arrOf st).size := by rw [hsz]; exact hn
  have hpe := pend_set (x := (sa, na + nb, pa)) hp
  refine wpS_bind (wpS_set (st' := setPending st (((pendingOf st).setIfInBounds l1.length (sa, na + nb, pa)).eraseIdxIfInBounds (l1.length + 1))) ?_)
  generalize hst : setPending st (((pendingOf st).setIfInBounds l1.length (sa, na + nb, pa)).eraseIdxIfInBounds (l1.length + 1)) = st1
  have k1 : kindOf st1 = oneType' := by rw [← hst]; exact hB.kind
  have k2 : arrOf st1 = arrOf st := by rw [← hst]
  have k3 : (pendingOf st1).toList = l1 ++ (sa, na + nb, pa) :: l2 := by rw [← hst]; exact hpe
  have k4 : failedOf st1 = none := by rw [← hst]; exact hB.failed
  have hB1 : SB a₀ st1 := ⟨by rw [k2]; exact hB.perm, k1, k4⟩
  have same : Sk κ (arrOf st) sa (na + nb) → Q true st1 := fun hs => h st1 hB1 k3 (by rw [k2]; exact hs) fun k _ => by rw [k2]
  obtain ⟨p, ep⟩ := el_of (show sa + na < (arrOf st).size by omega)
  refine wpS_bind (wpS_el (xs := arrOf st) (i := sa + na) ep ?_)
  refine wpS_bind (wpS_galT hO (left := false) (xs := arrOf st) (base := sa) (n := na) (hint := 0) k1 (hK.at ep) (by omega) (by omega) hK (fun i j hij hj => ha _ _ (by omega) (by omega) (by omega)) ?_)
  intro k hk g1 g2
  refine wpS_beq (x := na - k) (fun hz => ?_) fun hz => ?_
  · have hkn : k = na := by omega
    refine wpS_pure (same (ha.join hb ha1 fun _ => ?_))
    have := g1 (na - 1) (by omega)
    rw [if_neg (by decide), ← KK_ky ep, show sa + (na - 1) = sa + na - 1 by omega] at this
    exact this
  obtain ⟨q, eq⟩ := el_of (show sa + k + (na - k) - 1 < (arrOf st).size by omega)
  have eq' : (arrOf st)[sa + na - 1]? = some q := by rw [← eq]; congr 1; omega
  refine wpS_bind (wpS_el (xs := arrOf st) (i := sa + k + (na - k) - 1) eq ?_)
  refine wpS_bind (wpS_galT hO (left := true) (xs := arrOf st) (base := sa + na) (n := nb) (hint := nb - 1) k1 (hK.at eq) (by omega) (by omega) hK (fun i j hij hj => hb _ _ (by omega) (by omega) (by omega)) ?_)
  intro nb' hnb g3 g4
  refine wpS_beq (x := nb') (fun hz' => ?_) fun hz' => ?_
  · refine wpS_pure (same (ha.join hb ha1 fun _ => ?_))
    have := g4 0 (by omega) (by omega)
    rw [if_pos rfl, ← KK_ky eq', Nat.add_zero] at this
    exact this
  dsimp -zeta only
  extract_lets x y jp
  have hx : KeysOf κ x := keys_ext hK _ _
  have hy : KeysOf κ y := keys_ext hK _ _
  have sx : So κ x.toList := So_ext ha (by omega) (by omega) (by omega)
  have sy : So κ y.toList := So_ext hb (by omega) (by omega) (by omega)
  have nx : x.size = na - k := by show ((arrOf st).extract (sa + k) (sa + na)).size = _; rw [Array.size_extract]; omega
  have ny : y.size = nb' := by show ((arrOf st).extract (sa + na) (sa + na + nb')).size = _; rw [Array.size_extract]; omega
  have g1' : ∀ i, i < k → κ.kle (KK κ (arrOf st) (sa + i)) (KK κ (arrOf st) (sa + na)) := fun i hi => by
    have := g1 i hi; rw [if_neg (by decide), ← KK_ky ep] at this; exact this
  have g2' : ∀ j, sa + k ≤ j → j < sa + na → κ.kle (KK κ (arrOf st) (sa + na)) (KK κ (arrOf st) j) := fun j h1 h2 => by
    have := g2 (j - sa) (by omega) (by omega); rw [if_neg (by decide), ← KK_ky ep, show sa + (j - sa) = j by omega] at this; exact KeyOrd.kle_of_klt this
  have g3' : ∀ j, sa + na ≤ j → j < sa + na + nb' → κ.kle (KK κ (arrOf st) j) (KK κ (arrOf st) (sa + na - 1)) := fun j h1 h2 => by
    have := g3 (j - (sa + na)) (by omega); rw [if_pos rfl, ← KK_ky eq', show sa + na + (j - (sa + na)) = j by omega] at this; exact KeyOrd.kle_of_klt this
  have g4' : ∀ i, nb' ≤ i → i < nb → κ.kle (KK κ (arrOf st) (sa + na - 1)) (KK κ (arrOf st) (sa + na + i)) := fun i h1 h2 => by
    have := g4 i h1 h2; rw [if_pos rfl, ← KK_ky eq'] at this; exact this
  have x0 : x[0]? = (arrOf st)[sa + k]? := by show ((arrOf st).extract (sa + k) (sa + na))[0]? = _; rw [Array.getElem?_extract, if_pos (by omega), Nat.add_zero]
  have y0 : y[0]? = (arrOf st)[sa + na]? := by show ((arrOf st).extract (sa + na) (sa + na + nb'))[0]? = _; rw [Array.getElem?_extract, if_pos (by omega), Nat.add_zero]
  have xl : x[x.size - 1]? = (arrOf st)[sa + na - 1]? := by rw [nx]; show ((arrOf st).extract (sa + k) (sa + na))[na - k - 1]? = _; rw [Array.getElem?_extract, if_pos (by omega)]; congr 1; omega
  have hl : ∀ p, p ∈ y.toList → ∀ q, x[x.size - 1]? = some q → κ.kle (ky κ p) (ky κ q) := by
    intro p' hp' q' hq'
    obtain ⟨j, h1, h2, e'⟩ := mem_ext' hp'
    rw [xl] at hq'
    rw [← KK_ky e', ← KK_ky hq']
    exact g3' j h1 h2
  have tail : ∀ r st2, Sm st1 st2 → Fi κ x y r → wpS (model prog w) A E s (jp r) Q st2 := by
    intro r st2 hS hF
    refine wpS_bind (wpS_modify (wpS_bind (wpS_get ?_)))
    have ea : arrOf st2 = arrOf st := hS.2.1.trans k2
    have ef : failedOf st2 = none := hS.2.2.2.trans k4
    show wpS _ _ _ _ (pure (failedOf st2).isNone) _ (setArr st2 (List.foldl (fun a x => a.setIfInBounds (sa + k + x.2) x.1) (arrOf st2) r.toList.zipIdx))
    rw [ef, ea]
    have hpm := lay_perm (xs := arrOf st) (l := r.toList) (sa := sa + k) (sb := sa + na) (nb := nb') (by omega) (by omega) hF.1
    refine wpS_pure (h _ ⟨hpm.trans hB.perm, hS.1.trans k1, ef⟩ (by show (pendingOf st2).toList = _; rw [hS.2.2.1]; exact k3) ?_ ?_)
    · have := Sk_lay (xs := arrOf st) (sa := sa) (k := k) (na := na - k) (sb := sa + na) (nb := nb) (nb' := nb') (l := r.toList) (by rw [show k + (na - k) = na by omega]; exact ha) (by omega) hb hnb (by omega) hF.1 hF.2 g1' g4' (by omega) (by omega)
      rw [show k + (na - k) + nb = na + nb by omega] at this
      exact this
    · intro i hi
      have hlen : r.toList.length = na - k + nb' := by rw [hF.1.length_eq, List.length_append, Array.length_toList, Array.length_toList, nx, ny]
      have e := get_lay (sa + k) r.toList 0 (arrOf st) (by rw [hlen]; omega) i
      rw [if_neg (by rw [hlen]; omega)] at e
      exact KK_congr e
  refine wpS_ite (fun _ => wpS_bind (wpS_mlo hO k1 hx hy sx sy (by omega) (by omega) (fun p' q' e1 e2 => ?_) hl tail)) fun _ => wpS_bind (wpS_mhi hO k1 hx hy sx sy (by omega) (by omega) (fun p' hp' q' e2 => ?_) hl tail)
  · rw [y0] at e1; rw [x0] at e2
    rw [← KK_ky e1, ← KK_ky e2]
    exact g2' _ (by omega) (by omega)
  · rw [y0] at e2
    obtain ⟨j, h1, h2, e'⟩ := mem_ext' hp'
    rw [← KK_ky e', ← KK_ky e2]
    exact g2' j h1 h2
end
end PyProof.Rows
namespace PyProof.Rows
set_option autoImplicit false
open PySem
section
variable {prog : Program} {w : World} {A : Around} {E : Value → Shared → Prop} {s : Shared} {κ : KeyKind}
theorem wpS_ltS (hO : κ.OneLt) {a₀ : Array Keyed} (h0 : KeysOf κ a₀) {st : SortSt} {i j : Nat} {Q : Option Bool → SortSt → Prop} (hB : SB a₀ st) (hi : i < a₀.size) (hj : j < a₀.size)
    (h : Q (some (κ.blt (KK κ (arrOf st) i) (KK κ (arrOf st) j))) st) : wpS (model prog w) A E s (ltAt' i j) Q st := by
  have hK := hB.keys h0
  obtain ⟨⟨x, p⟩, e1⟩ := el_of (show i < (arrOf st).size by rw [hB.size]; exact hi)
  obtain ⟨⟨y, q⟩, e2⟩ := el_of (show j < (arrOf st).size by rw [hB.size]; exact hj)
  rw [KK_ky e1, KK_ky e2] at h
  exact wpS_ltAtK hO hB.kind e1 e2 (hK.at e1) (hK.at e2) h
structure Lf (κ : KeyKind) (a₀ : Array Keyed) (lo : Nat) (st st' : SortSt) : Prop where
  b : SB a₀ st'
  pe : pendingOf st' = pendingOf st
  lo : ∀ k, k < lo → KK κ (arrOf st') k = KK κ (arrOf st) k
theorem Lf.refl {a₀ : Array Keyed} {lo : Nat} {st : SortSt} (hB : SB a₀ st) : Lf κ a₀ lo st st := ⟨hB, rfl, fun _ _ => rfl⟩
theorem Lf.rev {a₀ : Array Keyed} {lo i j : Nat} {st st' : SortSt} (h : Lf κ a₀ lo st st') (hi : lo ≤ i) (hj : j ≤ a₀.size) : Lf κ a₀ lo st (setArr st' (mirror (arrOf st') i j ((j - i) / 2))) :=
  ⟨⟨(mirror_perm _ _ _ _).trans h.b.perm, h.b.kind, h.b.failed⟩, h.pe, fun k hk => by
    rw [← h.lo k hk]
    show KK κ (mirror (arrOf st') i j ((j - i) / 2)) k = _
    rw [KK_mirror (by rw [h.b.size]; exact hj), if_neg (by omega)]⟩
def Nd (κ : KeyKind) (xs : Array Keyed) (lo n : Nat) : Prop := ∀ i j, lo ≤ i → i ≤ j → j < lo + n → κ.kle (KK κ xs j) (KK κ xs i)
theorem Sk.one (xs : Array Keyed) (lo : Nat) : Sk κ xs lo 1 := fun i j h1 h2 h3 => by
  have : i = j := by omega
  subst this; exact KeyOrd.kle_refl _
theorem Sk.snoc {xs : Array Keyed} {lo n : Nat} (h : Sk κ xs lo n) (h1 : 1 ≤ n) (hl : κ.kle (KK κ xs (lo + n - 1)) (KK κ xs (lo + n))) : Sk κ xs lo (n + 1) :=
  h.join (Sk.one _ _) h1 fun _ => hl
theorem Nd.snoc {xs : Array Keyed} {lo n : Nat} (h : Nd κ xs lo n) (h1 : 1 ≤ n) (hl : κ.kle (KK κ xs (lo + n)) (KK κ xs (lo + n - 1))) : Nd κ xs lo (n + 1) := by
  intro i j h2 h3 h4
  by_cases hj : j < lo + n
  · exact h i j h2 h3 hj
  · have hj' : j = lo + n := by omega
    subst hj'
    by_cases hi : i = lo + n
    · subst hi; exact KeyOrd.kle_refl _
    · exact KeyOrd.kle_trans hl (h i (lo + n - 1) h2 (by omega) (by omega))
theorem wpS_ascF {st : SortSt} {lo a nrem : Nat} {Q : AscSt → SortSt → Prop} {f : Nat → AscSt → StateT SortSt Sem (ForInStep AscSt)}
    (hf : ∀ x n (Q' : ForInStep AscSt → SortSt → Prop), n < nrem → (κ.klt (KK κ (arrOf st) (lo + n)) (KK κ (arrOf st) (lo + n - 1)) → Q' (.done (none, n)) st) →
      (κ.kle (KK κ (arrOf st) (lo + n - 1)) (KK κ (arrOf st) (lo + n)) → Q' (.yield (none, n + 1)) st) → wpS (model prog w) A E s (f x (none, n)) Q' st)
    (ha : 1 ≤ a) (han : a ≤ nrem) (hs : Sk κ (arrOf st) lo a)
    (h : ∀ n, a ≤ n → n ≤ nrem → Sk κ (arrOf st) lo n → (n = nrem ∨ κ.klt (KK κ (arrOf st) (lo + n)) (KK κ (arrOf st) (lo + n - 1))) → Q (none, n) st) :
    wpS (model prog w) A E s (forIn [a:nrem] ((none, a) : AscSt) f) Q st := by
  refine wpS_forRange (I := fun x c st' => st' = st ∧ c = (none, x) ∧ Sk κ (arrOf st) lo x) ?_ ?_ ⟨rfl, rfl, hs⟩
  · rintro x c st' hax hxn ⟨rfl, rfl, hs'⟩
    exact hf x x _ hxn (fun e => h x hax (by omega) hs' (.inr e)) fun e => ⟨rfl, rfl, hs'.snoc (by omega) e⟩
  · rintro c st' ⟨rfl, rfl, hs'⟩
    rw [show max a nrem = nrem by omega] at hs' ⊢
    exact h nrem han (Nat.le_refl _) hs' (.inl rfl)
theorem wpS_cnt (hO : κ.OneLt) {a₀ : Array Keyed} (h0 : KeysOf κ a₀) {st : SortSt} {lo nrem : Nat} {Q : Option Nat → SortSt → Prop} (hB : SB a₀ st) (hn : lo + nrem ≤ a₀.size) (h1 : 1 ≤ nrem)
    (h : ∀ m st', Lf κ a₀ lo st st' → 1 ≤ m → m ≤ nrem → Sk κ (arrOf st') lo m → Q (some m) st') : wpS (model prog w) A E s (countRun' lo nrem) Q st := by
  have hs0 := hB.size
  rw [countRun'_eq]
  refine wpS_bind (wpS_ascF (κ := κ) (lo := lo) (nrem := nrem) (a := 1) (fun x n Q' hl a1 a2 => ?_) (Nat.le_refl _) h1 (Sk.one _ _) fun n hn1 hn2 hsn hor => ?_)
  · refine wpS_bind (wpS_ltS hO h0 hB (by omega) (by omega) ?_)
    cases e : κ.blt (KK κ (arrOf st) (lo + n)) (KK κ (arrOf st) (lo + n - 1))
    · exact wpS_pure (a2 e)
    · exact wpS_pure (a1 e)
  refine wpS_beq (x := n) (fun hnn => ?_) fun hnn => ?_
  · exact wpS_pure (h n st (Lf.refl hB) hn1 hn2 hsn)
  have hlt : κ.klt (KK κ (arrOf st) (lo + n)) (KK κ (arrOf st) (lo + n - 1)) := hor.resolve_left hnn
  dsimp -zeta only
  extract_lets q1 q2 jp
  have key : ∀ st', Lf κ a₀ lo st st' → Nd κ (arrOf st') lo (n + 1) → wpS (model prog w) A E s (jp ()) Q st' := by
    intro st1 hF1 hN1
    refine wpS_bind (wpS_lift (wpAny_rule ⟨rfl, ?_⟩))
    refine wpS_bind (wpS_mono (wpS_forRange (a := n + 1) (I := fun x c st' => ∃ neq, c = (none, x, neq) ∧ Lf κ a₀ lo st st' ∧ Nd κ (arrOf st') lo x ∧ neq + 1 ≤ x ∧ (∀ i, lo + x - (neq + 1) ≤ i → i < lo + x → KK κ (arrOf st') i = KK κ (arrOf st') (lo + x - 1)))
      (Q := fun c st' => ∃ x neq, c = (none, x, neq) ∧ 1 ≤ x ∧ x ≤ nrem ∧ Lf κ a₀ lo st st' ∧ Nd κ (arrOf st') lo x ∧ neq + 1 ≤ x ∧ (∀ i, lo + x - (neq + 1) ≤ i → i < lo + x → KK κ (arrOf st') i = KK κ (arrOf st') (lo + x - 1)))
      ?st2 ?fi2 ⟨0, rfl, hF1, hN1, by omega, fun i a1 a2 => by congr 1; omega⟩) ?po2)
    case fi2 =>
      rintro c st' ⟨neq, rfl, hF, hN, hq, he⟩
      rw [show max (n + 1) nrem = nrem by omega] at *
      exact ⟨nrem, neq, rfl, h1, Nat.le_refl _, hF, hN, hq, he⟩
    case st2 =>
      rintro x c st' hax hxn ⟨neq, rfl, hF, hN, hq, he⟩
      refine wpS_bind (wpS_ltS (i := lo + x) (j := lo + x - 1) hO h0 hF.b (by omega) (by omega) ?_)
      cases e : κ.blt (KK κ (arrOf st') (lo + x)) (KK κ (arrOf st') (lo + x - 1))
      · refine wpS_bind (wpS_ltS (i := lo + x - 1) (j := lo + x) hO h0 hF.b (by omega) (by omega) ?_)
        cases e' : κ.blt (KK κ (arrOf st') (lo + x - 1)) (KK κ (arrOf st') (lo + x))
        · have heq : KK κ (arrOf st') (lo + x) = KK κ (arrOf st') (lo + x - 1) := KeyOrd.kle_antisymm e' e
          refine wpS_pure ⟨neq + 1, rfl, hF, hN.snoc (by omega) e', by omega, fun i b1 b2 => ?_⟩
          rw [show lo + (x + 1) - 1 = lo + x by omega]
          by_cases hi : i = lo + x
          · rw [hi]
          · rw [heq]; exact he i (by omega) (by omega)
        · exact wpS_pure ⟨x, neq, rfl, by omega, by omega, hF, hN, hq, he⟩
      · have hle := KeyOrd.kle_of_klt (show κ.klt _ _ from e)
        refine wpS_ite (c := true = true) (fun _ => ?_) fun hc => absurd rfl hc
        refine wpS_ite (fun hz => ?_) fun hz => ?_
        · have hm := KK_mirror_equal (κ := κ) (xs := arrOf st') (i := lo + x - (neq + 1)) (j := lo + x) (by rw [hF.b.size]; omega) he
          refine wpS_bind (wpS_reverse ?_)
          refine wpS_pure ?_
          refine ⟨0, rfl, hF.rev (i := lo + x - (neq + 1)) (j := lo + x) (by omega) (by omega), ?_, by omega, fun i b1 b2 => by congr 1; omega⟩
          intro i j b1 b2 b3
          show κ.kle (KK κ (mirror (arrOf st') _ _ _) j) (KK κ (mirror (arrOf st') _ _ _) i)
          rw [hm, hm]
          exact (hN.snoc (by omega) hle) i j b1 b2 b3
        · refine wpS_pure ?_
          exact ⟨0, rfl, hF, hN.snoc (by omega) hle, by omega, fun i b1 b2 => by congr 1; omega⟩
    case po2 =>
      rintro c st2 ⟨x, neq, rfl, hx1, hx2, hF, hN, hq, he⟩
      extract_lets r1 s1 n1 q3 jp2
      have key2 : ∀ st', Lf κ a₀ lo st st' → Nd κ (arrOf st') lo x → wpS (model prog w) A E s (jp2 ()) Q st' := by
        intro st3 hF3 hN3
        refine wpS_bind (wpS_reverse ?_)
        have hF4 := hF3.rev (i := lo) (j := lo + x) (Nat.le_refl _) (by omega)
        refine wpS_bind (wpS_ascF (κ := κ) (lo := lo) (nrem := nrem) (a := x) (fun y n Q' hl a1 a2 => ?_) hx1 hx2 ?_ fun m b1 b2 b3 _ => wpS_pure (h m _ hF4 (by omega) b2 b3))
        · refine wpS_bind (wpS_ltS hO h0 hF4.b (by omega) (by omega) ?_)
          cases e : κ.blt (KK κ (mirror (arrOf st3) lo (lo + x) ((lo + x - lo) / 2)) (lo + n)) (KK κ (mirror (arrOf st3) lo (lo + x) ((lo + x - lo) / 2)) (lo + n - 1))
          · exact wpS_pure (a2 e)
          · exact wpS_pure (a1 e)
        · intro i j b1 b2 b3
          show κ.kle (KK κ (mirror (arrOf st3) lo (lo + x) ((lo + x - lo) / 2)) i) (KK κ (mirror (arrOf st3) lo (lo + x) ((lo + x - lo) / 2)) j)
          have hz : lo + x ≤ (arrOf st3).size := by rw [hF3.b.size]; omega
          rw [KK_mirror hz, KK_mirror hz, if_pos (by omega), if_pos (by omega)]
          exact hN3 _ _ (by omega) (by omega) (by omega)
      refine wpS_ite (fun hz => ?_) fun hz => ?_
      · have hm := KK_mirror_equal (κ := κ) (xs := arrOf st2) (i := lo + x - (neq + 1)) (j := lo + x) (by rw [hF.b.size]; omega) he
        refine wpS_bind (wpS_reverse (key2 _ (hF.rev (i := lo + x - (neq + 1)) (j := lo + x) (by omega) (by omega)) ?_))
        intro i j b1 b2 b3
        show κ.kle (KK κ (mirror (arrOf st2) _ _ _) j) (KK κ (mirror (arrOf st2) _ _ _) i)
        rw [hm, hm]
        exact hN i j b1 b2 b3
      · exact key2 _ hF hN
  refine wpS_ite (fun hg => ?_) fun hg => ?_
  · refine wpS_bind (wpS_ltS (i := lo) (j := lo + n - 1) hO h0 hB (by omega) (by omega) ?_)
    cases e : κ.blt (KK κ (arrOf st) lo) (KK κ (arrOf st) (lo + n - 1))
    · have hall : ∀ k, lo ≤ k → k < lo + n → KK κ (arrOf st) k = KK κ (arrOf st) (lo + n - 1) := fun k b1 b2 =>
        KeyOrd.kle_antisymm (hsn k (lo + n - 1) b1 (by omega) (by omega)) (KeyOrd.kle_trans (show κ.kle _ _ from e) (hsn lo k (by omega) b1 b2))
      have hm := KK_mirror_equal (κ := κ) (xs := arrOf st) (i := lo) (j := lo + n) (by omega) hall
      refine wpS_bind (wpS_reverse (key _ ((Lf.refl hB).rev (i := lo) (j := lo + n) (by omega) (by omega)) ?_))
      intro i j b1 b2 b3
      show κ.kle (KK κ (mirror (arrOf st) _ _ _) j) (KK κ (mirror (arrOf st) _ _ _) i)
      rw [hm, hm]
      refine Nd.snoc (n := n) (fun i j b1 b2 b3 => ?_) hn1 (KeyOrd.kle_of_klt hlt) i j b1 b2 b3
      rw [hall i (by omega) (by omega), hall j (by omega) (by omega)]; exact KeyOrd.kle_refl _
    · exact wpS_pure (h n st (Lf.refl hB) hn1 hn2 hsn)
  · refine key st (Lf.refl hB) (Nd.snoc (n := n) (fun i j b1 b2 b3 => ?_) hn1 (KeyOrd.kle_of_klt hlt))
    have : i = j := by omega
    subst this; exact KeyOrd.kle_refl _
end
end PyProof.Rows
namespace PyProof.Rows
set_option autoImplicit false
open PySem
section
variable {prog : Program} {w : World} {A : Around} {E : Value → Shared → Prop} {s : Shared} {κ : KeyKind}
theorem Lf.bub {a₀ : Array Keyed} {lo src d : Nat} {st st' : SortSt} (h : Lf κ a₀ lo st st') (hs : src < a₀.size) (hd : lo + d ≤ src) : Lf κ a₀ lo st (setArr st' (bubble (arrOf st') src d)) :=
  ⟨⟨(bubble_perm _ _ _).trans h.b.perm, h.b.kind, h.b.failed⟩, h.pe, fun k hk => by
    rw [← h.lo k hk]
    show KK κ (bubble (arrOf st') src d) k = _
    rw [KK_bubble (by rw [h.b.size]; exact hs) (by omega), if_neg (by omega), if_neg (by omega)]⟩
theorem wpS_bin (hO : κ.OneLt) {a₀ : Array Keyed} (h0 : KeysOf κ a₀) {st0 st : SortSt} {lo n ok : Nat} {Q : Bool → SortSt → Prop} (hF : Lf κ a₀ lo st0 st) (hn : lo + n ≤ a₀.size) (hok : ok ≤ n) (h1 : 1 ≤ ok) (hs : Sk κ (arrOf st) lo ok)
    (h : ∀ st', Lf κ a₀ lo st0 st' → Sk κ (arrOf st') lo n → Q true st') : wpS (model prog w) A E s (binarySort' lo n ok) Q st := by
  unfold binarySort'
  refine wpS_bind (wpS_mono (wpS_forRange (I := fun k c st' => c = (none, ()) ∧ Lf κ a₀ lo st0 st' ∧ Sk κ (arrOf st') lo (min k n))
    (Q := fun c st' => c = (none, ()) ∧ Lf κ a₀ lo st0 st' ∧ Sk κ (arrOf st') lo n) ?step ?fin ⟨rfl, hF, by rw [show min (max ok 1) n = ok by omega]; exact hs⟩) ?post)
  case post =>
    rintro c st' ⟨rfl, hF', hs'⟩
    exact wpS_pure (h st' hF' hs')
  case fin =>
    rintro c st' ⟨hc, hF', hs'⟩
    rw [show min (max (max ok 1) n) n = n by omega] at hs'
    exact ⟨hc, hF', hs'⟩
  case step =>
    rintro k c st' hak hkn ⟨rfl, hF', hs'⟩
    rw [show min k n = k by omega] at hs'
    have hsz := hF'.b.size
    refine wpS_bind (wpS_mono (wpS_forRange (I := fun x c st'' => st'' = st' ∧ ∃ l r, c = (none, l, r) ∧ l ≤ r ∧ r ≤ k ∧ r - l ≤ k - x ∧
        (∀ i, i < l → κ.kle (KK κ (arrOf st') (lo + i)) (KK κ (arrOf st') (lo + k))) ∧ (∀ i, r ≤ i → i < k → κ.kle (KK κ (arrOf st') (lo + k)) (KK κ (arrOf st') (lo + i))))
      (Q := fun c st'' => st'' = st' ∧ ∃ l r, c = (none, l, r) ∧ l ≤ k ∧
        (∀ i, i < l → κ.kle (KK κ (arrOf st') (lo + i)) (KK κ (arrOf st') (lo + k))) ∧ (∀ i, l ≤ i → i < k → κ.kle (KK κ (arrOf st') (lo + k)) (KK κ (arrOf st') (lo + i)))) ?is ?ie ⟨rfl, 0, k, rfl, by omega, by omega, by omega, fun i hi => by omega, fun i h1 h2 => by omega⟩) ?ip)
    case ie =>
      rintro c st'' ⟨rfl, l, r, rfl, hlr, hrk, hm, hlo, hhi⟩
      have : l = r := by omega
      subst this
      exact ⟨rfl, l, l, rfl, hrk, hlo, hhi⟩
    case is =>
      rintro x c st'' _ hxk ⟨rfl, l, r, rfl, hlr, hrk, hm, hlo, hhi⟩
      refine wpS_ite (c := l ≥ r) (fun hge => ?_) fun hge => ?_
      · have : l = r := by omega
        subst this
        exact wpS_pure ⟨rfl, l, l, rfl, hrk, hlo, hhi⟩
      · refine wpS_bind (wpS_ltS (i := lo + k) (j := lo + (l + r) / 2) hO h0 hF'.b (by omega) (by omega) ?_)
        cases e : κ.blt (KK κ (arrOf st'') (lo + k)) (KK κ (arrOf st'') (lo + (l + r) / 2))
        · refine wpS_pure ?_
          exact ⟨rfl, (l + r) / 2 + 1, r, rfl, by omega, by omega, by omega, fun i h1 => KeyOrd.kle_trans (hs' (lo + i) (lo + (l + r) / 2) (by omega) (by omega) (by omega)) e, hhi⟩
        · refine wpS_pure ?_
          exact ⟨rfl, l, (l + r) / 2, rfl, by omega, by omega, by omega, hlo, fun i h1 h2 => KeyOrd.kle_trans (KeyOrd.kle_of_klt e) (hs' _ _ (by omega) (by omega) (by omega))⟩
    case ip =>
      rintro c st'' ⟨rfl, l, r, rfl, hlk, hlo, hhi⟩
      show wpS _ _ _ _ (moveDown' (lo + k) (lo + l) >>= fun _ => pure (ForInStep.yield (none, ()))) _ _
      rw [moveDown'_eq]
      refine wpS_bind (wpS_modify (wpS_pure ⟨rfl, hF'.bub (src := lo + k) (d := lo + k - (lo + l)) (by omega) (by omega), ?_⟩))
      rw [show min (k + 1) n = k + 1 by omega]
      intro i j b1 b2 b3
      show κ.kle (KK κ (bubble (arrOf st'') (lo + k) (lo + k - (lo + l))) i) (KK κ (bubble (arrOf st'') (lo + k) (lo + k - (lo + l))) j)
      have hks : lo + k < (arrOf st'').size := by omega
      rw [KK_bubble hks (by omega), KK_bubble hks (by omega), show lo + k - (lo + k - (lo + l)) = lo + l by omega]
      have lo' : ∀ u, lo ≤ u → u < lo + l → κ.kle (KK κ (arrOf st'') u) (KK κ (arrOf st'') (lo + k)) := fun u c1 c2 => by
        have := hlo (u - lo) (by omega); rwa [show lo + (u - lo) = u by omega] at this
      have hi' : ∀ u, lo + l ≤ u → u < lo + k → κ.kle (KK κ (arrOf st'') (lo + k)) (KK κ (arrOf st'') u) := fun u c1 c2 => by
        have := hhi (u - lo) (by omega) (by omega); rwa [show lo + (u - lo) = u by omega] at this
      by_cases c1 : i = lo + l
      · rw [if_pos c1]
        by_cases c2 : j = lo + l
        · rw [if_pos c2]; exact KeyOrd.kle_refl _
        · rw [if_neg c2, if_pos (by omega)]; exact hi' _ (by omega) (by omega)
      · rw [if_neg c1]
        by_cases c3 : lo + l < i ∧ i ≤ lo + k
        · rw [if_pos c3, if_neg (by omega), if_pos (by omega)]; exact hs' _ _ (by omega) (by omega) (by omega)
        · rw [if_neg c3]
          by_cases c2 : j = lo + l
          · rw [if_pos c2]; exact lo' i b1 (by omega)
          · rw [if_neg c2]
            by_cases c4 : lo + l < j ∧ j ≤ lo + k
            · rw [if_pos c4]; exact hs' _ _ b1 (by omega) (by omega)
            · rw [if_neg c4]; exact hs' _ _ b1 b2 (by omega)
end
end PyProof.Rows
namespace PyProof.Rows
set_option autoImplicit false
open PySem
section
variable {prog : Program} {w : World} {A : Around} {E : Value → Shared → Prop} {s : Shared} {κ : KeyKind}
def Rs (κ : KeyKind) (xs : Array Keyed) : Nat → List (Nat × Nat × Nat) → Nat → Prop
  | u, [], v => u = v
  | u, p :: l, v => p.1 = u ∧ 1 ≤ p.2.1 ∧ Sk κ xs u p.2.1 ∧ Rs κ xs (u + p.2.1) l v
theorem Rs.app {xs : Array Keyed} : ∀ {u v : Nat} {l1 l2 : List (Nat × Nat × Nat)}, Rs κ xs u (l1 ++ l2) v ↔ ∃ m, Rs κ xs u l1 m ∧ Rs κ xs m l2 v
  | u, v, [], l2 => ⟨fun h => ⟨u, rfl, h⟩, fun ⟨m, e, h⟩ => by cases e; exact h⟩
  | u, v, p :: l1, l2 => ⟨fun ⟨a, b, c, d⟩ => by
      obtain ⟨m, h1, h2⟩ := Rs.app.mp d
      exact ⟨m, ⟨a, b, c, h1⟩, h2⟩, fun ⟨m, ⟨a, b, c, d⟩, e⟩ => ⟨a, b, c, Rs.app.mpr ⟨m, d, e⟩⟩⟩
theorem Rs.len {xs : Array Keyed} : ∀ {u v : Nat} {l : List (Nat × Nat × Nat)}, Rs κ xs u l v → u + l.length ≤ v
  | u, v, [], h => by cases h; simp
  | u, v, p :: l, ⟨_, b, _, d⟩ => by have := Rs.len d; simp only [List.length_cons]; omega
theorem Rs.same {xs ys : Array Keyed} : ∀ {u v : Nat} {l : List (Nat × Nat × Nat)}, Rs κ xs u l v → (∀ k, u ≤ k → k < v → KK κ ys k = KK κ xs k) → Rs κ ys u l v
  | u, v, [], h, _ => h
  | u, v, p :: l, ⟨a, b, c, d⟩, h => ⟨a, b, fun i j h1 h2 h3 => by
      have := Rs.len d
      rw [h i (by omega) (by omega), h j (by omega) (by omega)]; exact c i j h1 h2 h3, Rs.same d fun k h1 h2 => h k (by omega) h2⟩
theorem Rs.pow {xs : Array Keyed} : ∀ {u v : Nat} {l l' : List (Nat × Nat × Nat)}, Rs κ xs u l v → l.map (fun x => (x.1, x.2.1)) = l'.map (fun x => (x.1, x.2.1)) → Rs κ xs u l' v
  | u, v, [], [], h, _ => h
  | u, v, p :: l, q :: l', ⟨a, b, c, d⟩, h => by
    simp only [List.map_cons, List.cons.injEq, Prod.mk.injEq] at h
    obtain ⟨⟨e1, e2⟩, e3⟩ := h
    exact ⟨by rw [← e1]; exact a, by rw [← e2]; exact b, by rw [← e2]; exact c, by rw [← e2]; exact Rs.pow d e3⟩
theorem mod_map (p : Array (Nat × Nat × Nat)) (i pw : Nat) : p.toList.map (fun x => (x.1, x.2.1)) = (p.modify i fun x => (x.1, x.2.1, pw)).toList.map (fun x => (x.1, x.2.1)) := by
  apply List.ext_getElem?
  intro k
  rw [List.getElem?_map, List.getElem?_map, Array.getElem?_toList, Array.getElem?_toList, Array.getElem?_modify]
  split
  · cases p[k]? <;> rfl
  · rfl
structure Rn (κ : KeyKind) (a₀ : Array Keyed) (lo : Nat) (st : SortSt) : Prop where
  b : SB a₀ st
  r : Rs κ (arrOf st) 0 (pendingOf st).toList lo
theorem split2 {l : List (Nat × Nat × Nat)} {i : Nat} (h : i + 2 ≤ l.length) : ∃ l1 u v l2, l = l1 ++ u :: v :: l2 ∧ l1.length = i := by
  refine ⟨l.take i, l[i], l[i + 1], l.drop (i + 2), ?_, by rw [List.length_take]; omega⟩
  rw [← List.drop_eq_getElem_cons (i := i + 1) (by omega), ← List.drop_eq_getElem_cons (by omega), List.take_append_drop]
theorem wpS_matR (hO : κ.OneLt) {a₀ : Array Keyed} (h0 : KeysOf κ a₀) {st : SortSt} {i lo : Nat} {Q : Bool → SortSt → Prop} (hR : Rn κ a₀ lo st) (hl : lo ≤ a₀.size) (hi : i + 2 ≤ (pendingOf st).size)
    (h : ∀ st', Rn κ a₀ lo st' → (pendingOf st').size + 1 = (pendingOf st).size → (∀ k, lo ≤ k → KK κ (arrOf st') k = KK κ (arrOf st) k) → Q true st') :
    wpS (model prog w) A E s (mergeAt' i) Q st := by
  obtain ⟨l1, ⟨sa, na, pa⟩, ⟨sb, nb, pb⟩, l2, e, el⟩ : ∃ l1 u v l2, (pendingOf st).toList = l1 ++ u :: v :: l2 ∧ l1.length = i := by
    exact split2 (by simpa using hi)
  subst el
  have hr := hR.r
  rw [e] at hr
  obtain ⟨m, r1, rfl, r2, r3, r4, r5, r6, r7⟩ := Rs.app.mp hr
  dsimp only at *
  subst r4
  have hle := Rs.len r7
  have hle1 := Rs.len r1
  refine wpS_mat hO h0 hR.b e r3 r6 r2 r5 (by omega) fun st' hB' hp' hs' hf' => h st' ⟨hB', ?_⟩ ?_ fun k hk => hf' k (by omega)
  · rw [hp']
    refine Rs.app.mpr ⟨sa, r1.same fun k _ hk => hf' k (by omega), rfl, by dsimp only; omega, hs', ?_⟩
    dsimp only
    rw [← Nat.add_assoc]
    exact r7.same fun k hk _ => hf' k (by omega)
  · rw [← Array.length_toList, ← Array.length_toList, hp', e]; simp; omega
theorem ite_two (c : Prop) [Decidable c] {n : Nat} (h : 2 ≤ n) : (if c then n - 2 - 1 else n - 2) + 2 ≤ n := by split <;> omega
theorem wpS_srt (hO : κ.OneLt) {a₀ : Array Keyed} (h0 : KeysOf κ a₀) {st : SortSt} {Q : Unit → SortSt → Prop} (hB : SB a₀ st) (hp : pendingOf st = #[]) (h1 : 1 ≤ a₀.size)
    (h : ∀ st', SB a₀ st' → SortedToK κ (arrOf st') a₀.size → Q () st') : wpS (model prog w) A E s sortRuns' Q st := by
  unfold sortRuns'
  refine wpS_bind (wpS_get ?_)
  have hsz := hB.size
  show wpS (model prog w) A E s (have size := (arrOf st).size; _) Q st
  rw [hsz]
  refine wpS_bind (wpS_mono (wpS_forRange (I := fun x c st' => ∃ lo, c = (none, lo) ∧ lo ≤ a₀.size ∧ (x ≤ lo ∨ lo = a₀.size) ∧ Rn κ a₀ lo st')
    (Q := fun c st' => c = (none, a₀.size) ∧ Rn κ a₀ a₀.size st') ?step ?fin ⟨0, rfl, by omega, by omega, hB, by rw [hp]; rfl⟩) ?post)
  case fin =>
    rintro c st' ⟨lo, rfl, l1, l2, hR⟩
    have : lo = a₀.size := by omega
    subst this
    exact ⟨rfl, hR⟩
  case post =>
    rintro c st' ⟨rfl, hR⟩
    have hlen := hR.r.len
    rw [Array.length_toList] at hlen
    refine wpS_bind (wpS_mono (wpS_forRange (I := fun x c st' => c = (none, ()) ∧ Rn κ a₀ a₀.size st' ∧ ((pendingOf st').size ≤ 1 ∨ (pendingOf st').size + x ≤ a₀.size))
      (Q := fun c st' => c = (none, ()) ∧ Rn κ a₀ a₀.size st' ∧ (pendingOf st').size ≤ 1) ?st2 ?fi2 ⟨rfl, hR, by omega⟩) ?po2)
    case fi2 =>
      rintro c st' ⟨rfl, hR, hl⟩
      exact ⟨rfl, hR, by omega⟩
    case po2 =>
      rintro c st' ⟨rfl, hR, hl⟩
      refine wpS_pure (h st' hR.b ?_)
      have hr := hR.r
      rw [← Array.length_toList] at hl
      generalize (pendingOf st').toList = l at hr hl
      match l, hr, hl with
      | [], hr, _ => have : 0 = a₀.size := hr; omega
      | [p], ⟨_, _, c, d⟩, _ =>
        have : 0 + p.2.1 = a₀.size := d
        intro i j hij hj
        exact c i j (by omega) hij (by omega)
      | _ :: _ :: _, _, hl => simp at hl
    case st2 =>
      rintro x c st' _ hx ⟨rfl, hR, hl⟩
      refine wpS_bind (wpS_get ?_)
      refine wpS_ite (c := (pendingOf st').size ≤ 1) (fun hc => wpS_pure ⟨rfl, hR, hc⟩) fun hc => ?_
      refine wpS_bind (wpS_matR hO h0 hR (Nat.le_refl _) ?_ fun st2 hR2 he _ => ?_)
      · exact ite_two _ (n := (pendingOf st').size) (by omega)
      · exact wpS_pure ⟨rfl, hR2, by omega⟩
  case step =>
    rintro x c st1 _ hx ⟨lo, rfl, l1, l2, hR⟩
    refine wpS_ite (c := lo ≥ a₀.size) (fun hc => ?_) fun hc => ?_
    · have : lo = a₀.size := by omega
      subst this
      exact wpS_pure ⟨rfl, hR⟩
    refine wpS_bind (wpS_cnt (lo := lo) (nrem := a₀.size - lo) hO h0 hR.b (by omega) (by omega) fun m st2 hF hm1 hm2 hs2 => ?_)
    have up : ∀ st', Lf κ a₀ lo st1 st' → Rn κ a₀ lo st' := fun st' hf => ⟨hf.b, by rw [hf.pe]; exact hR.r.same fun k _ hk => hf.lo k hk⟩
    dsimp -zeta only
    extract_lets nn jp
    have key : ∀ n st', 1 ≤ n → lo + n ≤ a₀.size → Rn κ a₀ lo st' → Sk κ (arrOf st') lo n → wpS (model prog w) A E s (jp () n) (fun r st' => ∃ lo, r = .yield (none, lo) ∧ lo ≤ a₀.size ∧ (x + 1 ≤ lo ∨ lo = a₀.size) ∧ Rn κ a₀ lo st') st' := by
      intro n st3 hn1 hn2 hR3 hs3
      refine wpS_bind (wpS_get ?_)
      extract_lets q5 jp2
      have key2 : ∀ st', Rn κ a₀ lo st' → Sk κ (arrOf st') lo n → wpS (model prog w) A E s (jp2 ()) (fun r st' => ∃ lo, r = .yield (none, lo) ∧ lo ≤ a₀.size ∧ (x + 1 ≤ lo ∨ lo = a₀.size) ∧ Rn κ a₀ lo st') st' := by
        intro st4 hR4 hs4
        refine wpS_bind (wpS_modify (wpS_pure ⟨lo + n, rfl, hn2, by omega, ⟨hR4.b.perm, hR4.b.kind, hR4.b.failed⟩, ?_⟩))
        show Rs κ (arrOf st4) 0 ((pendingOf st4).push (lo, n, 0)).toList (lo + n)
        rw [Array.toList_push]
        exact Rs.app.mpr ⟨lo, hR4.r, rfl, hn1, hs4, rfl⟩
      show wpS _ _ _ _ (match (pendingOf st3).back? with | some (s1, n1, _) => _ | _ => _) _ _
      cases hb : (pendingOf st3).back? with
      | none => exact key2 st3 hR3 hs3
      | some t =>
        obtain ⟨s1, n1, t1⟩ := t
        refine wpS_bind (wpS_mono (wpS_forRange (I := fun _ c st' => c = (none, ()) ∧ Rn κ a₀ lo st' ∧ Sk κ (arrOf st') lo n) (Q := fun c st' => c = (none, ()) ∧ Rn κ a₀ lo st' ∧ Sk κ (arrOf st') lo n) ?st3 (fun _ _ hh => hh) ⟨rfl, hR3, hs3⟩) ?po3)
        case po3 =>
          rintro c st4 ⟨rfl, hR4, hs4⟩
          refine wpS_bind (wpS_modify (key2 _ ⟨⟨hR4.b.perm, hR4.b.kind, hR4.b.failed⟩, ?_⟩ hs4))
          exact hR4.r.pow (mod_map _ _ _)
        case st3 =>
          rintro y c st4 _ hy ⟨rfl, hR4, hs4⟩
          refine wpS_bind (wpS_get ?_)
          by_cases hp2 : (pendingOf st4).size > 1
          · have e2 : (if (pendingOf st4).size > 1 then (pendingOf st4)[(pendingOf st4).size - 2]? else none) = some ((pendingOf st4)[(pendingOf st4).size - 2]) := by
              rw [if_pos hp2]; exact getElem?_pos _ _ _
            show wpS _ _ _ _ (match (if (pendingOf st4).size > 1 then (pendingOf st4)[(pendingOf st4).size - 2]? else none) with | some (_, _, older) => _ | _ => _) _ _
            rw [e2]
            refine wpS_ite (fun _ => wpS_pure ⟨rfl, hR4, hs4⟩) fun _ => ?_
            refine wpS_bind (wpS_matR (i := (pendingOf st4).size - 2) hO h0 hR4 (by omega) (by omega) fun st5 hR5 _ hk5 => ?_)
            refine wpS_pure ⟨rfl, hR5, fun i j b1 b2 b3 => ?_⟩
            rw [hk5 i (by omega), hk5 j (by omega)]; exact hs4 i j b1 b2 b3
          · have e2 : (if (pendingOf st4).size > 1 then (pendingOf st4)[(pendingOf st4).size - 2]? else none) = none := if_neg hp2
            show wpS _ _ _ _ (match (if (pendingOf st4).size > 1 then (pendingOf st4)[(pendingOf st4).size - 2]? else none) with | some (_, _, older) => _ | _ => _) _ _
            rw [e2]
            exact wpS_pure ⟨rfl, hR4, hs4⟩
    refine wpS_mono (Q := fun r st' => ∃ lo, r = .yield (none, lo) ∧ lo ≤ a₀.size ∧ (x + 1 ≤ lo ∨ lo = a₀.size) ∧ Rn κ a₀ lo st') (wpS_ite (fun hlt => ?_) fun hlt => ?_) ?mo
    case mo =>
      rintro _ st' ⟨lo, rfl, hh⟩
      exact ⟨lo, rfl, hh⟩
    · refine wpS_bind (wpS_lift (wpAny_rule ⟨rfl, ?_⟩))
      have hlt' : m < minRun' a₀.size a₀.size 0 := hlt
      refine wpS_bind (wpS_bin (n := min (a₀.size - lo) (minRun' a₀.size a₀.size 0)) hO h0 hF (by omega) (by omega) hm1 hs2 fun st3 hF3 hs3 => ?_)
      exact key _ st3 (by omega) (by omega) (up _ hF3) hs3
    · exact key _ st2 hm1 (by omega) (up _ hF) hs2
end
end PyProof.Rows
namespace PyProof.Rows
set_option autoImplicit false
open PySem
@[reducible] def intK : KeyKind where
  α := Int
  blt a b := decide (a < b)
  irrefl a := by simp
  trans a b c h1 h2 := by simp only [decide_eq_true_eq] at *; omega
  negTrans a b c h := by simp only [decide_eq_true_eq] at *; omega
  total a b h1 h2 := by simp only [decide_eq_false_iff_not] at *; omega
  keyOf v := match v with | .int x _ => some x | _ => none
  dflt := 0
theorem intK_oneLt : intK.OneLt := by
  intro prog w A E s x y a b Q ha hb h
  cases x <;> simp only [intK, reduceCtorEq, Option.some.injEq] at ha
  cases y <;> simp only [intK, reduceCtorEq, Option.some.injEq] at hb
  cases ha; cases hb
  exact oneLt_int h
theorem ints_keys {vs : List Value} {ns : List Int} (hI : IntsAre vs ns) : KeysOf intK (pairsOf vs) := by
  intro p hp
  obtain ⟨n, t, e⟩ := hI.intKeys p hp
  exact ⟨n, by rw [e]⟩
theorem ints_srt {xs : Array Keyed} {n : Nat} (h0 : IntKeys xs) (hn : n ≤ xs.size) (h : SortedToK intK xs n) : SortedTo xs n := by
  have key : ∀ i, i < n → KK intK xs i = K xs i := by
    intro i hi
    have e : xs[i]? = some xs[i] := getElem?_pos xs i (by omega)
    obtain ⟨m, t, e'⟩ := h0 xs[i] (by simp)
    unfold KK K
    rw [e]
    show (intK.keyOf xs[i].1).getD 0 = numOf xs[i].1
    rw [e']; rfl
  intro i j hij hj
  have := h i j hij hj
  rw [key i (by omega), key j hj] at this
  have h2 : decide (K xs j < K xs i) = false := this
  simp only [decide_eq_false_iff_not] at h2
  omega
section
variable {prog : Program} {w : World} {A : Around} {E : Value → Shared → Prop} {s : Shared}
theorem sort_any {κ : KeyKind} (hO : κ.OneLt) {a : Addr} {vs : List Value} {n : Nat} {P : Fin → Shared → Prop} (ho : s.heap.get? a = some (seqObj "list" vs.toArray n))
    (h0 : KeysOf κ (pairsOf vs)) (hkk : ∀ v₁ v₂ rest, vs = v₁ :: v₂ :: rest → keyKind' (v₁ :: v₂ :: rest).toArray = pure oneType') (hL : vs.length ≤ sizeLine)
    (h : ∀ st' : SortSt, (arrOf st').Perm (pairsOf vs) → SortedToK κ (arrOf st') (pairsOf vs).size → P (.done (.ret .none)) { s with heap := sortedHeap s.heap a vs ((arrOf st').map (·.2)) }) :
    wpAny (model prog w) A (Builtin.«list.sort» ⟨[.ref a], []⟩) P E s := by
  by_cases h64 : vs.length < 64
  · exact list_sort_treeK hO ho h0 hkk h64 h
  obtain ⟨v₁, v₂, rest, rfl⟩ : ∃ v₁ v₂ rest, vs = v₁ :: v₂ :: rest := by
    match vs, h64 with
    | [], h => simp at h
    | [_], h => simp at h
    | v₁ :: v₂ :: rest, _ => exact ⟨v₁, v₂, rest, rfl⟩
  have ha : a < s.heap.objs.size := Heap.lt_size ho
  have hsz : (v₁ :: v₂ :: rest).toArray.size ≤ sizeLine := by simpa using hL
  obtain ⟨e1, ho1⟩ : ∃ e1, (s.heap.update a (Obj.mapSeq fun _ => #[])).get? a = some (seqObj "list" #[] e1) := ⟨_, get?_update_seq ho (fun _ => #[])⟩
  have ho6 : (((s.heap.update a (Obj.mapSeq fun _ => #[])).push (seqObj "tuple" (v₁ :: v₂ :: rest).toArray 0)).push (seqObj "list" #[] 0)).get? a = some (seqObj "list" #[] e1) := by
    rw [Heap.get?_push_ne _ _ _ (by rw [size_push', Heap.size_update]; exact Nat.ne_of_lt (Nat.lt_succ_of_lt ha)), Heap.get?_push_ne _ _ _ (by rw [Heap.size_update]; exact Nat.ne_of_lt ha)]
    exact ho1
  have h2 : ¬ (v₁ :: v₂ :: rest).toArray.size < 2 := by simp
  rw [list_sort_plain]
  refine wpAny_bind (listItems_at ho rfl (wpAny_bind (listUpdate_at ho rfl (wpAny_bind (seqEpoch_at ho1 rfl (wpAny_bind (wpAny_newTuple (wpAny_bind (wpAny_newList (wpAny_holding ?_))) ?_)))) hsz ?_)))
  · show wpAny (model prog w) A _ P E { s with heap := ((s.heap.update a (Obj.mapSeq fun _ => #[])).push (seqObj "tuple" (v₁ :: v₂ :: rest).toArray 0)).push (seqObj "list" #[] 0) }
    dsimp only
    rw [if_neg h2, if_neg h2, hkk _ _ _ rfl]
    refine wpAny_bind (wpAny_pure (wpAny_bind (wpAny_mono (wpS_srt (κ := κ) hO (a₀ := pairsOf (v₁ :: v₂ :: rest)) (st := SortSt.mk' oneType' ((v₁ :: v₂ :: rest).toArray.zip (v₁ :: v₂ :: rest).toArray) #[] 7 none)
      (Q := fun _ st' => SB (pairsOf (v₁ :: v₂ :: rest)) st' ∧ SortedToK κ (arrOf st') (pairsOf (v₁ :: v₂ :: rest)).size)
      h0 ⟨Array.Perm.refl _, rfl, rfl⟩ rfl (by rw [pairsOf_size]; simp) fun st' a1 a2 => ⟨a1, a2⟩) ?_ fun _ _ e => e)))
    rintro ⟨⟨⟩, st'⟩ s' ⟨rfl, hB, hs⟩
    dsimp only
    refine wpAny_bind (seqEpoch_at ho6 rfl (wpAny_bind (listUpdate_at ho6 rfl ?_ (hsz2 := ?_))))
    · rw [hB.failed]
      simp only [bne_self_eq_false, Bool.false_eq_true, if_false]
      exact wpAny_pure (h st' hB.perm hs)
    · have e : ((arrOf st').map (·.2)).size = (v₁ :: v₂ :: rest).length := (Array.size_map ..).trans (hB.perm.size_eq.trans (pairsOf_size _))
      exact Nat.le_succ_of_le (Nat.le_trans (Nat.le_of_eq e) hL)
  · exact hsz
  · simp
end
end PyProof.Rows
set_option Elab.async false
set_option linter.all false
set_option maxRecDepth 100000
set_option maxHeartbeats 400000
/-! sorted of numbers: of a list, and of a dict's keys; as many as may be -/
namespace L2
open PySem PySem.Spec PyProof.Rows
section
variable {prog : Program} {w : World} {A : Around} {E : Value → Shared → Prop} {s : Shared}
theorem ints_len {vs : List Value} {ns : List Int} (h : IntsAre vs ns) : vs.length = ns.length := by
  induction h with
  | nil => rfl
  | cons x t h ih => simp [ih]
theorem srt_ints {r : Addr} {φ : List Int → Prop} {Q : Value → Shared → Prop} (hb : ∀ xs, φ xs → xs.length ≤ 100000)
    (hc : ∀ (R : List Value → Shared → Prop), (∀ (h' : Heap) (d' : Drawn) (tk : Nat) (vs : List Value) (xs : List Int), (∀ b o, s.heap.get? b = some o → h'.get? b = some o) → IntsAre vs xs → φ xs → R vs { s with heap := h', drawn := d', toks := tk }) →
      wpAny (model prog w) A.in1 (collect (.ref r)) R E s)
    (h : ∀ (p : Addr) (h1 h' : Heap) (d' : Drawn) (tk : Nat) (vs : List Value) (n : Nat) (xs xs' : List Int), φ xs → h1.objs.size ≤ p → (∀ b o, s.heap.get? b = some o → h1.get? b = some o) → (∀ b o, h1.get? b = some o → h'.get? b = some o) → h'.get? p = some (seqObj "list" vs.toArray n) → IntsAre vs xs' → xs'.Perm xs → xs'.Pairwise (· ≤ ·) →
      Q (.ref p) { s with heap := h', drawn := d', toks := tk }) :
    wpAny (model prog w) A (call (.builtin "sorted") [.ref r]) Q E s := by
  refine Calls.call_function_entry kind_sorted plain_sorted entry_sorted (args_sorted1 _) ?_
  unfold Builtin.«sorted»
  refine wpAny_bind (m := checkCount "sorted" 1 1 _) (wpAny_pure (wpAny_bind (hc _ fun h1 d1 tk vs xs k hS hφ => ?_)))
  have hl : vs.length ≤ 100000 := by rw [ints_len hS]; exact hb xs hφ
  have hz : vs.length ≤ sizeLine := by rw [sizeLine_eq]; omega
  refine wpAny_bind (wpAny_newList ?_ hz)
  have hoL : (h1.push (seqObj "list" vs.toArray 0)).get? h1.objs.size = some (seqObj "list" vs.toArray 0) := Heap.get?_push_size _ rfl
  show wpAny _ _ _ _ _ { s with heap := h1.push (seqObj "list" vs.toArray 0), drawn := d1, toks := tk }
  refine wpAny_bind (wpAny_holding (wpAny_call_entry slot_list_sort ⟨_, hoL, rfl⟩ entry_list_sort (sort_any intK_oneLt hoL (ints_keys hS) (fun v₁ v₂ rest e => keyKind_ints (by rw [← e]; exact hS)) hz fun st' a1 a2 => ⟨_, rfl, ?_⟩) (args_list_sort _)))
  have hI : IntKeys (arrOf st') := fun p hp => hS.intKeys p ((Array.perm_iff_toList_perm.mp a1).mem_iff.mp hp)
  obtain ⟨xs', b1, b2, b3⟩ := sorted_out hS a1 (ints_srt hI (Nat.le_of_eq a1.size_eq.symm) a2)
  obtain ⟨n, hn⟩ := sortedHeap_at (out := (arrOf st').map (·.2)) hoL
  refine wpAny_pure ⟨_, rfl, h h1.objs.size h1 _ d1 tk ((arrOf st').map (·.2)).toList n xs xs' hφ (Nat.le_refl _) k (fun b o hb => ?_) (by rw [Array.toArray_toList]; exact hn) b1 b2 b3⟩
  have hlt := Heap.lt_size hb
  rw [sortedHeap_old (Nat.ne_of_lt hlt) (by rw [size_push']; exact Nat.lt_succ_of_lt hlt)]
  exact Heap.get?_push_of_some _ hb
end
section
variable {X : Cx} {pins : List (Addr × Obj)} {s : Shared} {σ : St} {H : Hp}
theorem laid_i {p : Addr} {h1 h' : Heap} {d' : Drawn} {tk n : Nat} {vs : List Value} {xs : List Int} (I : Inv X pins σ H s) (hp : h1.objs.size ≤ p) (k1 : ∀ b o, s.heap.get? b = some o → h1.get? b = some o) (k2 : ∀ b o, h1.get? b = some o → h'.get? b = some o)
    (g : h'.get? p = some (seqObj "list" vs.toArray n)) (hS : IntsAre vs xs) (hl : xs.length ≤ 100000) : Inv X pins σ (upd H p (.lst (xs.map V.int))) { s with heap := h', drawn := d', toks := tk } ∧ H p = none := by
  have I1 : Inv X pins σ H { s with heap := h1, drawn := d', toks := tk } := kept_d I k1
  refine ⟨I1.laid (t' := tk) k2 hp ⟨?_, vs, n, vals_ints hS, g⟩, I1.hok.fresh hp⟩
  rw [List.length_map, sizeLine_eq]; omega
theorem ints_by : ∀ {l : List Value} {ts : List Int}, l.length = ts.length → (∀ (j : Nat) (v : Value), l[j]? = some v → ∃ t tk, ts[j]? = some t ∧ v = .int t tk) → IntsAre l ts
  | [], [], _, _ => .nil
  | v :: l, t :: ts, e, h => by
    obtain ⟨t', tk, e1, e2⟩ := h 0 v rfl
    cases e1
    subst e2
    exact .cons _ tk (ints_by (by simpa using e) fun j u hu => h (j + 1) u hu)
/-- sorted of a dict whose keys are numbers -/
theorem call_sortedDI (hc : X.calm = true) : CallR X (.builtin "sorted") (fun xs H Q => ∃ (p : Addr) (kvs : List (Key × V)) (ts : List Int), xs = [.ref p] ∧ Rd H p (.dK kvs) ∧ kvs.map (·.1) = ts.map Sum.inl ∧ ts.length ≤ 100000 ∧
    ∀ q (ys : List Int), H q = none → ys.Perm ts → ys.Pairwise (· ≤ ·) → Q (.ref q) (upd H q (.lst (ys.map V.int)))) := by
  intro pins s σ H xs us Q I r h
  obtain ⟨p, kvs, ts, rfl, hp, hk, hb, q⟩ := h
  obtain ⟨u, rfl, ru⟩ := vals1 r
  cases ru
  obtain ⟨hz, lo, vs, hkv, hD⟩ := hp.ok I.hok
  obtain ⟨ep, hat⟩ := hD.dictAt
  have hlen : kvs.length = ts.length := by have := congrArg List.length hk; simpa using this
  have hlen2 : kvs.length = vs.length := Paired.length hkv
  refine srt_ints (φ := fun ys => ys = ts) (fun ys e => by rw [e]; exact hb) (fun R hR => PySem.W.kdu_collect (A := X.A.in1) (PySem.W.kdl_dict (knd := mixKind X.prog X.w) (kvs := vs) (ep := ep) lo) (I.ok.hd hc) hat (by rw [sizeLine_eq]; omega) fun h' tk acc k hacc => ?_) fun q' h1 h' d' tk us n ys ys' e hq k1 k2 g hS e' so => ?_
  · refine hR h' s.drawn tk acc.toList ts k (ints_by (by rw [Array.length_toList, hacc.1]; omega) fun j v hv => ?_) rfl
    obtain ⟨k, x, hx, hi⟩ := hacc.2 j v (by rw [← Array.getElem?_toList]; exact hv)
    have e1 : (vs.map (·.1))[j]? = some k := by rw [List.getElem?_map, hx]; rfl
    rw [kv_keys hkv, hk, List.getElem?_map] at e1
    cases ht : ts[j]? with
    | none => rw [ht] at e1; cases e1
    | some t =>
      rw [ht] at e1
      cases e1
      rw [mixKind_is] at hi
      rcases keyIs_shape hi with ⟨i, u, e, e2⟩ | ⟨y, u, e, e2⟩
      · cases e
        exact ⟨_, u, rfl, e2⟩
      · cases e
  · subst e
    obtain ⟨I2, hf⟩ := laid_i (d' := d') (tk := tk) I hq k1 k2 g hS (by rw [e'.length_eq]; exact hb)
    exact ⟨.ref q', _, I2, rfl, q q' ys' hf e' so⟩
end
end L2
set_option Elab.async false
set_option linter.all false
/-! the places of a set's table rise -/
namespace L2
open PySem
def Ris (xs : Array Nat) : Prop := ∀ i k, i < k → k < xs.size → xs.getD i 0 < xs.getD k 0
theorem getD_at {xs : Array Nat} {i d e : Nat} (h : i < xs.size) : xs.getD i d = xs.getD i e := by simp [Array.getD, h]
theorem below_go {xs : Array Nat} (hr : Ris xs) (j : Nat) : ∀ (f lo hi : Nat), hi - lo ≤ f → lo ≤ hi → hi ≤ xs.size → (∀ i, i < lo → xs.getD i 0 < j) → (∀ i, hi ≤ i → i < xs.size → j ≤ xs.getD i 0) →
    let b := SetTable.below.go xs j f lo hi; b ≤ xs.size ∧ (∀ i, i < b → xs.getD i 0 < j) ∧ ∀ i, b ≤ i → i < xs.size → j ≤ xs.getD i 0
  | 0, lo, hi, h, h1, h2, h3, h4 => by
    have : lo = hi := by omega
    subst this
    exact ⟨h2, h3, h4⟩
  | f + 1, lo, hi, h, h1, h2, h3, h4 => by
    unfold SetTable.below.go
    by_cases c : lo < hi
    · rw [if_pos c]
      dsimp only
      rw [getD_at (e := 0) (show (lo + hi) / 2 < xs.size by omega)]
      by_cases c2 : xs.getD ((lo + hi) / 2) 0 < j
      · rw [if_pos c2]
        refine below_go hr j f _ hi (by omega) (by omega) h2 (fun i hi' => ?_) h4
        by_cases e : i = (lo + hi) / 2
        · rw [e]; exact c2
        · exact Nat.lt_trans (hr i ((lo + hi) / 2) (by omega) (by omega)) c2
      · rw [if_neg c2]
        refine below_go hr j f lo _ (by omega) (by omega) (by omega) h3 fun i hi' hl => ?_
        by_cases e : i = (lo + hi) / 2
        · rw [e]; omega
        · have := hr ((lo + hi) / 2) i (by omega) hl
          omega
    · rw [if_neg c]
      have : lo = hi := by omega
      subst this
      exact ⟨h2, h3, h4⟩
theorem below_at {xs : Array Nat} (hr : Ris xs) (j : Nat) : SetTable.below xs j ≤ xs.size ∧ (∀ i, i < SetTable.below xs j → xs.getD i 0 < j) ∧ ∀ i, SetTable.below xs j ≤ i → i < xs.size → j ≤ xs.getD i 0 :=
  below_go hr j xs.size 0 xs.size (by omega) (Nat.zero_le _) (Nat.le_refl _) (fun i h => by omega) fun i h1 h2 => by omega
/-- the place behind the i-th one is where the next one is looked for -/
theorem below_next {xs : Array Nat} (hr : Ris xs) {i : Nat} (hi : i < xs.size) : SetTable.below xs (xs.getD i 0 + 1) = i + 1 := by
  obtain ⟨h1, h2, h3⟩ := below_at hr (xs.getD i 0 + 1)
  generalize SetTable.below xs (xs.getD i 0 + 1) = b at *
  rcases Nat.lt_trichotomy b (i + 1) with h | h | h
  · have := h3 i (by omega) hi; omega
  · exact h
  · have a := h2 (i + 1) (by omega)
    have b := hr i (i + 1) (by omega) (by omega)
    omega
theorem below_zero {xs : Array Nat} (hr : Ris xs) : SetTable.below xs 0 = 0 := by
  obtain ⟨h1, h2, h3⟩ := below_at hr 0
  rcases Nat.eq_zero_or_pos (SetTable.below xs 0) with h | h
  · exact h
  · have := h2 0 h; omega
theorem ins_at {xs : Array Nat} {p x : Nat} (hp : p ≤ xs.size) (i : Nat) : (SetTable.insertAt xs p x)[i]? = if i < p then xs[i]? else if i = p then some x else xs[i - 1]? := by
  unfold SetTable.insertAt
  rw [Array.getElem?_append, Array.size_push, Array.size_extract]
  by_cases h1 : i < p
  · rw [if_pos (by omega), if_pos h1, Array.getElem?_push, if_neg (by rw [Array.size_extract]; omega), Array.getElem?_extract, if_pos (by omega), Nat.zero_add]
  · rw [if_neg h1]
    by_cases h2 : i = p
    · rw [if_pos (by omega), if_pos h2, Array.getElem?_push, if_pos (by rw [Array.size_extract]; omega)]
    · rw [if_neg (by omega), if_neg h2, Array.getElem?_extract]
      by_cases h3 : i - 1 < xs.size
      · rw [if_pos (by omega)]; congr 1; omega
      · rw [if_neg (by omega), Array.getElem?_eq_none (by omega)]
theorem getD_of {xs : Array Nat} {i : Nat} : xs.getD i 0 = (xs[i]?).getD 0 := by simp [Array.getD_eq_getD_getElem?]
theorem ins_size {xs : Array Nat} {p x : Nat} (hp : p ≤ xs.size) : (SetTable.insertAt xs p x).size = xs.size + 1 := by
  unfold SetTable.insertAt
  simp only [Array.size_append, Array.size_push, Array.size_extract]
  omega
theorem ins_ris {xs : Array Nat} (hr : Ris xs) {j : Nat} (hj : xs[SetTable.below xs j]? ≠ some j) : Ris (SetTable.insertAt xs (SetTable.below xs j) j) := by
  obtain ⟨h1, h2, h3⟩ := below_at hr j
  generalize SetTable.below xs j = p at *
  have h4 : ∀ i, p ≤ i → i < xs.size → j < xs.getD i 0 := by
    intro i a b
    have hp : p < xs.size := by omega
    have c := h3 p (Nat.le_refl _) hp
    have d : xs.getD p 0 ≠ j := fun e => hj (by rw [getElem?_pos xs p hp]; rw [← e]; simp [Array.getD, hp])
    rcases Nat.lt_or_ge p i with e | e
    · have := hr p i e b; omega
    · have : i = p := by omega
      subst this; omega
  intro i k hik hk
  rw [ins_size h1] at hk
  rw [getD_of, getD_of, ins_at h1, ins_at h1]
  by_cases a : i < p
  · rw [if_pos a]
    by_cases b : k < p
    · rw [if_pos b, ← getD_of, ← getD_of]; exact hr i k hik (by omega)
    · rw [if_neg b]
      by_cases c : k = p
      · rw [if_pos c, ← getD_of]; exact h2 i a
      · rw [if_neg c, ← getD_of, ← getD_of]; exact hr i (k - 1) (by omega) (by omega)
  · rw [if_neg a, if_neg (show ¬ k < p by omega)]
    by_cases c : i = p
    · rw [if_pos c, if_neg (show ¬ k = p by omega), ← getD_of]; exact h4 (k - 1) (by omega) (by omega)
    · rw [if_neg c, if_neg (show ¬ k = p by omega), ← getD_of, ← getD_of]; exact hr (i - 1) (k - 1) (by omega) (by omega)
theorem ris_range (n : Nat) : Ris (Array.range n) := fun i k hik hk => by
  have hk' : k < n := by simpa using hk
  rw [getD_of, getD_of, getElem?_pos _ i (by simp; omega), getElem?_pos _ k hk]
  simpa using hik
theorem ris_nil : Ris #[] := fun i k _ hk => by simp at hk
/-- a table without places given up, whose places rise -/
structure Tb (t : SetTable) : Prop where
  ris : Ris t.place
  dum : t.dummies = #[]
theorem has_nil (j : Nat) : SetTable.has #[] j = false := rfl
theorem probe_free {t : SetTable} (ht : Tb t) (hashAt : Nat → Int) (h : Int) : ∀ (f : Nat) (p : SetTable.Probe) (j : Nat) (d : Option Nat), p.dummy = none → SetTable.probe.go t hashAt h f p = some (.empty j d) → d = none ∧ t.place[SetTable.below t.place j]? ≠ some j
  | 0, p, j, d, _, e => by unfold SetTable.probe.go at e; cases e
  | f + 1, p, j, d, hp, e => by
    unfold SetTable.probe.go at e
    have adv : ∀ q : SetTable.Probe, q.dummy = none → (t.advance q).dummy = none := by
      intro q hq
      unfold SetTable.advance
      split
      · exact hq
      · exact hq
    cases hs : t.slot p.j with
    | empty =>
      rw [hs] at e
      cases e
      refine ⟨hp, fun z => ?_⟩
      unfold SetTable.slot at hs
      dsimp only at hs
      rw [z] at hs
      simp at hs
    | dummy =>
      unfold SetTable.slot at hs
      dsimp only at hs
      rw [ht.dum, has_nil] at hs
      split at hs <;> simp at hs
    | live i =>
      rw [hs] at e
      dsimp only at e
      split at e
      · cases e
      · exact probe_free ht hashAt h f _ j d (adv p hp) e
theorem free_slot {t : SetTable} (ht : Tb t) {h : Int} {j : Nat} {b : Bool} (e : t.freeSlot h = some (j, b)) : t.place[SetTable.below t.place j]? ≠ some j := by
  unfold SetTable.freeSlot at e
  split at e
  · rename_i j' d hp
    obtain ⟨rfl, h2⟩ := probe_free ht _ _ _ _ _ _ rfl hp
    cases e
    exact h2
  · cases e
theorem stand_tb (t : SetTable) (n : Nat) : Tb (t.standIn n) := ⟨ris_range n, rfl⟩
theorem put_tb {t : SetTable} (ht : Tb t) {j : Nat} (hj : t.place[SetTable.below t.place j]? ≠ some j) : Tb (t.put j).1 := by
  refine ⟨ins_ris ht.ris hj, ?_⟩
  show (if SetTable.has t.dummies j then _ else t.dummies) = #[]
  rw [ht.dum, has_nil]
  rfl
theorem lay_tb {t : SetTable} (ht : Tb t) (es : Array (Int × Value)) (h : Int) (x : Value) : Tb (layNew t es h x).2.1 := by
  unfold layNew
  cases e : t.freeSlot h with
  | none => exact stand_tb _ _
  | some z =>
    obtain ⟨j, b⟩ := z
    dsimp only
    unfold SetTable.orStandIn
    split
    · exact put_tb ht (free_slot ht e)
    · exact stand_tb _ _
theorem filt_ris (f : Nat → Option Nat) : ∀ (l : List Nat), l.Pairwise (· < ·) → ((l.filterMap fun j => (f j).map (j, ·)).map (·.1)).Pairwise (· < ·)
  | [], _ => by simp
  | a :: l, h => by
    obtain ⟨h1, h2⟩ := List.pairwise_cons.mp h
    have ih := filt_ris f l h2
    rw [List.filterMap_cons]
    cases hf : f a with
    | none => exact ih
    | some y =>
      show ((a, y) :: _ : List (Nat × Nat)).map (·.1) |>.Pairwise (· < ·)
      rw [List.map_cons]
      refine List.pairwise_cons.mpr ⟨fun z hz => ?_, ih⟩
      obtain ⟨⟨u, v⟩, hu, rfl⟩ := List.mem_map.mp hz
      obtain ⟨w, hw, e⟩ := List.mem_filterMap.mp hu
      cases hfw : f w with
      | none => rw [hfw] at e; cases e
      | some q => rw [hfw] at e; cases e; exact h1 _ hw
theorem ris_list {l : List Nat} (h : l.Pairwise (· < ·)) : Ris l.toArray := by
  intro i k hik hk
  have hk' : k < l.length := by simpa using hk
  have := List.pairwise_iff_getElem.mp h i k (by omega) hk' hik
  rw [getD_of, getD_of]
  simpa [List.getElem?_eq_getElem hk', List.getElem?_eq_getElem (show i < l.length by omega)] using this
theorem relay_tb (t : SetTable) (es : Array (Int × Value)) (n : Nat) : Tb (relayAll t es n).2.1 := by
  unfold relayAll
  cases e : t.relaid (es.map (·.1)) n with
  | none => exact stand_tb _ _
  | some z =>
    obtain ⟨t', order⟩ := z
    dsimp only
    split
    · unfold SetTable.relaid SetTable.laid at e
      simp only [Option.bind_eq_bind, Option.bind_eq_some_iff, Option.pure_def, Option.some.injEq, Prod.mk.injEq] at e
      obtain ⟨ow, _, e1, _⟩ := e
      subst e1
      exact ⟨ris_list (filt_ris _ _ List.pairwise_lt_range), rfl⟩
    · exact stand_tb _ _
end L2
set_option Elab.async false
set_option linter.all false
set_option maxRecDepth 100000
set_option maxHeartbeats 4000000
/-! sets of numbers: made of a list, walked (mkint.py makes this of LayS to LayV) -/
namespace L2
open PySem PySem.Spec PyProof.Rows
def nmOf (e : Int × Value) : Int := numOf e.2
theorem nms_at {vs : List Value} {xs : List Int} (h : IntsAre vs xs) : ∀ (i : Nat) (v : Value), vs[i]? = some v → ∃ x t, xs[i]? = some x ∧ v = .int x t := by
  induction h with
  | nil => intro i v e; simp at e
  | cons x t h ih =>
    intro i v e
    cases i with
    | zero => simp at e; exact ⟨x, t, rfl, e.symm⟩
    | succ i => simp only [List.getElem?_cons_succ] at e ⊢; exact ih i v e
/-- the set at a: its texts in the order of its table -/
structure NmSet (P : Program) (w : World) (h : Heap) (a : Addr) (es : Array (Int × Value)) (ep : Nat) (t : SetTable) : Prop where
  get : h.get? a = some { cls := .type "set", dict := none, data := .set es ep t, slots := #[] }
  els : ElemsOf (PySem.intKind P w) es.toList
  fit : t.fits es.size = true
  bnd : es.size < scanBound
  tb : Tb t
  led : t.led = !byTx w
  nod : (es.toList.map nmOf).Nodup
theorem els_int {P : Program} {w : World} {l : List (Int × Value)} (h : ElemsOf (PySem.intKind P w) l) {e : Int × Value} (m : e ∈ l) : ∃ tk, e = (hashInt (nmOf e), Value.int (nmOf e) tk) := by
  obtain ⟨⟨k, hk, hh⟩, _⟩ := h e m
  obtain ⟨tk, hv⟩ := Value.isInt_shape hk
  obtain ⟨i, v⟩ := e
  simp only at hv hh
  subst hv
  exact ⟨tk, by rw [hh]; rfl⟩
theorem is_nm {P : Program} {w : World} {l : List (Int × Value)} (h : ElemsOf (PySem.intKind P w) l) {e : Int × Value} (m : e ∈ l) (k : Int) : (PySem.intKind P w).is k e.2 = true ↔ nmOf e = k := by
  obtain ⟨tk, he⟩ := els_int h m
  constructor
  · intro hk
    obtain ⟨t', hv⟩ := Value.isInt_shape hk
    unfold nmOf; rw [hv]; rfl
  · intro hk
    rw [he, hk]
    show Value.isInt k (Value.int k tk) = true
    simp [Value.isInt]
section
variable {prog : Program} {w : World} {A : Around} {E : Value → Shared → Prop} {s : Shared}
theorem add_tailI {g : Bool → Sem Unit} (hg : ∀ (b : Bool) (s₁ : Shared) (Q' : Unit → Shared → Prop), Q' () s₁ → wpAny (model prog w) A (g b) Q' E s₁)
    {a : Addr} {es : Array (Int × Value)} {ep : Nat} {t : SetTable} (ho : s.heap.get? a = some { cls := .type "set", dict := none, data := .set es ep t, slots := #[] })
    {e1 : Array (Int × Value)} {t2 : SetTable} (h1 : ElemsOf (PySem.intKind prog w) e1.toList) (h2 : t2.fits e1.size = true) (h3 : e1.size < scanBound) (h4 : Tb t2) (h5 : t2.led = !byTx w) (h6 : (e1.toList.map nmOf).Nodup)
    {wd : Bool} {R : Option Bool → Shared → Prop}
    (h : ∀ h' e2 ep' t', Heap.SameBut a s.heap h' → NmSet prog w h' a e2 ep' t' → List.Perm e2.toList e1.toList → R (some true) { s with heap := h' }) :
    wpAny (model prog w) A (do
        storeSet a e1 t2
        if (!wd && t2.tooFull) = true then do
            g (relayAll t2 e1 (SetTable.grown e1.size)).2.2
            storeSet a (relayAll t2 e1 (SetTable.grown e1.size)).1 (relayAll t2 e1 (SetTable.grown e1.size)).2.1
            pure (some true)
          else pure (some true)) R E s := by
  refine wpAny_bind (wpAny_storeSet_of ho rfl ?_ (fits_of_scanBound h3))
  have g1 := put_get ho e1 t2
  have b1 := Heap.SameBut.update s.heap a (Obj.putSet e1 t2)
  split
  · have hp := relayAll_perm t2 e1 (SetTable.grown e1.size)
    have hf := relayAll_fits t2 e1 (SetTable.grown e1.size)
    have hl := relay_led t2 e1 (SetTable.grown e1.size)
    have hq := relay_tb t2 e1 (SetTable.grown e1.size)
    generalize relayAll t2 e1 (SetTable.grown e1.size) = Z at hp hf hl hq ⊢
    obtain ⟨e2, t3, gv⟩ := Z
    dsimp only at hp hf hl hq ⊢
    have hz : e2.size = e1.size := by rw [← Array.length_toList, hp.length_eq, Array.length_toList]
    have hb : e2.size < scanBound := by rw [hz]; exact h3
    refine wpAny_bind (hg _ _ _ ?_)
    refine wpAny_bind (wpAny_storeSet_of g1 rfl ?_ (fits_of_scanBound hb))
    exact wpAny_pure (h _ e2 _ t3 (b1.trans (Heap.SameBut.update _ a _)) ⟨put_get g1 e2 t3, h1.perm hp, hf, hb, hq, hl.trans h5, (hp.map nmOf).nodup_iff.mpr h6⟩ hp)
  · exact wpAny_pure (h _ e1 _ t2 b1 ⟨g1, h1, h2, h3, h4, h5, h6⟩ (List.Perm.refl _))
theorem add_int {a : Addr} {es : Array (Int × Value)} {ep : Nat} {t : SetTable} {x : Int} {tk : Tok} {Q : Bool → Shared → Prop} (S : NmSet prog w s.heap a es ep t) (hr : es.size + 1 < scanBound)
    (h : ∀ (b : Bool) h' es' ep' t', Heap.SameBut a s.heap h' → NmSet prog w h' a es' ep' t' → (∀ y, y ∈ es'.toList.map nmOf ↔ y ∈ es.toList.map nmOf ∨ y = x) → es'.size ≤ es.size + 1 → Q b { s with heap := h' }) :
    wpAny (model prog w) A (setAddHashed a (.int x tk) (hashInt x)) Q E s := by
  have hk : (PySem.intKind prog w).is x (Value.int x tk) = true := by show Value.isInt x (Value.int x tk) = true; simp [Value.isInt]
  have hsc : (Value.int x tk).scannable = true := rfl
  have e0 : hashInt x = (PySem.intKind prog w).hash x := rfl
  rw [e0]
  unfold setAddHashed setAddHashedIn
  refine wpAny_holding (wpAny_bind (wpAny_setState_of S.get rfl S.fit ?_))
  dsimp only
  rw [byScan_of hsc S.bnd S.els]
  simp only [↓reduceIte]
  unfold setAddByScan
  refine wpAny_bind ?_
  refine wpAny_bind (wpAny_rule ?_)
  refine wpAny_bind (wpAny_setScan_of hk S.get rfl S.fit S.els ?_)
  cases hf : List.findIdx? (fun e => (PySem.intKind prog w).is x e.2) es.toList with
  | some j =>
    dsimp only
    obtain ⟨hj, hp, _⟩ := List.findIdx?_eq_some_iff_getElem.mp hf
    have hm : x ∈ es.toList.map nmOf := List.mem_map.mpr ⟨_, List.getElem_mem hj, (is_nm S.els (List.getElem_mem hj) x).mp hp⟩
    refine wpAny_pure (wpAny_pure ?_)
    have q := h false s.heap es ep t (Heap.SameBut.refl a s.heap) S (fun y => ⟨.inl, fun z => z.elim id fun z => z ▸ hm⟩) (Nat.le_succ _)
    exact q
  | none =>
    dsimp only
    have hn : x ∉ es.toList.map nmOf := fun hm => by
      obtain ⟨e, he, hx⟩ := List.mem_map.mp hm
      have z := List.findIdx?_eq_none_iff.mp hf e he
      rw [(is_nm S.els he x).mpr hx] at z
      cases z
    have hp := layNew_perm t es ((PySem.intKind prog w).hash x) (Value.int x tk)
    have hfi := layNew_fits t es ((PySem.intKind prog w).hash x) (Value.int x tk)
    have hl := lay_led t es ((PySem.intKind prog w).hash x) (Value.int x tk)
    have hpl := lay_tb S.tb es ((PySem.intKind prog w).hash x) (Value.int x tk)
    generalize layNew t es ((PySem.intKind prog w).hash x) (Value.int x tk) = L at hp hfi hl hpl ⊢
    obtain ⟨e1, t1, wd, gv⟩ := L
    dsimp only at hp hfi hl hpl ⊢
    rw [Array.toList_push] at hp
    have h1 : ElemsOf (PySem.intKind prog w) e1.toList := (S.els.push hk hsc).perm hp
    have hz : e1.size = es.size + 1 := by rw [← Array.length_toList, hp.length_eq, List.length_append, Array.length_toList]; rfl
    have hm : List.Perm (e1.toList.map nmOf) (es.toList.map nmOf ++ [x]) := by
      have q := hp.map nmOf
      rw [List.map_append] at q
      exact q
    have h6 : (e1.toList.map nmOf).Nodup := hm.nodup_iff.mpr (by
      rw [List.nodup_append]
      refine ⟨S.nod, by simp, fun y hy z hz => ?_⟩
      rw [List.mem_singleton] at hz
      subst hz
      exact fun e => hn (e ▸ hy))
    have hg : ∀ (b : Bool) (s₁ : Shared) (Q' : Unit → Shared → Prop), Q' () s₁ → wpAny (model prog w) A (match b with | true => rule "set.scan.the-table-gave-way" | false => pure ()) Q' E s₁ :=
      fun b s₁ Q' hq => by cases b <;> first | exact wpAny_pure hq | exact wpAny_rule hq
    have hend : ∀ h' e2 ep' t', Heap.SameBut a s.heap h' → NmSet prog w h' a e2 ep' t' → List.Perm e2.toList e1.toList → Q true { s with heap := h' } := fun h' e2 ep' t' b S' p =>
      h true h' e2 ep' t' b S' (fun y => by rw [((p.map nmOf).trans hm).mem_iff, List.mem_append, List.mem_singleton]) (by rw [← Array.length_toList, p.length_eq, Array.length_toList, hz]; exact Nat.le_refl _)
    refine wpAny_bind (hg gv _ _ ?_)
    split
    · refine wpAny_bind ?_
      rw [hashByValue_scannable 8 hsc]
      refine wpAny_pure ?_
      simp only [plainKind, ↓reduceIte]
      refine add_tailI ?_ S.get h1 hfi (by rw [hz]; exact hr) hpl (hl.trans S.led) h6 ?_
      · intro b s₁ Q' hq; cases b <;> first | exact wpAny_pure hq | exact wpAny_rule hq
      · intro h' e2 ep' t' b S' p; exact wpAny_pure (hend h' e2 ep' t' b S' p)
    · rename_i hpn
      refine wpAny_bind (wpAny_pure ?_)
      simp only [↓reduceIte]
      refine add_tailI ?_ S.get h1 hfi (by rw [hz]; exact hr) hpl (hl.trans S.led) h6 ?_
      · intro b s₁ Q' hq; cases b <;> first | exact wpAny_pure hq | exact wpAny_rule hq
      · intro h' e2 ep' t' b S' p; exact wpAny_pure (hend h' e2 ep' t' b S' p)
end
section
variable {prog : Program} {w : World} {A : Around} {R : Result → Shared → Prop} {I : Addr} {fp wr : List Addr} {G : Array GenState → Array GenState → Prop} {n : Nat} {P : Nat → Value → Prop} {St : Nat → Shared → Prop}
theorem upd_loopI (W : WalksS prog w A.in1 I fp wr G n P St) (a : Addr) (haf : a ∉ fp) (xs : List Int) (hxs : xs.length = n) (hv : ∀ i v, P i v → ∃ x t, xs[i]? = some x ∧ v = .int x t) (hb : n + 1 < scanBound) :
    ∀ (k i : Nat) (s : Shared) (es : Array (Int × Value)) (ep : Nat) (t : SetTable), n - i = k → i ≤ n → St i s → NmSet prog w s.heap a es ep t → (∀ y, y ∈ es.toList.map nmOf ↔ y ∈ xs.take i) → es.size ≤ i →
      (∀ s' es' ep' t', Moved (a :: wr) G s s' → NmSet prog w s'.heap a es' ep' t' → (∀ y, y ∈ es'.toList.map nmOf ↔ y ∈ xs) → R (.ok (.ret .none)) s') →
      codeAny (model prog w) A (.builtin "set.update.loop" ⟨[.ref a, .ref I], []⟩) R s := by
  have haw : a ∉ wr := fun h => haf (W.sub _ h)
  have sub1 : ∀ b ∈ wr, b ∈ a :: wr := fun b hb => List.mem_cons_of_mem _ hb
  intro k
  induction k with
  | zero =>
    intro i s es ep t hk hi hst S hm hz hR
    have e : i = n := by omega
    subst e
    refine codeAny_builtin PyProof.Rows.F.entry_set_update_loop ?_
    rw [Around.under_plainId PyProof.Rows.F.plain_set_update_loop _]
    show wpAny _ A.in1 (pyNext (.ref I) >>= _) _ _ s
    refine wpAny_bind (W.done s _ _ hst fun s' mv => ?_)
    refine wpAny_pure (hR s' es ep t (mv.mono sub1) { S with get := mv.heap a _ haw S.get } fun y => ?_)
    rw [hm y, List.take_of_length_le (by rw [hxs]; exact Nat.le_refl _)]
  | succ k ih =>
    intro i s es ep t hk hi hst S hm hz hR
    have hlt : i < n := by omega
    refine codeAny_builtin PyProof.Rows.F.entry_set_update_loop ?_
    rw [Around.under_plainId PyProof.Rows.F.plain_set_update_loop _]
    show wpAny _ A.in1 (pyNext (.ref I) >>= _) _ _ s
    refine wpAny_bind (W.item i s _ _ hlt hst fun v s' hP hst' mv => ?_)
    obtain ⟨x, tk, hx, rfl⟩ := hv i v hP
    have S' : NmSet prog w s'.heap a es ep t := { S with get := mv.heap a _ haw S.get }
    show wpAny _ A.in1 (holding [Value.int x tk] (setAdd a (.int x tk)) >>= _) _ _ s'
    refine wpAny_bind (wpAny_holding ?_)
    unfold setAdd
    refine wpAny_holding ?_
    refine wpAny_bind ((PySem.intKind prog w).pyHash (k := x) (by show Value.isInt x (Value.int x tk) = true; simp [Value.isInt]) ?_)
    refine add_int (s := { s' with toks := s'.toks + 1 }) S' (by omega) fun b h' es' ep' t' sb S2 hm2 hz2 => ?_
    refine wpAny_pure ⟨plainId_quiet PyProof.Rows.F.plain_set_update_loop _, ih (i + 1) _ es' ep' t' (by omega) hlt (W.frame _ s' _ _ hst' (Nat.le_succ _) fun b hb o e => ?_) S2 (fun y => ?_) (by omega) fun s'' e3 ep3 t3 mv3 S3 hm3 => ?_⟩
    · rw [sb.2 b (fun h : b = a => haf (by rw [← h]; exact hb))]; exact e
    · rw [hm2 y, hm y, List.take_add_one, hx, List.mem_append]
      simp
    · refine hR s'' e3 ep3 t3 (Moved.trans W.gtrans ((mv.mono sub1).then_heap (Nat.le_succ _) fun b o hb e => ?_) mv3) S3 hm3
      rw [sb.2 b (fun h : b = a => hb (by rw [h]; exact List.mem_cons_self))]; exact e
end
section
variable {prog : Program} {w : World} {A : Around} {E : Value → Shared → Prop} {s : Shared}
theorem call_set_nums {l : Addr} {items : Array Value} {xs : List Int} {Q : Value → Shared → Prop} (hh : A.handled = none) (hl : s.heap.IsList l items) (hi : IntsAre items.toList xs) (hb : items.size + 1 < scanBound)
    (h : ∀ (h' : Heap) (tk : Nat) es ep t, NmSet prog w h' s.heap.objs.size es ep t → (∀ y, y ∈ es.toList.map nmOf ↔ y ∈ xs) →
      (∀ b o, s.heap.get? b = some o → h'.get? b = some o) → Q (.ref s.heap.objs.size) { s with heap := h', toks := tk }) :
    wpAny (model prog w) A (call (.type "set") [.ref l]) Q E s := by
  obtain ⟨c, tl, hmro⟩ := F.called_set.mro
  have hmade := F.called_set.made
  have hsub := F.called_set.sub
  refine wpAny_call (codeAny_of_tree ?_)
  show wpAny _ _ (callAny (.type "set") _) _ _ _
  refine wpAny_pure ⟨Code.quiet_builtin _ (by decide +kernel), codeAny_builtin F.entry_type_call ?_⟩
  rw [Around.under_plain (weight_type_call_type "set" [.ref l] []) rfl]
  have h1 := F.called_set.notType
  have h2 := F.called_set.canCreate
  have hct := F.typeCall_set_1 (.ref l)
  repeat (any_goals (first | assumption | wp_step))
  refine codeAny_mono (new_set (.ref l) (E := E) (Q₁ := fun obj s₁ => obj = .ref s.heap.objs.size ∧ s₁ = { s with heap := s.heap.push (freshSet w) }) ⟨rfl, rfl⟩) fun r s₁ hr => ?_
  cases r with
  | error e => exact hr
  | ok fl =>
    cases fl with
    | ret obj =>
      obtain ⟨rfl, rfl⟩ := hr
      have hS : (s.heap.push (freshSet w)).get? s.heap.objs.size = some (freshSet w) := Heap.get?_push_size _ rfl
      have hT : Shared.TypeIs { s with heap := s.heap.push (freshSet w) } (.ref s.heap.objs.size) "set" := ⟨_, hS, rfl⟩
      have hli := F.called_set.init.lookup
      have hbi := F.called_set.init.bind (.ref s.heap.objs.size)
      repeat (any_goals (first | assumption | wp_step))
      refine codeAny_mono (codeAny_call_builtin (R := wants (fun r s₂ => r = .none ∧ ∃ h' tk, s₂ = { s with heap := h', toks := tk } ∧ ∃ es ep t, NmSet prog w h' s.heap.objs.size es ep t ∧ (∀ y, y ∈ es.toList.map nmOf ↔ y ∈ xs) ∧
          (∀ b o, s.heap.get? b = some o → h'.get? b = some o)) E) F.called_set.init.plain F.entry_set_init (check_set_init_1 hT ?_)) fun r₂ s₂ hr₂ => ?_
      · obtain ⟨ol, hol, hcl, nl, hdl⟩ := hl
        obtain ⟨ocls, odict, odata, oslots⟩ := ol
        simp only at hcl hdl
        subst hcl; subst hdl
        have hol' : (s.heap.push (freshSet w)).get? l = some { cls := .type "list", dict := odict, data := .seq items nl, slots := oslots } := Heap.get?_push_of_some _ hol
        have hsls := F.sub_list_set
        have hslf := F.sub_list_frozenset
        have hne : (Value.type "list" == Value.type "dict") = false := by decide
        have hl1 : (s.heap.push (freshSet w)).IsList l items := ⟨_, hol', rfl, nl, rfl⟩
        unfold Builtin.«set.__init__» noKeywords Builtin.Frozenset.updateFrom
        generalize hPI : pyIter = PI
        wp_walk
        subst hPI
        refine wpAny_pyIter_list hl1 ?_
        refine wpAny_bind (wpAny_runValue ?_)
        have hlS : l < s.heap.objs.size := Heap.lt_size hol
        have hh3 : A.in1.in1.in1.handled = none := by simp [hh]
        have hz : (s.heap.push (freshSet w)).objs.size = s.heap.objs.size + 1 := size_push' _ _
        have hneI : l ≠ (s.heap.push (freshSet w)).objs.size := by rw [hz]; exact Nat.ne_of_lt (Nat.lt_succ_of_lt hlS)
        have hSf : s.heap.objs.size ∉ [(s.heap.push (freshSet w)).objs.size, l] := by
          rw [hz]; simp only [List.mem_cons, List.mem_singleton, List.not_mem_nil, or_false, not_or]
          exact ⟨Nat.ne_of_lt (Nat.lt_succ_self _), Nat.ne_of_gt hlS⟩
        have hget : ((s.heap.push (freshSet w)).push { cls := .type "list_iterator", data := .fields #[.ref l, .int 0 0] }).get? s.heap.objs.size = some (freshSet w) := Heap.get?_push_of_some _ hS
        refine upd_loopI ((Walks.list hh3 _ l hneI items).toS) s.heap.objs.size hSf xs (by rw [← ints_len hi]; simp) (fun i v hv => nms_at hi i v (by rw [Array.getElem?_toList]; exact hv)) hb (items.size - 0) 0 _ #[] 0 (.fresh 0 0 (!byTx w)) (by omega) (Nat.zero_le _)
          ⟨⟨_, Heap.get?_push_size _ rfl, rfl, rfl⟩, (hl1.push _)⟩ ⟨hget, fun e he => by simp at he, by rfl, by decide, ⟨ris_nil, rfl⟩, rfl, by simp⟩ (fun y => by simp) (by simp) ?hR
        intro s' es' ep' t' hm S' hm'
        obtain ⟨h', g', d', tk', os'⟩ := s'
        have eg : g' = s.gens := hm.gens
        have ed : d' = s.drawn := hm.drawn
        have eo : os' = s.os := hm.os
        subst eg; subst ed; subst eo
        show wpAny _ _ _ _ _ _
        refine wpAny_pure ?_
        show wpAny _ _ (ret Value.none) _ _ _
        refine wpAny_pure ⟨rfl, h', tk', rfl, es', ep', t', S', hm', fun b o e => ?_⟩
        have hb0 := Heap.lt_size e
        exact hm.heap b o (by simp only [List.mem_cons, List.mem_singleton, List.not_mem_nil, or_false, not_or]; exact ⟨Nat.ne_of_lt hb0, by rw [hz]; exact Nat.ne_of_lt (Nat.lt_succ_of_lt hb0)⟩) (Heap.get?_push_of_some _ (Heap.get?_push_of_some _ e))
      · cases r₂ with
        | error e => exact hr₂
        | ok fl₂ =>
          cases fl₂ with
          | ret r =>
            obtain ⟨rfl, h', tk, rfl, es', ep', t', S', hm', hk'⟩ := hr₂
            repeat (any_goals (first | assumption | wp_step))
            exact h _ _ _ _ _ S' hm' hk'
          | _ => exact hr₂.elim
    | _ => exact hr.elim
theorem ny_int {I a : Addr} {es : Array (Int × Value)} {ep sl i : Nat} {t : SetTable} {v : Value} {nx : Nat} {Q : Option Value → Shared → Prop} (hI : s.heap.get? I = some (itO (.int sl 0) i a es.size ep)) (S : NmSet prog w s.heap a es ep t)
    (hn : ∀ (A : Around) (E : Value → Shared → Prop) (Q : Option (Value × Nat) → Shared → Prop), Q (some (v, nx)) s → wpAny (model prog w) A (setNext a sl i ep) Q E s)
    (h : ∀ h', h'.get? I = some (itO (.int nx 0) (i + 1) a es.size ep) → Heap.SameBut I s.heap h' → Q (some v) { s with heap := h' }) : wpAny (model prog w) A (pyNext (.ref I)) Q E s := by
  have hT : s.TypeIs (.ref I) "set_iterator" := ⟨_, hI, rfl⟩
  unfold pyNext
  refine wpAny_bind (wpAny_attempt (wpAny_callSpecial?_slot (name := Str.ofString "__next__") hT sit_next (wpAny_call_entry sit_next hT sit_next_e ?_ (sit_next_a _))))
  show wpAny _ _ (fieldsOf (.ref I) >>= _) _ _ s
  refine wpAny_bind (wpAny_fieldsOf hI rfl ?_)
  dsimp only
  refine wpAny_bind (wpAny_setEntries_of S.get rfl S.fit ?_)
  rw [if_neg (by simp)]
  show wpAny _ _ (setNext a (Int.toNat sl) (Int.toNat i) (Int.toNat ep) >>= _) _ _ s
  simp only [Int.toNat_natCast]
  refine wpAny_bind (hn _ _ _ ?_)
  dsimp only
  refine wpAny_bind (wpAny_setField_rec hI (by simp) fun h1 g1 b1 => ?_)
  refine wpAny_bind (wpAny_setField_rec g1 (by simp) fun h2 g2 b2 => ?_)
  refine wpAny_pure ⟨_, rfl, wpAny_pure (h h2 ?_ (b1.trans b2))⟩
  rw [g2]
  simp [rawInt, itO]
theorem ny_end {I a : Addr} {es : Array (Int × Value)} {ep sl i : Nat} {t : SetTable} {Q : Option Value → Shared → Prop} (hh : A.handled = none) (hI : s.heap.get? I = some (itO (.int sl 0) i a es.size ep)) (S : NmSet prog w s.heap a es ep t)
    (hn : ∀ (A : Around) (E : Value → Shared → Prop) (Q : Option (Value × Nat) → Shared → Prop), Q none s → wpAny (model prog w) A (setNext a sl i ep) Q E s)
    (h : ∀ h', (∀ b o, b ≠ I → s.heap.get? b = some o → h'.get? b = some o) → Q none { s with heap := h' }) : wpAny (model prog w) A (pyNext (.ref I)) Q E s := by
  have hT : s.TypeIs (.ref I) "set_iterator" := ⟨_, hI, rfl⟩
  unfold pyNext
  refine wpAny_bind (wpAny_attempt (wpAny_callSpecial?_slot (name := Str.ofString "__next__") hT sit_next (wpAny_call_entry sit_next hT sit_next_e ?_ (sit_next_a _))))
  show wpAny _ _ (fieldsOf (.ref I) >>= _) _ _ s
  refine wpAny_bind (wpAny_fieldsOf hI rfl ?_)
  dsimp only
  refine wpAny_bind (wpAny_setEntries_of S.get rfl S.fit ?_)
  rw [if_neg (by simp)]
  show wpAny _ _ (setNext a (Int.toNat sl) (Int.toNat i) (Int.toNat ep) >>= _) _ _ s
  simp only [Int.toNat_natCast]
  refine wpAny_bind (hn _ _ _ ?_)
  dsimp only
  refine wpAny_bind (wpAny_setField_rec hI (by simp) fun h1 g1 b1 => ?_)
  refine stop_new (A := A.in1) hh fun h2 e k ⟨o, ho, hc⟩ => ?_
  refine wpAny_bind (wpAny_isInstance (T := "StopIteration") (b := true) ⟨o, ho, hc⟩ isSubtype_stop ?_)
  exact wpAny_pure (h h2 fun b o hb q => k b o (by rw [b1.2 b hb]; exact q))
theorem ny_ref {I a T : Addr} {es : Array (Int × Value)} {ep i p : Nat} {t : SetTable} {pl : Array Value} {ct : Nat} {e : Int × Value} {Q : Option Value → Shared → Prop} (hI : s.heap.get? I = some (itO (.ref T) i a es.size ep)) (S : NmSet prog w s.heap a es ep t)
    (hT' : s.heap.get? T = some { cls := .type "tuple", data := .seq pl ct }) (hp : pl[i]? = some (.int p 0)) (he : es[p]? = some e)
    (h : ∀ h', h'.get? I = some (itO (.ref T) (i + 1) a es.size ep) → Heap.SameBut I s.heap h' → Q (some e.2) { s with heap := h' }) : wpAny (model prog w) A (pyNext (.ref I)) Q E s := by
  have hT : s.TypeIs (.ref I) "set_iterator" := ⟨_, hI, rfl⟩
  unfold pyNext
  refine wpAny_bind (wpAny_attempt (wpAny_callSpecial?_slot (name := Str.ofString "__next__") hT sit_next (wpAny_call_entry sit_next hT sit_next_e ?_ (sit_next_a _))))
  show wpAny _ _ (fieldsOf (.ref I) >>= _) _ _ s
  refine wpAny_bind (wpAny_fieldsOf hI rfl ?_)
  dsimp only
  refine wpAny_bind (wpAny_setEntries_of S.get rfl S.fit ?_)
  rw [if_neg (by simp)]
  refine wpAny_bind (wpAny_seqItems hT' rfl ?_)
  dsimp only
  simp only [Int.toNat_natCast, hp]
  unfold setNextDrawn
  refine wpAny_bind (wpAny_bind (wpAny_setState_of S.get rfl S.fit ?_))
  dsimp only
  rw [if_neg (by simp)]
  simp only [he]
  refine wpAny_pure ?_
  refine wpAny_bind (wpAny_setField_rec hI (by simp) fun h1 g1 b1 => ?_)
  refine wpAny_pure ⟨_, rfl, wpAny_pure (h h1 ?_ b1)⟩
  rw [g1]
  simp [rawInt, itO]
theorem ny_ref_end {I a T : Addr} {es : Array (Int × Value)} {ep i : Nat} {t : SetTable} {pl : Array Value} {ct : Nat} {Q : Option Value → Shared → Prop} (hh : A.handled = none) (hI : s.heap.get? I = some (itO (.ref T) i a es.size ep)) (S : NmSet prog w s.heap a es ep t)
    (hT' : s.heap.get? T = some { cls := .type "tuple", data := .seq pl ct }) (hp : pl[i]? = none)
    (h : ∀ h', (∀ b o, b ≠ I → s.heap.get? b = some o → h'.get? b = some o) → Q none { s with heap := h' }) : wpAny (model prog w) A (pyNext (.ref I)) Q E s := by
  have hT : s.TypeIs (.ref I) "set_iterator" := ⟨_, hI, rfl⟩
  unfold pyNext
  refine wpAny_bind (wpAny_attempt (wpAny_callSpecial?_slot (name := Str.ofString "__next__") hT sit_next (wpAny_call_entry sit_next hT sit_next_e ?_ (sit_next_a _))))
  show wpAny _ _ (fieldsOf (.ref I) >>= _) _ _ s
  refine wpAny_bind (wpAny_fieldsOf hI rfl ?_)
  dsimp only
  refine wpAny_bind (wpAny_setEntries_of S.get rfl S.fit ?_)
  rw [if_neg (by simp)]
  refine wpAny_bind (wpAny_seqItems hT' rfl ?_)
  dsimp only
  simp only [Int.toNat_natCast, hp]
  refine wpAny_bind (wpAny_setField_rec hI (by simp) fun h1 g1 b1 => ?_)
  refine wpAny_bind (wpAny_setField_rec g1 (by simp) fun h2 g2 b2 => ?_)
  refine stop_new (A := A.in1) hh fun h3 e k ⟨o, ho, hc⟩ => ?_
  refine wpAny_bind (wpAny_isInstance (T := "StopIteration") (b := true) ⟨o, ho, hc⟩ isSubtype_stop ?_)
  exact wpAny_pure (h h3 fun b o hb q => k b o (by rw [b2.2 b hb, b1.2 b hb]; exact q))
theorem next_nx {a : Addr} {es : Array (Int × Value)} {ep sl i : Nat} {t : SetTable} {Q : Option (Value × Nat) → Shared → Prop} (S : NmSet prog w s.heap a es ep t) (hb : byTx w = true)
    (h : Q (((pickOrder (w.params.setOrder a ep) es)[i]?).map fun e => (e.2, sl)) s) : wpAny (model prog w) A (setNext a sl i ep) Q E s := by
  unfold setNext
  refine wpAny_bind (wpAny_setState_of S.get rfl S.fit ?_)
  dsimp only
  refine wpAny_bind (by_tx ?_)
  rw [hb]
  simp only [↓reduceIte]
  rw [if_neg (by simp)]
  refine wpAny_bind (m := setWalk a) ?_
  unfold setWalk
  refine wpAny_bind (wpAny_setState_of S.get rfl S.fit ?_)
  dsimp only
  refine wpAny_bind (by_tx ?_)
  rw [hb]
  simp only [↓reduceIte]
  exact wpAny_bind (wpAny_askSetting (wpAny_pure (wpAny_pure h)))
theorem next_pl {a : Addr} {es : Array (Int × Value)} {ep sl i : Nat} {t : SetTable} {Q : Option (Value × Nat) → Shared → Prop} (S : NmSet prog w s.heap a es ep t) (hb : byTx w = false) (hd : (!t.plain && decide (es.size > 1)) = false)
    (h : Q (match es[SetTable.below t.place sl]?, t.place[SetTable.below t.place sl]? with | some (_, x), some j => some (x, j + 1) | _, _ => none) s) : wpAny (model prog w) A (setNext a sl i ep) Q E s := by
  unfold setNext
  refine wpAny_bind (wpAny_setState_of S.get rfl S.fit ?_)
  dsimp only
  refine wpAny_bind (by_tx ?_)
  rw [hb]
  simp only [Bool.false_eq_true, ↓reduceIte]
  have hl : t.led = true := by rw [S.led, hb]; rfl
  show wpAny _ _ (if (!t.plain && decide (es.size > 1)) = true then _ else _) _ _ _
  rw [hd]
  simp only [Bool.false_eq_true, ↓reduceIte]
  show wpAny _ _ ((if (!t.led && !es.isEmpty) = true then _ else _) >>= _) _ _ _
  rw [hl]
  simp only [Bool.not_true, Bool.false_and, Bool.false_eq_true, ↓reduceIte]
  exact wpAny_bind (wpAny_pure (wpAny_pure h))
theorem walk_nx {I a : Addr} {es : Array (Int × Value)} {ep : Nat} {t : SetTable} (hh : A.handled = none) (hne : a ≠ I) (hb : byTx w = true) :
    Walks prog w A I [I, a] [I] (pickOrder (w.params.setOrder a ep) es).toList.length (PW2 (pickOrder (w.params.setOrder a ep) es).toList)
      (fun i h => h.get? I = some (itO (.int (0 : Nat) 0) i a es.size ep) ∧ NmSet prog w h a es ep t) where
  sub := fun b hb => by simp at hb; simp [hb]
  frame := fun _ _ _ st hk => ⟨hk I (by simp) _ st.1, { st.2 with get := hk a (by simp) _ st.2.get }⟩
  item := fun i s Q E hi st hQ => by
    have he : (pickOrder (w.params.setOrder a ep) es)[i]? = some (pickOrder (w.params.setOrder a ep) es).toList[i] := by rw [← Array.getElem?_toList]; exact List.getElem?_eq_getElem hi
    refine ny_int (nx := 0) (v := (pickOrder (w.params.setOrder a ep) es).toList[i].2) st.1 st.2 (fun A' E' Q' hq => next_nx st.2 hb (by rw [he]; exact hq)) fun h' g b => ?_
    exact hQ _ h' s.toks ⟨_, List.getElem?_eq_getElem hi, rfl⟩ ⟨g, { st.2 with get := by rw [b.2 a hne]; exact st.2.get }⟩ fun c o hc e => by rw [b.2 c (fun z => hc (by simp [z]))]; exact e
  done := fun s Q E st hQ => by
    refine ny_end hh st.1 st.2 (fun A' E' Q' hq => next_nx st.2 hb (by rw [Array.getElem?_eq_none (by simp)]; exact hq)) fun h' k => ?_
    exact hQ h' s.toks fun c o hc e => k c o (fun z => hc (by simp [z])) e
  self := fun _ _ _ _ st hQ => sit_self st.1 hQ
theorem walk_nd {I a T : Addr} {es : Array (Int × Value)} {ep ct : Nat} {t : SetTable} {ps : List Nat} (hh : A.handled = none) (hne : a ≠ I) (hnT : T ≠ I) (hps : ∀ p ∈ ps, p < es.size) :
    Walks prog w A I [I, a, T] [I] (ps.filterMap (es[·]?)).length (PW2 (ps.filterMap (es[·]?)))
      (fun i h => h.get? I = some (itO (.ref T) i a es.size ep) ∧ NmSet prog w h a es ep t ∧ h.get? T = some { cls := .type "tuple", data := .seq (ps.map fun (i : Nat) => rawInt i).toArray ct }) := by
  have hm : ps.filterMap (es[·]?) = ps.map fun p => es.getD p default := by
    clear hnT
    induction ps with
    | nil => rfl
    | cons p r ih =>
      have h1 := hps p (by simp)
      rw [List.filterMap_cons, Array.getElem?_eq_getElem h1, List.map_cons, ih fun q hq => hps q (List.mem_cons_of_mem _ hq)]
      simp [Array.getD, h1]
  have at' : ∀ (i : Nat) (p : Nat), ps[i]? = some p → (ps.filterMap (es[·]?))[i]? = es[p]? := fun i p e => by
    have h1 := hps p (List.mem_of_getElem? e)
    rw [hm, List.getElem?_map, e, Array.getElem?_eq_getElem h1]
    simp [Array.getD, h1]
  have ln : (ps.filterMap (es[·]?)).length = ps.length := by rw [hm, List.length_map]
  refine ⟨fun b hb => by simp at hb; simp [hb], fun _ _ _ st hk => ⟨hk I (by simp) _ st.1, { st.2.1 with get := hk a (by simp) _ st.2.1.get }, hk T (by simp) _ st.2.2⟩, fun i s Q E hi st hQ => ?_, fun s Q E st hQ => ?_, fun _ _ _ _ st hQ => sit_self st.1 hQ⟩
  · rw [ln] at hi
    have hp : ps[i]? = some ps[i] := List.getElem?_eq_getElem hi
    have h1 := hps ps[i] (List.getElem_mem hi)
    refine ny_ref (p := ps[i]) (e := es[ps[i]]) st.1 st.2.1 st.2.2 (by rw [List.getElem?_toArray, List.getElem?_map, hp]; rfl) (Array.getElem?_eq_getElem h1) fun h' g b => ?_
    exact hQ _ h' s.toks ⟨_, by rw [at' i _ hp]; exact Array.getElem?_eq_getElem h1, rfl⟩ ⟨g, { st.2.1 with get := by rw [b.2 a hne]; exact st.2.1.get }, by rw [b.2 T hnT]; exact st.2.2⟩ fun c o hc e => by rw [b.2 c (fun z => hc (by simp [z]))]; exact e
  · refine ny_ref_end hh st.1 st.2.1 st.2.2 (by rw [List.getElem?_toArray, List.getElem?_map, List.getElem?_eq_none (by rw [ln]; exact Nat.le_refl _)]; rfl) fun h' k => ?_
    exact hQ h' s.toks fun c o hc e => k c o (fun z => hc (by simp [z])) e
theorem walk_pl {I a : Addr} {es : Array (Int × Value)} {ep : Nat} {t : SetTable} (hh : A.handled = none) (hne : a ≠ I) (hb : byTx w = false) (hd : (!t.plain && decide (es.size > 1)) = false) :
    Walks prog w A I [I, a] [I] es.toList.length (PW2 es.toList)
      (fun i h => (∃ sl : Nat, h.get? I = some (itO (.int sl 0) i a es.size ep) ∧ SetTable.below t.place sl = i) ∧ NmSet prog w h a es ep t) := by
  refine ⟨fun b hb => by simp at hb; simp [hb], fun _ _ _ st hk => ⟨?_, { st.2 with get := hk a (by simp) _ st.2.get }⟩, fun i s Q E hi st hQ => ?_, fun s Q E st hQ => ?_, fun _ _ _ _ st hQ => ?_⟩
  · obtain ⟨⟨sl, g, e⟩, S⟩ := st
    exact ⟨sl, hk I (by simp) _ g, e⟩
  · obtain ⟨⟨sl, g, e⟩, S⟩ := st
    have hs : t.place.size = es.size := by
      have := S.fit
      simp only [SetTable.fits, Bool.and_eq_true, beq_iff_eq] at this
      exact this.1
    have hi' : i < es.size := by simpa using hi
    have hi2 : i < t.place.size := by omega
    have ek : t.place[i]? = some (t.place.getD i 0) := by rw [getElem?_pos _ i hi2]; simp [Array.getD, hi2]
    refine ny_int (nx := t.place.getD i 0 + 1) (v := es[i].2) g S (fun A' E' Q' hq => next_pl S hb hd ?_) fun h' g' b => ?_
    · rw [e, ek, Array.getElem?_eq_getElem hi']
      exact hq
    · refine hQ _ h' s.toks ⟨es[i], by simp [hi'], rfl⟩ ⟨⟨_, g', below_next S.tb.ris hi2⟩, { S with get := by rw [b.2 a hne]; exact S.get }⟩ fun c o hc e => by rw [b.2 c (fun z => hc (by simp [z]))]; exact e
  · obtain ⟨⟨sl, g, e⟩, S⟩ := st
    refine ny_end hh g S (fun A' E' Q' hq => next_pl S hb hd ?_) fun h' k => ?_
    · rw [e, Array.getElem?_eq_none (by simp)]
      exact hq
    · exact hQ h' s.toks fun c o hc e => k c o (fun z => hc (by simp [z])) e
  · obtain ⟨⟨sl, g, e⟩, S⟩ := st
    exact sit_self g hQ
/-- iter of a set of texts: they come in some order -/
theorem iter_nums {a : Addr} {es : Array (Int × Value)} {ep : Nat} {t : SetTable} {Q : Value → Shared → Prop} (hh : A.handled = none) (S : NmSet prog w s.heap a es ep t)
    (h : ∀ (h' : Heap) (d' : Drawn) (ys : List (Int × Value)) (I : Addr) (fp : List Addr) (St : Nat → Heap → Prop), (∀ b o, s.heap.get? b = some o → h'.get? b = some o) → ys.Perm es.toList → Walks prog w A I fp [I] ys.length (PW2 ys) St → St 0 h' →
      s.heap.objs.size ≤ I → (∀ b ∈ fp, b = a ∨ s.heap.objs.size ≤ b) → (∀ b ∈ fp, b < h'.objs.size) → Q (.ref I) { s with heap := h', drawn := d' }) :
    wpAny (model prog w) A (pyIter (.ref a)) Q E s := by
  have hT : s.TypeIs (.ref a) "set" := ⟨_, S.get, rfl⟩
  have hlt : a < s.heap.objs.size := Heap.lt_size S.get
  refine wpAny_pyIter_slot hT F.slot_set_iter (wpAny_call_entry F.slot_set_iter hT set_iter_e ?_ (F.args_set_iter_1 _))
  unfold Builtin.«frozenset.__iter__» Builtin.Frozenset.slot0 slotArgs
  simp only [List.isEmpty_nil, Bool.not_true, Bool.false_eq_true, ↓reduceIte, bind_assoc, List.length_nil, bne_self_eq_false]
  unfold Builtin.Frozenset.addrOf Builtin.Frozenset.sizeOf
  refine wpAny_bind (wpAny_pure ?_)
  try dsimp only
  refine wpAny_bind (wpAny_pure ?_)
  refine wpAny_bind (wpAny_bind (wpAny_setEntries_of S.get rfl S.fit (wpAny_pure ?_)))
  refine wpAny_bind (m := setDrawn a) ?_
  unfold setDrawn
  refine wpAny_bind (wpAny_setState_of S.get rfl S.fit ?_)
  dsimp only
  refine wpAny_bind (by_tx ?_)
  refine wpAny_pure ?_
  cases hb : byTx w with
  | true =>
    simp only [Bool.not_true, Bool.false_and, Bool.false_eq_true, ↓reduceIte]
    refine wpAny_bind (wpAny_pure ?_)
    refine wpAny_bind (wpAny_setEpoch_of S.get rfl S.fit ?_)
    refine wpAny_bind (wpAny_newObj_type (wpAny_pure ⟨_, rfl, "set_iterator", _, ⟨_, Heap.get?_push_size _ rfl, rfl⟩, sit_next.lookup, ?_⟩))
    refine h _ s.drawn (pickOrder (w.params.setOrder a ep) es).toList s.heap.objs.size [s.heap.objs.size, a] _ (fun b o e => Heap.get?_push_of_some _ e) (pick_perm _ _) (walk_nx hh (Nat.ne_of_lt hlt) hb) ⟨Heap.get?_push_size _ rfl, { S with get := Heap.get?_push_of_some _ S.get }⟩ (Nat.le_refl _) (fun b hb => ?_) fun b hb => ?_
    · simp at hb; rcases hb with rfl | rfl
      · exact .inr (Nat.le_refl _)
      · exact .inl rfl
    · rw [size_push']; simp at hb; rcases hb with rfl | rfl
      · exact Nat.lt_succ_self _
      · exact Nat.lt_succ_of_lt hlt
  | false =>
    simp only [Bool.not_false, Bool.true_and]
    cases hdr : (!t.plain && decide (es.size > 1)) with
    | true =>
      have hd : es.size > 1 := by
        simp only [Bool.and_eq_true, decide_eq_true_eq] at hdr
        exact hdr.2
      show wpAny _ _ (if (!t.plain && decide (es.size > 1)) = true then _ else _) _ _ _
      rw [hdr]
      simp only [↓reduceIte]
      refine wpAny_bind (draw_ok es.size (List.range es.size) _ _ (by simp) fun ps d' q => ?_)
      have hps : ∀ p ∈ ps, p < es.size := fun p hp => by simpa using q.mem_iff.mp hp
      refine wpAny_bind (wpAny_newTuple ?_ (by
        rw [List.length_map, q.length_eq, List.length_range]
        exact fits_of_scanBound S.bnd))
      refine wpAny_bind (wpAny_setEpoch_of (Heap.get?_push_of_some _ S.get) rfl S.fit ?_)
      refine wpAny_bind (wpAny_newObj_type (wpAny_pure ⟨_, rfl, "set_iterator", _, ⟨_, Heap.get?_push_size _ rfl, rfl⟩, sit_next.lookup, ?_⟩))
      have hz : ∀ o, (s.heap.push o).objs.size = s.heap.objs.size + 1 := fun o => size_push' _ _
      refine h _ d' (ps.filterMap (es[·]?)) _ [_, a, s.heap.objs.size] _ (fun b o e => Heap.get?_push_of_some _ (Heap.get?_push_of_some _ e)) ?_ (walk_nd (ep := ep) (t := t) (ct := 0) hh ?_ ?_ hps) ⟨Heap.get?_push_size _ rfl, { S with get := Heap.get?_push_of_some _ (Heap.get?_push_of_some _ S.get) }, Heap.get?_push_of_some _ (Heap.get?_push_size _ rfl)⟩ ?_ (fun b hb => ?_) fun b hb => ?_
      · exact (q.filterMap _).trans (by rw [filterMap_getElem?_range])
      · rw [hz]; exact Nat.ne_of_lt (Nat.lt_succ_of_lt hlt)
      · rw [hz]; exact Nat.ne_of_lt (Nat.lt_succ_self _)
      · rw [hz]; exact Nat.le_succ _
      · rw [hz] at hb; simp at hb; rcases hb with rfl | rfl | rfl
        · exact .inr (Nat.le_succ _)
        · exact .inl rfl
        · exact .inr (Nat.le_refl _)
      · rw [size_push', hz]; rw [hz] at hb; simp at hb; rcases hb with rfl | rfl | rfl
        · exact Nat.lt_succ_self _
        · exact Nat.lt_succ_of_lt (Nat.lt_succ_of_lt hlt)
        · exact Nat.lt_succ_of_lt (Nat.lt_succ_self _)
    | false =>
      show wpAny _ _ (if (!t.plain && decide (es.size > 1)) = true then _ else _) _ _ _
      rw [hdr]
      simp only [Bool.false_eq_true, ↓reduceIte]
      refine wpAny_bind (wpAny_pure ?_)
      refine wpAny_bind (wpAny_setEpoch_of S.get rfl S.fit ?_)
      refine wpAny_bind (wpAny_newObj_type (wpAny_pure ⟨_, rfl, "set_iterator", _, ⟨_, Heap.get?_push_size _ rfl, rfl⟩, sit_next.lookup, ?_⟩))
      have hb0 : SetTable.below t.place 0 = 0 := below_zero S.tb.ris
      refine h _ s.drawn es.toList s.heap.objs.size [s.heap.objs.size, a] _ (fun b o e => Heap.get?_push_of_some _ e) (List.Perm.refl _) (walk_pl (ep := ep) (t := t) hh (Nat.ne_of_lt hlt) hb hdr) ⟨⟨0, Heap.get?_push_size _ rfl, hb0⟩, { S with get := Heap.get?_push_of_some _ S.get }⟩ (Nat.le_refl _) (fun b hb => ?_) fun b hb => ?_
      · simp at hb; rcases hb with rfl | rfl
        · exact .inr (Nat.le_refl _)
        · exact .inl rfl
      · rw [size_push']; simp at hb; rcases hb with rfl | rfl
        · exact Nat.lt_succ_self _
        · exact Nat.lt_succ_of_lt hlt
theorem ints_of_walk {ys : List (Int × Value)} {P : Program} {es : List (Int × Value)} (he : ElemsOf (PySem.intKind P w) es) (hp : ys.Perm es) {acc : Array Value} (h : ItemsOf (PW2 ys) acc ys.length) : IntsAre acc.toList (ys.map nmOf) := by
  have e : acc.toList = ys.map (·.2) := by
    apply List.ext_getElem?
    intro j
    rw [Array.getElem?_toList, List.getElem?_map]
    rcases Nat.lt_or_ge j ys.length with hj | hj
    · have hj' : j < acc.size := by rw [h.1]; exact hj
      obtain ⟨e, h1, h2⟩ := h.2 j acc[j] (Array.getElem?_eq_getElem hj')
      rw [Array.getElem?_eq_getElem hj', h1, h2]; rfl
    · rw [Array.getElem?_eq_none (by rw [h.1]; exact hj), List.getElem?_eq_none hj]; rfl
  rw [e]
  have h2 : ∀ e ∈ ys, ∃ tk, e.2 = Value.int (nmOf e) tk := fun e he' => by
    obtain ⟨tk, q⟩ := els_int he (hp.mem_iff.mp he')
    exact ⟨tk, by rw [q]; rfl⟩
  clear h hp e
  induction ys with
  | nil => exact .nil
  | cons y r ih =>
    obtain ⟨tk, q⟩ := h2 y (by simp)
    rw [List.map_cons, List.map_cons, q]
    exact .cons _ tk (ih fun e he => h2 e (List.mem_cons_of_mem _ he))
theorem coll_nums {a : Addr} {es : Array (Int × Value)} {ep : Nat} {t : SetTable} {R : List Value → Shared → Prop} (hh : A.handled = none) (S : NmSet prog w s.heap a es ep t)
    (h : ∀ (h' : Heap) (d' : Drawn) (tk : Nat) (vs : List Value) (xs : List Int), (∀ b o, s.heap.get? b = some o → h'.get? b = some o) → IntsAre vs xs → xs.Perm (es.toList.map nmOf) → R vs { s with heap := h', drawn := d', toks := tk }) :
    wpAny (model prog w) A (collect (.ref a)) R E s := by
  have hlt : a < s.heap.objs.size := Heap.lt_size S.get
  unfold collect
  refine wpAny_bind (wpAny_runValue (codeAny_builtin entry_proto_collect' ?_))
  rw [Around.under_plainId PySem.F.plain_proto_collect _]
  show wpAny _ A.in1 (newList [] >>= fun l => again (.builtin "list.__iadd__" ⟨[l, .ref a], []⟩)) _ _ s
  refine wpAny_bind (wpAny_newObj_type ?_)
  refine wpAny_pure ⟨plainId_quiet PySem.F.plain_list_iadd _, codeAny_builtin entry_list_iadd' ?_⟩
  rw [Around.under_plainId PySem.F.plain_list_iadd _]
  have hL : (s.heap.push { cls := .type "list", data := .seq ([] : List Value).toArray }).get? s.heap.objs.size = some { cls := .type "list", data := .seq #[] } := Heap.get?_push_size _ rfl
  show wpAny _ A.in1 (Builtin.List.listExtendWith (.ref s.heap.objs.size) (.ref a) (.ref s.heap.objs.size)) _ _ _
  have S1 : NmSet prog w (s.heap.push { cls := .type "list", data := .seq ([] : List Value).toArray }) a es ep t := { S with get := Heap.get?_push_of_some _ S.get }
  unfold Builtin.List.listExtendWith
  refine wpAny_bind (wpAny_typeOf (T := "set") ⟨_, S1.get, rfl⟩ ?_)
  have h1 : Builtin.List.listSameRef (.ref s.heap.objs.size) (.ref a) = false := by simp [Builtin.List.listSameRef, Nat.ne_of_gt hlt]
  simp only [h1, show (Value.type "set" == Value.type "list") = false from by decide, show (Value.type "set" == Value.type "tuple") = false from by decide, Bool.or_false, Bool.false_eq_true, if_false]
  refine wpAny_bind (iter_nums (A := A.in1) (by exact hh) S1 fun h2 d2 ys I fp St k2 hp W st hI hf hfs => ?_)
  have hLI : s.heap.objs.size ∉ fp := fun z => by
    rcases hf _ z with e | e
    · exact absurd e (Nat.ne_of_gt hlt)
    · rw [size_push'] at e; exact absurd e (Nat.not_succ_le_self _)
  have hyl : ys.length ≤ sizeLine := by rw [hp.length_eq, Array.length_toList]; exact fits_of_scanBound S.bnd
  have key : ∀ (h3 : Heap) (c₁ : Nat), St 0 h3 → (∀ b o, b ≠ s.heap.objs.size → h2.get? b = some o → h3.get? b = some o) → h3.get? s.heap.objs.size = some { cls := .type "list", data := .seq #[] c₁ } →
      codeAny (model prog w) A (.builtin "list.extend.loop" ⟨[.ref s.heap.objs.size, .ref I, .ref s.heap.objs.size], []⟩)
        (fun (q : Result) (s' : Shared) => ∃ (h' : Heap) (tk : Nat) (acc : Array Value) (c : Nat), q = .ok (.ret (.ref s.heap.objs.size)) ∧ s' = { s with heap := h', drawn := d2, toks := tk } ∧ (∀ b o, s.heap.get? b = some o → h'.get? b = some o) ∧
          h'.get? s.heap.objs.size = some { cls := .type "list", dict := none, data := .seq acc c, slots := #[] } ∧ ItemsOf (PW2 ys) acc ys.length) { s with heap := h3, drawn := d2 } := by
    intro h3 c₁ hst hk hL3
    refine codeAny_extend_loopS W.toS hyl s.heap.objs.size hLI _ ys.length 0 _ #[] c₁ rfl (Nat.zero_le _) hst hL3 (ItemsOf.nil _) fun s' acc' c' hm hS' hacc => ?_
    refine ⟨s'.heap, s'.toks, acc', c', rfl, Moved.eq_with hm, fun b o e => hm.heap b o (fun z => ?_) (hk b o (Nat.ne_of_lt (Heap.lt_size e)) (k2 b o (Heap.get?_push_of_some _ e))), hS', hacc⟩
    rcases List.mem_cons.mp z with e' | z
    · exact absurd (Heap.lt_size e) (by rw [e']; exact Nat.lt_irrefl _)
    · rw [List.mem_singleton.mp z] at e
      have q := Heap.lt_size e
      rw [size_push'] at hI
      exact absurd (Nat.lt_of_lt_of_le q (Nat.le_of_succ_le hI)) (Nat.lt_irrefl _)
  have hL2 := k2 _ _ hL
  refine wpAny_bind (wpAny_holding (hint_set ⟨_, k2 _ _ S1.get, rfl⟩ ?_))
  refine wpAny_ite_split (fun _ => ?_) (fun _ => ?_)
  · refine wpAny_bind (wpAny_rule ?_)
    refine wpAny_bind ?_
    show wpAny _ _ (updateSeq s.heap.objs.size (·.push .none) >>= fun _ => updateSeq s.heap.objs.size (·.pop)) _ _ _
    refine wpAny_bind (wpAny_updateSeq hL2 rfl ?_)
    have hL3 := Heap.get?_update_self (Obj.mapSeq (·.push Value.none)) hL2 rfl
    refine wpAny_updateSeq (hz := by seq_fits) hL3 rfl ?_
    have hL4 := Heap.get?_update_self (Obj.mapSeq (·.pop)) hL3 rfl
    refine wpAny_pure ⟨plainId_quiet PySem.F.plain_extend_loop _, codeAny_mono (key _ _ (W.frame 0 _ _ st fun b hb o e => ?_) (fun b o hb e => ?_) hL4) fun q s' hq => ?_⟩
    · have hb' : b ≠ s.heap.objs.size := fun z => hLI (z ▸ hb)
      exact (Heap.get?_update_other _ _ (Ne.symm hb')).trans ((Heap.get?_update_other _ _ (Ne.symm hb')).trans e)
    · exact (Heap.get?_update_other _ _ (Ne.symm hb)).trans ((Heap.get?_update_other _ _ (Ne.symm hb)).trans e)
    · obtain ⟨h', tk, acc, c, rfl, rfl, hk, hg, hacc⟩ := hq
      refine wpAny_bind (wpAny_load hg ?_)
      exact wpAny_pure (h h' d2 tk acc.toList (ys.map nmOf) hk (ints_of_walk S.els hp hacc) (hp.map nmOf))
  · refine wpAny_pure ⟨plainId_quiet PySem.F.plain_extend_loop _, codeAny_mono (key _ _ st (fun b o hb e => e) hL2) fun q s' hq => ?_⟩
    obtain ⟨h', tk, acc, c, rfl, rfl, hk, hg, hacc⟩ := hq
    refine wpAny_bind (wpAny_load hg ?_)
    exact wpAny_pure (h h' d2 tk acc.toList (ys.map nmOf) hk (ints_of_walk S.els hp hacc) (hp.map nmOf))
end
end L2
set_option Elab.async false
set_option linter.all false
set_option maxRecDepth 100000
set_option maxHeartbeats 400000
/-! sorted(set(l)) of numbers -/
namespace L2
open PySem PySem.Spec PyProof.Rows
section
variable {X : Cx} {pins : List (Addr × Obj)} {s : Shared} {σ : St} {H : Hp}
/-- a set of numbers -/
def setN (P : Program) (w : World) (a : Addr) (xs : List Int) : HO := .ext fun h => ∃ es ep t, NmSet P w h a es ep t ∧ ∀ y, y ∈ es.toList.map nmOf ↔ y ∈ xs
theorem setN_ok {P : Program} {w : World} {H : Hp} {h : Heap} {a : Addr} {xs : List Int} {es : Array (Int × Value)} {ep : Nat} {t : SetTable} (S : NmSet P w h a es ep t) (m : ∀ y, y ∈ es.toList.map nmOf ↔ y ∈ xs) : ObjOk P w H h a (setN P w a xs) :=
  ⟨⟨es, ep, t, S, m⟩, ⟨_, S.get⟩, fun h1 h2 ⟨es, ep, t, S, m⟩ k => ⟨es, ep, t, { S with get := k _ S.get }, m⟩⟩
theorem call_setN (hc : X.calm = true) : CallR X (.type "set") (fun xs H Q => ∃ (p : Addr) (ts : List Int), xs = [.ref p] ∧ SqL X.K H p (ts.map V.int) ∧ ts.length + 1 < scanBound ∧ ∀ q, H q = none → Q (.ref q) (upd H q (setN X.prog X.w q ts))) := by
  intro pins s σ H xs us Q I r h
  obtain ⟨p, ts, rfl, hq, hb, q⟩ := h
  obtain ⟨u, rfl, ru⟩ := vals1 r
  cases ru
  obtain ⟨its, rv, pl, hz⟩ := I.list hq
  have hS := ints_vals rv
  have hl := ints_len hS
  refine call_set_nums (I.ok.hd hc) pl.isList (xs := ts) (by simpa using hS) (by rw [List.size_toArray, hl]; exact hb) fun h' tk es ep t S m k => ?_
  have hf := I.hok.fresh (Nat.le_refl s.heap.objs.size)
  exact ⟨.ref s.heap.objs.size, _, I.laid k (Nat.le_refl _) (setN_ok S m), rfl, q _ hf⟩
theorem rise_nodup : ∀ {l : List Int}, l.Pairwise (· ≤ ·) → l.Nodup → l.Pairwise (· < ·)
  | [], _, _ => .nil
  | a :: l, h, n => by
    obtain ⟨h1, h2⟩ := List.pairwise_cons.mp h
    obtain ⟨n1, n2⟩ := List.nodup_cons.mp n
    refine List.pairwise_cons.mpr ⟨fun b hb => ?_, rise_nodup h2 n2⟩
    have := h1 b hb
    have : a ≠ b := fun e => n1 (e ▸ hb)
    omega
/-- sorted of a set of numbers: the numbers rise -/
theorem call_sortedN (hc : X.calm = true) : CallR X (.builtin "sorted") (fun xs H Q => ∃ (p : Addr) (ts : List Int), xs = [.ref p] ∧ H p = some (setN X.prog X.w p ts) ∧
    ∀ q (ys : List Int), H q = none → (∀ y, y ∈ ys ↔ y ∈ ts) → ys.Pairwise (· < ·) → Q (.ref q) (upd H q (.lst (ys.map V.int)))) := by
  intro pins s σ H xs us Q I r h
  obtain ⟨p, ts, rfl, hp, q⟩ := h
  obtain ⟨u, rfl, ru⟩ := vals1 r
  cases ru
  obtain ⟨⟨es, ep, t, S, m⟩, _, _⟩ := I.hok p _ hp
  have hlen : ∀ ys : List Int, ys.Perm (es.toList.map nmOf) → ys.length ≤ 100000 := fun ys e => by
    have := S.bnd
    have hs : scanBound = 4096 := rfl
    rw [e.length_eq, List.length_map, Array.length_toList]; omega
  refine srt_ints (φ := fun ys => ys.Perm (es.toList.map nmOf)) hlen (fun R hR => coll_nums (A := X.A.in1) (I.ok.hd hc) S fun h' d' tk vs ys k hS e => hR h' d' tk vs ys k hS e) fun q' h1 h' d' tk vs n ys ys' e hq k1 k2 g hS e' so => ?_
  have e2 := e'.trans e
  obtain ⟨I2, hf⟩ := laid_i (d' := d') (tk := tk) I hq k1 k2 g hS (hlen ys' e2)
  exact ⟨.ref q', _, I2, rfl, q q' ys' hf (fun y => by rw [e2.mem_iff, m y]) (rise_nodup so (e2.nodup_iff.mpr S.nod))⟩
end
end L2
set_option Elab.async false
set_option linter.all false
set_option maxRecDepth 100000
set_option maxHeartbeats 400000
/-! the second level: sorted of a dict of numbers, of a list of numbers, of the set of a list of numbers -/
namespace WL
open PySem PySem.Spec PyProof.Rows L2
def bSortDI : List T → Hw → WK → Prop := fun vs C Q => ∃ (a : Addr) (kvs : List (Key × T)) (ts : List Int), vs = [.ref a] ∧ C a = some (.dic kvs) ∧ kvs.map (·.1) = ts.map Sum.inl ∧ ts.length ≤ 100000 ∧
  ∀ q (ys : List Int), C q = none → ys.Perm ts → ys.Pairwise (· ≤ ·) → Q (.ref q) (up C q (.lst (ys.map T.int)))
def eSrtSetI (we : WE) : WE := fun τ C Q χ => we τ C (fun v C1 => ∃ (a : Addr) (ts : List Int), v = .ref a ∧ C1 a = some (.lst (ts.map T.int)) ∧ ts.length + 1 < scanBound ∧
  ∀ q (ys : List Int), C1 q = none → (∀ y, y ∈ ys ↔ y ∈ ts) → ys.Pairwise (· < ·) → Q (.ref q) (up C1 q (.lst (ys.map T.int)))) χ
section
variable {X : Cx} {e : Expr} {we : WE} {pos p p2 pos2 : Pos}
theorem b_sortDI (hc : X.calm = true) : CallS X (.builtin "sorted") bSortDI := ⟨_, call_sortedDI hc, fun F H C xs vs Q Q' R rs h q => by
  obtain ⟨l, kvs, ts, rfl, hC, hk, hl, h⟩ := h
  obtain ⟨x, rfl, rx⟩ := of_one rs
  cases of_ref rx
  obtain ⟨ks, hH, pr⟩ := R.dic hC
  refine ⟨l, ks, ts, rfl, .inl hH, by rw [PR.keys pr]; exact hk, hl, fun p ys hp e1 e2 => ?_⟩
  exact q _ _ _ _ (R.newL hp (reps_ints ys)) (Tx.new hp) rep_ref (h p ys (R.free hp) e1 e2)⟩
theorem d_srtsetI (hc : X.calm = true) (hg : Gl X "sorted") (hm : X.mg "sorted" = none) (hg2 : Gl X "set") (hm2 : X.mg "set" = none) (he : SdE X e we)
    (s1 : starEach [.Call (.Name "set" p2) [e] [] pos2] X.env = (false, eval (.Call (.Name "set" p2) [e] [] pos2) X.env) :: starEach [] X.env := by rfl) (s2 : (backTo pos (starEach [] X.env)).any (·.1) = false := by rfl)
    (s3 : starEach [e] X.env = (false, eval e X.env) :: starEach [] X.env := by rfl) (s4 : (backTo pos2 (starEach [] X.env)).any (·.1) = false := by rfl) :
    SdE X (.Call (.Name "sorted" p) [.Call (.Name "set" p2) [e] [] pos2] [] pos) (eSrtSetI we) := by
  obtain ⟨t, p1, sm⟩ := he
  have pa : PA X [e] (tCons t tNil) := pa_cons p1 pa_nil s3
  have pS := pe_callTy (pos := pos2) (p := p2) (call_setN hc) hg2 hm2 bt_set pa (by decide) (by decide) s3 s4
  refine ⟨_, pe_callB (call_sortedN hc) hg hm bt_sorted (pa_cons pS pa_nil) (by decide) (by decide) s1 s2, fun F H C σ τ Q Q' χ R S h q => ?_⟩
  refine sm F H C σ τ _ _ χ R S h fun x v H1 C1 R1 t1 rx h1 => ?_
  obtain ⟨l, ts, rfl, hC, hl, h1⟩ := h1
  cases of_ref rx
  obtain ⟨ys, hH, rs⟩ := R1.lst hC
  cases reps_ints' rs
  refine ⟨l, ts, rfl, .inl (.inl hH), hl, fun q1 hq1 => ?_⟩
  have R2 : Rl X.K F (upd H1 q1 (setN X.prog X.w q1 ts)) C1 := R1.hid hq1
  refine ⟨q1, ts, rfl, upd_same, fun q2 zs hq2 z1 z2 => ?_⟩
  exact q _ _ _ _ (R2.newL hq2 (reps_ints zs)) ((t1.trans (Tx.new hq1)).trans (Tx.new hq2)) rep_ref (h1 q2 zs (R2.free hq2) z1 z2)
end
end WL
set_option Elab.async false
set_option linter.all false
set_option maxRecDepth 100000
set_option maxHeartbeats 400000
/-! isinstance(x, (C, D)): an object of an own class, a tuple of own classes -/
namespace L2
open PySem PySem.Spec PyProof.Rows
section
variable {X : Cx}
theorem refs_vals {vs : List Value} : ∀ {cs : List Addr}, Vals (cs.map V.ref) vs → vs = cs.map Value.ref := by
  intro cs h
  induction cs generalizing vs with
  | nil => cases h; rfl
  | cons c r ih =>
    cases h with
    | cons a b =>
      cases a
      rw [List.map_cons, ih b]
theorem call_isIT : CallR X (.builtin "isinstance") (fun xs H Q => ∃ (y C dx : Addr) (fs : List (Str × V)) (b : Bool) (tp : Addr) (cs : List Addr), xs = [.ref y, .ref tp] ∧ H y = some (.ins C dx fs) ∧ H tp = some (.tup (cs.map V.ref)) ∧ Ik X.K C ∧ PySem.W.kitAny X.K (.ref C) (cs.map Value.ref) = some b ∧ Q (.bl b) H) := by
  intro pins s σ H xs us Q I rs h
  obtain ⟨y, C, dx, fs, b, tp, cs, rfl, hy, ht, F, hk, q⟩ := h
  obtain ⟨u, u2, rfl, ru, ru2⟩ := rs.two
  cases ru
  cases ru2
  obtain ⟨mA, O, _, _, _, _⟩ := ins_get I.hok hy
  obtain ⟨od, J, hl⟩ := O.look
  obtain ⟨_, its, rv, p⟩ := (show ObjOk X.prog X.w H s.heap tp (.tup (cs.map V.ref)) from I.hok tp _ ht)
  cases refs_vals rv
  obtain ⟨⟨oc, od', odt, osl⟩, h1, h2, n, h3⟩ := p
  simp only at h2 h3
  subst h2
  subst h3
  exact PySem.W.kia_tup (PySem.W.kitx_own F.pg F.hd F.at_ F.gt F.tk F.ob) I.kIn J h1 hk (fun z => nomatch z) fun tk => ⟨.bl b, H, I.tok tk, rfl, q⟩
end
end L2
set_option Elab.async false
set_option linter.all false
set_option maxRecDepth 100000
set_option maxHeartbeats 400000
/-! the second level: isinstance(e, (c, d)) and (c, d, f), own classes -/
namespace WL
open PySem PySem.Spec PyProof.Rows L2
/-- a table for some classes: of each class's name whether it is under one of them -/
def IsT (K : PySem.W.Frag) (Ds : List Addr) (tab : List (Str × Bool)) : Prop := ∀ cn b, tab.lookup cn = some b → ∀ Cl, ClsAt K cn Cl → Ik K Cl ∧ PySem.W.kitAny K (.ref Cl) (Ds.map Value.ref) = some b
def orT : List (Str × Bool) → List (Str × Bool) → List (Str × Bool)
  | (c, b) :: r, (_, d) :: r' => (c, b || d) :: orT r r'
  | _, _ => []
theorem or_lookup : ∀ {t u : List (Str × Bool)} {cn : Str} {b : Bool}, t.map (·.1) = u.map (·.1) → (orT t u).lookup cn = some b → ∃ x y, t.lookup cn = some x ∧ u.lookup cn = some y ∧ b = (x || y)
  | [], _, cn, b, _, e => by cases e
  | (c, x) :: r, [], cn, b, h, _ => by cases h
  | (c, x) :: r, (d, y) :: r', cn, b, h, e => by
    simp only [List.map_cons, List.cons.injEq] at h
    obtain ⟨rfl, h⟩ := h
    rw [orT, List.lookup_cons] at e
    rw [List.lookup_cons, List.lookup_cons]
    split at e
    · cases e; exact ⟨x, y, rfl, rfl, rfl⟩
    · exact or_lookup h e
theorem ist_cons {K : PySem.W.Frag} {D : Addr} {Ds : List Addr} {t u : List (Str × Bool)} (h1 : IsR K D t) (h2 : IsT K Ds u) (hk : t.map (·.1) = u.map (·.1)) : IsT K (D :: Ds) (orT t u) := fun cn b e Cl hc => by
  obtain ⟨x, y, e1, e2, rfl⟩ := or_lookup hk e
  obtain ⟨k, q1⟩ := h1 cn x e1 Cl hc
  obtain ⟨_, q2⟩ := h2 cn y e2 Cl hc
  refine ⟨k, ?_⟩
  rw [List.map_cons, PySem.W.kitAny, q1]
  cases x
  · exact q2
  · rfl
section
variable {X : Cx} {x y z : Str} {p pos q2 q3 q4 tp : Pos} {a : Expr} {wa : WE} {t u v tab : List (Str × Bool)}
theorem it_tail {Ds : List Addr} {tab : List (Str × Bool)} (h2 : IsT X.K Ds tab) {F H1 : Hp} {C1 : Hw} {vv : T} {xv : V} (R1 : Rl X.K F H1 C1) (ry : Rep X.K H1 xv vv) {Q : VK} {Q' : WK} (h1 : ∃ p cn fs b, vv = .ref p ∧ C1 p = some (.ins cn fs) ∧ tab.lookup cn = some b ∧ Q' (.bl b) C1)
    (q : ∀ q1, H1 q1 = none → ∀ b, Q' (.bl b) C1 → Q (.bl b) (upd H1 q1 (.tup (Ds.map V.ref)))) (q1 : Addr) (hq1 : H1 q1 = none) :
    ∃ (y C dx : Addr) (fs : List (Str × V)) (b : Bool) (tp : Addr) (cs : List Addr), [xv, V.ref q1] = [.ref y, .ref tp] ∧ upd H1 q1 (.tup (Ds.map V.ref)) y = some (.ins C dx fs) ∧ upd H1 q1 (.tup (Ds.map V.ref)) tp = some (.tup (cs.map V.ref)) ∧ Ik X.K C ∧ PySem.W.kitAny X.K (.ref C) (cs.map Value.ref) = some b ∧ Q (.bl b) (upd H1 q1 (.tup (Ds.map V.ref))) := by
  obtain ⟨p, cn, fs, b, rfl, hp, hb, h1⟩ := h1
  cases of_ref ry
  obtain ⟨Cl, dx, ks, hc, hH, _⟩ := R1.ins hp
  obtain ⟨F1, k1⟩ := h2 cn b hb Cl hc
  refine ⟨p, Cl, dx, ks, b, q1, Ds, rfl, ?_, upd_same, F1, k1, q q1 hq1 b h1⟩
  rw [upd_ne]
  · exact hH
  · intro e; rw [e, hq1] at hH; cases hH
theorem ist_one {K : PySem.W.Frag} {D : Addr} (h : IsR K D t) : IsT K [D] t := fun cn b e Cl hc => by
  obtain ⟨k, q1⟩ := h cn b e Cl hc
  refine ⟨k, ?_⟩
  rw [List.map_cons, PySem.W.kitAny, q1]
  cases b <;> rfl
theorem d_isI2 {x1} (hg : Gl X "isinstance") (hm : X.mg "isinstance" = none) (hgx : Gl X x) (hx : IsI X.K X.mg x t) (hgy : Gl X y) (hy : IsI X.K X.mg y u) (ha : SdE X a wa) (hk : t.map (·.1) = u.map (·.1) := by rfl) (ht : orT t u = tab := by rfl)
    (hdx : (x == ("__debug__" : Str)) = false := by decide) (hdy : (y == ("__debug__" : Str)) = false := by decide) (he : starEach [a, .Tuple [.Name x q2, .Name y q3] x1 tp] X.env = [(false, eval a X.env), (false, eval (.Tuple [.Name x q2, .Name y q3] x1 tp) X.env)] := by rfl) :
    SdE X (.Call (.Name "isinstance" p) [a, .Tuple [.Name x q2, .Name y q3] x1 tp] [] pos) (eIsI tab wa) := by
  obtain ⟨ta, p1, s1⟩ := ha
  obtain ⟨D1, a1, a2⟩ := hx
  obtain ⟨D2, b1, b2⟩ := hy
  have hT : IsT X.K [D1, D2] tab := ht ▸ ist_cons a2 (ist_one b2) hk
  have pT : PE X (.Tuple [.Name x q2, .Name y q3] x1 tp) (tTup (tCons (tC (.ref D1)) (tCons (tC (.ref D2)) tNil))) := pe_tup (pa_cons (pe_glob (v := .ref D1) hgx a1 rfl hdx) (pa_cons (pe_glob (v := .ref D2) hgy b1 rfl hdy) pa_nil (by rfl)) (by rfl))
  refine ⟨_, pe_callB call_isIT hg hm bt_isinstance (pa_cons p1 (pa_cons pT pa_nil (by rfl)) ?_) (by decide) (by decide) ?_ ?_, ?_⟩
  · rw [he]; rfl
  · rw [he]; rfl
  · rfl
  · intro F H C σ τ Q Q' χ R S h q
    refine s1 F H C σ τ _ _ χ R S h fun yv v H1 C1 R1 t1 ry h1 => ?_
    refine ⟨by rw [sizeLine_eq]; simp, fun q1 hq1 => it_tail hT R1 ry h1 (fun q1 hq1 b hb => q _ _ _ C1 (R1.hid hq1) (t1.trans (Tx.new hq1)) rep_bl hb) q1 hq1⟩
theorem d_isI3 {x1} (hg : Gl X "isinstance") (hm : X.mg "isinstance" = none) (hgx : Gl X x) (hx : IsI X.K X.mg x t) (hgy : Gl X y) (hy : IsI X.K X.mg y u) (hgz : Gl X z) (hz : IsI X.K X.mg z v) (ha : SdE X a wa) (hk2 : u.map (·.1) = v.map (·.1) := by rfl) (hk : t.map (·.1) = (orT u v).map (·.1) := by rfl) (ht : orT t (orT u v) = tab := by rfl)
    (hdx : (x == ("__debug__" : Str)) = false := by decide) (hdy : (y == ("__debug__" : Str)) = false := by decide) (hdz : (z == ("__debug__" : Str)) = false := by decide) (he : starEach [a, .Tuple [.Name x q2, .Name y q3, .Name z q4] x1 tp] X.env = [(false, eval a X.env), (false, eval (.Tuple [.Name x q2, .Name y q3, .Name z q4] x1 tp) X.env)] := by rfl) :
    SdE X (.Call (.Name "isinstance" p) [a, .Tuple [.Name x q2, .Name y q3, .Name z q4] x1 tp] [] pos) (eIsI tab wa) := by
  obtain ⟨ta, p1, s1⟩ := ha
  obtain ⟨D1, a1, a2⟩ := hx
  obtain ⟨D2, b1, b2⟩ := hy
  obtain ⟨D3, c1, c2⟩ := hz
  have hT : IsT X.K [D1, D2, D3] tab := ht ▸ ist_cons a2 (ist_cons b2 (ist_one c2) hk2) hk
  have pT : PE X (.Tuple [.Name x q2, .Name y q3, .Name z q4] x1 tp) (tTup (tCons (tC (.ref D1)) (tCons (tC (.ref D2)) (tCons (tC (.ref D3)) tNil)))) := pe_tup (pa_cons (pe_glob (v := .ref D1) hgx a1 rfl hdx) (pa_cons (pe_glob (v := .ref D2) hgy b1 rfl hdy) (pa_cons (pe_glob (v := .ref D3) hgz c1 rfl hdz) pa_nil (by rfl)) (by rfl)) (by rfl))
  refine ⟨_, pe_callB call_isIT hg hm bt_isinstance (pa_cons p1 (pa_cons pT pa_nil (by rfl)) ?_) (by decide) (by decide) ?_ ?_, ?_⟩
  · rw [he]; rfl
  · rw [he]; rfl
  · rfl
  · intro F H C σ τ Q Q' χ R S h q
    refine s1 F H C σ τ _ _ χ R S h fun yv v H1 C1 R1 t1 ry h1 => ?_
    refine ⟨by rw [sizeLine_eq]; simp, fun q1 hq1 => it_tail hT R1 ry h1 (fun q1 hq1 b hb => q _ _ _ C1 (R1.hid hq1) (t1.trans (Tx.new hq1)) rep_bl hb) q1 hq1⟩
end
end WL
set_option Elab.async false
set_option linter.all false
set_option maxRecDepth 100000
set_option maxHeartbeats 400000
/-! l.extend(t), t a tuple -/
namespace L2
open PySem PySem.Spec PyProof.Rows
theorem ext_tup (l : Addr) (xs : Array Value) (n : Nat) (b : Addr) (ys : Array Value) (m : Nat) (dd : Option Addr) (sl : Array (Option Value)) (h0 : ¬(!xs.isEmpty && Builtin.List.listTooLong (xs.size + ys.size)) = true) (h1 : xs.size ≤ sizeLine) (h2 : xs.size + ys.size ≤ sizeLine + 1) :
    Meets (Builtin.«list.extend» ⟨[.ref l, .ref b], []⟩) (fun _ R s => s.heap.get? l = some { cls := .type "list", dict := none, data := .seq xs n, slots := #[] } ∧ s.heap.get? b = some { cls := .type "tuple", dict := dd, data := .seq ys m, slots := sl } ∧ R (.ok (.ret Value.none)) { s with heap := s.heap.update l (Obj.mapSeq fun x => x ++ ys), toks := s.toks }) :=
  .of_wp fun prog w A R s h => by
    obtain ⟨hp, g, d, tk, os⟩ := s
    obtain ⟨hl, hb, h⟩ := h
    have f1 := AutoSeq1.idx_int
    have f2 := AutoSeq1.sub_tuple_tuple
    have f3 := AutoSeq1.sub_list_list
    have f4 := AutoSeq1.sub_tuple_list
    have f5 := AutoSeq1.sub_list_tuple
    have hz : (xs ++ ys).size ≤ sizeLine + 1 := by rw [Array.size_append]; exact h2
    wp_walk using (wpAny_updateSeq hl rfl (hz := h1) (_hz' := hz)), AutoSeq1.wpAny_loadPart' hl, AutoSeq1.wpAny_loadPart' hb
    exact ⟨_, rfl, h⟩
section
variable {X : Cx}
def rExtT : V → List V → Hp → VK → Prop := fun x vs H Q => ∃ l b xs zs, x = .ref l ∧ vs = [.ref b] ∧ H l = some (.lst xs) ∧ SqT X.K H b zs ∧ xs.length + zs.length ≤ sizeLine ∧ Q .non (upd H l (.lst (xs ++ zs)))
theorem mt_extT : MtM X "list.extend" (rExtT (X := X)) := by
  intro pins s σ H x vs v us Q I rx rv h
  obtain ⟨l, b, xs, zs, rfl, rfl, hH, hB, hz, q⟩ := h
  cases rx
  obtain ⟨u, rfl, ru⟩ := rv.one
  cases ru
  obtain ⟨z, its, n, r, hl, e⟩ := I.lstM hH
  obtain ⟨its2, r2, ⟨o, e2, hc, n2, hd⟩, z2⟩ := I.tuple hB
  have hl2 := r2.length
  have hsz : its.toArray.size + its2.toArray.size ≤ sizeLine := by rw [List.size_toArray, List.size_toArray]; omega
  have hlong : ¬ (!its.toArray.isEmpty && Builtin.List.listTooLong (its.toArray.size + its2.toArray.size)) = true := by
    rw [notLongL hsz, Bool.and_false]
    exact Bool.false_ne_true
  obtain ⟨oc, od, odt, osl⟩ := o
  simp only at hc hd
  subst hc
  subst hd
  refine call_meets F.slot_list_extend ⟨_, e, rfl⟩ F.entry_list_extend (F.args_list_extend_2 _ _)
    (ext_tup l its.toArray n b its2.toArray n2 od osl hlong (by rw [List.size_toArray]; omega) (by omega)) ⟨e, e2, ?_⟩
  refine ⟨.non, _, I.lset (its' := its ++ its2) hH e (by simp) (r.append r2) ?_, rfl, q⟩
  rw [List.length_append]
  omega
end
end L2
set_option Elab.async false
set_option linter.all false
set_option maxRecDepth 100000
set_option maxHeartbeats 400000
/-! the second level: l.extend(t), t a list or a tuple -/
namespace WL
open PySem PySem.Spec PyProof.Rows L2
section
variable {X : Cx}
def mExtT : T → List T → Hw → WK → Prop := fun x vs C Q => ∃ a xs zs, x = .ref a ∧ vs = [.tup zs] ∧ C a = some (.lst xs) ∧ xs.length + zs.length ≤ sizeLine ∧ Q .non (up C a (.lst (xs ++ zs)))
theorem m_extT : MtS X "list.extend" mExtT := ⟨_, mt_extT, fun F H C x v xs vs Q Q' R rx rs h q => by
  obtain ⟨a, ts, us, rfl, rfl, ha, hl, h⟩ := h
  cases of_ref rx
  obtain ⟨y, rfl, ry⟩ := of_one rs
  obtain ⟨b, zs, rfl, hz, r2⟩ := of_tup ry
  obtain ⟨ys, hy, r⟩ := R.lst ha
  obtain ⟨R', t⟩ := R.putL ha (r.app r2)
  exact ⟨a, b, ys, zs, rfl, rfl, hy, hz, by rw [r.length, r2.length]; exact hl, q _ _ _ _ R' t rep_non h⟩⟩
end
end WL
set_option Elab.async false
set_option linter.all false
set_option maxRecDepth 100000
set_option maxHeartbeats 4000000
namespace K41
open PySem PySem.Spec PyProof.Rows L2 WL
def top (i : Nat) : Stmt := PySem.Challenge.pw_idlegraph_k41_things_kept.main.body.getD i (.Pass ⟨0, 0, 0, 0⟩)
structure Txt (w : World) (K : PySem.W.Frag) (mg : Str → Option Value) : Prop where
  n_bool : mg "bool" = none
  n_int : mg "int" = none
  n_isinstance : mg "isinstance" = none
  n_len : mg "len" = none
  n_list : mg "list" = none
  n_range : mg "range" = none
  n_set : mg "set" = none
  n_sorted : mg "sorted" = none
  n_str : mg "str" = none
  n_sum : mg "sum" = none
  n_tuple : mg "tuple" = none
  f_Ready_value : KF K "value" "Ready"
  f_Waiting_text : KF K "text" "Waiting"
  k0_Node : C0 K mg "Node"
  k0_Underway : C0 K mg "Underway"
  i_Node : IsI K mg "Node" [("Node", true), ("Waiting", true), ("Underway", true), ("Ready", true)]
  i_Ready : IsI K mg "Ready" [("Node", false), ("Waiting", false), ("Underway", false), ("Ready", true)]
  i_Underway : IsI K mg "Underway" [("Node", false), ("Waiting", false), ("Underway", true), ("Ready", false)]
  i_Waiting : IsI K mg "Waiting" [("Node", false), ("Waiting", true), ("Underway", false), ("Ready", false)]
structure Cs (Pg : Program) (w : World) (K : PySem.W.Frag) (mg : Str → Option Value) (base : Heap) (n : Nat) (pr : List Df) : Prop where
  c_scopes : Ca Pg w K mg base n "scopes" ["term"] (spW K pr n 0)
  c_let_scopes : Ca Pg w K mg base n "let_scopes" ["pairs", "body"] (spW K pr n 1)
  c_rows_scopes : Ca Pg w K mg base n "rows_scopes" ["body", "steps"] (spW K pr n 2)
  c_parts : Ca Pg w K mg base n "parts" ["term"] (spW K pr n 3)
  c_marks_in : Ca Pg w K mg base n "marks_in" ["term"] (spW K pr n 13)
  c__law_cells : Ca Pg w K mg base n "_law_cells" ["_law_script", "_law_start"] (spW K pr n 14)
  c__law_number : Ca Pg w K mg base n "_law_number" ["_law_cell"] (spW K pr n 15)
  c__law_leaf : Ca Pg w K mg base n "_law_leaf" ["_law_cell"] (spW K pr n 16)
  c__law_let : Ca Pg w K mg base n "_law_let" ["_law_cell", "_law_cells_here", "_law_deep"] (spW K pr n 17)
  c__law_choose : Ca Pg w K mg base n "_law_choose" ["_law_cell", "_law_cells_here", "_law_deep"] (spW K pr n 18)
  c__law_two : Ca Pg w K mg base n "_law_two" ["_law_cell", "_law_cells_here", "_law_deep"] (spW K pr n 19)
  c__law_term : Ca Pg w K mg base n "_law_term" ["_law_cells_here", "_law_spare", "_law_deep"] (spW K pr n 20)
  c__law_shape : Ca Pg w K mg base n "_law_shape" ["_law_cells_here"] (spW K pr n 21)
  c__law_drawn : Ca Pg w K mg base n "_law_drawn" ["_law_cells_here"] (spW K pr n 22)
  c__law_is_list : Ca Pg w K mg base n "_law_is_list" ["_law_found", "_law_due"] (spW K pr n 23)
  c__law_tells : Ca Pg w K mg base n "_law_tells" ["_law_node", "_law_word", "_law_due"] (spW K pr n 24)
  c__law_waits : Ca Pg w K mg base n "_law_waits" ["_law_thing"] (spW K pr n 25)
  c__law_ready : Ca Pg w K mg base n "_law_ready" ["_law_thing"] (spW K pr n 26)
  c__law_kept : Ca Pg w K mg base n "_law_kept" ["_law_thing", "_law_due"] (spW K pr n 27)
  c_law : Ca Pg w K mg base n "law" ["_law_script"] (spW K pr n 28)
  m_Node_state : Cm Pg w K mg base n "Node" "state" ["self"] (spW K pr n 4)
  m_Node_links : Cm Pg w K mg base n "Node" "links" ["self"] (spW K pr n 5)
  m_Waiting_state : Cm Pg w K mg base n "Waiting" "state" ["self"] (spW K pr n 7)
  m_Waiting_links : Cm Pg w K mg base n "Waiting" "links" ["self"] (spW K pr n 8)
  m_Waiting___init__ : Cm Pg w K mg base n "Waiting" "__init__" ["self", "text"] (spW K pr n 6)
  m_Underway_state : Cm Pg w K mg base n "Underway" "state" ["self"] (spW K pr n 9)
  m_Underway_links : Cm Pg w K mg base n "Underway" "links" ["self"] (spW K pr n 5)
  m_Ready_state : Cm Pg w K mg base n "Ready" "state" ["self"] (spW K pr n 11)
  m_Ready_links : Cm Pg w K mg base n "Ready" "links" ["self"] (spW K pr n 12)
  m_Ready___init__ : Cm Pg w K mg base n "Ready" "__init__" ["self", "value"] (spW K pr n 10)
  n_Waiting : Cn Pg w K mg base n pr "Waiting" 6 29
  n_Ready : Cn Pg w K mg base n pr "Ready" 10 30
def SX (j : Nat) (st : Stmt) (N : List Str) (q : Str) (Wx : Calls → WS) : Prop := ∀ {Pg : Program} {w : World} {K : PySem.W.Frag} {mg : Str → Option Value} {base : Heap} {n : Nat} {pr : List Df} {P : Calls} {f : Addr} {cdv : Value} {A : Around} {outer : List Env} {s : Shared} {H : Hp} {E : XK}, wpc pr n = P → Txt w K mg → Cs Pg w K mg base n pr →
  Room n (A.deeper (envOfC q (defScope st) s.heap.objs.size f cdv)) → SdB (cxOf CX0 Pg w K mg base N q (defScope st) f cdv A outer s H E).nox ((defBody st).drop j) (Wx P)
abbrev st_scopes : Stmt := top 1
theorem sc_scopes : FnScope ["term", "sort"] ["term"] (defScope st_scopes) := ⟨rfl, rfl, rfl, by decide +kernel, rfl, by decide +kernel, by decide +kernel⟩
def D_scopes : {W // SX 0 st_scopes ["term", "sort"] "scopes" W} := ⟨_, fun hP T S hr => by
    have nd := sc_scopes.nd
    have hu := hu150 hr
    exact (db_cons (ds_set (i := 1) nd (d_ix (d_var 0) d_int (fun _ _ => rfl)))
      (db_cons (ds_if (dt_cmp (o_eq hu) (d_var 1) d_str (nomark _)) (db_one (ds_ret (d_lst (da_cons (d_tup (da_cons (d_tup da_nil) (da_cons (d_ix (d_var 0) d_int (fun _ _ => rfl)) da_nil))) (da_cons (d_tup (da_cons (d_tup da_nil) (da_cons (d_ix (d_var 0) d_int (fun _ _ => rfl)) da_nil))) da_nil))))) db_nil)
      (db_cons (ds_if (dt_w (dw_or (dt_cmp (o_eq hu) (d_var 1) d_str (nomark _)) (dw_or1 (dt_cmp (o_eq hu) (d_var 1) d_str (nomark _))))) (db_one (ds_ret (d_lst (da_cons (d_tup (da_cons (d_tup da_nil) (da_cons (d_ix (d_var 0) d_int (fun _ _ => rfl)) da_nil))) (da_cons (d_tup (da_cons (d_tup da_nil) (da_cons (d_ix (d_var 0) d_int (fun _ _ => rfl)) da_nil))) da_nil))))) db_nil)
      (db_cons (ds_if (dt_cmp (o_eq hu) (d_var 1) d_str (nomark _)) (db_one (ds_ret (d_lst (da_cons (d_tup (da_cons (d_tup (da_cons (d_ix (d_var 0) d_int (fun _ _ => rfl)) da_nil)) (da_cons (d_ix (d_var 0) d_int (fun _ _ => rfl)) da_nil))) da_nil)))) db_nil)
      (db_cons (ds_if (dt_cmp (o_eq hu) (d_var 1) d_str (nomark _)) (db_one (ds_ret (cP hP (d_call S.c_let_scopes hr (by rfl) (da_cons (d_ix (d_var 0) d_int (fun _ _ => rfl)) (da_cons (d_ix (d_var 0) d_int (fun _ _ => rfl)) da_nil)))))) db_nil)
      (db_cons (ds_if (dt_cmp (o_eq hu) (d_var 1) d_str (nomark _)) (db_one (ds_ret (d_comp (cN := ["part"]) (cap := [none]) (cl := []) (js := [0]) (g := (gName 0)) ⟨rfl, (fun _ => compOk0 rfl (by decide +kernel) (by decide +kernel) rfl (by decide)), (di_seq (d_ix (d_var 0) d_int (fun _ _ => rfl))), (fun _ _ _ => pg_name (i := 0) (show (["part"] : List Str).Nodup by decide +kernel) rfl (Or.inl rfl)), gm_name, gk_name, sg_name, by decide +kernel, fun _ _ _ => dif_nil, fun _ _ _ => (d_tup (da_cons (d_tup da_nil) (da_cons (d_var 0) da_nil))), fun _ => rfl⟩))) db_nil)
      (db_cons (ds_if (dt_cmp (o_eq hu) (d_var 1) d_str (nomark _)) (db_one (ds_ret (d_op o_add (d_lst (da_cons (d_tup (da_cons (d_tup da_nil) (da_cons (d_ix (d_var 0) d_int (fun _ _ => rfl)) da_nil))) da_nil)) (d_comp (cN := ["shape", "names", "body"]) (cap := [none, none, none]) (cl := []) (js := ([0] ++ ([1] ++ ([2] ++ [])))) (g := (gTup _ 3 (gCons (gName 0) (gCons (gName 1) (gCons (gName 2) gNil))))) ⟨rfl, (fun _ => compOk0 rfl (by decide +kernel) (by decide +kernel) rfl (by decide)), (di_seq (d_ix (d_var 0) d_int (fun _ _ => rfl))), (fun _ _ _ => pg_tup (n := 3) rfl (pgs_cons (pg_name (i := 0) (show (["shape", "names", "body"] : List Str).Nodup by decide +kernel) rfl (Or.inl rfl)) (pgs_cons (pg_name (i := 1) (show (["shape", "names", "body"] : List Str).Nodup by decide +kernel) rfl (Or.inl rfl)) (pgs_cons (pg_name (i := 2) (show (["shape", "names", "body"] : List Str).Nodup by decide +kernel) rfl (Or.inl rfl)) pgs_nil)))), (gm_tup (gm_cons gm_name (gm_cons gm_name (gm_cons gm_name gm_nil)))), (gk_tup (gk_cons gk_name gm_name (gk_cons gk_name gm_name (gk_cons gk_name gm_name gk_nil gm_nil) (gm_cons gm_name gm_nil)) (gm_cons gm_name (gm_cons gm_name gm_nil)))), (sg_tup (sg_cons sg_name (sg_cons sg_name (sg_cons sg_name sg_nil))) (gl_cons1 (gl_cons1 (gl_cons1 gl_nil)))), by decide +kernel, fun _ _ _ => dif_nil, fun _ _ _ => (d_tup (da_cons (d_var 1) (da_cons (d_var 2) da_nil))), fun _ => rfl⟩)))) db_nil)
      (db_cons (ds_if (dt_cmp (o_eq hu) (d_var 1) d_str (nomark _)) (db_one (ds_ret (cP hP (d_call S.c_rows_scopes hr (by rfl) (da_cons (d_ix (d_var 0) d_int (fun _ _ => rfl)) (da_cons (d_ix (d_var 0) d_int (fun _ _ => rfl)) da_nil)))))) db_nil)
      (db_one (ds_ret (d_lst da_nil)))))))))))⟩
abbrev st_let_scopes : Stmt := top 2
theorem sc_let_scopes : FnScope ["pairs", "body", "names"] ["pairs", "body"] (defScope st_let_scopes) := ⟨rfl, rfl, rfl, by decide +kernel, rfl, by decide +kernel, by decide +kernel⟩
def D_let_scopes : {W // SX 0 st_let_scopes ["pairs", "body", "names"] "let_scopes" W} := ⟨_, fun hP T S hr => by
    have nd := sc_let_scopes.nd
    exact (db_cons (ds_set (i := 2) nd (d_ty b_tuple (by rfl) T.n_tuple bt_tuple (da_cons (d_comp (cN := ["name", "part"]) (cap := [none, none]) (cl := []) (js := ([0] ++ ([1] ++ []))) (g := (gTup _ 2 (gCons (gName 0) (gCons (gName 1) gNil)))) ⟨rfl, (fun _ => compOk0 rfl (by decide +kernel) (by decide +kernel) rfl (by decide)), (di_seq (d_var 0)), (fun _ _ _ => pg_tup (n := 2) rfl (pgs_cons (pg_name (i := 0) (show (["name", "part"] : List Str).Nodup by decide +kernel) rfl (Or.inl rfl)) (pgs_cons (pg_name (i := 1) (show (["name", "part"] : List Str).Nodup by decide +kernel) rfl (Or.inl rfl)) pgs_nil))), (gm_tup (gm_cons gm_name (gm_cons gm_name gm_nil))), (gk_tup (gk_cons gk_name gm_name (gk_cons gk_name gm_name gk_nil gm_nil) (gm_cons gm_name gm_nil))), (sg_tup (sg_cons sg_name (sg_cons sg_name sg_nil)) (gl_cons1 (gl_cons1 gl_nil))), by decide +kernel, fun _ _ _ => dif_nil, fun _ _ _ => (d_var 0), fun _ => rfl⟩) da_nil)))
      (db_one (ds_ret (d_op o_add (d_comp (cN := ["name", "part", "names"]) (cap := [none, none, some 2]) (cl := (closOf _ _ [])) (js := ([0] ++ ([1] ++ []))) (g := (gTup _ 2 (gCons (gName 0) (gCons (gName 1) gNil)))) ⟨rfl, (fun ok => compOkN ok rfl (by decide +kernel) (by decide +kernel) rfl rfl rfl), (di_seq (d_var 0)), (fun _ _ _ => pg_tup (n := 2) rfl (pgs_cons (pg_name (i := 0) (show (["name", "part", "names"] : List Str).Nodup by decide +kernel) rfl (Or.inl rfl)) (pgs_cons (pg_name (i := 1) (show (["name", "part", "names"] : List Str).Nodup by decide +kernel) rfl (Or.inl rfl)) pgs_nil))), (gm_tup (gm_cons gm_name (gm_cons gm_name gm_nil))), (gk_tup (gk_cons gk_name gm_name (gk_cons gk_name gm_name gk_nil gm_nil) (gm_cons gm_name gm_nil))), (sg_tup (sg_cons sg_name (sg_cons sg_name sg_nil)) (gl_cons1 (gl_cons1 gl_nil))), by decide +kernel, fun _ _ _ => dif_nil, fun _ _ _ => (d_tup (da_cons (d_var 2) (da_cons (d_var 1) da_nil))), fun _ => rfl⟩) (d_lst (da_cons (d_tup (da_cons (d_var 2) (da_cons (d_var 1) da_nil))) da_nil))))))⟩
abbrev st_rows_scopes : Stmt := top 3
theorem sc_rows_scopes : FnScope ["body", "steps", "bound", "behind", "step"] ["body", "steps"] (defScope st_rows_scopes) := ⟨rfl, rfl, rfl, by decide +kernel, rfl, by decide +kernel, by decide +kernel⟩
def D_rows_scopes : {W // SX 0 st_rows_scopes ["body", "steps", "bound", "behind", "step"] "rows_scopes" W} := ⟨_, fun hP T S hr => by
    have nd := sc_rows_scopes.nd
    exact (db_cons (ds_set (i := 2) nd (d_tup da_nil))
      (db_cons (ds_set (i := 3) nd (d_lst da_nil))
      (db_cons (ds_for PassesOwn.never rfl (di_seq (d_var 1)) (dg_name (i := 4) nd)
      (db_cons (ds_expr (d_mt PySem.F.plainAttrs_list PySem.F.slot_list_append PySem.F.type_list_append ty_list m_append (d_var 3) (da_cons (d_tup (da_cons (d_var 2) (da_cons (d_ix (d_var 4) (d_neg d_int) (fun _ _ => rfl)) da_nil))) da_nil)))
      (db_one (ds_set (i := 2) nd (d_op o_add (d_var 2) (d_sl (d_var 4) (do_some d_int) (do_some (d_neg d_int))))))))
      (db_one (ds_ret (d_op o_add (d_lst (da_cons (d_tup (da_cons (d_var 2) (da_cons (d_var 0) da_nil))) da_nil)) (d_var 3)))))))⟩
abbrev st_parts : Stmt := top 4
theorem sc_parts : FnScope ["term"] ["term"] (defScope st_parts) := ⟨rfl, rfl, rfl, by decide +kernel, rfl, by decide +kernel, by decide +kernel⟩
def D_parts : {W // SX 0 st_parts ["term"] "parts" W} := ⟨_, fun hP T S hr => by
    exact (db_one (ds_ret (d_comp (cN := ["names", "part"]) (cap := [none, none]) (cl := []) (js := ([0] ++ ([1] ++ []))) (g := (gTup _ 2 (gCons (gName 0) (gCons (gName 1) gNil)))) ⟨rfl, (fun _ => compOk0 rfl (by decide +kernel) (by decide +kernel) rfl (by decide)), (di_seq (cP hP (d_call S.c_scopes hr (by rfl) (da_cons (d_var 0) da_nil)))), (fun _ _ _ => pg_tup (n := 2) rfl (pgs_cons (pg_name (i := 0) (show (["names", "part"] : List Str).Nodup by decide +kernel) rfl (Or.inl rfl)) (pgs_cons (pg_name (i := 1) (show (["names", "part"] : List Str).Nodup by decide +kernel) rfl (Or.inl rfl)) pgs_nil))), (gm_tup (gm_cons gm_name (gm_cons gm_name gm_nil))), (gk_tup (gk_cons gk_name gm_name (gk_cons gk_name gm_name gk_nil gm_nil) (gm_cons gm_name gm_nil))), (sg_tup (sg_cons sg_name (sg_cons sg_name sg_nil)) (gl_cons1 (gl_cons1 gl_nil))), by decide +kernel, fun _ _ _ => dif_nil, fun _ _ _ => (d_var 1), fun _ => rfl⟩)))⟩
abbrev st_Node_state : Stmt := inClass (top 6) 0
theorem sc_Node_state : FnScope ["self"] ["self"] (defScope st_Node_state) := ⟨rfl, rfl, rfl, by decide +kernel, rfl, by decide +kernel, by decide +kernel⟩
def D_Node_state : {W // SX 0 st_Node_state ["self"] "Node.state" W} := ⟨_, fun hP T S hr => by
    exact (db_one (ds_ret d_str))⟩
abbrev st_Node_links : Stmt := inClass (top 6) 1
theorem sc_Node_links : FnScope ["self"] ["self"] (defScope st_Node_links) := ⟨rfl, rfl, rfl, by decide +kernel, rfl, by decide +kernel, by decide +kernel⟩
def D_Node_links : {W // SX 0 st_Node_links ["self"] "Node.links" W} := ⟨_, fun hP T S hr => by
    exact (db_one (ds_ret (d_lst da_nil)))⟩
abbrev st_Waiting___init__ : Stmt := inClass (top 7) 0
theorem sc_Waiting___init__ : FnScope ["self", "text"] ["self", "text"] (defScope st_Waiting___init__) := ⟨rfl, rfl, rfl, by decide +kernel, rfl, by decide +kernel, by decide +kernel⟩
def D_Waiting___init__ : {W // SX 0 st_Waiting___init__ ["self", "text"] "Waiting.__init__" W} := ⟨_, fun hP T S hr => by
    exact (db_one (ds_fld (kf_cons T.f_Waiting_text kf_nil) (d_var 0) (d_var 1)))⟩
abbrev st_Waiting_state : Stmt := inClass (top 7) 1
theorem sc_Waiting_state : FnScope ["self"] ["self"] (defScope st_Waiting_state) := ⟨rfl, rfl, rfl, by decide +kernel, rfl, by decide +kernel, by decide +kernel⟩
def D_Waiting_state : {W // SX 0 st_Waiting_state ["self"] "Waiting.state" W} := ⟨_, fun hP T S hr => by
    exact (db_one (ds_ret d_str))⟩
abbrev st_Waiting_links : Stmt := inClass (top 7) 2
theorem sc_Waiting_links : FnScope ["self"] ["self"] (defScope st_Waiting_links) := ⟨rfl, rfl, rfl, by decide +kernel, rfl, by decide +kernel, by decide +kernel⟩
def D_Waiting_links : {W // SX 0 st_Waiting_links ["self"] "Waiting.links" W} := ⟨_, fun hP T S hr => by
    exact (db_one (ds_ret (cP hP (d_call S.c_marks_in hr (by rfl) (da_cons (d_fld (kf_cons T.f_Waiting_text kf_nil) (d_var 0)) da_nil)))))⟩
abbrev st_Underway_state : Stmt := inClass (top 8) 0
theorem sc_Underway_state : FnScope ["self"] ["self"] (defScope st_Underway_state) := ⟨rfl, rfl, rfl, by decide +kernel, rfl, by decide +kernel, by decide +kernel⟩
def D_Underway_state : {W // SX 0 st_Underway_state ["self"] "Underway.state" W} := ⟨_, fun hP T S hr => by
    exact (db_one (ds_ret d_str))⟩
abbrev st_Ready___init__ : Stmt := inClass (top 9) 0
theorem sc_Ready___init__ : FnScope ["self", "value"] ["self", "value"] (defScope st_Ready___init__) := ⟨rfl, rfl, rfl, by decide +kernel, rfl, by decide +kernel, by decide +kernel⟩
def D_Ready___init__ : {W // SX 0 st_Ready___init__ ["self", "value"] "Ready.__init__" W} := ⟨_, fun hP T S hr => by
    exact (db_one (ds_fld (kf_cons T.f_Ready_value kf_nil) (d_var 0) (d_var 1)))⟩
abbrev st_Ready_state : Stmt := inClass (top 9) 1
theorem sc_Ready_state : FnScope ["self"] ["self"] (defScope st_Ready_state) := ⟨rfl, rfl, rfl, by decide +kernel, rfl, by decide +kernel, by decide +kernel⟩
def D_Ready_state : {W // SX 0 st_Ready_state ["self"] "Ready.state" W} := ⟨_, fun hP T S hr => by
    exact (db_one (ds_ret d_str))⟩
abbrev st_Ready_links : Stmt := inClass (top 9) 2
theorem sc_Ready_links : FnScope ["self"] ["self"] (defScope st_Ready_links) := ⟨rfl, rfl, rfl, by decide +kernel, rfl, by decide +kernel, by decide +kernel⟩
def D_Ready_links : {W // SX 0 st_Ready_links ["self"] "Ready.links" W} := ⟨_, fun hP T S hr => by
    exact (db_one (ds_ret (cP hP (d_call S.c_marks_in hr (by rfl) (da_cons (d_fld (kf_cons T.f_Ready_value kf_nil) (d_var 0)) da_nil)))))⟩
abbrev st_marks_in : Stmt := top 10
theorem sc_marks_in : FnScope ["term", "found", "pile", "one"] ["term"] (defScope st_marks_in) := ⟨rfl, rfl, rfl, by decide +kernel, rfl, by decide +kernel, by decide +kernel⟩
def D_marks_in : {W // SX 0 st_marks_in ["term", "found", "pile", "one"] "marks_in" W} := ⟨_, fun hP T S hr => by
    have nd := sc_marks_in.nd
    have hu := hu150 hr
    exact (db_cons (ds_set (i := 1) nd d_dict0)
      (db_cons (ds_set (i := 2) nd (d_lst (da_cons (d_var 0) da_nil)))
      (db_cons (ds_while PassesOwn.never (dt_cmp (o_ne hu) (d_var 2) (d_lst da_nil) (nomark _))
      (db_cons (ds_set (i := 3) nd (d_mt0 PySem.F.plainAttrs_list PySem.F.slot_list_pop PySem.F.type_list_pop ty_list m_pop (d_var 2)))
      (db_one (ds_if (dt_cmp (o_eq hu) (d_ix (d_var 3) d_int (fun _ _ => rfl)) d_str (nomark _)) (db_one (ds_asg d_bl (dg_subD hu (d_var 1) (d_ix (d_var 3) d_int (fun _ _ => rfl))))) (db_one (ds_if (dt_cmp (o_eq hu) (d_ix (d_var 3) d_int (fun _ _ => rfl)) d_str (nomark _)) (db_one (ds_expr (d_mt PySem.F.plainAttrs_list PySem.F.slot_list_extend PySem.F.type_list_extend ty_list m_extT (d_var 2) (da_cons (d_ix (d_var 3) d_int (fun _ _ => rfl)) da_nil)))) (db_one (ds_expr (d_mt PySem.F.plainAttrs_list PySem.F.slot_list_extend PySem.F.type_list_extend ty_list m_extend (d_var 2) (da_cons (cP hP (d_call S.c_parts hr (by rfl) (da_cons (d_var 3) da_nil))) da_nil))))))))))
      (db_one (ds_ret (d_bi (b_sortDI rfl) (by rfl) T.n_sorted bt_sorted (da_cons (d_var 1) da_nil)))))))⟩
abbrev st__law_cells : Stmt := top 12
theorem sc__law_cells : FnScope ["_law_script", "_law_start", "_law_found", "_law_k"] ["_law_script", "_law_start"] (defScope st__law_cells) := ⟨rfl, rfl, rfl, by decide +kernel, rfl, by decide +kernel, by decide +kernel⟩
def D__law_cells : {W // SX 0 st__law_cells ["_law_script", "_law_start", "_law_found", "_law_k"] "_law_cells" W} := ⟨_, fun hP T S hr => by
    have nd := sc__law_cells.nd
    exact (db_cons (ds_set (i := 2) nd (d_lst da_nil))
      (db_cons (ds_for PassesOwn.never rfl (di_r3 (by rfl) T.n_range (da_cons (d_var 1) (da_cons (d_bi b_len (by rfl) T.n_len PySem.boot_len (da_cons (d_var 0) da_nil)) (da_cons d_int da_nil)))) (dg_name (i := 3) nd)
      (db_one (ds_expr (d_mt PySem.F.plainAttrs_list PySem.F.slot_list_append PySem.F.type_list_append ty_list m_append (d_var 2) (da_cons (d_op o_mod (d_op o_add (d_op o_add (d_op o_mul (d_op o_mod (d_ix (d_var 0) (d_var 3) (fun _ _ => rfl)) d_int) d_int) (d_op o_mul d_int (d_var 3))) d_int) d_int) da_nil)))))
      (db_one (ds_ret (d_sl (d_var 2) do_none (do_some d_int))))))⟩
abbrev st__law_number : Stmt := top 13
theorem sc__law_number : FnScope ["_law_cell"] ["_law_cell"] (defScope st__law_number) := ⟨rfl, rfl, rfl, by decide +kernel, rfl, by decide +kernel, by decide +kernel⟩
def D__law_number : {W // SX 0 st__law_number ["_law_cell"] "_law_number" W} := ⟨_, fun hP T S hr => by
    have hu := hu150 hr
    exact (db_cons (ds_if (dt_cmp (o_eq hu) (d_op o_mod (d_var 0) d_int) d_int (nomark _)) (db_one (ds_ret (d_op o_mod (d_op o_div (d_var 0) d_int) d_int))) db_nil)
      (db_cons (ds_if (dt_cmp (o_eq hu) (d_op o_mod (d_var 0) d_int) d_int (nomark _)) (db_one (ds_ret (d_op o_mod (d_op o_mul (d_op o_div (d_var 0) d_int) d_int) d_int))) db_nil)
      (db_one (ds_ret (d_op o_mod (d_op o_mul (d_var 0) (d_var 0)) (d_op o_pow d_int d_int))))))⟩
abbrev st__law_leaf : Stmt := top 14
theorem sc__law_leaf : FnScope ["_law_cell", "_law_number_here"] ["_law_cell"] (defScope st__law_leaf) := ⟨rfl, rfl, rfl, by decide +kernel, rfl, by decide +kernel, by decide +kernel⟩
def D__law_leaf : {W // SX 0 st__law_leaf ["_law_cell", "_law_number_here"] "_law_leaf" W} := ⟨_, fun hP T S hr => by
    have nd := sc__law_leaf.nd
    have hu := hu150 hr
    exact (db_cons (ds_set (i := 1) nd (cP hP (d_call S.c__law_number hr (by rfl) (da_cons (d_op o_div (d_var 0) d_int) da_nil))))
      (db_cons (ds_if (dt_cmp o_lt (d_op o_mod (d_var 0) d_int) d_int (nomark _)) (db_one (ds_ret (d_tup (da_cons (d_tup (da_cons d_str (da_cons (d_var 1) da_nil))) (da_cons (d_lst (da_cons (d_var 1) da_nil)) da_nil))))) db_nil)
      (db_cons (ds_if (dt_cmp (o_eq hu) (d_op o_mod (d_var 0) d_int) d_int (nomark _)) (db_one (ds_ret (d_tup (da_cons (d_tup (da_cons (d_ix (d_lst (da_cons d_str (da_cons d_str da_nil))) (d_op o_mod (d_op o_div (d_var 0) d_int) d_int) (fun _ _ => rfl)) (da_cons (d_var 1) da_nil))) (da_cons (d_lst da_nil) da_nil))))) db_nil)
      (db_cons (ds_if (dt_cmp (o_eq hu) (d_op o_mod (d_var 0) d_int) d_int (nomark _)) (db_one (ds_ret (d_tup (da_cons (d_tup (da_cons d_str (da_cons (d_var 1) da_nil))) (da_cons (d_lst da_nil) da_nil))))) db_nil)
      (db_one (ds_ret (d_tup (da_cons (d_tup (da_cons (d_ix (d_lst (da_cons d_str (da_cons d_str da_nil))) (d_op o_mod (d_op o_div (d_var 0) d_int) d_int) (fun _ _ => rfl)) (da_cons (d_op o_add d_str (d_ty b_str2 (by rfl) T.n_str bt_str (da_cons (d_op o_mod (d_op o_div (d_var 0) d_int) d_int) da_nil))) da_nil))) (da_cons (d_lst da_nil) da_nil)))))))))⟩
abbrev st__law_let : Stmt := top 15
theorem sc__law_let : FnScope ["_law_cell", "_law_cells_here", "_law_deep", "_law_many", "_law_found", "_law_pairs", "_law_k", "_law_inner", "_law_numbers"] ["_law_cell", "_law_cells_here", "_law_deep"] (defScope st__law_let) := ⟨rfl, rfl, rfl, by decide +kernel, rfl, by decide +kernel, by decide +kernel⟩
def D__law_let : {W // SX 0 st__law_let ["_law_cell", "_law_cells_here", "_law_deep", "_law_many", "_law_found", "_law_pairs", "_law_k", "_law_inner", "_law_numbers"] "_law_let" W} := ⟨_, fun hP T S hr => by
    have nd := sc__law_let.nd
    exact (db_cons (ds_set (i := 3) nd (d_op o_add d_int (d_op o_mod (d_var 0) d_int)))
      (db_cons (ds_set (i := 4) nd (d_lst da_nil))
      (db_cons (ds_set (i := 5) nd (d_lst da_nil))
      (db_cons (ds_for PassesOwn.never rfl (di_r1 (by rfl) T.n_range (da_cons (d_var 3) da_nil)) (dg_name (i := 6) nd)
      (db_cons (ds_asg (cP hP (d_call S.c__law_term hr (by rfl) (da_cons (d_sl3 (d_var 1) (do_some (d_var 6)) do_none (do_some (d_op o_add (d_var 3) d_int))) (da_cons (d_op o_add (d_op o_div (d_var 0) d_int) (d_op o_mul d_int (d_var 6))) (da_cons (d_var 2) da_nil))))) (dg_tup (n := 2) rfl (dg_cons (dg_name (i := 7) nd) (dg_cons (dg_name (i := 8) nd) dg_nil)) (gl_cons1 (gl_cons1 gl_nil))))
      (db_cons (ds_set (i := 4) nd (d_op o_add (d_var 4) (d_var 8)))
      (db_one (ds_expr (d_mt PySem.F.plainAttrs_list PySem.F.slot_list_append PySem.F.type_list_append ty_list m_append (d_var 5) (da_cons (d_tup (da_cons (d_op o_add (d_op o_add d_str (d_ty b_str2 (by rfl) T.n_str bt_str (da_cons (d_var 6) da_nil))) (d_op o_mulS d_str (d_op o_mod (d_op o_div (d_var 0) d_int) d_int))) (da_cons (d_var 7) da_nil))) da_nil)))))))
      (db_cons (ds_asg (cP hP (d_call S.c__law_term hr (by rfl) (da_cons (d_sl3 (d_var 1) (do_some (d_var 3)) do_none (do_some (d_op o_add (d_var 3) d_int))) (da_cons (d_op o_div (d_var 0) d_int) (da_cons (d_var 2) da_nil))))) (dg_tup (n := 2) rfl (dg_cons (dg_name (i := 7) nd) (dg_cons (dg_name (i := 8) nd) dg_nil)) (gl_cons1 (gl_cons1 gl_nil))))
      (db_one (ds_ret (d_tup (da_cons (d_tup (da_cons d_str (da_cons (d_ty b_tuple (by rfl) T.n_tuple bt_tuple (da_cons (d_var 5) da_nil)) (da_cons (d_var 7) da_nil)))) (da_cons (d_op o_add (d_var 4) (d_var 8)) da_nil))))))))))⟩
abbrev st__law_choose : Stmt := top 16
theorem sc__law_choose : FnScope ["_law_cell", "_law_cells_here", "_law_deep", "_law_front", "_law_found", "_law_one", "_law_numbers", "_law_other"] ["_law_cell", "_law_cells_here", "_law_deep"] (defScope st__law_choose) := ⟨rfl, rfl, rfl, by decide +kernel, rfl, by decide +kernel, by decide +kernel⟩
def D__law_choose : {W // SX 0 st__law_choose ["_law_cell", "_law_cells_here", "_law_deep", "_law_front", "_law_found", "_law_one", "_law_numbers", "_law_other"] "_law_choose" W} := ⟨_, fun hP T S hr => by
    have nd := sc__law_choose.nd
    have hu := hu150 hr
    exact (db_cons (ds_if (dt_cmp (o_eq hu) (d_op o_mod (d_var 0) d_int) d_int (nomark _)) (db_cons (ds_asg (cP hP (d_call S.c__law_term hr (by rfl) (da_cons (d_sl3 (d_var 1) do_none do_none (do_some d_int)) (da_cons (d_op o_div (d_var 0) d_int) (da_cons (d_var 2) da_nil))))) (dg_tup (n := 2) rfl (dg_cons (dg_name (i := 3) nd) (dg_cons (dg_name (i := 4) nd) dg_nil)) (gl_cons1 (gl_cons1 gl_nil))))
      (db_cons (ds_asg (cP hP (d_call S.c__law_term hr (by rfl) (da_cons (d_sl3 (d_var 1) (do_some d_int) do_none (do_some d_int)) (da_cons (d_op o_div (d_var 0) d_int) (da_cons (d_var 2) da_nil))))) (dg_tup (n := 2) rfl (dg_cons (dg_name (i := 5) nd) (dg_cons (dg_name (i := 6) nd) dg_nil)) (gl_cons1 (gl_cons1 gl_nil))))
      (db_one (ds_ret (d_tup (da_cons (d_tup (da_cons d_str (da_cons (d_var 3) (da_cons (d_tup (da_cons (d_tup (da_cons d_str (da_cons (d_tup (da_cons d_str (da_cons d_str da_nil))) (da_cons (d_var 5) da_nil)))) da_nil)) da_nil)))) (da_cons (d_op o_add (d_var 4) (d_var 6)) da_nil))))))) db_nil)
      (db_cons (ds_asg (cP hP (d_call S.c__law_term hr (by rfl) (da_cons (d_sl3 (d_var 1) do_none do_none (do_some d_int)) (da_cons (d_op o_div (d_var 0) d_int) (da_cons (d_var 2) da_nil))))) (dg_tup (n := 2) rfl (dg_cons (dg_name (i := 3) nd) (dg_cons (dg_name (i := 4) nd) dg_nil)) (gl_cons1 (gl_cons1 gl_nil))))
      (db_cons (ds_asg (cP hP (d_call S.c__law_term hr (by rfl) (da_cons (d_sl3 (d_var 1) (do_some d_int) do_none (do_some d_int)) (da_cons (d_op o_div (d_var 0) d_int) (da_cons (d_var 2) da_nil))))) (dg_tup (n := 2) rfl (dg_cons (dg_name (i := 5) nd) (dg_cons (dg_name (i := 6) nd) dg_nil)) (gl_cons1 (gl_cons1 gl_nil))))
      (db_cons (ds_set (i := 4) nd (d_op o_add (d_var 4) (d_var 6)))
      (db_cons (ds_asg (cP hP (d_call S.c__law_term hr (by rfl) (da_cons (d_sl3 (d_var 1) (do_some d_int) do_none (do_some d_int)) (da_cons (d_op o_div (d_var 0) d_int) (da_cons (d_var 2) da_nil))))) (dg_tup (n := 2) rfl (dg_cons (dg_name (i := 7) nd) (dg_cons (dg_name (i := 6) nd) dg_nil)) (gl_cons1 (gl_cons1 gl_nil))))
      (db_cons (ds_if (dt_cmp (o_eq hu) (d_op o_mod (d_var 0) d_int) d_int (nomark _)) (db_one (ds_ret (d_tup (da_cons (d_tup (da_cons d_str (da_cons (d_var 3) (da_cons (d_tup (da_cons (d_tup (da_cons d_str (da_cons (d_tup da_nil) (da_cons (d_var 5) da_nil)))) (da_cons (d_tup (da_cons d_str (da_cons (d_tup da_nil) (da_cons (d_var 7) da_nil)))) da_nil))) da_nil)))) (da_cons (d_op o_add (d_var 4) (d_var 6)) da_nil))))) db_nil)
      (db_one (ds_ret (d_tup (da_cons (d_tup (da_cons d_str (da_cons (d_var 3) (da_cons (d_tup (da_cons (d_tup (da_cons d_str (da_cons (d_tup da_nil) (da_cons (d_var 5) da_nil)))) (da_cons (d_tup (da_cons d_str (da_cons (d_tup (da_cons d_str (da_cons d_str da_nil))) (da_cons (d_var 7) da_nil)))) da_nil))) da_nil)))) (da_cons (d_op o_add (d_var 4) (d_var 6)) da_nil)))))))))))⟩
abbrev st__law_two : Stmt := top 17
theorem sc__law_two : FnScope ["_law_cell", "_law_cells_here", "_law_deep", "_law_one", "_law_found", "_law_other", "_law_numbers"] ["_law_cell", "_law_cells_here", "_law_deep"] (defScope st__law_two) := ⟨rfl, rfl, rfl, by decide +kernel, rfl, by decide +kernel, by decide +kernel⟩
def D__law_two : {W // SX 0 st__law_two ["_law_cell", "_law_cells_here", "_law_deep", "_law_one", "_law_found", "_law_other", "_law_numbers"] "_law_two" W} := ⟨_, fun hP T S hr => by
    have nd := sc__law_two.nd
    have hu := hu150 hr
    exact (db_cons (ds_if (dt_cmp (o_eq hu) (d_op o_mod (d_var 0) d_int) d_int (nomark _)) (db_cons (ds_asg (cP hP (d_call S.c__law_term hr (by rfl) (da_cons (d_var 1) (da_cons (d_op o_div (d_var 0) d_int) (da_cons (d_var 2) da_nil))))) (dg_tup (n := 2) rfl (dg_cons (dg_name (i := 3) nd) (dg_cons (dg_name (i := 4) nd) dg_nil)) (gl_cons1 (gl_cons1 gl_nil))))
      (db_one (ds_ret (d_tup (da_cons (d_tup (da_cons d_str (da_cons d_str (da_cons (d_var 3) da_nil)))) (da_cons (d_var 4) da_nil)))))) db_nil)
      (db_cons (ds_asg (cP hP (d_call S.c__law_term hr (by rfl) (da_cons (d_sl3 (d_var 1) do_none do_none (do_some d_int)) (da_cons (d_op o_div (d_var 0) d_int) (da_cons (d_var 2) da_nil))))) (dg_tup (n := 2) rfl (dg_cons (dg_name (i := 3) nd) (dg_cons (dg_name (i := 4) nd) dg_nil)) (gl_cons1 (gl_cons1 gl_nil))))
      (db_cons (ds_asg (cP hP (d_call S.c__law_term hr (by rfl) (da_cons (d_sl3 (d_var 1) (do_some d_int) do_none (do_some d_int)) (da_cons (d_op o_div (d_var 0) d_int) (da_cons (d_var 2) da_nil))))) (dg_tup (n := 2) rfl (dg_cons (dg_name (i := 5) nd) (dg_cons (dg_name (i := 6) nd) dg_nil)) (gl_cons1 (gl_cons1 gl_nil))))
      (db_cons (ds_set (i := 4) nd (d_op o_add (d_var 4) (d_var 6)))
      (db_cons (ds_if (dt_cmp o_lt (d_op o_mod (d_var 0) d_int) d_int (nomark _)) (db_one (ds_ret (d_tup (da_cons (d_tup (da_cons d_str (da_cons (d_var 3) (da_cons (d_var 5) da_nil)))) (da_cons (d_var 4) da_nil))))) db_nil)
      (db_cons (ds_if (dt_cmp o_lt (d_op o_mod (d_var 0) d_int) d_int (nomark _)) (db_one (ds_ret (d_tup (da_cons (d_tup (da_cons d_str (da_cons (d_var 3) (da_cons (d_var 5) da_nil)))) (da_cons (d_var 4) da_nil))))) db_nil)
      (db_cons (ds_if (dt_cmp o_lt (d_op o_mod (d_var 0) d_int) d_int (nomark _)) (db_one (ds_ret (d_tup (da_cons (d_tup (da_cons d_str (da_cons (d_ix d_str (d_op o_mod (d_op o_div (d_var 0) d_int) d_int) (fun _ _ => rfl)) (da_cons (d_var 3) (da_cons (d_var 5) da_nil))))) (da_cons (d_var 4) da_nil))))) db_nil)
      (db_one (ds_ret (d_tup (da_cons (d_tup (da_cons d_str (da_cons (d_ix (d_lst (da_cons d_str (da_cons d_str da_nil))) (d_op o_mod (d_op o_div (d_var 0) d_int) d_int) (fun _ _ => rfl)) (da_cons (d_tup (da_cons (d_var 3) (da_cons (d_var 5) da_nil))) da_nil)))) (da_cons (d_var 4) da_nil))))))))))))⟩
abbrev st__law_term : Stmt := top 18
theorem sc__law_term : FnScope ["_law_cells_here", "_law_spare", "_law_deep", "_law_cell"] ["_law_cells_here", "_law_spare", "_law_deep"] (defScope st__law_term) := ⟨rfl, rfl, rfl, by decide +kernel, rfl, by decide +kernel, by decide +kernel⟩
def D__law_term : {W // SX 0 st__law_term ["_law_cells_here", "_law_spare", "_law_deep", "_law_cell"] "_law_term" W} := ⟨_, fun hP T S hr => by
    have nd := sc__law_term.nd
    have hu := hu150 hr
    exact (db_cons (ds_if (dt_w (dw_or (dt_cmp o_lt (d_bi b_len (by rfl) T.n_len PySem.boot_len (da_cons (d_var 0) da_nil)) d_int (nomark _)) (dw_or1 (dt_cmp (o_eq hu) (d_var 2) d_int (nomark _))))) (db_cons (ds_if (dt_cmp (o_eq hu) (d_op o_mod (d_op o_add (d_bi (b_sumG rfl) (by rfl) T.n_sum bt_sumG (da_cons (d_var 0) da_nil)) (d_var 1)) d_int) d_int (nomark _)) (db_one (ds_ret (d_tup (da_cons (d_tup (da_cons d_str (da_cons (d_ix (d_lst (da_cons d_str (da_cons d_str (da_cons d_str da_nil)))) (d_op o_mod (d_var 1) d_int) (fun _ _ => rfl)) (da_cons (d_tup da_nil) da_nil)))) (da_cons (d_lst da_nil) da_nil))))) db_nil)
      (db_one (ds_ret (cP hP (d_call S.c__law_leaf hr (by rfl) (da_cons (d_op o_add (d_bi (b_sumG rfl) (by rfl) T.n_sum bt_sumG (da_cons (d_var 0) da_nil)) (d_var 1)) da_nil)))))) db_nil)
      (db_cons (ds_set (i := 3) nd (d_op o_div (d_ix (d_var 0) d_int (fun _ _ => rfl)) d_int))
      (db_cons (ds_if (dt_cmp o_lt (d_op o_mod (d_ix (d_var 0) d_int (fun _ _ => rfl)) d_int) d_int (nomark _)) (db_one (ds_ret (cP hP (d_call S.c__law_let hr (by rfl) (da_cons (d_var 3) (da_cons (d_sl (d_var 0) (do_some d_int) do_none) (da_cons (d_op o_sub (d_var 2) d_int) da_nil))))))) db_nil)
      (db_cons (ds_if (dt_cmp o_lt (d_op o_mod (d_ix (d_var 0) d_int (fun _ _ => rfl)) d_int) d_int (nomark _)) (db_one (ds_ret (cP hP (d_call S.c__law_choose hr (by rfl) (da_cons (d_var 3) (da_cons (d_sl (d_var 0) (do_some d_int) do_none) (da_cons (d_op o_sub (d_var 2) d_int) da_nil))))))) db_nil)
      (db_one (ds_ret (cP hP (d_call S.c__law_two hr (by rfl) (da_cons (d_var 3) (da_cons (d_sl (d_var 0) (do_some d_int) do_none) (da_cons (d_op o_sub (d_var 2) d_int) da_nil)))))))))))⟩
abbrev st__law_shape : Stmt := top 19
theorem sc__law_shape : FnScope ["_law_cells_here", "_law_shape_here", "_law_marks", "_law_found", "_law_k", "_law_number_here", "_law_word"] ["_law_cells_here"] (defScope st__law_shape) := ⟨rfl, rfl, rfl, by decide +kernel, rfl, by decide +kernel, by decide +kernel⟩
def D__law_shape : {W // SX 0 st__law_shape ["_law_cells_here", "_law_shape_here", "_law_marks", "_law_found", "_law_k", "_law_number_here", "_law_word"] "_law_shape" W} := ⟨_, fun hP T S hr => by
    have nd := sc__law_shape.nd
    have hu := hu150 hr
    exact (db_cons (ds_set (i := 1) nd (d_ix (d_lst (da_cons d_str (da_cons d_str (da_cons d_str (da_cons d_str (da_cons d_str da_nil)))))) (d_op o_mod (d_op o_div (d_ix (d_var 0) d_int (fun _ _ => rfl)) d_int) d_int) (fun _ _ => rfl)))
      (db_cons (ds_if (dt_cmp (o_notIn hu) (d_var 1) (d_tup (da_cons d_str (da_cons d_str da_nil))) (by rfl)) (db_one (ds_ret (d_tup (da_cons (d_tup (da_cons d_str (da_cons (d_var 1) (da_cons (d_tup da_nil) da_nil)))) (da_cons (d_lst da_nil) da_nil))))) db_nil)
      (db_cons (ds_set (i := 2) nd (d_lst da_nil))
      (db_cons (ds_set (i := 3) nd (d_lst da_nil))
      (db_cons (ds_for PassesOwn.never rfl (di_r1 (by rfl) T.n_range (da_cons d_int da_nil)) (dg_name (i := 4) nd)
      (db_cons (ds_set (i := 5) nd (cP hP (d_call S.c__law_number hr (by rfl) (da_cons (d_op o_div (d_ix (d_var 0) (d_op o_mod (d_op o_add (d_var 4) d_int) (d_bi b_len (by rfl) T.n_len PySem.boot_len (da_cons (d_var 0) da_nil))) (fun _ _ => rfl)) d_int) da_nil))))
      (db_cons (ds_set (i := 6) nd (d_ix (d_lst (da_cons d_str (da_cons d_str (da_cons d_str (da_cons d_str (da_cons d_str da_nil)))))) (d_op o_mod (d_op o_div (d_bi (b_sumG rfl) (by rfl) T.n_sum bt_sumG (da_cons (d_var 0) da_nil)) (d_op o_add d_int (d_var 4))) d_int) (fun _ _ => rfl)))
      (db_cons (ds_expr (d_mt PySem.F.plainAttrs_list PySem.F.slot_list_append PySem.F.type_list_append ty_list m_append (d_var 2) (da_cons (d_tup (da_cons (d_var 6) (da_cons (d_var 5) da_nil))) da_nil)))
      (db_one (ds_if (dt_cmp (o_eq hu) (d_var 6) d_str (nomark _)) (db_one (ds_expr (d_mt PySem.F.plainAttrs_list PySem.F.slot_list_append PySem.F.type_list_append ty_list m_append (d_var 3) (da_cons (d_var 5) da_nil)))) db_nil))))))
      (db_one (ds_ret (d_tup (da_cons (d_tup (da_cons d_str (da_cons (d_var 1) (da_cons (d_ty b_tuple (by rfl) T.n_tuple bt_tuple (da_cons (d_var 2) da_nil)) da_nil)))) (da_cons (d_var 3) da_nil))))))))))⟩
abbrev st__law_drawn : Stmt := top 20
theorem sc__law_drawn : FnScope ["_law_cells_here"] ["_law_cells_here"] (defScope st__law_drawn) := ⟨rfl, rfl, rfl, by decide +kernel, rfl, by decide +kernel, by decide +kernel⟩
def D__law_drawn : {W // SX 0 st__law_drawn ["_law_cells_here"] "_law_drawn" W} := ⟨_, fun hP T S hr => by
    have hu := hu150 hr
    exact (db_cons (ds_if (dt_w (dw_and (dt_cmp o_gt (d_bi b_len (by rfl) T.n_len PySem.boot_len (da_cons (d_var 0) da_nil)) d_int (nomark _)) (dw_and1 (dt_cmp (o_eq hu) (d_op o_mod (d_ix (d_var 0) d_int (fun _ _ => rfl)) d_int) d_int (nomark _))))) (db_one (ds_ret (cP hP (d_call S.c__law_shape hr (by rfl) (da_cons (d_var 0) da_nil))))) db_nil)
      (db_one (ds_ret (cP hP (d_call S.c__law_term hr (by rfl) (da_cons (d_var 0) (da_cons (d_bi b_len (by rfl) T.n_len PySem.boot_len (da_cons (d_var 0) da_nil)) (da_cons d_int da_nil))))))))⟩
abbrev st__law_is_list : Stmt := top 21
theorem sc__law_is_list : FnScope ["_law_found", "_law_due"] ["_law_found", "_law_due"] (defScope st__law_is_list) := ⟨rfl, rfl, rfl, by decide +kernel, rfl, by decide +kernel, by decide +kernel⟩
def D__law_is_list : {W // SX 0 st__law_is_list ["_law_found", "_law_due"] "_law_is_list" W} := ⟨_, fun hP T S hr => by
    have hu := hu150 hr
    exact (db_cons (ds_if (dt_w (dw_or (dt_not (dt_tru (d_isi (by rfl) T.n_isinstance (by rfl) T.n_list bt_list (by decide) (d_var 0)))) (dw_or1 (dt_cmp (o_ne hu) (d_var 0) (d_var 1) (nomark _))))) (db_one (ds_ret d_bl)) db_nil)
      (db_one (ds_ret (d_cmp (o_eq hu) (d_bi b_len (by rfl) T.n_len PySem.boot_len (da_cons (d_comp (cN := ["_law_one"]) (cap := [none]) (cl := []) (js := [0]) (g := (gName 0)) ⟨rfl, (fun _ => compOk0 rfl (by decide +kernel) (by decide +kernel) rfl (by decide)), (di_seq (d_var 0)), (fun _ _ _ => pg_name (i := 0) (show (["_law_one"] : List Str).Nodup by decide +kernel) rfl (Or.inl rfl)), gm_name, gk_name, sg_name, by decide +kernel, fun _ _ _ => (dif_one (dt_w (dw_and (dt_tru (d_isi (by rfl) T.n_isinstance (by rfl) T.n_int bt_int (by decide) (d_var 0))) (dw_and1 (dt_not (dt_tru (d_isi (by rfl) T.n_isinstance (by rfl) T.n_bool bt_bool (by decide) (d_var 0)))))))), fun _ _ _ => (d_var 0), fun _ => rfl⟩) da_nil)) (d_bi b_len (by rfl) T.n_len PySem.boot_len (da_cons (d_var 1) da_nil)) (nomark _)))))⟩
abbrev st__law_tells : Stmt := top 22
theorem sc__law_tells : FnScope ["_law_node", "_law_word", "_law_due", "_law_k", "_law_found"] ["_law_node", "_law_word", "_law_due"] (defScope st__law_tells) := ⟨rfl, rfl, rfl, by decide +kernel, rfl, by decide +kernel, by decide +kernel⟩
def D__law_tells : {W // SX 0 st__law_tells ["_law_node", "_law_word", "_law_due", "_law_k", "_law_found"] "_law_tells" W} := ⟨_, fun hP T S hr => by
    have nd := sc__law_tells.nd
    have hu := hu150 hr
    exact (db_cons (ds_for PassesOwn.never rfl (di_r1 (by rfl) T.n_range (da_cons d_int da_nil)) (dg_name (i := 3) nd)
      (db_cons (ds_set (i := 4) nd (mP hP (d_meth0 (pl := _) (mt_cons S.m_Node_links (mt_cons S.m_Waiting_links (mt_cons S.m_Underway_links (mt_cons S.m_Ready_links mt_nil)))) hr (d_var 0))))
      (db_cons (ds_if (dt_w (dw_or (dt_not (dt_tru (d_isi (by rfl) T.n_isinstance (by rfl) T.n_str bt_str (by decide) (mP hP (d_meth0 (pl := _) (mt_cons S.m_Node_state (mt_cons S.m_Waiting_state (mt_cons S.m_Underway_state (mt_cons S.m_Ready_state mt_nil)))) hr (d_var 0)))))) (dw_or (dt_cmp (o_ne hu) (mP hP (d_meth0 (pl := _) (mt_cons S.m_Node_state (mt_cons S.m_Waiting_state (mt_cons S.m_Underway_state (mt_cons S.m_Ready_state mt_nil)))) hr (d_var 0))) (d_var 1) (nomark _)) (dw_or1 (dt_not (dt_tru (cP hP (d_call S.c__law_is_list hr (by rfl) (da_cons (d_var 4) (da_cons (d_var 2) da_nil)))))))))) (db_one (ds_ret d_bl)) db_nil)
      (db_one (ds_expr (d_mt PySem.F.plainAttrs_list PySem.F.slot_list_append PySem.F.type_list_append ty_list m_append (d_var 4) (da_cons (d_op o_sub (d_neg d_int) (d_var 3)) da_nil)))))))
      (db_one (ds_ret d_bl)))⟩
abbrev st__law_waits : Stmt := top 23
theorem sc__law_waits : FnScope ["_law_thing"] ["_law_thing"] (defScope st__law_waits) := ⟨rfl, rfl, rfl, by decide +kernel, rfl, by decide +kernel, by decide +kernel⟩
def D__law_waits : {W // SX 0 st__law_waits ["_law_thing"] "_law_waits" W} := ⟨_, fun hP T S hr => by
    have hu := hu150 hr
    exact (db_cons (ds_if (dt_cmp (o_eq hu) (d_ix (d_var 0) d_int (fun _ _ => rfl)) d_str (nomark _)) (db_one (ds_ret (cP hP (d_new S.n_Waiting hr (by rfl) (da_cons (d_tup (da_cons d_str (da_cons (d_ix (d_var 0) d_int (fun _ _ => rfl)) (da_cons (d_ix (d_var 0) d_int (fun _ _ => rfl)) da_nil)))) da_nil))))) db_nil)
      (db_one (ds_ret (cP hP (d_new S.n_Waiting hr (by rfl) (da_cons (d_var 0) da_nil))))))⟩
abbrev st__law_ready : Stmt := top 24
theorem sc__law_ready : FnScope ["_law_thing"] ["_law_thing"] (defScope st__law_ready) := ⟨rfl, rfl, rfl, by decide +kernel, rfl, by decide +kernel, by decide +kernel⟩
def D__law_ready : {W // SX 0 st__law_ready ["_law_thing"] "_law_ready" W} := ⟨_, fun hP T S hr => by
    have hu := hu150 hr
    exact (db_cons (ds_if (dt_cmp (o_in hu) (d_ix (d_var 0) d_int (fun _ _ => rfl)) (d_tup (da_cons d_str (da_cons d_str da_nil))) (by rfl)) (db_one (ds_ret (cP hP (d_new S.n_Ready hr (by rfl) (da_cons (d_var 0) da_nil))))) db_nil)
      (db_one (ds_ret (cP hP (d_new S.n_Ready hr (by rfl) (da_cons (d_tup (da_cons d_str (da_cons d_str (da_cons (d_var 0) da_nil)))) da_nil))))))⟩
abbrev st__law_kept : Stmt := top 25
theorem sc__law_kept : FnScope ["_law_thing", "_law_due", "_law_waits_here", "_law_ready_here", "_law_under"] ["_law_thing", "_law_due"] (defScope st__law_kept) := ⟨rfl, rfl, rfl, by decide +kernel, rfl, by decide +kernel, by decide +kernel⟩
def D__law_kept : {W // SX 0 st__law_kept ["_law_thing", "_law_due", "_law_waits_here", "_law_ready_here", "_law_under"] "_law_kept" W} := ⟨_, fun hP T S hr => by
    have nd := sc__law_kept.nd
    exact (db_cons (ds_set (i := 2) nd (cP hP (d_call S.c__law_waits hr (by rfl) (da_cons (d_var 0) da_nil))))
      (db_cons (ds_set (i := 3) nd (cP hP (d_call S.c__law_ready hr (by rfl) (da_cons (d_var 0) da_nil))))
      (db_cons (ds_set (i := 4) nd (d_mk0 T.k0_Underway (by rfl)))
      (db_cons (ds_if (dt_w (dw_or (dt_not (dt_tru (d_isI (by rfl) T.n_isinstance (by rfl) T.i_Node (d_var 2)))) (dw_or (dt_not (dt_tru (d_isI (by rfl) T.n_isinstance (by rfl) T.i_Node (d_var 3)))) (dw_or1 (dt_not (dt_tru (d_isI (by rfl) T.n_isinstance (by rfl) T.i_Node (d_var 4)))))))) (db_one (ds_ret d_bl)) db_nil)
      (db_cons (ds_if (dt_w (dw_or (dt_tru (d_isI2 (by rfl) T.n_isinstance (by rfl) T.i_Underway (by rfl) T.i_Ready (d_var 2))) (dw_or1 (dt_tru (d_isI2 (by rfl) T.n_isinstance (by rfl) T.i_Underway (by rfl) T.i_Waiting (d_var 3)))))) (db_one (ds_ret d_bl)) db_nil)
      (db_cons (ds_if (dt_w (dw_or (dt_tru (d_isI2 (by rfl) T.n_isinstance (by rfl) T.i_Waiting (by rfl) T.i_Ready (d_var 4))) (dw_or1 (dt_tru (d_isI3 (by rfl) T.n_isinstance (by rfl) T.i_Waiting (by rfl) T.i_Underway (by rfl) T.i_Ready (d_mk0 T.k0_Node (by rfl))))))) (db_one (ds_ret d_bl)) db_nil)
      (db_cons (ds_if (dt_w (dw_or (dt_not (dt_tru (cP hP (d_call S.c__law_tells hr (by rfl) (da_cons (d_var 2) (da_cons d_str (da_cons (d_var 1) da_nil))))))) (dw_or1 (dt_not (dt_tru (cP hP (d_call S.c__law_tells hr (by rfl) (da_cons (d_var 4) (da_cons d_str (da_cons (d_lst da_nil) da_nil)))))))))) (db_one (ds_ret d_bl)) db_nil)
      (db_one (ds_ret (d_and (cP hP (d_call S.c__law_tells hr (by rfl) (da_cons (d_var 3) (da_cons d_str (da_cons (d_var 1) da_nil))))) (d_and (cP hP (d_call S.c__law_tells hr (by rfl) (da_cons (d_mk0 T.k0_Node (by rfl)) (da_cons d_str (da_cons (d_lst da_nil) da_nil))))) (d_one (cP hP (d_call S.c__law_tells hr (by rfl) (da_cons (d_var 2) (da_cons d_str (da_cons (d_var 1) da_nil)))))))))))))))))⟩
abbrev st_law : Stmt := top 26
theorem sc_law : FnScope ["_law_script", "_law_one", "_law_found", "_law_other", "_law_numbers", "_law_low", "_law_high", "_law_ahead"] ["_law_script"] (defScope st_law) := ⟨rfl, rfl, rfl, by decide +kernel, rfl, by decide +kernel, by decide +kernel⟩
def D_law_t1 : {W // SX 8 st_law ["_law_script", "_law_one", "_law_found", "_law_other", "_law_numbers", "_law_low", "_law_high", "_law_ahead"] "law" W} := ⟨_, fun hP T S hr => by
    exact (db_cons (ds_expr (d_mt PySem.F.plainAttrs_list PySem.F.slot_list_append PySem.F.type_list_append ty_list m_append (d_var 4) (da_cons (d_neg d_int) da_nil)))
      (db_one (ds_ret (cP hP (d_call S.c__law_is_list hr (by rfl) (da_cons (cP hP (d_call S.c_marks_in hr (by rfl) (da_cons (d_var 1) da_nil))) (da_cons (d_var 5) da_nil)))))))⟩
def D_law_t2 : {W // SX 6 st_law ["_law_script", "_law_one", "_law_found", "_law_other", "_law_numbers", "_law_low", "_law_high", "_law_ahead"] "law" W} := ⟨_, fun hP T S hr => by
    have nd := sc_law.nd
    exact (db_cons (ds_set (i := 4) nd (cP hP (d_call S.c_marks_in hr (by rfl) (da_cons (d_var 1) da_nil))))
      (db_cons (ds_if (dt_w (dw_or (dt_not (dt_tru (cP hP (d_call S.c__law_is_list hr (by rfl) (da_cons (d_var 4) (da_cons (d_var 5) da_nil)))))) (dw_or1 (dt_not (dt_tru (cP hP (d_call S.c__law_is_list hr (by rfl) (da_cons (cP hP (d_call S.c_marks_in hr (by rfl) (da_cons (d_var 3) da_nil))) (da_cons (d_var 6) da_nil))))))))) (db_one (ds_ret d_bl)) db_nil)
      (D_law_t1.2 hP T S hr)))⟩
def D_law : {W // SX 0 st_law ["_law_script", "_law_one", "_law_found", "_law_other", "_law_numbers", "_law_low", "_law_high", "_law_ahead"] "law" W} := ⟨_, fun hP T S hr => by
    have nd := sc_law.nd
    exact (db_cons (ds_asg (cP hP (d_call S.c__law_drawn hr (by rfl) (da_cons (cP hP (d_call S.c__law_cells hr (by rfl) (da_cons (d_var 0) (da_cons d_int da_nil)))) da_nil))) (dg_tup (n := 2) rfl (dg_cons (dg_name (i := 1) nd) (dg_cons (dg_name (i := 2) nd) dg_nil)) (gl_cons1 (gl_cons1 gl_nil))))
      (db_cons (ds_asg (cP hP (d_call S.c__law_drawn hr (by rfl) (da_cons (cP hP (d_call S.c__law_cells hr (by rfl) (da_cons (d_var 0) (da_cons d_int da_nil)))) da_nil))) (dg_tup (n := 2) rfl (dg_cons (dg_name (i := 3) nd) (dg_cons (dg_name (i := 4) nd) dg_nil)) (gl_cons1 (gl_cons1 gl_nil))))
      (db_cons (ds_set (i := 5) nd (d_srtsetI rfl (by rfl) T.n_sorted (by rfl) T.n_set (d_var 2)))
      (db_cons (ds_set (i := 6) nd (d_srtsetI rfl (by rfl) T.n_sorted (by rfl) T.n_set (d_var 4)))
      (db_cons (ds_set (i := 7) nd (cP hP (d_call S.c__law_ready hr (by rfl) (da_cons (d_var 3) da_nil))))
      (db_cons (ds_if (dt_w (dw_or (dt_not (dt_tru (cP hP (d_call S.c__law_kept hr (by rfl) (da_cons (d_var 1) (da_cons (d_var 5) da_nil)))))) (dw_or (dt_not (dt_tru (cP hP (d_call S.c__law_kept hr (by rfl) (da_cons (d_var 3) (da_cons (d_var 6) da_nil)))))) (dw_or1 (dt_not (dt_tru (cP hP (d_call S.c__law_tells hr (by rfl) (da_cons (d_var 7) (da_cons d_str (da_cons (d_var 6) da_nil))))))))))) (db_one (ds_ret d_bl)) db_nil)
      (D_law_t2.2 hP T S hr)))))))⟩
end K41
set_option Elab.async false
set_option linter.all false
set_option maxRecDepth 100000
set_option maxHeartbeats 4000000
namespace K41
open PySem PySem.Spec PyProof.Rows L2 WL
/-- slots: 0:term 1:sort -/
def w_scopes : Calls → WS := D_scopes.1
/-- slots: 0:pairs 1:body 2:names -/
def w_let_scopes : Calls → WS := D_let_scopes.1
/-- slots: 0:body 1:steps 2:bound 3:behind 4:step -/
def w_rows_scopes : Calls → WS := D_rows_scopes.1
/-- slots: 0:term -/
def w_parts : Calls → WS := D_parts.1
/-- slots: 0:self -/
def w_Node_state : Calls → WS := D_Node_state.1
/-- slots: 0:self -/
def w_Node_links : Calls → WS := D_Node_links.1
/-- slots: 0:self 1:text -/
def w_Waiting___init__ : Calls → WS := D_Waiting___init__.1
/-- slots: 0:self -/
def w_Waiting_state : Calls → WS := D_Waiting_state.1
/-- slots: 0:self -/
def w_Waiting_links : Calls → WS := D_Waiting_links.1
/-- slots: 0:self -/
def w_Underway_state : Calls → WS := D_Underway_state.1
/-- slots: 0:self 1:value -/
def w_Ready___init__ : Calls → WS := D_Ready___init__.1
/-- slots: 0:self -/
def w_Ready_state : Calls → WS := D_Ready_state.1
/-- slots: 0:self -/
def w_Ready_links : Calls → WS := D_Ready_links.1
/-- slots: 0:term 1:found 2:pile 3:one -/
def w_marks_in : Calls → WS := D_marks_in.1
/-- slots: 0:_law_script 1:_law_start 2:_law_found 3:_law_k -/
def w__law_cells : Calls → WS := D__law_cells.1
/-- slots: 0:_law_cell -/
def w__law_number : Calls → WS := D__law_number.1
/-- slots: 0:_law_cell 1:_law_number_here -/
def w__law_leaf : Calls → WS := D__law_leaf.1
/-- slots: 0:_law_cell 1:_law_cells_here 2:_law_deep 3:_law_many 4:_law_found 5:_law_pairs 6:_law_k 7:_law_inner 8:_law_numbers -/
def w__law_let : Calls → WS := D__law_let.1
/-- slots: 0:_law_cell 1:_law_cells_here 2:_law_deep 3:_law_front 4:_law_found 5:_law_one 6:_law_numbers 7:_law_other -/
def w__law_choose : Calls → WS := D__law_choose.1
/-- slots: 0:_law_cell 1:_law_cells_here 2:_law_deep 3:_law_one 4:_law_found 5:_law_other 6:_law_numbers -/
def w__law_two : Calls → WS := D__law_two.1
/-- slots: 0:_law_cells_here 1:_law_spare 2:_law_deep 3:_law_cell -/
def w__law_term : Calls → WS := D__law_term.1
/-- slots: 0:_law_cells_here 1:_law_shape_here 2:_law_marks 3:_law_found 4:_law_k 5:_law_number_here 6:_law_word -/
def w__law_shape : Calls → WS := D__law_shape.1
/-- slots: 0:_law_cells_here -/
def w__law_drawn : Calls → WS := D__law_drawn.1
/-- slots: 0:_law_found 1:_law_due -/
def w__law_is_list : Calls → WS := D__law_is_list.1
/-- slots: 0:_law_node 1:_law_word 2:_law_due 3:_law_k 4:_law_found -/
def w__law_tells : Calls → WS := D__law_tells.1
/-- slots: 0:_law_thing -/
def w__law_waits : Calls → WS := D__law_waits.1
/-- slots: 0:_law_thing -/
def w__law_ready : Calls → WS := D__law_ready.1
/-- slots: 0:_law_thing 1:_law_due 2:_law_waits_here 3:_law_ready_here 4:_law_under -/
def w__law_kept : Calls → WS := D__law_kept.1
def w_law_t1 : Calls → WS := D_law_t1.1
def w_law_t2 : Calls → WS := D_law_t2.1
/-- slots: 0:_law_script 1:_law_one 2:_law_found 3:_law_other 4:_law_numbers 5:_law_low 6:_law_high 7:_law_ahead -/
def w_law : Calls → WS := D_law.1
abbrev i_scopes : Nat := 0
abbrev i_let_scopes : Nat := 1
abbrev i_rows_scopes : Nat := 2
abbrev i_parts : Nat := 3
abbrev i_Node_state : Nat := 4
abbrev i_Node_links : Nat := 5
abbrev i_Waiting___init__ : Nat := 6
abbrev i_Waiting_state : Nat := 7
abbrev i_Waiting_links : Nat := 8
abbrev i_Underway_state : Nat := 9
abbrev i_Ready___init__ : Nat := 10
abbrev i_Ready_state : Nat := 11
abbrev i_Ready_links : Nat := 12
abbrev i_marks_in : Nat := 13
abbrev i__law_cells : Nat := 14
abbrev i__law_number : Nat := 15
abbrev i__law_leaf : Nat := 16
abbrev i__law_let : Nat := 17
abbrev i__law_choose : Nat := 18
abbrev i__law_two : Nat := 19
abbrev i__law_term : Nat := 20
abbrev i__law_shape : Nat := 21
abbrev i__law_drawn : Nat := 22
abbrev i__law_is_list : Nat := 23
abbrev i__law_tells : Nat := 24
abbrev i__law_waits : Nat := 25
abbrev i__law_ready : Nat := 26
abbrev i__law_kept : Nat := 27
abbrev i_law : Nat := 28
abbrev i_new_Waiting : Nat := 29
abbrev i_new_Ready : Nat := 30
def pr : List Df := [⟨2, 1, w_scopes⟩, ⟨3, 2, w_let_scopes⟩, ⟨5, 2, w_rows_scopes⟩, ⟨1, 1, w_parts⟩, ⟨1, 1, w_Node_state⟩, ⟨1, 1, w_Node_links⟩, ⟨2, 2, w_Waiting___init__⟩, ⟨1, 1, w_Waiting_state⟩, ⟨1, 1, w_Waiting_links⟩, ⟨1, 1, w_Underway_state⟩, ⟨2, 2, w_Ready___init__⟩, ⟨1, 1, w_Ready_state⟩, ⟨1, 1, w_Ready_links⟩, ⟨4, 1, w_marks_in⟩, ⟨4, 2, w__law_cells⟩, ⟨1, 1, w__law_number⟩, ⟨2, 1, w__law_leaf⟩, ⟨9, 3, w__law_let⟩, ⟨8, 3, w__law_choose⟩, ⟨7, 3, w__law_two⟩, ⟨4, 3, w__law_term⟩, ⟨7, 1, w__law_shape⟩, ⟨1, 1, w__law_drawn⟩, ⟨2, 2, w__law_is_list⟩, ⟨5, 3, w__law_tells⟩, ⟨1, 1, w__law_waits⟩, ⟨1, 1, w__law_ready⟩, ⟨5, 2, w__law_kept⟩, ⟨8, 1, w_law⟩, ⟨1, 1, wNew "Waiting" 6⟩, ⟨1, 1, wNew "Ready" 10⟩]
theorem u_scopes {n : Nat} {vs : List T} {C : Hw} {Q : WK} {χ : WX} (hl : vs.length = 1) (h : w_scopes (wpc pr n) { nx := fun _ C' => Q .non C', rt := Q, xc := χ } (vs.map some ++ List.replicate 1 none) C) : wpc pr (n + 1) 0 vs C Q χ := ⟨_, rfl, hl, h⟩
theorem u_let_scopes {n : Nat} {vs : List T} {C : Hw} {Q : WK} {χ : WX} (hl : vs.length = 2) (h : w_let_scopes (wpc pr n) { nx := fun _ C' => Q .non C', rt := Q, xc := χ } (vs.map some ++ List.replicate 1 none) C) : wpc pr (n + 1) 1 vs C Q χ := ⟨_, rfl, hl, h⟩
theorem u_rows_scopes {n : Nat} {vs : List T} {C : Hw} {Q : WK} {χ : WX} (hl : vs.length = 2) (h : w_rows_scopes (wpc pr n) { nx := fun _ C' => Q .non C', rt := Q, xc := χ } (vs.map some ++ List.replicate 3 none) C) : wpc pr (n + 1) 2 vs C Q χ := ⟨_, rfl, hl, h⟩
theorem u_parts {n : Nat} {vs : List T} {C : Hw} {Q : WK} {χ : WX} (hl : vs.length = 1) (h : w_parts (wpc pr n) { nx := fun _ C' => Q .non C', rt := Q, xc := χ } (vs.map some ++ List.replicate 0 none) C) : wpc pr (n + 1) 3 vs C Q χ := ⟨_, rfl, hl, h⟩
theorem u_Node_state {n : Nat} {vs : List T} {C : Hw} {Q : WK} {χ : WX} (hl : vs.length = 1) (h : w_Node_state (wpc pr n) { nx := fun _ C' => Q .non C', rt := Q, xc := χ } (vs.map some ++ List.replicate 0 none) C) : wpc pr (n + 1) 4 vs C Q χ := ⟨_, rfl, hl, h⟩
theorem u_Node_links {n : Nat} {vs : List T} {C : Hw} {Q : WK} {χ : WX} (hl : vs.length = 1) (h : w_Node_links (wpc pr n) { nx := fun _ C' => Q .non C', rt := Q, xc := χ } (vs.map some ++ List.replicate 0 none) C) : wpc pr (n + 1) 5 vs C Q χ := ⟨_, rfl, hl, h⟩
theorem u_Waiting___init__ {n : Nat} {vs : List T} {C : Hw} {Q : WK} {χ : WX} (hl : vs.length = 2) (h : w_Waiting___init__ (wpc pr n) { nx := fun _ C' => Q .non C', rt := Q, xc := χ } (vs.map some ++ List.replicate 0 none) C) : wpc pr (n + 1) 6 vs C Q χ := ⟨_, rfl, hl, h⟩
theorem u_Waiting_state {n : Nat} {vs : List T} {C : Hw} {Q : WK} {χ : WX} (hl : vs.length = 1) (h : w_Waiting_state (wpc pr n) { nx := fun _ C' => Q .non C', rt := Q, xc := χ } (vs.map some ++ List.replicate 0 none) C) : wpc pr (n + 1) 7 vs C Q χ := ⟨_, rfl, hl, h⟩
theorem u_Waiting_links {n : Nat} {vs : List T} {C : Hw} {Q : WK} {χ : WX} (hl : vs.length = 1) (h : w_Waiting_links (wpc pr n) { nx := fun _ C' => Q .non C', rt := Q, xc := χ } (vs.map some ++ List.replicate 0 none) C) : wpc pr (n + 1) 8 vs C Q χ := ⟨_, rfl, hl, h⟩
theorem u_Underway_state {n : Nat} {vs : List T} {C : Hw} {Q : WK} {χ : WX} (hl : vs.length = 1) (h : w_Underway_state (wpc pr n) { nx := fun _ C' => Q .non C', rt := Q, xc := χ } (vs.map some ++ List.replicate 0 none) C) : wpc pr (n + 1) 9 vs C Q χ := ⟨_, rfl, hl, h⟩
theorem u_Ready___init__ {n : Nat} {vs : List T} {C : Hw} {Q : WK} {χ : WX} (hl : vs.length = 2) (h : w_Ready___init__ (wpc pr n) { nx := fun _ C' => Q .non C', rt := Q, xc := χ } (vs.map some ++ List.replicate 0 none) C) : wpc pr (n + 1) 10 vs C Q χ := ⟨_, rfl, hl, h⟩
theorem u_Ready_state {n : Nat} {vs : List T} {C : Hw} {Q : WK} {χ : WX} (hl : vs.length = 1) (h : w_Ready_state (wpc pr n) { nx := fun _ C' => Q .non C', rt := Q, xc := χ } (vs.map some ++ List.replicate 0 none) C) : wpc pr (n + 1) 11 vs C Q χ := ⟨_, rfl, hl, h⟩
theorem u_Ready_links {n : Nat} {vs : List T} {C : Hw} {Q : WK} {χ : WX} (hl : vs.length = 1) (h : w_Ready_links (wpc pr n) { nx := fun _ C' => Q .non C', rt := Q, xc := χ } (vs.map some ++ List.replicate 0 none) C) : wpc pr (n + 1) 12 vs C Q χ := ⟨_, rfl, hl, h⟩
theorem u_marks_in {n : Nat} {vs : List T} {C : Hw} {Q : WK} {χ : WX} (hl : vs.length = 1) (h : w_marks_in (wpc pr n) { nx := fun _ C' => Q .non C', rt := Q, xc := χ } (vs.map some ++ List.replicate 3 none) C) : wpc pr (n + 1) 13 vs C Q χ := ⟨_, rfl, hl, h⟩
theorem u__law_cells {n : Nat} {vs : List T} {C : Hw} {Q : WK} {χ : WX} (hl : vs.length = 2) (h : w__law_cells (wpc pr n) { nx := fun _ C' => Q .non C', rt := Q, xc := χ } (vs.map some ++ List.replicate 2 none) C) : wpc pr (n + 1) 14 vs C Q χ := ⟨_, rfl, hl, h⟩
theorem u__law_number {n : Nat} {vs : List T} {C : Hw} {Q : WK} {χ : WX} (hl : vs.length = 1) (h : w__law_number (wpc pr n) { nx := fun _ C' => Q .non C', rt := Q, xc := χ } (vs.map some ++ List.replicate 0 none) C) : wpc pr (n + 1) 15 vs C Q χ := ⟨_, rfl, hl, h⟩
theorem u__law_leaf {n : Nat} {vs : List T} {C : Hw} {Q : WK} {χ : WX} (hl : vs.length = 1) (h : w__law_leaf (wpc pr n) { nx := fun _ C' => Q .non C', rt := Q, xc := χ } (vs.map some ++ List.replicate 1 none) C) : wpc pr (n + 1) 16 vs C Q χ := ⟨_, rfl, hl, h⟩
theorem u__law_let {n : Nat} {vs : List T} {C : Hw} {Q : WK} {χ : WX} (hl : vs.length = 3) (h : w__law_let (wpc pr n) { nx := fun _ C' => Q .non C', rt := Q, xc := χ } (vs.map some ++ List.replicate 6 none) C) : wpc pr (n + 1) 17 vs C Q χ := ⟨_, rfl, hl, h⟩
theorem u__law_choose {n : Nat} {vs : List T} {C : Hw} {Q : WK} {χ : WX} (hl : vs.length = 3) (h : w__law_choose (wpc pr n) { nx := fun _ C' => Q .non C', rt := Q, xc := χ } (vs.map some ++ List.replicate 5 none) C) : wpc pr (n + 1) 18 vs C Q χ := ⟨_, rfl, hl, h⟩
theorem u__law_two {n : Nat} {vs : List T} {C : Hw} {Q : WK} {χ : WX} (hl : vs.length = 3) (h : w__law_two (wpc pr n) { nx := fun _ C' => Q .non C', rt := Q, xc := χ } (vs.map some ++ List.replicate 4 none) C) : wpc pr (n + 1) 19 vs C Q χ := ⟨_, rfl, hl, h⟩
theorem u__law_term {n : Nat} {vs : List T} {C : Hw} {Q : WK} {χ : WX} (hl : vs.length = 3) (h : w__law_term (wpc pr n) { nx := fun _ C' => Q .non C', rt := Q, xc := χ } (vs.map some ++ List.replicate 1 none) C) : wpc pr (n + 1) 20 vs C Q χ := ⟨_, rfl, hl, h⟩
theorem u__law_shape {n : Nat} {vs : List T} {C : Hw} {Q : WK} {χ : WX} (hl : vs.length = 1) (h : w__law_shape (wpc pr n) { nx := fun _ C' => Q .non C', rt := Q, xc := χ } (vs.map some ++ List.replicate 6 none) C) : wpc pr (n + 1) 21 vs C Q χ := ⟨_, rfl, hl, h⟩
theorem u__law_drawn {n : Nat} {vs : List T} {C : Hw} {Q : WK} {χ : WX} (hl : vs.length = 1) (h : w__law_drawn (wpc pr n) { nx := fun _ C' => Q .non C', rt := Q, xc := χ } (vs.map some ++ List.replicate 0 none) C) : wpc pr (n + 1) 22 vs C Q χ := ⟨_, rfl, hl, h⟩
theorem u__law_is_list {n : Nat} {vs : List T} {C : Hw} {Q : WK} {χ : WX} (hl : vs.length = 2) (h : w__law_is_list (wpc pr n) { nx := fun _ C' => Q .non C', rt := Q, xc := χ } (vs.map some ++ List.replicate 0 none) C) : wpc pr (n + 1) 23 vs C Q χ := ⟨_, rfl, hl, h⟩
theorem u__law_tells {n : Nat} {vs : List T} {C : Hw} {Q : WK} {χ : WX} (hl : vs.length = 3) (h : w__law_tells (wpc pr n) { nx := fun _ C' => Q .non C', rt := Q, xc := χ } (vs.map some ++ List.replicate 2 none) C) : wpc pr (n + 1) 24 vs C Q χ := ⟨_, rfl, hl, h⟩
theorem u__law_waits {n : Nat} {vs : List T} {C : Hw} {Q : WK} {χ : WX} (hl : vs.length = 1) (h : w__law_waits (wpc pr n) { nx := fun _ C' => Q .non C', rt := Q, xc := χ } (vs.map some ++ List.replicate 0 none) C) : wpc pr (n + 1) 25 vs C Q χ := ⟨_, rfl, hl, h⟩
theorem u__law_ready {n : Nat} {vs : List T} {C : Hw} {Q : WK} {χ : WX} (hl : vs.length = 1) (h : w__law_ready (wpc pr n) { nx := fun _ C' => Q .non C', rt := Q, xc := χ } (vs.map some ++ List.replicate 0 none) C) : wpc pr (n + 1) 26 vs C Q χ := ⟨_, rfl, hl, h⟩
theorem u__law_kept {n : Nat} {vs : List T} {C : Hw} {Q : WK} {χ : WX} (hl : vs.length = 2) (h : w__law_kept (wpc pr n) { nx := fun _ C' => Q .non C', rt := Q, xc := χ } (vs.map some ++ List.replicate 3 none) C) : wpc pr (n + 1) 27 vs C Q χ := ⟨_, rfl, hl, h⟩
theorem u_law {n : Nat} {vs : List T} {C : Hw} {Q : WK} {χ : WX} (hl : vs.length = 1) (h : w_law (wpc pr n) { nx := fun _ C' => Q .non C', rt := Q, xc := χ } (vs.map some ++ List.replicate 7 none) C) : wpc pr (n + 1) 28 vs C Q χ := ⟨_, rfl, hl, h⟩
theorem u_new_Waiting {n : Nat} {vs : List T} {C : Hw} {Q : WK} {χ : WX} (hl : vs.length = 1) (h : ∀ p, C p = none → wpc pr n 6 (.ref p :: vs) (up C p (.ins "Waiting" [])) (fun v C2 => v = .non ∧ Q (.ref p) C2) χ) : wpc pr (n + 1) 29 vs C Q χ := ⟨_, rfl, hl, vs, List.append_nil _, h⟩
theorem u_new_Ready {n : Nat} {vs : List T} {C : Hw} {Q : WK} {χ : WX} (hl : vs.length = 1) (h : ∀ p, C p = none → wpc pr n 10 (.ref p :: vs) (up C p (.ins "Ready" [])) (fun v C2 => v = .non ∧ Q (.ref p) C2) χ) : wpc pr (n + 1) 30 vs C Q χ := ⟨_, rfl, hl, vs, List.append_nil _, h⟩
end K41
set_option Elab.async false
set_option linter.all false
set_option maxRecDepth 100000
set_option maxHeartbeats 4000000
namespace K41
open PySem PySem.Spec PyProof.Rows L2 WL
section
variable {Pg : Program} {w : World} {K : PySem.W.Frag} {mg : Str → Option Value} {base : Heap} {f : Addr} {fd : FuncData} {n i : Nat} {pr : List Df} {x q : Str} {N ps : List Str} {st : Stmt}
theorem okQ (D : {W // SX 0 st N q W}) (T : Txt w K mg) (S : Cs Pg w K mg base n pr) (sc : FnScope N ps (defScope st)) (hd : pr[i]? = some ⟨N.length, ps.length, D.1⟩) (F : Fun K x q st f fd) : FnOk Pg w K mg base CX0 (n + 1) f fd ps (spW K pr (n + 1) i) := fn_okQ F sc hd rfl rfl fun _ _ _ _ _ _ hr => D.2 rfl T S hr
end
theorem bn0 {C : List Value → Prop} (h : C []) : ∀ us : List Value, us.length = 0 → C us
  | [], _ => h
theorem bn1 {C : List Value → Prop} (h : ∀ a, C [a]) : ∀ us : List Value, us.length = 1 → C us
  | [a], _ => h a
theorem bn2 {C : List Value → Prop} (h : ∀ a b, C [a, b]) : ∀ us : List Value, us.length = 2 → C us
  | [a, b], _ => h a b
theorem bn3 {C : List Value → Prop} (h : ∀ a b c, C [a, b, c]) : ∀ us : List Value, us.length = 3 → C us
  | [a, b, c], _ => h a b c
theorem bn4 {C : List Value → Prop} (h : ∀ a b c d, C [a, b, c, d]) : ∀ us : List Value, us.length = 4 → C us
  | [a, b, c, d], _ => h a b c d
theorem bn5 {C : List Value → Prop} (h : ∀ a b c d e, C [a, b, c, d, e]) : ∀ us : List Value, us.length = 5 → C us
  | [a, b, c, d, e], _ => h a b c d e
theorem bn6 {C : List Value → Prop} (h : ∀ a b c d e f, C [a, b, c, d, e, f]) : ∀ us : List Value, us.length = 6 → C us
  | [a, b, c, d, e, f], _ => h a b c d e f
theorem all_mk {l : PySem.W.OpenLaw} {w : World} {K : PySem.W.Frag} {h : Heap} {mg : Str → Option Value} {fa C_Node C_Waiting C_Underway C_Ready : Addr} (X : K.In h) (G : h.Ns mainGlobals mg) (hfa : mg "law" = some (.ref fa))
    (aC_Node : PySem.W.nsIn K mainGlobals "Node" = some (some (.ref C_Node)))
    (aC_Waiting : PySem.W.nsIn K mainGlobals "Waiting" = some (some (.ref C_Waiting)))
    (aC_Underway : PySem.W.nsIn K mainGlobals "Underway" = some (some (.ref C_Underway)))
    (aC_Ready : PySem.W.nsIn K mainGlobals "Ready" = some (some (.ref C_Ready)))
    (pg_Node : PySem.W.plainGet K C_Node Str.empty = true) (hd_Node : PySem.W.hasDictIn K C_Node = true) (po_Node : PySem.W.plainOver K C_Node = true) (sa_Node : PySem.W.findIn K (.ref C_Node) "__setattr__" = some (some (.builtin "object.__setattr__"))) (kc_Node : PySem.W.keepIn K (.ref C_Node) = true)
    (mk_Node : PySem.W.makesIn K C_Node = true) (oi_Node : PySem.W.findIn K (.ref C_Node) "__init__" = some (some (.builtin "object.__init__")))
    (pg_Waiting : PySem.W.plainGet K C_Waiting Str.empty = true) (hd_Waiting : PySem.W.hasDictIn K C_Waiting = true) (po_Waiting : PySem.W.plainOver K C_Waiting = true) (sa_Waiting : PySem.W.findIn K (.ref C_Waiting) "__setattr__" = some (some (.builtin "object.__setattr__"))) (kc_Waiting : PySem.W.keepIn K (.ref C_Waiting) = true)
    (mk_Waiting : PySem.W.makesIn K C_Waiting = true)
    (pg_Underway : PySem.W.plainGet K C_Underway Str.empty = true) (hd_Underway : PySem.W.hasDictIn K C_Underway = true) (po_Underway : PySem.W.plainOver K C_Underway = true) (sa_Underway : PySem.W.findIn K (.ref C_Underway) "__setattr__" = some (some (.builtin "object.__setattr__"))) (kc_Underway : PySem.W.keepIn K (.ref C_Underway) = true)
    (mk_Underway : PySem.W.makesIn K C_Underway = true) (oi_Underway : PySem.W.findIn K (.ref C_Underway) "__init__" = some (some (.builtin "object.__init__")))
    (pg_Ready : PySem.W.plainGet K C_Ready Str.empty = true) (hd_Ready : PySem.W.hasDictIn K C_Ready = true) (po_Ready : PySem.W.plainOver K C_Ready = true) (sa_Ready : PySem.W.findIn K (.ref C_Ready) "__setattr__" = some (some (.builtin "object.__setattr__"))) (kc_Ready : PySem.W.keepIn K (.ref C_Ready) = true)
    (mk_Ready : PySem.W.makesIn K C_Ready = true)
    (nf_Ready_value : PySem.W.findIn K (.ref C_Ready) "value" = some none)
    (nf_Waiting_text : PySem.W.findIn K (.ref C_Waiting) "text" = some none)
    (ip_Node : PySem.W.plainGet K C_Node "__class__" = true) (ia_Node : PySem.W.findIn K (.ref C_Node) "__class__" = some (some (.builtin "object.__class__"))) (io_Node : PySem.W.mroIn K C_Node (.type "object") = some true)
    (ip_Ready : PySem.W.plainGet K C_Ready "__class__" = true) (ia_Ready : PySem.W.findIn K (.ref C_Ready) "__class__" = some (some (.builtin "object.__class__"))) (io_Ready : PySem.W.mroIn K C_Ready (.type "object") = some true)
    (ip_Underway : PySem.W.plainGet K C_Underway "__class__" = true) (ia_Underway : PySem.W.findIn K (.ref C_Underway) "__class__" = some (some (.builtin "object.__class__"))) (io_Underway : PySem.W.mroIn K C_Underway (.type "object") = some true)
    (ip_Waiting : PySem.W.plainGet K C_Waiting "__class__" = true) (ia_Waiting : PySem.W.findIn K (.ref C_Waiting) "__class__" = some (some (.builtin "object.__class__"))) (io_Waiting : PySem.W.mroIn K C_Waiting (.type "object") = some true)
    (ig : PySem.W.specialIn K (.builtin "object.__class__") "__get__" = some (some (.builtin "getset_descriptor.__get__"))) (it : PySem.W.takesIn K (.builtin "object.__class__") = some true)
    (iq_Node_Node : PySem.W.kitOne K (.ref C_Node) (.ref C_Node) = some true)
    (iq_Node_Waiting : PySem.W.kitOne K (.ref C_Waiting) (.ref C_Node) = some true)
    (iq_Node_Underway : PySem.W.kitOne K (.ref C_Underway) (.ref C_Node) = some true)
    (iq_Node_Ready : PySem.W.kitOne K (.ref C_Ready) (.ref C_Node) = some true)
    (iq_Ready_Node : PySem.W.kitOne K (.ref C_Node) (.ref C_Ready) = some false)
    (iq_Ready_Waiting : PySem.W.kitOne K (.ref C_Waiting) (.ref C_Ready) = some false)
    (iq_Ready_Underway : PySem.W.kitOne K (.ref C_Underway) (.ref C_Ready) = some false)
    (iq_Ready_Ready : PySem.W.kitOne K (.ref C_Ready) (.ref C_Ready) = some true)
    (iq_Underway_Node : PySem.W.kitOne K (.ref C_Node) (.ref C_Underway) = some false)
    (iq_Underway_Waiting : PySem.W.kitOne K (.ref C_Waiting) (.ref C_Underway) = some false)
    (iq_Underway_Underway : PySem.W.kitOne K (.ref C_Underway) (.ref C_Underway) = some true)
    (iq_Underway_Ready : PySem.W.kitOne K (.ref C_Ready) (.ref C_Underway) = some false)
    (iq_Waiting_Node : PySem.W.kitOne K (.ref C_Node) (.ref C_Waiting) = some false)
    (iq_Waiting_Waiting : PySem.W.kitOne K (.ref C_Waiting) (.ref C_Waiting) = some true)
    (iq_Waiting_Underway : PySem.W.kitOne K (.ref C_Underway) (.ref C_Waiting) = some false)
    (iq_Waiting_Ready : PySem.W.kitOne K (.ref C_Ready) (.ref C_Waiting) = some false)
    (l0 : Fg K "scopes" st_scopes)
    (l1 : Fg K "let_scopes" st_let_scopes)
    (l2 : Fg K "rows_scopes" st_rows_scopes)
    (l3 : Fg K "parts" st_parts)
    (l4_Node : Fh K C_Node "state" "Node.state" st_Node_state)
    (l5_Node : Fh K C_Node "links" "Node.links" st_Node_links)
    (l5_Underway : Fh K C_Underway "links" "Node.links" st_Node_links)
    (l6_Waiting : Fh K C_Waiting "__init__" "Waiting.__init__" st_Waiting___init__)
    (l7_Waiting : Fh K C_Waiting "state" "Waiting.state" st_Waiting_state)
    (l8_Waiting : Fh K C_Waiting "links" "Waiting.links" st_Waiting_links)
    (l9_Underway : Fh K C_Underway "state" "Underway.state" st_Underway_state)
    (l10_Ready : Fh K C_Ready "__init__" "Ready.__init__" st_Ready___init__)
    (l11_Ready : Fh K C_Ready "state" "Ready.state" st_Ready_state)
    (l12_Ready : Fh K C_Ready "links" "Ready.links" st_Ready_links)
    (l13 : Fg K "marks_in" st_marks_in)
    (l14 : Fg K "_law_cells" st__law_cells)
    (l15 : Fg K "_law_number" st__law_number)
    (l16 : Fg K "_law_leaf" st__law_leaf)
    (l17 : Fg K "_law_let" st__law_let)
    (l18 : Fg K "_law_choose" st__law_choose)
    (l19 : Fg K "_law_two" st__law_two)
    (l20 : Fg K "_law_term" st__law_term)
    (l21 : Fg K "_law_shape" st__law_shape)
    (l22 : Fg K "_law_drawn" st__law_drawn)
    (l23 : Fg K "_law_is_list" st__law_is_list)
    (l24 : Fg K "_law_tells" st__law_tells)
    (l25 : Fg K "_law_waits" st__law_waits)
    (l26 : Fg K "_law_ready" st__law_ready)
    (l27 : Fg K "_law_kept" st__law_kept)
    (l28 : Fg K "law" st_law)
    (z_bool : PySem.W.nsIn K mainGlobals "bool" = some none)
    (z_int : PySem.W.nsIn K mainGlobals "int" = some none)
    (z_isinstance : PySem.W.nsIn K mainGlobals "isinstance" = some none)
    (z_len : PySem.W.nsIn K mainGlobals "len" = some none)
    (z_list : PySem.W.nsIn K mainGlobals "list" = some none)
    (z_range : PySem.W.nsIn K mainGlobals "range" = some none)
    (z_set : PySem.W.nsIn K mainGlobals "set" = some none)
    (z_sorted : PySem.W.nsIn K mainGlobals "sorted" = some none)
    (z_str : PySem.W.nsIn K mainGlobals "str" = some none)
    (z_sum : PySem.W.nsIn K mainGlobals "sum" = some none)
    (z_tuple : PySem.W.nsIn K mainGlobals "tuple" = some none)
    : ∃ fd : FuncData, (∀ (s : Shared) (v : Value), BindsTo s fd ⟨[v], []⟩ [("_law_script", v)]) ∧ ∀ base : Heap, K.In base → base.Ns mainGlobals mg → FnOk l.prog w K mg base CX0 60 fa fd ["_law_script"] (spW K pr 60 28) := by
  have L28 := ld_mk (ps := ["_law_script"]) X G l28 fun _ _ _ _ _ _ => bn1 fun _ => rfl
  obtain ⟨f28, _, a28, ⟨oc, od, kV, dc, pm, an, cd, ct, sl, rfl, ll, lc⟩, lk⟩ := l28
  have F28 := fun_mk (st := st_law) ll lc lk
  have e := hfa.symm.trans (PySem.W.mg_of X G a28)
  cases e
  have T : Txt w K mg := ⟨PySem.W.mg_none_of X G z_bool, PySem.W.mg_none_of X G z_int, PySem.W.mg_none_of X G z_isinstance, PySem.W.mg_none_of X G z_len, PySem.W.mg_none_of X G z_list, PySem.W.mg_none_of X G z_range, PySem.W.mg_none_of X G z_set, PySem.W.mg_none_of X G z_sorted, PySem.W.mg_none_of X G z_str, PySem.W.mg_none_of X G z_sum, PySem.W.mg_none_of X G z_tuple, ⟨C_Ready, aC_Ready, ⟨pg_Ready, hd_Ready, po_Ready, sa_Ready⟩, nf_Ready_value⟩, ⟨C_Waiting, aC_Waiting, ⟨pg_Waiting, hd_Waiting, po_Waiting, sa_Waiting⟩, nf_Waiting_text⟩, ⟨C_Node, aC_Node, PySem.W.mg_of X G aC_Node, ⟨mk_Node, oi_Node, kc_Node⟩⟩, ⟨C_Underway, aC_Underway, PySem.W.mg_of X G aC_Underway, ⟨mk_Underway, oi_Underway, kc_Underway⟩⟩, ⟨C_Node, PySem.W.mg_of X G aC_Node, (is_cons aC_Node ⟨ip_Node, hd_Node, ia_Node, ig, it, io_Node⟩ iq_Node_Node (is_cons aC_Waiting ⟨ip_Waiting, hd_Waiting, ia_Waiting, ig, it, io_Waiting⟩ iq_Node_Waiting (is_cons aC_Underway ⟨ip_Underway, hd_Underway, ia_Underway, ig, it, io_Underway⟩ iq_Node_Underway (is_cons aC_Ready ⟨ip_Ready, hd_Ready, ia_Ready, ig, it, io_Ready⟩ iq_Node_Ready is_nil))))⟩, ⟨C_Ready, PySem.W.mg_of X G aC_Ready, (is_cons aC_Node ⟨ip_Node, hd_Node, ia_Node, ig, it, io_Node⟩ iq_Ready_Node (is_cons aC_Waiting ⟨ip_Waiting, hd_Waiting, ia_Waiting, ig, it, io_Waiting⟩ iq_Ready_Waiting (is_cons aC_Underway ⟨ip_Underway, hd_Underway, ia_Underway, ig, it, io_Underway⟩ iq_Ready_Underway (is_cons aC_Ready ⟨ip_Ready, hd_Ready, ia_Ready, ig, it, io_Ready⟩ iq_Ready_Ready is_nil))))⟩, ⟨C_Underway, PySem.W.mg_of X G aC_Underway, (is_cons aC_Node ⟨ip_Node, hd_Node, ia_Node, ig, it, io_Node⟩ iq_Underway_Node (is_cons aC_Waiting ⟨ip_Waiting, hd_Waiting, ia_Waiting, ig, it, io_Waiting⟩ iq_Underway_Waiting (is_cons aC_Underway ⟨ip_Underway, hd_Underway, ia_Underway, ig, it, io_Underway⟩ iq_Underway_Underway (is_cons aC_Ready ⟨ip_Ready, hd_Ready, ia_Ready, ig, it, io_Ready⟩ iq_Underway_Ready is_nil))))⟩, ⟨C_Waiting, PySem.W.mg_of X G aC_Waiting, (is_cons aC_Node ⟨ip_Node, hd_Node, ia_Node, ig, it, io_Node⟩ iq_Waiting_Node (is_cons aC_Waiting ⟨ip_Waiting, hd_Waiting, ia_Waiting, ig, it, io_Waiting⟩ iq_Waiting_Waiting (is_cons aC_Underway ⟨ip_Underway, hd_Underway, ia_Underway, ig, it, io_Underway⟩ iq_Waiting_Underway (is_cons aC_Ready ⟨ip_Ready, hd_Ready, ia_Ready, ig, it, io_Ready⟩ iq_Waiting_Ready is_nil))))⟩⟩
  have K_Node : Kl K mg "Node" C_Node := ⟨aC_Node, PySem.W.mg_of X G aC_Node, ⟨pg_Node, hd_Node, po_Node, sa_Node⟩⟩
  have K_Waiting : Kl K mg "Waiting" C_Waiting := ⟨aC_Waiting, PySem.W.mg_of X G aC_Waiting, ⟨pg_Waiting, hd_Waiting, po_Waiting, sa_Waiting⟩⟩
  have K_Underway : Kl K mg "Underway" C_Underway := ⟨aC_Underway, PySem.W.mg_of X G aC_Underway, ⟨pg_Underway, hd_Underway, po_Underway, sa_Underway⟩⟩
  have K_Ready : Kl K mg "Ready" C_Ready := ⟨aC_Ready, PySem.W.mg_of X G aC_Ready, ⟨pg_Ready, hd_Ready, po_Ready, sa_Ready⟩⟩
  have L0 := ld_mk (ps := ["term"]) X G l0 fun _ _ _ _ _ _ => bn1 fun _ => rfl
  have L1 := ld_mk (ps := ["pairs", "body"]) X G l1 fun _ _ _ _ _ _ => bn2 fun _ _ => rfl
  have L2 := ld_mk (ps := ["body", "steps"]) X G l2 fun _ _ _ _ _ _ => bn2 fun _ _ => rfl
  have L3 := ld_mk (ps := ["term"]) X G l3 fun _ _ _ _ _ _ => bn1 fun _ => rfl
  have L4_Node := lm_mk (ps := ["self"]) l4_Node fun _ _ _ _ _ _ => bn1 fun _ => rfl
  have L5_Node := lm_mk (ps := ["self"]) l5_Node fun _ _ _ _ _ _ => bn1 fun _ => rfl
  have L5_Underway := lm_mk (ps := ["self"]) l5_Underway fun _ _ _ _ _ _ => bn1 fun _ => rfl
  have L6_Waiting := lm_mk (ps := ["self", "text"]) l6_Waiting fun _ _ _ _ _ _ => bn2 fun _ _ => rfl
  have L7_Waiting := lm_mk (ps := ["self"]) l7_Waiting fun _ _ _ _ _ _ => bn1 fun _ => rfl
  have L8_Waiting := lm_mk (ps := ["self"]) l8_Waiting fun _ _ _ _ _ _ => bn1 fun _ => rfl
  have L9_Underway := lm_mk (ps := ["self"]) l9_Underway fun _ _ _ _ _ _ => bn1 fun _ => rfl
  have L10_Ready := lm_mk (ps := ["self", "value"]) l10_Ready fun _ _ _ _ _ _ => bn2 fun _ _ => rfl
  have L11_Ready := lm_mk (ps := ["self"]) l11_Ready fun _ _ _ _ _ _ => bn1 fun _ => rfl
  have L12_Ready := lm_mk (ps := ["self"]) l12_Ready fun _ _ _ _ _ _ => bn1 fun _ => rfl
  have L13 := ld_mk (ps := ["term"]) X G l13 fun _ _ _ _ _ _ => bn1 fun _ => rfl
  have L14 := ld_mk (ps := ["_law_script", "_law_start"]) X G l14 fun _ _ _ _ _ _ => bn2 fun _ _ => rfl
  have L15 := ld_mk (ps := ["_law_cell"]) X G l15 fun _ _ _ _ _ _ => bn1 fun _ => rfl
  have L16 := ld_mk (ps := ["_law_cell"]) X G l16 fun _ _ _ _ _ _ => bn1 fun _ => rfl
  have L17 := ld_mk (ps := ["_law_cell", "_law_cells_here", "_law_deep"]) X G l17 fun _ _ _ _ _ _ => bn3 fun _ _ _ => rfl
  have L18 := ld_mk (ps := ["_law_cell", "_law_cells_here", "_law_deep"]) X G l18 fun _ _ _ _ _ _ => bn3 fun _ _ _ => rfl
  have L19 := ld_mk (ps := ["_law_cell", "_law_cells_here", "_law_deep"]) X G l19 fun _ _ _ _ _ _ => bn3 fun _ _ _ => rfl
  have L20 := ld_mk (ps := ["_law_cells_here", "_law_spare", "_law_deep"]) X G l20 fun _ _ _ _ _ _ => bn3 fun _ _ _ => rfl
  have L21 := ld_mk (ps := ["_law_cells_here"]) X G l21 fun _ _ _ _ _ _ => bn1 fun _ => rfl
  have L22 := ld_mk (ps := ["_law_cells_here"]) X G l22 fun _ _ _ _ _ _ => bn1 fun _ => rfl
  have L23 := ld_mk (ps := ["_law_found", "_law_due"]) X G l23 fun _ _ _ _ _ _ => bn2 fun _ _ => rfl
  have L24 := ld_mk (ps := ["_law_node", "_law_word", "_law_due"]) X G l24 fun _ _ _ _ _ _ => bn3 fun _ _ _ => rfl
  have L25 := ld_mk (ps := ["_law_thing"]) X G l25 fun _ _ _ _ _ _ => bn1 fun _ => rfl
  have L26 := ld_mk (ps := ["_law_thing"]) X G l26 fun _ _ _ _ _ _ => bn1 fun _ => rfl
  have L27 := ld_mk (ps := ["_law_thing", "_law_due"]) X G l27 fun _ _ _ _ _ _ => bn2 fun _ _ => rfl
  refine ⟨PySem.W.fnOf "law" "law" (defArgs st_law) (defBody st_law) (defScope st_law) .none kV dc pm an cd ct, fun s v => .of_eq rfl, fun base _ _ => ?_⟩
  have CS : ∀ n, Cs l.prog w K mg base n pr := fun n => by
    induction n with
    | zero => exact ⟨ld0 L0, ld0 L1, ld0 L2, ld0 L3, ld0 L13, ld0 L14, ld0 L15, ld0 L16, ld0 L17, ld0 L18, ld0 L19, ld0 L20, ld0 L21, ld0 L22, ld0 L23, ld0 L24, ld0 L25, ld0 L26, ld0 L27, ld0 L28, lm0 K_Node L4_Node, lm0 K_Node L5_Node, lm0 K_Waiting L7_Waiting, lm0 K_Waiting L8_Waiting, lm0 K_Waiting L6_Waiting, lm0 K_Underway L9_Underway, lm0 K_Underway L5_Underway, lm0 K_Ready L11_Ready, lm0 K_Ready L12_Ready, lm0 K_Ready L10_Ready, ln0 (j := 29) rfl K_Waiting mk_Waiting kc_Waiting L6_Waiting, ln0 (j := 30) rfl K_Ready mk_Ready kc_Ready L10_Ready⟩
    | succ n ih => exact ⟨ld1 L0 (okQ D_scopes T ih sc_scopes rfl), ld1 L1 (okQ D_let_scopes T ih sc_let_scopes rfl), ld1 L2 (okQ D_rows_scopes T ih sc_rows_scopes rfl), ld1 L3 (okQ D_parts T ih sc_parts rfl), ld1 L13 (okQ D_marks_in T ih sc_marks_in rfl), ld1 L14 (okQ D__law_cells T ih sc__law_cells rfl), ld1 L15 (okQ D__law_number T ih sc__law_number rfl), ld1 L16 (okQ D__law_leaf T ih sc__law_leaf rfl), ld1 L17 (okQ D__law_let T ih sc__law_let rfl), ld1 L18 (okQ D__law_choose T ih sc__law_choose rfl), ld1 L19 (okQ D__law_two T ih sc__law_two rfl), ld1 L20 (okQ D__law_term T ih sc__law_term rfl), ld1 L21 (okQ D__law_shape T ih sc__law_shape rfl), ld1 L22 (okQ D__law_drawn T ih sc__law_drawn rfl), ld1 L23 (okQ D__law_is_list T ih sc__law_is_list rfl), ld1 L24 (okQ D__law_tells T ih sc__law_tells rfl), ld1 L25 (okQ D__law_waits T ih sc__law_waits rfl), ld1 L26 (okQ D__law_ready T ih sc__law_ready rfl), ld1 L27 (okQ D__law_kept T ih sc__law_kept rfl), ld1 L28 (okQ D_law T ih sc_law rfl), lm1 K_Node L4_Node (okQ D_Node_state T ih sc_Node_state rfl), lm1 K_Node L5_Node (okQ D_Node_links T ih sc_Node_links rfl), lm1 K_Waiting L7_Waiting (okQ D_Waiting_state T ih sc_Waiting_state rfl), lm1 K_Waiting L8_Waiting (okQ D_Waiting_links T ih sc_Waiting_links rfl), lm1 K_Waiting L6_Waiting (okQ D_Waiting___init__ T ih sc_Waiting___init__ rfl), lm1 K_Underway L9_Underway (okQ D_Underway_state T ih sc_Underway_state rfl), lm1 K_Underway L5_Underway (okQ D_Node_links T ih sc_Node_links rfl), lm1 K_Ready L11_Ready (okQ D_Ready_state T ih sc_Ready_state rfl), lm1 K_Ready L12_Ready (okQ D_Ready_links T ih sc_Ready_links rfl), lm1 K_Ready L10_Ready (okQ D_Ready___init__ T ih sc_Ready___init__ rfl), cn_ofCm (j := 29) rfl K_Waiting mk_Waiting kc_Waiting ih.m_Waiting___init__, cn_ofCm (j := 30) rfl K_Ready mk_Ready kc_Ready ih.m_Ready___init__⟩
  exact okQ D_law T (CS (59)) sc_law rfl F28
end K41
set_option Elab.async false
set_option linter.all false
set_option maxRecDepth 100000
set_option maxHeartbeats 4000000
/-! the second level's own words: reading a def, loops, what stays -/
namespace WL
open PySem PySem.Spec PyProof.Rows L2
/-- what stood stands -/
def Ex (C C' : Hw) : Prop := ∀ a o, C a = some o → C' a = some o
theorem Ex.trans {C C1 C2 : Hw} (a : Ex C C1) (b : Ex C1 C2) : Ex C C2 := fun c o h => b c o (a c o h)
theorem cne {C : Hw} {a b : Addr} {o : O} (h : C a = some o) (h' : C b = none) : a ≠ b := fun e => by subst e; rw [h] at h'; cases h'
theorem cne' {C : Hw} {a b : Addr} {o : O} (h : C a = some o) (h' : C b = none) : b ≠ a := fun e => cne h h' e.symm
theorem Ex.new {C : Hw} {p : Addr} {o : O} (h : C p = none) : Ex C (up C p o) := fun a u e => by rw [up_ne (cne e h)]; exact e
theorem Ex.up {C C' : Hw} {p : Addr} {o : O} (e : Ex C C') (h : C p = none) : Ex C (up C' p o) := fun a u q => by rw [up_ne (cne q h)]; exact e a u q
theorem fr1 {C : Hw} {p q : Addr} {o : O} (h : up C p o q = none) : q ≠ p ∧ C q = none := by
  have n : q ≠ p := fun z => by subst z; rw [up_same] at h; cases h
  rw [up_ne n] at h
  exact ⟨n, h⟩
theorem Ex.free {C C' : Hw} (e : Ex C C') {p : Addr} (h : C' p = none) : C p = none := by
  cases q : C p with
  | none => rfl
  | some o => rw [e p o q] at h; cases h
/-- what stood stands, but for one -/
def ExB (p : Addr) (C C' : Hw) : Prop := ∀ a o, a ≠ p → C a = some o → C' a = some o
theorem flat_str {x : Str} {n : Nat} : flat (.str x) n = true := by unfold flat; rfl
theorem flat_int {x : Int} {n : Nat} : flat (.int x) n = true := by unfold flat; rfl
theorem flat_bl {x : Bool} {n : Nat} : flat (.bl x) n = true := by unfold flat; rfl
theorem isFlat_str {x : Str} : isFlat (.str x) = True := eq_true flat_str
theorem isFlat_int {x : Int} : isFlat (.int x) = True := eq_true flat_int
theorem isFlat_bl {x : Bool} : isFlat (.bl x) = True := eq_true flat_bl
section
variable {n : Bool} {C : Hw} {Q : WK}
theorem wEq_str {a b : Str} : wEqG n (.str a) (.str b) C Q = Q (.bl (if n = true then !(a == b) else a == b)) C := by
  show (isFlat _ ∧ isFlat _ ∧ Q (.bl (if n = true then !eqT (.str a) (.str b) else eqT (.str a) (.str b))) C) = _
  rw [isFlat_str, isFlat_str, true_and, true_and, show eqT (.str a) (.str b) = (a == b) by unfold eqT; rfl]
theorem wEq_int {a b : Int} : wEqG n (.int a) (.int b) C Q = Q (.bl (if n = true then !(a == b) else a == b)) C := by
  show (isFlat _ ∧ isFlat _ ∧ Q (.bl (if n = true then !eqT (.int a) (.int b) else eqT (.int a) (.int b))) C) = _
  rw [isFlat_int, isFlat_int, true_and, true_and, show eqT (.int a) (.int b) = (a == b) by unfold eqT; rfl]
theorem wEq_bl {a b : Bool} : wEqG n (.bl a) (.bl b) C Q = Q (.bl (if n = true then !(a == b) else a == b)) C := by
  show (isFlat _ ∧ isFlat _ ∧ Q (.bl (if n = true then !eqT (.bl a) (.bl b) else eqT (.bl a) (.bl b))) C) = _
  rw [isFlat_bl, isFlat_bl, true_and, true_and, show eqT (.bl a) (.bl b) = (a == b) by unfold eqT; rfl]
end
section
variable {α : Type} {a b c d e : α} {xs : List α}
theorem erase0 : (a :: xs).eraseIdx 0 = xs := rfl
theorem atI_0 : atI (a :: xs) 0 = some a := atI_nat (j := 0) rfl
theorem atI_1 : atI (a :: b :: xs) 1 = some b := atI_nat (j := 1) rfl
theorem atI_2 : atI (a :: b :: c :: xs) 2 = some c := atI_nat (j := 2) rfl
theorem atI_3 : atI (a :: b :: c :: d :: xs) 3 = some d := atI_nat (j := 3) rfl
theorem atI_4 : atI (a :: b :: c :: d :: e :: xs) 4 = some e := atI_nat (j := 4) rfl
theorem atI_m1 : atI [a] (-1) = some a := rfl
theorem atI_m2 : atI [a, b] (-1) = some b := rfl
theorem atI_m3 : atI [a, b, c] (-1) = some c := rfl
theorem atI_m4 : atI [a, b, c, d] (-1) = some d := rfl
end
/-- a loop by what holds of the turns done; N is whatever the next turn wants -/
theorem for_inv {g : WG} {b : WS} {ok : Hw → Prop} {D : We} {xs : List T} (Pv : Nat → Sw → Hw → Prop) {τ : Sw} {C : Hw} (h0 : Pv 0 τ C) (hok : ∀ i τ C, i ≤ xs.length → Pv i τ C → ok C)
    (hs : ∀ i x τ C (N : Sw → Hw → Prop), xs[i]? = some x → Pv i τ C → (∀ τ' C', Pv (i + 1) τ' C' → N τ' C') → g x τ C (fun τ2 C2 => b { D with nx := N, ct := N, bk := D.nx } τ2 C2) D.xc)
    (hd : ∀ τ C, Pv xs.length τ C → D.nx τ C) : forW g b ok D xs τ C := by
  have key : ∀ (k i : Nat) (τ : Sw) (C : Hw), xs.length - i = k → i ≤ xs.length → Pv i τ C → forW g b ok D (xs.drop i) τ C := by
    intro k
    induction k with
    | zero =>
      intro i τ C hk hi hp
      have e : i = xs.length := by omega
      subst e
      rw [List.drop_length]
      exact ⟨hok _ τ C (Nat.le_refl _) hp, hd τ C hp⟩
    | succ k ih =>
      intro i τ C hk hi hp
      have hlt : i < xs.length := by omega
      rw [List.drop_eq_getElem_cons hlt]
      exact ⟨hok i τ C hi hp, hs i _ τ C _ (by simp [hlt]) hp fun τ' C' h => ih (i + 1) τ' C' (by omega) hlt h⟩
  exact key xs.length 0 τ C (by simp) (Nat.zero_le _) h0
theorem rng_len (lo : Int) (n : Nat) : (rng lo n).length = n := by unfold rng; simp
theorem rng_get {lo : Int} {n i : Nat} {x : T} (h : (rng lo n)[i]? = some x) : i < n ∧ x = .int (lo + i) := by
  have hi : i < n := by
    have := (List.getElem?_eq_some_iff.mp h).1
    rw [rng_len] at this; exact this
  unfold rng at h
  rw [List.getElem?_map, List.getElem?_range hi] at h
  cases h
  exact ⟨hi, rfl⟩
/-- over a range -/
theorem for_rng {g : WG} {b : WS} {ok : Hw → Prop} {D : We} {lo : Int} {n : Nat} (Pv : Nat → Sw → Hw → Prop) {τ : Sw} {C : Hw} (h0 : Pv 0 τ C) (hok : ∀ C, ok C)
    (hs : ∀ i τ C (N : Sw → Hw → Prop), i < n → Pv i τ C → (∀ τ' C', Pv (i + 1) τ' C' → N τ' C') → g (.int (lo + i)) τ C (fun τ2 C2 => b { D with nx := N, ct := N, bk := D.nx } τ2 C2) D.xc)
    (hd : ∀ τ C, Pv n τ C → D.nx τ C) : forW g b ok D (rng lo n) τ C := by
  refine for_inv Pv h0 (fun _ _ C _ _ => hok C) (fun i x τ C N hx hp hN => ?_) (fun τ C h => hd τ C (by rw [rng_len] at h; exact h))
  obtain ⟨hi, rfl⟩ := rng_get hx
  exact hs i τ C N hi hp hN
theorem comp_inv {g : WG} {c : WT} {e : WE} {ok : Hw → Prop} {τ : Sw} {Q : List T → Hw → Prop} {χ : WX} {xs : List T} (Pv : Nat → List T → Hw → Prop) {C : Hw} (h0 : Pv 0 [] C) (hok : ∀ i acc C, i ≤ xs.length → Pv i acc C → ok C)
    (hs : ∀ i x acc C (N : List T → Hw → Prop), xs[i]? = some x → Pv i acc C → (∀ acc' C', Pv (i + 1) acc' C' → N acc' C') →
      g x τ C (fun τ2 C2 => c τ2 C2 (fun b C3 => if b = true then e τ2 C3 (fun v C4 => acc.length < sizeLine ∧ N (acc ++ [v]) C4) χ else N acc C3) χ) χ)
    (hd : ∀ acc C, Pv xs.length acc C → Q acc C) : compW g c e ok τ Q χ xs [] C := by
  have key : ∀ (k i : Nat) (acc : List T) (C : Hw), xs.length - i = k → i ≤ xs.length → Pv i acc C → compW g c e ok τ Q χ (xs.drop i) acc C := by
    intro k
    induction k with
    | zero =>
      intro i acc C hk hi hp
      have e : i = xs.length := by omega
      subst e
      rw [List.drop_length]
      exact ⟨hok _ acc C (Nat.le_refl _) hp, hd acc C hp⟩
    | succ k ih =>
      intro i acc C hk hi hp
      have hlt : i < xs.length := by omega
      rw [List.drop_eq_getElem_cons hlt]
      exact ⟨hok i acc C hi hp, hs i _ acc C _ (by simp [hlt]) hp fun acc' C' h => ih (i + 1) acc' C' (by omega) hlt h⟩
  exact key xs.length 0 [] C (by simp) (Nat.zero_le _) h0
/-- each item gives a value or is left out, the heap stays -/
theorem comp_fm {g : WG} {c : WT} {e : WE} {ok : Hw → Prop} {τ : Sw} {Q : List T → Hw → Prop} {χ : WX} {xs : List T} (f : T → Option T) {C : Hw} (hok : ok C) (hl : xs.length ≤ sizeLine)
    (hs : ∀ x ∈ xs, ∀ (R : WK) (N : Hw → Prop), (∀ v, f x = some v → R v C) → (f x = none → N C) → g x τ C (fun τ2 C2 => c τ2 C2 (fun b C3 => if b = true then e τ2 C3 R χ else N C3) χ) χ) (hd : Q (xs.filterMap f) C) : compW g c e ok τ Q χ xs [] C := by
  refine comp_inv (fun i acc C' => C' = C ∧ acc = (xs.take i).filterMap f) ⟨rfl, rfl⟩ (fun i acc C' _ h => by rw [h.1]; exact hok) (fun i x acc C' N hx hp hN => ?_) (fun acc C' h => ?_)
  · obtain ⟨rfl, rfl⟩ := hp
    have hi : i < xs.length := (List.getElem?_eq_some_iff.mp hx).1
    refine hs x (List.mem_of_getElem? hx) _ _ (fun v hv => ⟨?_, hN _ _ ⟨rfl, ?_⟩⟩) (fun hv => hN _ _ ⟨rfl, ?_⟩)
    · have := List.length_filterMap_le f (xs.take i)
      rw [List.length_take] at this
      omega
    · rw [List.take_add_one, hx, List.filterMap_append]
      simp [hv]
    · rw [List.take_add_one, hx, List.filterMap_append]
      simp [hv]
  · obtain ⟨rfl, rfl⟩ := h
    rw [List.take_length]; exact hd
/-- each item gives a value, the heap stays -/
theorem comp_pure {g : WG} {e : WE} {ok : Hw → Prop} {τ : Sw} {Q : List T → Hw → Prop} {χ : WX} {xs : List T} (f : T → T) {C : Hw} (hok : ok C) (hl : xs.length ≤ sizeLine)
    (hs : ∀ x ∈ xs, ∀ R : WK, R (f x) C → g x τ C (fun τ2 C2 => e τ2 C2 R χ) χ) (hd : Q (xs.map f) C) : compW g tYes e ok τ Q χ xs [] C := by
  refine comp_inv (fun i acc C' => C' = C ∧ acc = (xs.take i).map f) ⟨rfl, rfl⟩ (fun i acc C' _ h => by rw [h.1]; exact hok) (fun i x acc C' N hx hp hN => ?_) (fun acc C' h => ?_)
  · obtain ⟨rfl, rfl⟩ := hp
    have hi : i < xs.length := (List.getElem?_eq_some_iff.mp hx).1
    refine hs x (List.mem_of_getElem? hx) _ ⟨?_, hN _ _ ⟨rfl, ?_⟩⟩
    · rw [List.length_map, List.length_take]; omega
    · rw [List.take_add_one, hx, List.map_append]; rfl
  · obtain ⟨rfl, rfl⟩ := h
    rw [List.take_length]; exact hd
theorem atT_ints {ds : List Int} {i : Int} (h0 : 0 ≤ i) (h1 : i < (ds.length : Int)) : ∃ d, atI (ds.map T.int) i = some (.int d) ∧ d ∈ ds := by
  obtain ⟨v, h, m⟩ := atI_in (xs := ds.map T.int) h0 (by simpa using h1)
  obtain ⟨d, hd, rfl⟩ := List.mem_map.mp m
  exact ⟨d, h, hd⟩
theorem small63 {n : Nat} (h : n ≤ 100000) : n ≤ sizeLine := Nat.le_trans h (by decide)
theorem small63' {n : Nat} (h : n ≤ 100000) : n < sizeLine := Nat.lt_of_le_of_lt h (by decide)
end WL
set_option Elab.async false
set_option linter.all false
set_option maxRecDepth 100000
set_option maxHeartbeats 4000000
namespace K41
open PySem PySem.Spec PyProof.Rows L2 WL
/-! tests by a word or a number, one after another: what is not taken is not walked -/
section
variable {A B : WS} {D : We} {τ : Sw} {C : Hw} {i k : Nat} {v : T} {r : List T} {s s' w : Str} {x y : Int}
theorem k_a0 (h : τ[0]? = some (some (.tup (v :: r)))) (q : B D (τ.set k (some v)) C) : sSeq (sAsg (eBin wIdx (eVar 0) (eC (.int 0))) (gNm k)) B D τ C := ⟨_, h, _, atI_0, q⟩
theorem k_yes (h : τ[i]? = some (some (.str w))) (hw : w = s) (q : A { D with nx := B D } τ C) : sSeq (sIf (tBl (eBin wEq (eVar i) (eC (.str s)))) A sPass) B D τ C := by
  refine ⟨_, h, ?_⟩
  simp only [eC]
  rw [wEq, wEq_str, hw]
  refine ⟨true, by simp, ?_⟩
  rw [if_pos rfl]; exact q
theorem k_no (h : τ[i]? = some (some (.str w))) (hw : w ≠ s) (q : B D τ C) : sSeq (sIf (tBl (eBin wEq (eVar i) (eC (.str s)))) A sPass) B D τ C := by
  refine ⟨_, h, ?_⟩
  simp only [eC]
  rw [wEq, wEq_str]
  refine ⟨false, by simp [hw], ?_⟩
  rw [if_neg (by decide)]; exact q
theorem k_yes2 (h : τ[i]? = some (some (.str w))) (hw : w = s ∨ w = s') (q : A { D with nx := B D } τ C) : sSeq (sIf (tOr' (tBl (eBin wEq (eVar i) (eC (.str s)))) (tBl (eBin wEq (eVar i) (eC (.str s'))))) A sPass) B D τ C := by
  refine ⟨_, h, ?_⟩
  simp only [eC]
  rw [wEq, wEq_str]
  by_cases c : w = s
  · refine ⟨true, by simp [c], ?_⟩
    rw [if_pos rfl]; exact q
  · refine ⟨false, by simp [c], ?_⟩
    rw [if_neg (by decide)]
    refine ⟨_, h, ?_⟩
    simp only [eC]
    rw [wEq_str]
    have c' : w = s' := hw.resolve_left c
    refine ⟨true, by simp [c'], ?_⟩
    rw [if_pos rfl]; exact q
theorem k_no2 (h : τ[i]? = some (some (.str w))) (hw : w ≠ s) (hw' : w ≠ s') (q : B D τ C) : sSeq (sIf (tOr' (tBl (eBin wEq (eVar i) (eC (.str s)))) (tBl (eBin wEq (eVar i) (eC (.str s'))))) A sPass) B D τ C := by
  refine ⟨_, h, ?_⟩
  simp only [eC]
  rw [wEq, wEq_str]
  refine ⟨false, by simp [hw], ?_⟩
  rw [if_neg (by decide)]
  refine ⟨_, h, ?_⟩
  simp only [eC]
  rw [wEq_str]
  refine ⟨false, by simp [hw'], ?_⟩
  rw [if_neg (by decide)]; exact q
end
/-! ### what the program's own defs give -/
def sorts : List Str := ["does", "call", "first", "fun", "let", "shape", "choose", "rows"]
/-- a term's own tuple: the names bound in each part, and the part; how many steps it has, where it is rows -/
inductive Sc : T → Option Nat → List (List T × T) → Prop
  | does {o A B : T} : Sc (.tup [.str "does", o, A, B]) none [([], A), ([], B)]
  | call {A B : T} : Sc (.tup [.str "call", A, B]) none [([], A), ([], B)]
  | first {A B : T} : Sc (.tup [.str "first", A, B]) none [([], A), ([], B)]
  | fun_ {x B : T} : Sc (.tup [.str "fun", x, B]) none [([x], B)]
  | let_ {B : T} {xs : List (T × T)} (h : xs.length ≤ 1000) : Sc (.tup [.str "let", .tup (xs.map fun x => .tup [x.1, x.2]), B]) none (xs.map (fun x => (xs.map (·.1), x.2)) ++ [(xs.map (·.1), B)])
  | shape {c : T} {ps : List T} (h : ps.length ≤ 1000) : Sc (.tup [.str "shape", c, .tup ps]) none (ps.map fun x => ([], x))
  | choose {E : T} {ys : List (T × List T × T)} (h : ys.length ≤ 1000) : Sc (.tup [.str "choose", E, .tup (ys.map fun y => .tup [y.1, .tup y.2.1, y.2.2])]) none (([], E) :: ys.map (·.2))
  | other {w : Str} {rest : List T} (h : w ∉ sorts) : Sc (.tup (.str w :: rest)) none []
def scT (s : List T × T) : T := .tup [.tup s.1, s.2]
section
variable {C : Hw} {Q : WK} {χ : WX} {n : Nat}
theorem s_let_scopes {B : T} {xs : List (T × T)} (h : xs.length ≤ 1000) (q : ∀ p C', Ex C C' → C p = none → C' p = some (.lst ((xs.map (fun x => (xs.map (·.1), x.2)) ++ [(xs.map (·.1), B)]).map scT)) → Q (.ref p) C') :
    wpc pr (n + 1) i_let_scopes [.tup (xs.map fun x => .tup [x.1, x.2]), B] C Q χ := by
  refine u_let_scopes rfl ?_
  have hl : (xs.map fun x : T × T => T.tup [x.1, x.2]).length ≤ sizeLine := by rw [List.length_map]; exact small63 (by omega)
  refine ⟨_, rfl, comp_pure (fun t => match t with | .tup [a, _] => a | _ => .non) trivial hl (fun x hx R hR => ?_) fun p hp => ⟨_, rfl, _, up_same, ?_⟩⟩
  · obtain ⟨y, _, rfl⟩ := List.mem_map.mp hx
    exact ⟨_, rfl, _, _, rfl, _, _, rfl, rfl, _, rfl, hR⟩
  have e : (xs.map fun x : T × T => T.tup [x.1, x.2]).map (fun t => match t with | .tup [a, _] => a | _ => T.non) = xs.map (·.1) := by rw [List.map_map]; rfl
  rw [e]
  refine ⟨_, rfl, comp_pure (fun t => match t with | .tup [_, b] => .tup [.tup (xs.map (·.1)), b] | _ => .non) trivial hl (fun x hx R hR => ?_) fun p2 hp2 => ⟨_, rfl, _, rfl, Nat.le_of_ble_eq_true rfl, Nat.le_of_ble_eq_true rfl, fun p3 hp3 => ?_⟩⟩
  · obtain ⟨y, _, rfl⟩ := List.mem_map.mp hx
    exact ⟨_, rfl, _, _, rfl, _, _, rfl, rfl, _, rfl, _, rfl, Nat.le_of_ble_eq_true rfl, hR⟩
  obtain ⟨n2, e2⟩ := fr1 hp2
  obtain ⟨n32, h32⟩ := fr1 hp3
  obtain ⟨n31, e3⟩ := fr1 h32
  refine ⟨_, _, by rw [up_ne n32.symm]; exact up_same, up_same, ?_, fun p4 hp4 => ?_⟩
  · rw [List.length_map, List.length_map]; exact small63 (by show xs.length + 1 ≤ 100000; omega)
  · obtain ⟨n43, h43⟩ := fr1 hp4
    obtain ⟨n42, h42⟩ := fr1 h43
    obtain ⟨n41, e4⟩ := fr1 h42
    refine q p4 _ ((((Ex.new hp).up e2).up e3).up e4) e4 ?_
    rw [up_same, List.map_append, List.map_map, List.map_map]
    rfl
theorem s_scopes {t : T} {e : Option Nat} {ss : List (List T × T)} (h : Sc t e ss) (q : ∀ p C', Ex C C' → C p = none → C' p = some (.lst (ss.map scT)) → Q (.ref p) C') : wpc pr (n + 2) i_scopes [t] C Q χ := by
  refine u_scopes rfl ?_
  unfold w_scopes D_scopes
  have le : ∀ {n}, Nat.ble n sizeLine = true → n ≤ sizeLine := fun h => Nat.le_of_ble_eq_true h
  cases h with
  | does => exact k_a0 rfl (k_yes rfl rfl ⟨le rfl, _, rfl, _, atI_2, le rfl, le rfl, _, rfl, _, atI_3, le rfl, le rfl, fun p hp => q p _ (Ex.new hp) hp up_same⟩)
  | call => exact k_a0 rfl (k_no rfl (by decide +kernel) (k_yes2 rfl (.inl rfl) ⟨le rfl, _, rfl, _, atI_1, le rfl, le rfl, _, rfl, _, atI_2, le rfl, le rfl, fun p hp => q p _ (Ex.new hp) hp up_same⟩))
  | first => exact k_a0 rfl (k_no rfl (by decide +kernel) (k_yes2 rfl (.inr rfl) ⟨le rfl, _, rfl, _, atI_1, le rfl, le rfl, _, rfl, _, atI_2, le rfl, le rfl, fun p hp => q p _ (Ex.new hp) hp up_same⟩))
  | fun_ => exact k_a0 rfl (k_no rfl (by decide +kernel) (k_no2 rfl (by decide +kernel) (by decide +kernel) (k_yes rfl rfl ⟨_, rfl, _, atI_1, le rfl, _, rfl, _, atI_2, le rfl, le rfl, fun p hp => q p _ (Ex.new hp) hp up_same⟩)))
  | let_ h => exact k_a0 rfl (k_no rfl (by decide +kernel) (k_no2 rfl (by decide +kernel) (by decide +kernel) (k_no rfl (by decide +kernel) (k_yes rfl rfl ⟨_, rfl, _, atI_1, _, rfl, _, atI_2, s_let_scopes h q⟩))))
  | shape h =>
    refine k_a0 rfl (k_no rfl (by decide +kernel) (k_no2 rfl (by decide +kernel) (by decide +kernel) (k_no rfl (by decide +kernel) (k_no rfl (by decide +kernel) (k_yes rfl rfl ?_)))))
    refine ⟨_, rfl, _, atI_2, comp_pure (fun t => .tup [.tup [], t]) trivial (small63 (by omega)) (fun x hx R hR => ⟨le rfl, _, rfl, le rfl, hR⟩) fun p hp => q p _ (Ex.new hp) hp ?_⟩
    rw [up_same, List.map_map]; rfl
  | @choose E ys h =>
    refine k_a0 rfl (k_no rfl (by decide +kernel) (k_no2 rfl (by decide +kernel) (by decide +kernel) (k_no rfl (by decide +kernel) (k_no rfl (by decide +kernel) (k_no rfl (by decide +kernel) (k_yes rfl rfl ?_))))))
    refine ⟨le rfl, _, rfl, _, atI_1, le rfl, le rfl, fun p hp => ⟨_, rfl, _, atI_2, comp_pure (fun t => match t with | .tup [_, a, b] => .tup [a, b] | _ => .non) trivial (by rw [List.length_map]; exact small63 (by omega)) (fun x hx R hR => ?_) fun p2 hp2 => ?_⟩⟩
    · obtain ⟨y, _, rfl⟩ := List.mem_map.mp hx
      exact ⟨_, rfl, _, _, rfl, _, _, rfl, _, _, rfl, rfl, _, rfl, _, rfl, le rfl, hR⟩
    obtain ⟨n2, e2⟩ := fr1 hp2
    refine ⟨_, _, by rw [up_ne n2.symm]; exact up_same, up_same, ?_, fun p3 hp3 => ?_⟩
    · rw [List.length_map, List.length_map]; exact small63 (by show 1 + _ ≤ _; omega)
    · obtain ⟨n32, h32⟩ := fr1 hp3
      obtain ⟨n31, e3⟩ := fr1 h32
      refine q p3 _ (((Ex.new hp).up e2).up e3) e3 ?_
      rw [up_same, List.map_cons, List.map_map, List.map_map]; rfl
  | @other w rest h =>
    have hw : ∀ s ∈ sorts, w ≠ s := fun s hs z => h (z ▸ hs)
    exact k_a0 rfl (k_no rfl (hw "does" (by decide)) (k_no2 rfl (hw "call" (by decide)) (hw "first" (by decide)) (k_no rfl (hw "fun" (by decide)) (k_no rfl (hw "let" (by decide)) (k_no rfl (hw "shape" (by decide)) (k_no rfl (hw "choose" (by decide)) (k_no rfl (hw "rows" (by decide)) ⟨le rfl, fun p hp => q p _ (Ex.new hp) hp up_same⟩)))))))
end
/-! walking by terms -/
section
variable {C : Hw} {Q : WK} {χ : WX} {τ : Sw}
theorem ite_t {p q : Prop} (h : p) : if true = true then p else q := h
theorem ite_f {p q : Prop} (h : q) : if false = true then p else q := h
theorem eqS {a b : Str} {v : Bool} (h : (a == b) = v) (q : Q (.bl v) C) : wEqG false (.str a) (.str b) C Q := by rw [wEq_str, if_neg (by decide), h]; exact q
theorem eqI {a b : Int} {v : Bool} (h : (a == b) = v) (q : Q (.bl v) C) : wEqG false (.int a) (.int b) C Q := by rw [wEq_int, if_neg (by decide), h]; exact q
theorem neS {a b : Str} {v : Bool} (h : (a == b) = v) (q : Q (.bl (!v)) C) : wEqG true (.str a) (.str b) C Q := by rw [wEq_str, if_pos rfl, h]; exact q
theorem eqSc {a b : Str} {v : Bool} (h : (a == b) = v) (q : Q (.bl v) C) : eC (.str b) τ C (fun y C2 => wEq (.str a) y C2 Q) χ := eqS h q
theorem eqIc {a b : Int} {v : Bool} (h : (a == b) = v) (q : Q (.bl v) C) : eC (.int b) τ C (fun y C2 => wEq (.int a) y C2 Q) χ := eqI h q
end
end K41
set_option Elab.async false
set_option linter.all false
set_option maxRecDepth 100000
set_option maxHeartbeats 400000
namespace K41
open PySem PySem.Spec PyProof.Rows L2 WL
section
variable {C : Hw} {Q : WK} {χ : WX} {n : Nat}
theorem s_parts {t : T} {e : Option Nat} {ss : List (List T × T)} (h : Sc t e ss) (hl : ss.length ≤ 2000) (q : ∀ p C', Ex C C' → C p = none → C' p = some (.lst (ss.map (·.2))) → Q (.ref p) C') : wpc pr (n + 3) i_parts [t] C Q χ := by
  refine u_parts rfl ?_
  refine ⟨_, rfl, ?_⟩
  dsimp only [aNil]
  refine s_scopes h fun p C' hE hp hC => ⟨_, hC, ?_⟩
  refine comp_pure (fun t => match t with | .tup [_, b] => b | _ => .non) hC (by rw [List.length_map]; exact small63 (by omega)) (fun x hx R hR => ?_) fun p2 hp2 => q p2 _ (hE.up (hE.free hp2)) (hE.free hp2) ?_
  · obtain ⟨y, _, rfl⟩ := List.mem_map.mp hx
    exact ⟨_, rfl, _, _, rfl, _, _, rfl, rfl, _, rfl, hR⟩
  · rw [up_same, List.map_map]; rfl
end
end K41
set_option Elab.async false
set_option linter.all false
set_option maxRecDepth 100000
set_option maxHeartbeats 400000
namespace K41
open PySem PySem.Spec PyProof.Rows L2 WL
/-- a pile of terms, the next one first: their marks, and how many turns it takes -/
inductive Pl : List T → List Int → Nat → Prop
  | nil : Pl [] [] 0
  | at_ {n : Int} {l : List T} {ms : List Int} {k : Nat} : Pl l ms k → Pl (.tup [.str "at", .int n] :: l) (n :: ms) (k + 1)
  | made {c : T} {us l : List T} {ms : List Int} {k : Nat} : Pl (us.reverse ++ l) ms k → Pl (.tup [.str "made", c, .tup us] :: l) ms (k + 1)
  | part {w : Str} {r : List T} {e : Option Nat} {ss : List (List T × T)} {l : List T} {ms : List Int} {k : Nat} (h1 : w ≠ "at") (h2 : w ≠ "made") (h : Sc (.tup (.str w :: r)) e ss) : Pl ((ss.map (·.2)).reverse ++ l) ms k → Pl (.tup (.str w :: r) :: l) ms (k + 1)
theorem Pl.len {l : List T} {ms : List Int} {k : Nat} (h : Pl l ms k) : l.length ≤ k := by
  induction h with
  | nil => exact Nat.le_refl _
  | at_ _ ih => simpa using ih
  | made _ ih => simp only [List.length_append, List.length_cons] at *; omega
  | part _ _ _ _ ih => simp only [List.length_append, List.length_cons] at *; omega
theorem put_keys {kvs : List (Key × T)} {ts : List Int} {n : Int} {v : T} (h : kvs.map (·.1) = ts.map Sum.inl) :
    (putT kvs (.inl n) v).map (·.1) = (if n ∈ ts then ts else ts ++ [n]).map Sum.inl := by
  have e : (kvs.any fun kv => decide (kv.1 = .inl n)) = decide (n ∈ ts) := by
    have : (kvs.any fun kv => decide (kv.1 = .inl n)) = ((kvs.map (·.1)).any fun x => decide (x = .inl n)) := by rw [List.any_map]; rfl
    rw [this, h, List.any_map]
    by_cases hn : n ∈ ts
    · rw [decide_eq_true hn]
      exact List.any_eq_true.mpr ⟨n, hn, by simp⟩
    · rw [decide_eq_false hn]
      refine List.any_eq_false.mpr fun y hy => ?_
      simp only [Function.comp, decide_eq_true_eq, Sum.inl.injEq]
      exact fun z => hn (z ▸ hy)
  unfold putT
  rw [e]
  by_cases hn : n ∈ ts
  · rw [if_pos (decide_eq_true hn), if_pos hn, List.map_map, ← h]
    refine List.map_congr_left fun x _ => ?_
    show (if x.1 = Sum.inl n then (x.1, v) else x).1 = x.1
    split <;> rfl
  · rw [if_neg (by rw [decide_eq_false hn]; decide), if_neg hn, List.map_append, List.map_append, h]; rfl
theorem eqTs_nil : eqTs [] [] = true := by unfold eqTs; rfl
theorem eqTs_cons {x : T} {xs : List T} : eqTs (x :: xs) [] = false := by unfold eqTs; rfl
theorem flats_nil {k : Nat} : flats [] k = true := by unfold flats; rfl
section
variable {C : Hw} {Q : WK} {χ : WX} {n : Nat}
theorem ne_nil {p p' : Addr} {xs : List T} (h1 : C p = some (.lst xs)) (h2 : C p' = some (.lst [])) (q : Q (.bl (!xs.isEmpty)) C) : wEqG true (.ref p) (.ref p') C Q := by
  refine ⟨xs, [], h1, h2, fun e => ?_, ?_⟩
  · have : xs = [] := List.length_eq_zero_iff.mp e
    subst this
    exact ⟨flats_nil, flats_nil⟩
  · rw [if_pos rfl]
    cases xs with
    | nil => rw [eqTs_nil]; exact q
    | cons x xs => rw [eqTs_cons]; exact q
/-- what the loop of marks_in keeps -/
structure Lk (C C' : Hw) (pf pp : Addr) (ms : List Int) (N k : Nat) : Prop where
  ex : Ex C C'
  nf : C pf = none
  np : C pp = none
  ne : pf ≠ pp
  st : ∃ (kvs : List (Key × T)) (ts : List Int) (l : List T) (ms' : List Int), C' pf = some (.dic kvs) ∧ kvs.map (·.1) = ts.map Sum.inl ∧ ts.Nodup ∧ C' pp = some (.lst l.reverse) ∧ Pl l ms' k ∧ (∀ y, y ∈ ts ∨ y ∈ ms' ↔ y ∈ ms) ∧ ts.length + k ≤ N
theorem s_marks {t : T} {ms : List Int} {k : Nat} (h : Pl [t] ms k) (hk : k ≤ 2000) (q : ∀ p C' (ys : List Int), Ex C C' → C p = none → C' p = some (.lst (ys.map T.int)) → (∀ y, y ∈ ys ↔ y ∈ ms) → ys.Pairwise (· < ·) → Q (.ref p) C') :
    wpc pr (n + 4) i_marks_in [t] C Q χ := by
  refine u_marks_in rfl ?_
  intro pf hpf
  refine ⟨_, rfl, Nat.le_of_ble_eq_true rfl, fun pp hpp => ?_⟩
  have npp : pf ≠ pp := fun e => by rw [← e, up_same] at hpp; cases hpp
  have cpp : C pp = none := by rw [up_ne npp.symm] at hpp; exact hpp
  refine while_inv (fun m τ C' => ∃ v3, τ = [some t, some (.ref pf), some (.ref pp), v3] ∧ Lk C C' pf pp ms k m) (m := k) ⟨none, rfl, fun a o e => by rw [up_ne (cne e cpp), up_ne (cne e hpf)]; exact e, hpf, cpp, npp, [], [], [t], ms, by rw [up_ne npp, up_same], rfl, .nil, up_same, h, fun y => by simp, by simp⟩ ?_
  rintro m τ C1 N ⟨v3, rfl, L⟩ hN
  obtain ⟨E1, nf, np, ne, kvs, ts, l, ms', f1, kt, nd, p1, P, mm, sz⟩ := L
  refine ⟨_, rfl, Nat.le_of_ble_eq_true rfl, fun p' hp' => ?_⟩
  have f2 : up C1 p' (.lst []) pf = some (.dic kvs) := by rw [up_ne (cne f1 hp')]; exact f1
  have p2 : up C1 p' (.lst []) pp = some (.lst l.reverse) := by rw [up_ne (cne p1 hp')]; exact p1
  have E2 : Ex C (up C1 p' (.lst [])) := fun a o e => by rw [up_ne (cne (E1 a o e) hp')]; exact E1 a o e
  refine ne_nil p2 up_same ⟨_, rfl, ?_⟩
  generalize up C1 p' (.lst []) = C2 at f2 p2 E2
  have hlen := P.len
  cases l with
  | nil =>
    refine ite_f ?_
    cases P
    refine ⟨_, rfl, pf, kvs, ts, rfl, f2, kt, by omega, fun qa ys hq e1 e2 => ?_⟩
    refine q qa _ ys (fun a o e => by rw [up_ne (cne (E2 a o e) hq)]; exact E2 a o e) ?_ up_same (fun y => ?_) (rise_nodup e2 (e1.nodup_iff.mpr nd))
    · cases hc : C qa with
      | none => rfl
      | some o => rw [E2 qa o hc] at hq; cases hq
    · rw [e1.mem_iff, ← mm y]; simp
  | cons u l =>
    have ne1 : (!((u :: l).reverse).isEmpty) = true := by simp
    rw [ne1]
    refine ite_t ?_
    have last : (u :: l).reverse[(u :: l).reverse.length - 1]? = some u := by simp
    have dl : (u :: l).reverse.dropLast = l.reverse := by simp
    refine ⟨_, rfl, ⟨_, _, rfl, p2⟩, _, _, _, rfl, rfl, p2, last, ?_⟩
    rw [dl]
    have E3 : Ex C (up C2 pp (.lst l.reverse)) := fun a o e => by rw [up_ne (cne e np)]; exact E2 a o e
    have f3 : up C2 pp (.lst l.reverse) pf = some (.dic kvs) := by rw [up_ne ne]; exact f2
    have p3 : up C2 pp (.lst l.reverse) pp = some (.lst l.reverse) := up_same
    generalize up C2 pp (.lst l.reverse) = C3 at E3 f3 p3
    cases P with
    | @at_ z _ ms2 k2 P2 =>
      refine ⟨_, rfl, _, atI_0, eqSc rfl ⟨_, rfl, ite_t ?_⟩⟩
      have hle : (if z ∈ ts then ts else ts ++ [z]).length ≤ ts.length + 1 := by split <;> simp
      have klen : kvs.length = ts.length := by have := congrArg List.length kt; simpa using this
      refine ⟨_, rfl, _, rfl, _, atI_nat (j := 1) rfl, pf, kvs, .inl z, rfl, rfl, f3, small63 (by omega), ?_⟩
      refine hN k2 _ _ (Nat.lt_succ_self _) ⟨_, rfl, fun a o e => by rw [up_ne (cne e nf)]; exact E3 a o e, nf, np, ne, _, _, l, ms2, up_same, put_keys kt, ?_, by rw [up_ne ne.symm]; exact p3, P2, fun y => ?_, by omega⟩
      · split
        · exact nd
        · rename_i hz
          exact List.nodup_append.mpr ⟨nd, by simp, fun a ha b hb => by rw [List.mem_singleton.mp hb]; exact fun e => hz (e ▸ ha)⟩
      · rw [← mm y]
        split
        · rename_i hz
          constructor
          · rintro (h | h)
            · exact .inl h
            · exact .inr (List.mem_cons_of_mem _ h)
          · rintro (h | h)
            · exact .inl h
            · rcases List.mem_cons.mp h with rfl | h
              · exact .inl hz
              · exact .inr h
        · simp only [List.mem_append, List.mem_cons, List.not_mem_nil, or_false, or_assoc]
    | @made c us _ ms2 k2 P2 =>
      have hl2 := P2.len
      rw [List.length_append, List.length_reverse] at hl2
      refine ⟨_, rfl, _, atI_0, eqSc rfl ⟨_, rfl, ite_f ?_⟩⟩
      refine ⟨_, rfl, _, atI_0, eqSc rfl ⟨_, rfl, ite_t ?_⟩⟩
      refine ⟨_, rfl, ⟨_, _, rfl, p3⟩, ⟨_, rfl, _, atI_nat (j := 2) rfl, pp, _, us, rfl, rfl, p3, small63 (by rw [List.length_reverse]; omega), ?_⟩⟩
      refine hN k2 _ _ (Nat.lt_succ_self _) ⟨_, rfl, fun a o e => by rw [up_ne (cne e np)]; exact E3 a o e, nf, np, ne, kvs, ts, us.reverse ++ l, _, by rw [up_ne ne]; exact f3, kt, nd, by rw [up_same]; simp, P2, mm, by omega⟩
    | @part w r e ss _ ms2 k2 w1 w2 hS P2 =>
      have hl2 := P2.len
      rw [List.length_append, List.length_reverse, List.length_map] at hl2
      refine ⟨_, rfl, _, atI_0, eqSc (beq_eq_false_iff_ne.mpr w1) ⟨_, rfl, ite_f ?_⟩⟩
      refine ⟨_, rfl, _, atI_0, eqSc (beq_eq_false_iff_ne.mpr w2) ⟨_, rfl, ite_f ?_⟩⟩
      refine ⟨_, rfl, ⟨_, _, rfl, p3⟩, ?_⟩
      refine ⟨_, rfl, ?_⟩
      dsimp only [aNil]
      refine s_parts hS (by omega) fun p5 C5 hE5 hp5 hC5 => ?_
      refine ⟨pp, p5, _, _, rfl, rfl, hE5 _ _ p3, hC5, small63 (by rw [List.length_reverse, List.length_map]; omega), ?_⟩
      refine hN k2 _ _ (Nat.lt_succ_self _) ⟨_, rfl, fun a o e => by rw [up_ne (cne e np)]; exact hE5 _ _ (E3 a o e), nf, np, ne, kvs, ts, (ss.map (·.2)).reverse ++ l, _, by rw [up_ne ne]; exact hE5 _ _ f3, kt, nd, by rw [up_same]; simp, P2, mm, by omega⟩
end
end K41
set_option Elab.async false
set_option linter.all false
set_option maxRecDepth 100000
set_option maxHeartbeats 400000
namespace K41
open PySem PySem.Spec PyProof.Rows L2 WL
/-- the marks of a term are the members of ns, found in at most b turns -/
def Mt (t : T) (ns : List Int) (b : Nat) : Prop := ∀ l ms k, Pl l ms k → ∃ ms' k', Pl (t :: l) ms' k' ∧ (∀ y, y ∈ ms' ↔ y ∈ ns ∨ y ∈ ms) ∧ k' ≤ k + b
/-- the same of some terms -/
def Ms (ts : List T) (ns : List Int) (b : Nat) : Prop := ∀ l ms k, Pl l ms k → ∃ ms' k', Pl (ts ++ l) ms' k' ∧ (∀ y, y ∈ ms' ↔ y ∈ ns ∨ y ∈ ms) ∧ k' ≤ k + b
theorem Ms.nil : Ms [] [] 0 := fun l ms k h => ⟨ms, k, h, fun y => by simp, Nat.le_refl _⟩
theorem Ms.cons {t : T} {ts : List T} {ns ns' : List Int} {b b' : Nat} (h : Mt t ns b) (hs : Ms ts ns' b') : Ms (t :: ts) (ns ++ ns') (b + b') := fun l ms k p => by
  obtain ⟨m1, k1, p1, e1, l1⟩ := hs l ms k p
  obtain ⟨m2, k2, p2, e2, l2⟩ := h _ m1 k1 p1
  exact ⟨m2, k2, p2, fun y => by rw [e2, e1, List.mem_append, or_assoc], by omega⟩
theorem Ms.same {ts : List T} {ns ns' : List Int} {b b' : Nat} (h : Ms ts ns b) (e : ∀ y, y ∈ ns ↔ y ∈ ns') (hb : b ≤ b') : Ms ts ns' b' := fun l ms k p => by
  obtain ⟨m1, k1, p1, e1, l1⟩ := h l ms k p
  exact ⟨m1, k1, p1, fun y => by rw [e1, e], by omega⟩
theorem Mt.same {t : T} {ns ns' : List Int} {b b' : Nat} (h : Mt t ns b) (e : ∀ y, y ∈ ns ↔ y ∈ ns') (hb : b ≤ b') : Mt t ns' b' := fun l ms k p => by
  obtain ⟨m1, k1, p1, e1, l1⟩ := h l ms k p
  exact ⟨m1, k1, p1, fun y => by rw [e1, e], by omega⟩
/-- some terms by a list -/
theorem Ms.map {α : Type} {f : α → T} {g : α → List Int} {b : α → Nat} : ∀ {l : List α}, (∀ x, x ∈ l → Mt (f x) (g x) (b x)) → Ms (l.map f) (l.flatMap g) ((l.map b).sum)
  | [], _ => Ms.nil
  | x :: l, h => by
    rw [List.map_cons, List.flatMap_cons, List.map_cons, List.sum_cons]
    exact Ms.cons (h x (by simp)) (Ms.map fun y hy => h y (List.mem_cons_of_mem _ hy))
theorem Ms.rev {α : Type} {f : α → T} {g : α → List Int} {b : α → Nat} {l : List α} (h : ∀ x, x ∈ l → Mt (f x) (g x) (b x)) : Ms (l.map f).reverse (l.flatMap g) ((l.map b).sum) := by
  rw [← List.map_reverse]
  refine (Ms.map (f := f) (g := g) (b := b) (l := l.reverse) fun x hx => h x (by simpa using hx)).same (fun y => by simp) ?_
  rw [List.map_reverse, List.sum_reverse]
  exact Nat.le_refl _
theorem Mt.at_ (n : Int) : Mt (.tup [.str "at", .int n]) [n] 1 := fun l ms k p => ⟨_, _, .at_ p, fun y => by simp, Nat.le_refl _⟩
theorem Mt.made {c : T} {us : List T} {ns : List Int} {b : Nat} (h : Ms us.reverse ns b) : Mt (.tup [.str "made", c, .tup us]) ns (b + 1) := fun l ms k p => by
  obtain ⟨m1, k1, p1, e1, l1⟩ := h l ms k p
  exact ⟨_, _, .made p1, e1, by omega⟩
theorem Mt.part {w : Str} {r : List T} {e : Option Nat} {ss : List (List T × T)} {ns : List Int} {b : Nat} (h1 : w ≠ "at") (h2 : w ≠ "made") (h : Sc (.tup (.str w :: r)) e ss) (hs : Ms (ss.map (·.2)).reverse ns b) : Mt (.tup (.str w :: r)) ns (b + 1) := fun l ms k p => by
  obtain ⟨m1, k1, p1, e1, l1⟩ := hs l ms k p
  exact ⟨_, _, .part h1 h2 h p1, e1, by omega⟩
theorem Mt.leaf {w : Str} {r : List T} (h1 : w ≠ "at") (h2 : w ≠ "made") (h : w ∉ sorts) : Mt (.tup (.str w :: r)) [] 1 := Mt.part h1 h2 (.other h) Ms.nil
/-- two lists that rise and have the same members are one -/
theorem rise_one : ∀ {xs ys : List Int}, xs.Pairwise (· < ·) → ys.Pairwise (· < ·) → (∀ y, y ∈ xs ↔ y ∈ ys) → xs = ys
  | [], [], _, _, _ => rfl
  | [], y :: ys, _, _, h => absurd ((h y).mpr (by simp)) (by simp)
  | x :: xs, [], _, _, h => absurd ((h x).mp (by simp)) (by simp)
  | x :: xs, y :: ys, h1, h2, h => by
    obtain ⟨a1, a2⟩ := List.pairwise_cons.mp h1
    obtain ⟨b1, b2⟩ := List.pairwise_cons.mp h2
    have exy : x = y := by
      have c1 := (h x).mp (by simp)
      have c2 := (h y).mpr (by simp)
      rcases List.mem_cons.mp c1 with e | e
      · exact e
      · rcases List.mem_cons.mp c2 with e' | e'
        · exact e'.symm
        · have := b1 x e; have := a1 y e'; omega
    subst exy
    rw [rise_one a2 b2 fun z => ?_]
    constructor
    · intro hz
      have := a1 z hz
      rcases List.mem_cons.mp ((h z).mp (List.mem_cons_of_mem _ hz)) with e | e
      · omega
      · exact e
    · intro hz
      have := b1 z hz
      rcases List.mem_cons.mp ((h z).mpr (List.mem_cons_of_mem _ hz)) with e | e
      · omega
      · exact e
section
variable {C : Hw} {Q : WK} {χ : WX} {n : Nat}
/-- marks_in of a term with the marks ns: the rising list with the members of ns -/
theorem s_marks_of {t : T} {ns ys : List Int} {b : Nat} (h : Mt t ns b) (hb : b ≤ 2000) (hy : ys.Pairwise (· < ·)) (hm : ∀ y, y ∈ ys ↔ y ∈ ns) (q : ∀ p C', Ex C C' → C p = none → C' p = some (.lst (ys.map T.int)) → Q (.ref p) C') :
    wpc pr (n + 4) i_marks_in [t] C Q χ := by
  obtain ⟨ms, k, P, e, l⟩ := h [] [] 0 .nil
  refine s_marks P (by omega) fun p C' zs h1 h2 h3 h4 h5 => ?_
  have : zs = ys := rise_one h5 hy fun y => by rw [h4, e, hm]; simp
  subst this
  exact q p C' h1 h2 h3
end
end K41
set_option Elab.async false
set_option linter.all false
set_option maxRecDepth 100000
set_option maxHeartbeats 400000
namespace K41
open PySem PySem.Spec PyProof.Rows L2 WL
theorem flats_ints {m : Nat} : ∀ (ys : List Int), flats (ys.map T.int) m = true
  | [] => by unfold flats; rfl
  | y :: r => by
    show (flat (T.int y) m && flats (r.map T.int) m) = true
    rw [flats_ints r]; rfl
section
variable {C : Hw} {Q : WK} {χ : WX} {n : Nat}
theorem s_is_list {p r : Addr} {ys : List Int} (hp : C p = some (.lst (ys.map T.int))) (hr : C r = some (.lst (ys.map T.int))) (hl : ys.length ≤ 2000) (q : ∀ C', Ex C C' → Q (.bl true) C') :
    wpc pr (n + 1) i__law_is_list [.ref p, .ref r] C Q χ := by
  refine u__law_is_list rfl ?_
  refine ⟨_, rfl, "list", .inl ⟨rfl, _, hp⟩, _, rfl, ?_⟩
  refine ite_f ?_
  refine ⟨_, rfl, _, rfl, ?_⟩
  refine ⟨_, _, hp, hr, fun _ => ⟨flats_ints _, flats_ints _⟩, ?_⟩
  rw [if_pos rfl, eqTs_refl _ (flats_ints (m := 0) ys)]
  refine ⟨_, rfl, ite_f ?_⟩
  refine ⟨_, rfl, ⟨_, hp, ?_⟩⟩
  refine comp_fm (fun x => some x) hp (by rw [List.length_map]; exact small63 (by omega)) (fun x hx R N h1 _ => ?_) fun p2 hp2 => ?_
  · obtain ⟨y, _, rfl⟩ := List.mem_map.mp hx
    exact ⟨_, rfl, "int", rfl, _, rfl, ite_t ⟨_, rfl, "int", rfl, _, rfl, ite_t ⟨_, rfl, h1 _ rfl⟩⟩⟩
  rw [List.filterMap_some]
  have E : Ex C (up C p2 (.lst (ys.map T.int))) := fun a o e => by rw [up_ne (cne e hp2)]; exact e
  refine ⟨_, rfl, _, up_same, ?_⟩
  refine ⟨_, rfl, _, rfl, _, E _ _ hr, ?_⟩
  exact eqI (beq_self_eq_true _) (q _ E)
end
end K41
set_option Elab.async false
set_option linter.all false
set_option maxRecDepth 100000
set_option maxHeartbeats 400000
namespace K41
open PySem PySem.Spec PyProof.Rows L2 WL
section
variable {C : Hw} {Q : WK} {χ : WX} {n : Nat} {p : Addr} {t : T} {ns ys : List Int} {b : Nat}
theorem s_Node_links (q : ∀ r C', Ex C C' → C r = none → C' r = some (.lst []) → Q (.ref r) C') : wpc pr (n + 1) i_Node_links [.ref p] C Q χ := by
  refine u_Node_links rfl ?_
  exact ⟨Nat.le_of_ble_eq_true rfl, fun r hr => q r _ (fun a o e => by rw [up_ne (cne e hr)]; exact e) hr up_same⟩
theorem s_Waiting_links (hp : C p = some (.ins "Waiting" [("text", t)])) (h : Mt t ns b) (hb : b ≤ 2000) (hy : ys.Pairwise (· < ·)) (hm : ∀ y, y ∈ ys ↔ y ∈ ns) (q : ∀ r C', Ex C C' → C r = none → C' r = some (.lst (ys.map T.int)) → Q (.ref r) C') :
    wpc pr (n + 5) i_Waiting_links [.ref p] C Q χ := by
  refine u_Waiting_links rfl ?_
  refine ⟨_, rfl, _, _, _, _, rfl, hp, .head _, rfl, ?_⟩
  dsimp only [aNil]
  exact s_marks_of h hb hy hm q
theorem s_Ready_links (hp : C p = some (.ins "Ready" [("value", t)])) (h : Mt t ns b) (hb : b ≤ 2000) (hy : ys.Pairwise (· < ·)) (hm : ∀ y, y ∈ ys ↔ y ∈ ns) (q : ∀ r C', Ex C C' → C r = none → C' r = some (.lst (ys.map T.int)) → Q (.ref r) C') :
    wpc pr (n + 5) i_Ready_links [.ref p] C Q χ := by
  refine u_Ready_links rfl ?_
  refine ⟨_, rfl, _, _, _, _, rfl, hp, .head _, rfl, ?_⟩
  dsimp only [aNil]
  exact s_marks_of h hb hy hm q
theorem s_Node_state (q : Q (.str "") C) : wpc pr (n + 1) i_Node_state [.ref p] C Q χ := u_Node_state rfl q
theorem s_Waiting_state (q : Q (.str "waiting") C) : wpc pr (n + 1) i_Waiting_state [.ref p] C Q χ := u_Waiting_state rfl q
theorem s_Underway_state (q : Q (.str "under way") C) : wpc pr (n + 1) i_Underway_state [.ref p] C Q χ := u_Underway_state rfl q
theorem s_Ready_state (q : Q (.str "ready") C) : wpc pr (n + 1) i_Ready_state [.ref p] C Q χ := u_Ready_state rfl q
end
end K41
set_option Elab.async false
set_option linter.all false
set_option maxRecDepth 100000
set_option maxHeartbeats 400000
namespace K41
open PySem PySem.Spec PyProof.Rows L2 WL
section
variable {C : Hw} {Q : WK} {χ : WX} {n : Nat} {p : Addr} {t : T}
theorem s_Waiting_init (hp : C p = some (.ins "Waiting" [])) (q : Q .non (up C p (.ins "Waiting" [("text", t)]))) : wpc pr (n + 1) i_Waiting___init__ [.ref p, t] C Q χ := by
  refine u_Waiting___init__ rfl ?_
  exact ⟨_, rfl, _, rfl, _, _, _, rfl, hp, .head _, by decide, q⟩
theorem s_Ready_init (hp : C p = some (.ins "Ready" [])) (q : Q .non (up C p (.ins "Ready" [("value", t)]))) : wpc pr (n + 1) i_Ready___init__ [.ref p, t] C Q χ := by
  refine u_Ready___init__ rfl ?_
  exact ⟨_, rfl, _, rfl, _, _, _, rfl, hp, .head _, by decide, q⟩
theorem s_Waiting (q : ∀ p C', Ex C C' → C p = none → C' p = some (.ins "Waiting" [("text", t)]) → Q (.ref p) C') : wpc pr (n + 2) 29 [t] C Q χ := by
  refine ⟨_, rfl, rfl, [t], rfl, fun p hp => ?_⟩
  refine s_Waiting_init up_same ⟨rfl, ?_⟩
  exact q p _ (fun a o e => by rw [up_ne (cne e hp), up_ne (cne e hp)]; exact e) hp up_same
theorem s_Ready (q : ∀ p C', Ex C C' → C p = none → C' p = some (.ins "Ready" [("value", t)]) → Q (.ref p) C') : wpc pr (n + 2) 30 [t] C Q χ := by
  refine ⟨_, rfl, rfl, [t], rfl, fun p hp => ?_⟩
  refine s_Ready_init up_same ⟨rfl, ?_⟩
  exact q p _ (fun a o e => by rw [up_ne (cne e hp), up_ne (cne e hp)]; exact e) hp up_same
end
end K41
set_option Elab.async false
set_option linter.all false
set_option maxRecDepth 100000
set_option maxHeartbeats 400000
namespace K41
open PySem PySem.Spec PyProof.Rows L2 WL
section
variable {C : Hw} {Q : WK} {χ : WX} {n : Nat} {p : Addr} {t c : T} {us r : List T} {w : Str}
theorem s_waits_made (q : ∀ p C', Ex C C' → C p = none → C' p = some (.ins "Waiting" [("text", .tup [.str "shape", c, .tup us])]) → Q (.ref p) C') : wpc pr (n + 3) i__law_waits [.tup [.str "made", c, .tup us]] C Q χ := by
  refine u__law_waits rfl ?_
  refine ⟨_, rfl, _, atI_0, eqSc rfl ⟨_, rfl, ite_t ?_⟩⟩
  refine ⟨_, rfl, _, atI_nat (j := 1) rfl, ⟨_, rfl, _, atI_nat (j := 2) rfl, Nat.le_of_ble_eq_true rfl, ?_⟩⟩
  dsimp only [aNil]
  exact s_Waiting q
theorem s_waits_term (hw : w ≠ "made") (q : ∀ p C', Ex C C' → C p = none → C' p = some (.ins "Waiting" [("text", .tup (.str w :: r))]) → Q (.ref p) C') : wpc pr (n + 3) i__law_waits [.tup (.str w :: r)] C Q χ := by
  refine u__law_waits rfl ?_
  refine ⟨_, rfl, _, atI_0, eqSc (beq_eq_false_iff_ne.mpr hw) ⟨_, rfl, ite_f ?_⟩⟩
  refine ⟨_, rfl, ?_⟩
  dsimp only [aNil]
  exact s_Waiting q
end
end K41
set_option Elab.async false
set_option linter.all false
set_option maxRecDepth 100000
set_option maxHeartbeats 400000
namespace K41
open PySem PySem.Spec PyProof.Rows L2 WL
section
variable {C : Hw} {Q : WK} {χ : WX} {n : Nat} {r : List T} {w : Str}
theorem in_mn {b : Bool} (h : inL (.str w) [T.str "made", T.str "number"] = b) (q : Q (.bl b) C) : wInG false (.str w) (.tup [.str "made", .str "number"]) C Q := by
  refine ⟨rfl, rfl, ?_⟩
  rw [h]; exact q
theorem s_ready_as (h : inL (.str w) [T.str "made", T.str "number"] = true) (q : ∀ p C', Ex C C' → C p = none → C' p = some (.ins "Ready" [("value", .tup (.str w :: r))]) → Q (.ref p) C') : wpc pr (n + 3) i__law_ready [.tup (.str w :: r)] C Q χ := by
  refine u__law_ready rfl ?_
  refine ⟨_, rfl, _, atI_0, ⟨Nat.le_of_ble_eq_true rfl, in_mn h ⟨_, rfl, ite_t ?_⟩⟩⟩
  refine ⟨_, rfl, ?_⟩
  dsimp only [aNil]
  exact s_Ready q
theorem s_ready_fun (h : inL (.str w) [T.str "made", T.str "number"] = false) (q : ∀ p C', Ex C C' → C p = none → C' p = some (.ins "Ready" [("value", .tup [.str "fun", .str "v", .tup (.str w :: r)])]) → Q (.ref p) C') : wpc pr (n + 3) i__law_ready [.tup (.str w :: r)] C Q χ := by
  refine u__law_ready rfl ?_
  refine ⟨_, rfl, _, atI_0, ⟨Nat.le_of_ble_eq_true rfl, in_mn h ⟨_, rfl, ite_f ?_⟩⟩⟩
  refine ⟨_, rfl, Nat.le_of_ble_eq_true rfl, ?_⟩
  dsimp only [aNil]
  exact s_Ready q
end
end K41
set_option Elab.async false
set_option linter.all false
set_option maxRecDepth 100000
set_option maxHeartbeats 400000
namespace K41
open PySem PySem.Spec PyProof.Rows L2 WL
theorem ite_k {p q : Prop} {b : Bool} (h1 : b = true → p) (h2 : b = false → q) : if b = true then p else q := by cases b; exact h2 rfl; exact h1 rfl
theorem numLen {x : Int} (h0 : 0 ≤ x) (h1 : x < 1000000000000000000) : (Str.ofString (toString x)).length ≤ 18 := by
  obtain ⟨m, rfl⟩ : ∃ m : Nat, x = m := ⟨x.toNat, by omega⟩
  show (Str.ofString (toString (Int.ofNat m))).length ≤ 18
  rw [text_ofNat]
  show ((Nat.toDigits 10 m).map Char.toNat).toArray.size ≤ 18
  rw [List.size_toArray, List.length_map]
  exact digits10_le (by decide) (by omega)
theorem numLg {x : Int} (h0 : 0 ≤ x) (h1 : x < 1000000000000000000) : x.natAbs.log2 < 1920 := by
  have h2 : x.natAbs < 2 ^ 64 := by omega
  have : x.natAbs.log2 < 64 := by
    by_cases c : x.natAbs = 0
    · rw [c]; decide
    · exact (Nat.log2_lt c).mpr h2
  omega
theorem c_at {z : Str} {n : Nat} {x : Int} (hz : z.cps.toList.length = n) (hn : 0 < n) : ∃ c, atI z.cps.toList (x % (n : Int)) = some c := by
  obtain ⟨v, h, _⟩ := atI_in (xs := z.cps.toList) (i := x % (n : Int)) (Int.emod_nonneg _ (by omega)) (by rw [hz]; exact Int.emod_lt_of_pos _ (by omega))
  exact ⟨v, h⟩
theorem l_at {α : Type} {xs : List α} {x : Int} (h : 0 < xs.length) : ∃ v, atI xs (x % (xs.length : Int)) = some v ∧ v ∈ xs := atI_in (Int.emod_nonneg _ (by omega)) (Int.emod_lt_of_pos _ (by omega))
/-- cells -/
structure Ce (cs : List Int) (m : Nat) : Prop where
  l : cs.length ≤ m
  b : ∀ c ∈ cs, 0 ≤ c ∧ c < 2147483648
theorem Ce.sum {cs : List Int} (h : ∀ c ∈ cs, 0 ≤ c ∧ c < 2147483648) : 0 ≤ cs.sum ∧ cs.sum ≤ 2147483648 * (cs.length : Int) := by
  induction cs with
  | nil => exact ⟨Int.le_refl _, Int.le_refl _⟩
  | cons c r ih =>
    obtain ⟨h1, h2⟩ := ih fun d hd => h d (List.mem_cons_of_mem _ hd)
    have h3 := h c (List.mem_cons_self ..)
    rw [List.sum_cons, List.length_cons]
    omega
theorem stepCut_map {α β : Type} {f : α → β} {xs : List α} {lo hi st : Option Int} : stepCut (xs.map f) lo hi st = (stepCut xs lo hi st).map f := by
  unfold stepCut
  rw [List.length_map, List.map_filterMap]
  congr 1
  funext i
  rw [List.getElem?_map]
theorem stepCut_mem {α : Type} {xs : List α} {lo hi st : Option Int} {x : α} (h : x ∈ stepCut xs lo hi st) : x ∈ xs := by
  obtain ⟨i, _, e⟩ := List.mem_filterMap.mp h
  exact List.mem_of_getElem? e
/-- how many every s-th is, from the k-th on -/
def sl (m s k : Nat) : Nat := (m + (s - 1) - k) / s
theorem stepCut_sl {α : Type} {xs : List α} {lo : Option Int} {k s : Nat} (hk : lo.getD 0 = (k : Int)) (hks : k < s) : (stepCut xs lo none (some (s : Int))).length ≤ sl xs.length s k := by
  unfold stepCut
  refine Nat.le_trans (List.length_filterMap_le _ _) ?_
  generalize hs : sliceBounds lo none (some (s : Int)) xs.length = w
  have hc : (s : Int) > 0 := by omega
  have h1 : w.2.1 = xs.length := by rw [← hs]; show (if (s : Int) > 0 then (xs.length : Int) else -1) = _; rw [if_pos hc]
  have h2 : w.2.2 = s := by rw [← hs]; rfl
  have h0 : w.1 = min k xs.length := by
    rw [← hs]
    cases lo with
    | none =>
      have hk0 : (0 : Int) = k := hk
      show (if (s : Int) > 0 then (0 : Int) else _) = _; rw [if_pos hc]; omega
    | some l =>
      have hk' : l = k := hk
      subst hk'
      show (if (s : Int) > 0 then max 0 (min (if (k : Int) < 0 then _ else (k : Int)) _) else _) = _
      rw [if_pos hc, if_neg (by omega)]; omega
  rw [h1, h2, h0]
  unfold sliceRange sl
  rw [List.length_map, List.length_range, if_pos hc]
  split
  · rename_i hl
    have e : ((xs.length : Int) - (min k xs.length : Nat) + s - 1) = ((xs.length + (s - 1) - k : Nat) : Int) := by omega
    rw [e, ← Int.natCast_ediv, Int.toNat_natCast]
    exact Nat.le_refl _
  · exact Nat.zero_le _
theorem sl2 {m : Nat} : sl m 2 0 + sl m 2 1 = m := by unfold sl; omega
theorem sl3 {m : Nat} : sl m 3 0 + sl m 3 1 + sl m 3 2 = m := by unfold sl; omega
/-- the lengths of the first k of s shares together -/
def sls (m s : Nat) : Nat → Nat
  | 0 => 0
  | k + 1 => sls m s k + sl m s k
theorem sls_all {m s : Nat} (hm : m ≤ 30) (h2 : 2 ≤ s) (h6 : s ≤ 6) : sls m s s = m := by
  have h : ∀ m, m < 31 → ∀ s, s < 7 → 2 ≤ s → sls m s s = m := by decide +kernel
  exact h m (by omega) s (by omega) h2
theorem cut_tl {α : Type} {x : α} {xs : List α} : cut (x :: xs) (some 1) none = xs := by
  unfold cut
  have e : HT.sIx (x :: xs).length 0 (some 1) = 1 := by
    show (if (1 : Int) < 0 then (1 + ((x :: xs).length : Int)).toNat else min (1 : Int).toNat (x :: xs).length) = 1
    rw [if_neg (by decide), List.length_cons]
    show min 1 (xs.length + 1) = 1
    omega
  rw [e]
  show xs.take (xs.length + 1 - 1) = xs
  rw [Nat.add_sub_cancel, List.take_length]
theorem cut_map {α β : Type} {xs : List α} {f : α → β} {lo hi : Option Int} : cut (xs.map f) lo hi = (cut xs lo hi).map f := by
  unfold cut
  rw [List.length_map, List.map_take, List.map_drop]
theorem cut_hd {α : Type} {xs : List α} {k : Nat} : cut xs none (some (k : Int)) = xs.take k := by
  unfold cut
  have e : HT.sIx xs.length xs.length (some (k : Int)) = min k xs.length := by
    show (if (k : Int) < 0 then ((k : Int) + (xs.length : Int)).toNat else min (k : Int).toNat xs.length) = _
    rw [if_neg (by omega)]; rfl
  rw [e]
  show (xs.drop 0).take (min k xs.length - 0) = _
  rw [List.drop_zero, Nat.sub_zero]
  by_cases c : k ≤ xs.length
  · rw [Nat.min_eq_left c]
  · rw [Nat.min_eq_right (by omega), List.take_length, List.take_of_length_le (by omega)]
/-- a term that the law makes: its marks, within m cells, and no made shape -/
structure Gd (t : T) (ns : List Int) (m : Nat) : Prop where
  mt : Mt t ns (6 * m + 1)
  l : ns.length ≤ 6 * m + 1
  hd : ∃ w r, t = .tup (.str w :: r) ∧ w ≠ "made"
end K41
set_option Elab.async false
set_option linter.all false
set_option maxRecDepth 100000
set_option maxHeartbeats 400000
namespace K41
open PySem PySem.Spec PyProof.Rows L2 WL
theorem wsr : ∀ w ∈ (["shut", "ring"] : List Str), w ≠ "at" ∧ w ≠ "made" ∧ w ∉ sorts := by decide +kernel
theorem wns : ∀ w ∈ (["name", "stop"] : List Str), w ≠ "at" ∧ w ≠ "made" ∧ w ∉ sorts := by decide +kernel
theorem gd_at {k : Int} {m : Nat} : Gd (.tup [.str "at", .int k]) [k] m := ⟨(Mt.at_ k).same (fun _ => Iff.rfl) (by omega), by show 1 ≤ _; omega, ⟨_, _, rfl, by decide⟩⟩
theorem gd_leaf {w : Str} {r : List T} {m : Nat} (h : w ≠ "at" ∧ w ≠ "made" ∧ w ∉ sorts) : Gd (.tup (.str w :: r)) [] m := ⟨(Mt.leaf h.1 h.2.1 h.2.2).same (fun _ => Iff.rfl) (by omega), Nat.zero_le _, ⟨_, _, rfl, h.2.1⟩⟩
theorem gd_shape0 {c : T} {m : Nat} : Gd (.tup [.str "shape", c, .tup []]) [] m := ⟨(Mt.part (w := "shape") (by decide) (by decide) (.shape (ps := []) (by decide)) Ms.nil).same (fun _ => Iff.rfl) (by omega), Nat.zero_le _, ⟨_, _, rfl, by decide⟩⟩
/-- what a def that makes a term gives: the term, and a list of the numbers of its marks -/
def Gv (C : Hw) (m : Nat) (Q : WK) : Prop := ∀ t ns p C', Ex C C' → C' p = some (.lst (ns.map T.int)) → Gd t ns m → Q (.tup [t, .ref p]) C'
section
variable {C : Hw} {Q : WK} {χ : WX} {n : Nat} {x : Int}
theorem s_number (hx : -(2 ^ 64) < x ∧ x < 2 ^ 64) (q : ∀ k : Int, Q (.int k) C) : wpc pr (n + 1) i__law_number [.int x] C Q χ := by
  refine u__law_number rfl ?_
  refine ⟨_, rfl, by decide, eqIc rfl ⟨_, rfl, ite_k (fun _ => ⟨_, rfl, ⟨by decide, by decide⟩, by decide, q _⟩) (fun _ => ?_)⟩⟩
  refine ⟨_, rfl, by decide, eqIc rfl ⟨_, rfl, ite_k (fun _ => ⟨_, rfl, ⟨by decide, by decide⟩, .inr ⟨by decide, by decide⟩, by decide, q _⟩) (fun _ => ?_)⟩⟩
  exact ⟨_, rfl, _, rfl, .inl hx, ⟨by decide, by decide, by decide⟩, by decide, q _⟩
theorem s_leaf {m : Nat} (h0 : 0 ≤ x) (h1 : x < 1000000000000) (q : Gv C m Q) : wpc pr (n + 2) i__law_leaf [.int x] C Q χ := by
  refine u__law_leaf rfl ?_
  refine ⟨_, rfl, ⟨by decide, by decide⟩, ?_⟩
  dsimp only [aNil]
  refine s_number ⟨by omega, by omega⟩ fun k => ?_
  refine ⟨_, rfl, by decide, _, rfl, ite_k (fun _ => ?_) (fun _ => ?_)⟩
  · exact ⟨_, rfl, Nat.le_of_ble_eq_true rfl, _, rfl, Nat.le_of_ble_eq_true rfl, fun p hp => ⟨Nat.le_of_ble_eq_true rfl, q _ [k] p _ (Ex.new hp) up_same gd_at⟩⟩
  refine ⟨_, rfl, by decide, eqIc rfl ⟨_, rfl, ite_k (fun _ => ?_) (fun _ => ?_)⟩⟩
  · refine ⟨Nat.le_of_ble_eq_true rfl, fun p hp => ⟨_, rfl, ⟨by decide, by decide⟩, by decide, ?_⟩⟩
    obtain ⟨v, hv, hm⟩ := l_at (xs := (["shut", "ring"] : List Str).map T.str) (x := x / 8) (by decide)
    obtain ⟨w, hw, rfl⟩ := List.mem_map.mp hm
    refine ⟨_, _, up_same, hv, _, rfl, Nat.le_of_ble_eq_true rfl, Nat.le_of_ble_eq_true rfl, fun p2 hp2 => ⟨Nat.le_of_ble_eq_true rfl, q _ [] p2 _ ((Ex.new hp).trans (Ex.new hp2)) up_same (gd_leaf (wsr w hw))⟩⟩
  refine ⟨_, rfl, by decide, eqIc rfl ⟨_, rfl, ite_k (fun _ => ?_) (fun _ => ?_)⟩⟩
  · exact ⟨_, rfl, Nat.le_of_ble_eq_true rfl, Nat.le_of_ble_eq_true rfl, fun p hp => ⟨Nat.le_of_ble_eq_true rfl, q _ [] p _ (Ex.new hp) up_same (gd_leaf (by decide +kernel))⟩⟩
  · refine ⟨Nat.le_of_ble_eq_true rfl, fun p hp => ⟨_, rfl, ⟨by decide, by decide⟩, by decide, ?_⟩⟩
    obtain ⟨v, hv, hm⟩ := l_at (xs := (["name", "stop"] : List Str).map T.str) (x := x / 8) (by decide)
    obtain ⟨w, hw, rfl⟩ := List.mem_map.mp hm
    have g0 : 0 ≤ x / 16 % 1000 := by omega
    have g1 : x / 16 % 1000 < 1000000000000000000 := by omega
    have hl := numLen g0 g1
    have ha : (Str.ofString "a").length = 1 := by decide +kernel
    refine ⟨_, _, up_same, hv, _, rfl, ⟨by decide, by decide⟩, by decide, .inl ⟨_, rfl, numLg g0 g1, small63 (by show (Str.ofString "a").length + (Str.ofString (toString (x / 16 % 1000))).length ≤ _; omega), Nat.le_of_ble_eq_true rfl, Nat.le_of_ble_eq_true rfl, fun p2 hp2 => ⟨Nat.le_of_ble_eq_true rfl, q _ [] p2 _ ((Ex.new hp).trans (Ex.new hp2)) up_same (gd_leaf (wns w hw))⟩⟩⟩
theorem s_cells {ns : List Int} {s : Int} (h63 : ns.length ≤ 63) (hs : s = 0 ∨ s = 1) (q : ∀ p cs C', Ex C C' → C' p = some (.lst (cs.map T.int)) → Ce cs 30 → Q (.ref p) C') : wpc pr (n + 1) i__law_cells [.cl (ns.map T.int), .int s] C Q χ := by
  refine u__law_cells rfl ?_
  refine ⟨Nat.le_of_ble_eq_true rfl, fun p hp => ?_⟩
  have hlen : ((ns.map T.int).length : Int) = (ns.length : Int) := by rw [List.length_map]
  refine ⟨_, rfl, _, rfl, _, rfl, _, _, _, rfl, ⟨by omega, by omega, by omega, by omega, by decide, by decide⟩, ?_⟩
  have hmn : many3 s ((ns.map T.int).length : Int) 2 = ((ns.length - s + 1) / 2).toNat := by
    unfold many3
    rw [hlen]
    split <;> omega
  refine for_inv (fun i τ C' => ∃ x3, ∃ cs : List Int, τ = [some (.cl (ns.map T.int)), some (.int s), some (.ref p), x3] ∧ Ex C C' ∧ C' p = some (.lst (cs.map T.int)) ∧ cs.length = i ∧ ∀ c ∈ cs, 0 ≤ c ∧ c < 2147483648) ⟨none, [], rfl, Ex.new hp, up_same, rfl, fun c hc => by cases hc⟩ (fun _ _ _ _ _ => trivial) ?_ ?_
  · rintro i y τ C' N hy ⟨x3, cs, rfl, hE, h1, hl, hb⟩ hN
    have hi : i < many3 s ((ns.map T.int).length : Int) 2 := by
      have := (List.getElem?_eq_some_iff.mp hy).1
      rw [rng3_len] at this
      exact this
    rw [rng3_at hi] at hy
    cases hy
    rw [hmn] at hi
    obtain ⟨d, g1, g2⟩ := atT_ints (ds := ns) (i := s + (i : Int) * 2) (by omega) (by omega)
    refine ⟨_, rfl, ⟨_, _, rfl, h1⟩, _, rfl, _, rfl, _, g1, by decide, .inr ⟨by decide, by decide⟩, _, rfl, .inl ⟨by decide, by decide⟩, by decide, _, _, _, rfl, rfl, h1, small63' (by rw [List.length_map]; omega), ?_⟩
    refine hN _ _ ⟨_, cs ++ [(d % 2147483647 * 48271 + 69621 * (s + (i : Int) * 2) + 5) % 2147483647], rfl, hE.up hp, by rw [up_same, List.map_append]; rfl, by rw [List.length_append, hl]; rfl, fun c hc => ?_⟩
    rcases List.mem_append.mp hc with hc | hc
    · exact hb c hc
    · rw [List.mem_singleton.mp hc]; omega
  · rintro τ C' ⟨x3, cs, rfl, hE, h1, hl, hb⟩
    refine ⟨_, rfl, _, rfl, _, h1, fun p2 hp2 => ?_⟩
    have e : cut (cs.map T.int) none (some 30) = (cs.take 30).map T.int := by rw [cut_map]; congr 1; exact cut_hd (k := 30)
    rw [e]
    exact q p2 (cs.take 30) _ (hE.trans (Ex.new hp2)) up_same ⟨by rw [List.length_take]; omega, fun c hc => hb c (List.mem_of_mem_take hc)⟩
end
end K41
set_option Elab.async false
set_option linter.all false
set_option maxRecDepth 100000
set_option maxHeartbeats 400000
namespace K41
open PySem PySem.Spec PyProof.Rows L2 WL
theorem flat_len : ∀ {ps : List (T × List Int × Nat)}, (∀ p ∈ ps, Gd p.1 p.2.1 p.2.2) → (ps.flatMap (·.2.1)).length ≤ (ps.map fun p => 6 * p.2.2 + 1).sum
  | [], _ => Nat.le_refl _
  | p :: ps, h => by
    rw [List.flatMap_cons, List.length_append, List.map_cons, List.sum_cons]
    have h1 := (h p (by simp)).l
    have h2 := flat_len fun y hy => h y (List.mem_cons_of_mem _ hy)
    omega
theorem sum_len : ∀ {ps : List (T × List Int × Nat)}, (ps.map fun p => 6 * p.2.2 + 1).sum = 6 * (ps.map (·.2.2)).sum + ps.length
  | [] => rfl
  | p :: ps => by
    rw [List.map_cons, List.sum_cons, List.map_cons, List.sum_cons, sum_len, List.length_cons]
    omega
/-- a term of some parts -/
theorem gd_of {w : Str} {r : List T} {ss : List (List T × T)} {ps : List (T × List Int × Nat)} {ns : List Int} {m : Nat} (h1 : w ≠ "at") (h2 : w ≠ "made") (h : Sc (.tup (.str w :: r)) none ss) (hp : ss.map (·.2) = ps.map (·.1)) (hg : ∀ p ∈ ps, Gd p.1 p.2.1 p.2.2) (hl : ps.length ≤ 6) (hs : (ps.map (·.2.2)).sum ≤ m) (hn : ns = ps.flatMap (·.2.1)) :
    Gd (.tup (.str w :: r)) ns (m + 1) := by
  subst hn
  have e := sum_len (ps := ps)
  refine ⟨(Mt.part h1 h2 h (by rw [hp]; exact Ms.rev (f := fun p : T × List Int × Nat => p.1) (g := fun p => p.2.1) (b := fun p => 6 * p.2.2 + 1) fun p hp => (hg p hp).mt)).same (fun _ => Iff.rfl) (by omega), by have := flat_len hg; omega, ⟨_, _, rfl, h2⟩⟩
theorem sl_le {m s k : Nat} (h : 0 < s) : sl m s k ≤ m := by
  unfold sl
  cases m with
  | zero => rw [Nat.div_eq_of_lt (by omega)]; exact Nat.le_refl _
  | succ m => exact Nat.div_le_of_le_mul (by rw [Nat.mul_succ]; have := Nat.le_mul_of_pos_left m h; omega)
theorem mono_sl {a m s k : Nat} (h : a ≤ m) : sl a s k ≤ sl m s k := Nat.div_le_div_right (by omega)
theorem Ce.cut {cs : List Int} {m k s : Nat} {lo : Option Int} (h : Ce cs m) (hk : lo.getD 0 = (k : Int)) (hks : k < s) : Ce (stepCut cs lo none (some (s : Int))) (sl m s k) :=
  ⟨Nat.le_trans (stepCut_sl hk hks) (mono_sl h.l), fun c hc => h.b c (stepCut_mem hc)⟩
/-- what _law_term does with so many levels -/
def TOK (d : Nat) : Prop := ∀ (C : Hw) (Q : WK) (χ : WX) (n m : Nat) (a : Addr) (cs : List Int) (x : Int), C a = some (.lst (cs.map T.int)) → Ce cs m → m ≤ 30 → 0 ≤ x → x < 2147484000 → Gv C m Q → wpc pr (n + 2 * d + 3) i__law_term [.ref a, .int x, .int (d : Int)] C Q χ
section
variable {C : Hw} {Q : WK} {χ : WX} {n d m : Nat} {x : Int} {b : Addr} {cs : List Int}
theorem Gv.ex {C' : Hw} (h : Gv C m Q) (e : Ex C C') : Gv C' m Q := fun t ns p C2 e2 => h t ns p C2 (e.trans e2)
theorem s_sub (ht : TOK d) {k s : Nat} {lo : Option Int} (hc : Ce cs m) (hm : m ≤ 30) (hk : lo.getD 0 = (k : Int)) (hks : k < s) (h0 : 0 ≤ x) (h1 : x < 2147484000) (q : Gv C (sl m s k) Q) (p : Addr) (hp : C p = none) :
    wpc pr (n + 2 * d + 3) i__law_term [.ref p, .int x, .int (d : Int)] (up C p (.lst (stepCut (cs.map T.int) lo none (some (s : Int))))) Q χ := by
  rw [stepCut_map]
  refine ht _ _ _ _ _ p _ x up_same (hc.cut hk hks) ?_ h0 h1 (q.ex (Ex.new hp))
  exact Nat.le_trans (sl_le (by omega)) hm
theorem s_two (ht : TOK d) (hb : C b = some (.lst (cs.map T.int))) (hc : Ce cs m) (hm : m ≤ 29) (h0 : 0 ≤ x) (h1 : x < 2147483648) (q : Gv C (m + 1) Q) : wpc pr (n + 2 * d + 4) i__law_two [.int x, .ref b, .int (d : Int)] C Q χ := by
  refine u__law_two rfl ?_
  refine ⟨_, rfl, by decide, eqIc rfl ⟨_, rfl, ite_k (fun _ => ?_) (fun _ => ?_)⟩⟩
  · refine ⟨_, rfl, _, rfl, ⟨by decide, by decide⟩, _, rfl, ?_⟩
    dsimp only [aNil, eC]
    refine ht _ _ _ n m b cs _ hb hc (by omega) (by omega) (by omega) fun t ns p C1 E1 hp g => ?_
    refine ⟨_, rfl, _, _, rfl, _, _, rfl, rfl, ?_⟩
    exact ⟨_, rfl, Nat.le_of_ble_eq_true rfl, _, rfl, Nat.le_of_ble_eq_true rfl, q _ ns p C1 E1 hp (gd_of (ps := [(t, ns, m)]) (by decide) (by decide) .fun_ rfl (by simpa using g) (Nat.le_of_ble_eq_true rfl) (by simp) (by simp))⟩
  refine ⟨_, rfl, _, rfl, .inr ⟨_, _, rfl, hb, by decide, fun p1 hp1 => ⟨_, rfl, ⟨by decide, by decide⟩, _, rfl, ?_⟩⟩⟩
  dsimp only [aNil, eC]
  refine s_sub (s := 2) (k := 0) ht hc (by omega) rfl (by decide) (by omega) (by omega) (fun A nA pA CA EA hA gA => ?_) p1 hp1
  refine ⟨_, rfl, _, _, rfl, _, _, rfl, rfl, ?_⟩
  refine ⟨_, rfl, _, rfl, _, rfl, .inr ⟨_, _, rfl, EA _ _ hb, by decide, fun p2 hp2 => ⟨_, rfl, ⟨by decide, by decide⟩, _, rfl, ?_⟩⟩⟩
  dsimp only [aNil, eC]
  refine s_sub (s := 2) (k := 1) ht hc (by omega) rfl (by decide) (by omega) (by omega) (fun B nB pB CB EB hB gB => ?_) p2 hp2
  refine ⟨_, rfl, _, _, rfl, _, _, rfl, rfl, ?_⟩
  have lA := gA.l
  have lB := gB.l
  have hm2 := sl2 (m := m)
  refine ⟨_, rfl, _, rfl, _, _, EB _ _ hA, hB, small63 (by rw [List.length_map, List.length_map]; omega), fun p3 hp3 => ?_⟩
  have E3 : Ex C (up CB p3 (.lst (nA.map T.int ++ nB.map T.int))) := (EA.trans EB).trans (Ex.new hp3)
  have h3 : up CB p3 (.lst (nA.map T.int ++ nB.map T.int)) p3 = some (.lst ((nA ++ nB).map T.int)) := by rw [up_same, List.map_append]
  generalize up CB p3 (.lst (nA.map T.int ++ nB.map T.int)) = C3 at E3 h3
  have gg : ∀ {w r ss}, w ≠ Str.ofString "at" → w ≠ Str.ofString "made" → Sc (.tup (.str w :: r)) none ss → ss.map (·.2) = [A, B] → Gd (.tup (.str w :: r)) (nA ++ nB) (m + 1) := fun {w r ss} w1 w2 h e =>
    gd_of (ps := [(A, nA, sl m 2 0), (B, nB, sl m 2 1)]) w1 w2 h e (by intro p hp; rcases List.mem_cons.mp hp with rfl | hp; exact gA; rw [List.mem_singleton.mp hp]; exact gB) (Nat.le_of_ble_eq_true rfl) (by show sl m 2 0 + (sl m 2 1 + 0) ≤ _; omega) (by simp)
  refine ⟨_, rfl, by decide, _, rfl, ite_k (fun _ => ?_) (fun _ => ?_)⟩
  · exact ⟨_, rfl, _, rfl, Nat.le_of_ble_eq_true rfl, _, rfl, Nat.le_of_ble_eq_true rfl, q _ _ p3 C3 E3 h3 (gg (by decide) (by decide) .call rfl)⟩
  refine ⟨_, rfl, by decide, _, rfl, ite_k (fun _ => ?_) (fun _ => ?_)⟩
  · exact ⟨_, rfl, _, rfl, Nat.le_of_ble_eq_true rfl, _, rfl, Nat.le_of_ble_eq_true rfl, q _ _ p3 C3 E3 h3 (gg (by decide) (by decide) .first rfl)⟩
  refine ⟨_, rfl, by decide, _, rfl, ite_k (fun _ => ?_) (fun _ => ?_)⟩
  · obtain ⟨c, hc5⟩ := c_at (z := "+-*<=") (n := 5) (x := x / 9) (by decide +kernel) (by decide)
    exact ⟨_, rfl, ⟨by decide, by decide⟩, by decide, by decide, c, hc5, _, rfl, _, rfl, Nat.le_of_ble_eq_true rfl, _, rfl, Nat.le_of_ble_eq_true rfl, q _ _ p3 C3 E3 h3 (gg (by decide) (by decide) .does rfl)⟩
  · obtain ⟨v, hv, hm'⟩ := l_at (xs := (["Cons", "Pair"] : List Str).map T.str) (x := x / 9) (by decide)
    exact ⟨Nat.le_of_ble_eq_true rfl, fun p4 hp4 => ⟨_, rfl, ⟨by decide, by decide⟩, by decide, _, _, up_same, hv, _, rfl, _, rfl, Nat.le_of_ble_eq_true rfl, Nat.le_of_ble_eq_true rfl, _, rfl, Nat.le_of_ble_eq_true rfl, q _ _ p3 _ (E3.trans (Ex.new hp4)) (Ex.new hp4 _ _ h3) (gg (by decide) (by decide) (.shape (ps := [A, B]) (Nat.le_of_ble_eq_true rfl)) rfl)⟩⟩
end
end K41
set_option Elab.async false
set_option linter.all false
set_option maxRecDepth 100000
set_option maxHeartbeats 400000
namespace K41
open PySem PySem.Spec PyProof.Rows L2 WL
theorem rep_y {k : Int} (h0 : 0 ≤ k) (h1 : k < 3) : (repS "y" k).length ≤ 2 := by
  have : k = 0 ∨ k = 1 ∨ k = 2 := by omega
  rcases this with rfl | rfl | rfl <;> decide +kernel
theorem sls_le {m s k : Nat} (hm : m ≤ 30) (hs : s ≤ 6) (hk : k ≤ s) : sls m s k ≤ 30 := by
  have h : ∀ m, m < 31 → ∀ s, s < 7 → ∀ k, k < 7 → k ≤ s → sls m s k ≤ 30 := by decide +kernel
  exact h m (by omega) s (by omega) k (by omega) hk
section
variable {C : Hw} {Q : WK} {χ : WX} {n d m : Nat} {x : Int} {b : Addr} {cs : List Int}
theorem s_choose (ht : TOK d) (hb : C b = some (.lst (cs.map T.int))) (hc : Ce cs m) (hm : m ≤ 29) (h0 : 0 ≤ x) (h1 : x < 2147483648) (q : Gv C (m + 1) Q) : wpc pr (n + 2 * d + 4) i__law_choose [.int x, .ref b, .int (d : Int)] C Q χ := by
  refine u__law_choose rfl ?_
  refine ⟨_, rfl, by decide, eqIc rfl ⟨_, rfl, ite_k (fun _ => ?_) (fun _ => ?_)⟩⟩
  · refine ⟨_, rfl, _, rfl, .inr ⟨_, _, rfl, hb, by decide, fun p1 hp1 => ⟨_, rfl, ⟨by decide, by decide⟩, _, rfl, ?_⟩⟩⟩
    dsimp only [aNil, eC]
    refine s_sub (s := 2) (k := 0) ht hc (by omega) rfl (by decide) (by omega) (by omega) (fun A nA pA CA EA hA gA => ?_) p1 hp1
    refine ⟨_, rfl, _, _, rfl, _, _, rfl, rfl, ?_⟩
    refine ⟨_, rfl, _, rfl, _, rfl, .inr ⟨_, _, rfl, EA _ _ hb, by decide, fun p2 hp2 => ⟨_, rfl, ⟨by decide, by decide⟩, _, rfl, ?_⟩⟩⟩
    dsimp only [aNil, eC]
    refine s_sub (s := 2) (k := 1) ht hc (by omega) rfl (by decide) (by omega) (by omega) (fun B nB pB CB EB hB gB => ?_) p2 hp2
    refine ⟨_, rfl, _, _, rfl, _, _, rfl, rfl, ?_⟩
    have lA := gA.l
    have lB := gB.l
    have hm2 := sl2 (m := m)
    refine ⟨_, rfl, Nat.le_of_ble_eq_true rfl, _, rfl, Nat.le_of_ble_eq_true rfl, Nat.le_of_ble_eq_true rfl, Nat.le_of_ble_eq_true rfl, _, rfl, _, rfl, _, _, EB _ _ hA, hB, small63 (by rw [List.length_map, List.length_map]; omega), fun p3 hp3 => ⟨Nat.le_of_ble_eq_true rfl, ?_⟩⟩
    exact q _ (nA ++ nB) p3 _ ((EA.trans EB).trans (Ex.new hp3)) (by rw [up_same, List.map_append]) (gd_of (ps := [(A, nA, sl m 2 0), (B, nB, sl m 2 1)]) (by decide) (by decide) (.choose (ys := [(.str "Pair", [.str "v", .str "w"], B)]) (Nat.le_of_ble_eq_true rfl)) rfl (by intro p hp; rcases List.mem_cons.mp hp with rfl | hp; exact gA; rw [List.mem_singleton.mp hp]; exact gB) (Nat.le_of_ble_eq_true rfl) (by show sl m 2 0 + (sl m 2 1 + 0) ≤ _; omega) (by simp))
  refine ⟨_, rfl, _, rfl, .inr ⟨_, _, rfl, hb, by decide, fun p1 hp1 => ⟨_, rfl, ⟨by decide, by decide⟩, _, rfl, ?_⟩⟩⟩
  dsimp only [aNil, eC]
  refine s_sub (s := 3) (k := 0) ht hc (by omega) rfl (by decide) (by omega) (by omega) (fun A nA pA CA EA hA gA => ?_) p1 hp1
  refine ⟨_, rfl, _, _, rfl, _, _, rfl, rfl, ?_⟩
  refine ⟨_, rfl, _, rfl, _, rfl, .inr ⟨_, _, rfl, EA _ _ hb, by decide, fun p2 hp2 => ⟨_, rfl, ⟨by decide, by decide⟩, _, rfl, ?_⟩⟩⟩
  dsimp only [aNil, eC]
  refine s_sub (s := 3) (k := 1) ht hc (by omega) rfl (by decide) (by omega) (by omega) (fun B nB pB CB EB hB gB => ?_) p2 hp2
  refine ⟨_, rfl, _, _, rfl, _, _, rfl, rfl, ?_⟩
  have lA := gA.l
  have lB := gB.l
  have hm3 := sl3 (m := m)
  refine ⟨_, rfl, _, rfl, _, _, EB _ _ hA, hB, small63 (by rw [List.length_map, List.length_map]; omega), fun p3 hp3 => ?_⟩
  have E3 : Ex C (up CB p3 (.lst (nA.map T.int ++ nB.map T.int))) := (EA.trans EB).trans (Ex.new hp3)
  have h3 : up CB p3 (.lst (nA.map T.int ++ nB.map T.int)) p3 = some (.lst ((nA ++ nB).map T.int)) := by rw [up_same, List.map_append]
  generalize up CB p3 (.lst (nA.map T.int ++ nB.map T.int)) = C3 at E3 h3
  refine ⟨_, rfl, _, rfl, _, rfl, .inr ⟨_, _, rfl, E3 _ _ hb, by decide, fun p4 hp4 => ⟨_, rfl, ⟨by decide, by decide⟩, _, rfl, ?_⟩⟩⟩
  dsimp only [aNil, eC]
  refine s_sub (s := 3) (k := 2) ht hc (by omega) rfl (by decide) (by omega) (by omega) (fun D nD pD CD ED hD gD => ?_) p4 hp4
  refine ⟨_, rfl, _, _, rfl, _, _, rfl, rfl, ?_⟩
  have lD := gD.l
  have gg : ∀ {cs xs}, cs = [B, D] → (∃ ys : List (T × List T × T), xs = ys.map (fun y => T.tup [y.1, .tup y.2.1, y.2.2]) ∧ ys.length ≤ 1000 ∧ ys.map (·.2.2) = cs) → Gd (.tup [.str "choose", A, .tup xs]) (nA ++ nB ++ nD) (m + 1) := by
    rintro cs xs rfl ⟨ys, rfl, hy, e⟩
    refine gd_of (ps := [(A, nA, sl m 3 0), (B, nB, sl m 3 1), (D, nD, sl m 3 2)]) (by decide) (by decide) (.choose (ys := ys) hy) ?_ ?_ (Nat.le_of_ble_eq_true rfl) (by show sl m 3 0 + (sl m 3 1 + (sl m 3 2 + 0)) ≤ _; omega) (by simp)
    · rw [List.map_cons, List.map_map]
      exact congrArg (A :: ·) e
    · intro p hp
      rcases List.mem_cons.mp hp with rfl | hp
      · exact gA
      rcases List.mem_cons.mp hp with rfl | hp
      · exact gB
      rw [List.mem_singleton.mp hp]; exact gD
  refine ⟨_, rfl, by decide, eqIc rfl ⟨_, rfl, ite_k (fun _ => ?_) (fun _ => ?_)⟩⟩
  · refine ⟨_, rfl, Nat.le_of_ble_eq_true rfl, _, rfl, Nat.le_of_ble_eq_true rfl, Nat.le_of_ble_eq_true rfl, _, rfl, Nat.le_of_ble_eq_true rfl, Nat.le_of_ble_eq_true rfl, Nat.le_of_ble_eq_true rfl, _, rfl, _, rfl, _, _, ED _ _ h3, hD, small63 (by rw [List.length_map, List.length_map, List.length_append]; omega), fun p5 hp5 => ⟨Nat.le_of_ble_eq_true rfl, ?_⟩⟩
    exact q _ (nA ++ nB ++ nD) p5 _ ((E3.trans ED).trans (Ex.new hp5)) (by rw [up_same, ← List.map_append]) (gg rfl ⟨[(.str "No", [], B), (.str "Yes", [], D)], rfl, Nat.le_of_ble_eq_true rfl, rfl⟩)
  · refine ⟨_, rfl, Nat.le_of_ble_eq_true rfl, _, rfl, Nat.le_of_ble_eq_true rfl, Nat.le_of_ble_eq_true rfl, _, rfl, Nat.le_of_ble_eq_true rfl, Nat.le_of_ble_eq_true rfl, Nat.le_of_ble_eq_true rfl, _, rfl, _, rfl, _, _, ED _ _ h3, hD, small63 (by rw [List.length_map, List.length_map, List.length_append]; omega), fun p5 hp5 => ⟨Nat.le_of_ble_eq_true rfl, ?_⟩⟩
    exact q _ (nA ++ nB ++ nD) p5 _ ((E3.trans ED).trans (Ex.new hp5)) (by rw [up_same, ← List.map_append]) (gg rfl ⟨[(.str "Nil", [], B), (.str "Cons", [.str "v", .str "w"], D)], rfl, Nat.le_of_ble_eq_true rfl, rfl⟩)
theorem s_let (ht : TOK d) (hb : C b = some (.lst (cs.map T.int))) (hc : Ce cs m) (hm : m ≤ 29) (h0 : 0 ≤ x) (h1 : x < 2147483648) (q : Gv C (m + 1) Q) : wpc pr (n + 2 * d + 4) i__law_let [.int x, .ref b, .int (d : Int)] C Q χ := by
  refine u__law_let rfl ?_
  refine ⟨_, rfl, by decide, ?_⟩
  obtain ⟨M, hM⟩ : ∃ M : Nat, 1 + x % 5 = (M : Int) := ⟨(1 + x % 5).toNat, by omega⟩
  have hM1 : 1 ≤ M := by omega
  have hM5 : M ≤ 5 := by omega
  refine ⟨Nat.le_of_ble_eq_true rfl, fun pf hpf => ⟨Nat.le_of_ble_eq_true rfl, fun pp hpp => ?_⟩⟩
  have E0 := (Ex.new (o := .lst []) hpf).trans (Ex.new (o := .lst []) hpp)
  have npp : pf ≠ pp := (fr1 hpp).1.symm
  have cpp : C pp = none := (fr1 hpp).2
  refine ⟨_, rfl, _, rfl, by omega, by omega, ?_⟩
  rw [hM]
  refine for_rng (n := M) (fun i τ C' => ∃ (f : Addr) (v6 v7 v8 : Option T) (xs : List (T × T)) (ps : List (T × List Int × Nat)), τ = [some (.int x), some (.ref b), some (.int (d : Int)), some (.int (M : Int)), some (.ref f), some (.ref pp), v6, v7, v8] ∧ Ex C C' ∧ f ≠ pp ∧ C' f = some (.lst ((ps.flatMap (·.2.1)).map T.int)) ∧ C' pp = some (.lst (xs.map fun x => .tup [x.1, x.2])) ∧ xs.map (·.2) = ps.map (·.1) ∧ ps.length = i ∧ (∀ p ∈ ps, Gd p.1 p.2.1 p.2.2) ∧ (ps.map (·.2.2)).sum = sls m (M + 1) i) ⟨pf, none, none, none, [], [], rfl, E0, npp, by rw [up_ne npp]; exact up_same, up_same, rfl, rfl, fun p hp => (by cases hp), rfl⟩ (fun _ => trivial) ?_ ?_
  · rintro i τ C1 N hi ⟨f, v6, v7, v8, xs, ps, rfl, E1, nf, hf, hp1, exs, hl, hg, hsum⟩ hN
    have hlx : xs.length = i := by have := congrArg List.length exs; rw [List.length_map, List.length_map] at this; omega
    have hfl := flat_len hg
    rw [sum_len, hsum, hl] at hfl
    have hsl : sls m (M + 1) i ≤ 30 := sls_le (by omega) (by omega) (by omega)
    refine ⟨_, rfl, _, rfl, _, rfl, _, rfl, _, rfl, .inr ⟨_, _, rfl, E1 _ _ hb, by intro e; injection e with e; omega, fun p2 hp2 => ⟨_, rfl, ⟨by decide, by decide⟩, _, rfl, .inl ⟨by decide, by decide⟩, _, rfl, ?_⟩⟩⟩
    dsimp only [aNil, eC]
    refine s_sub (s := M + 1) (k := i) ht hc (by omega) (by show 0 + (i : Int) = i; omega) (by omega) (by omega) (by omega) (fun A nA pA CA EA hA gA => ?_) p2 hp2
    refine ⟨_, rfl, _, _, rfl, _, _, rfl, rfl, ?_⟩
    have lA := gA.l
    have lA2 := sl_le (m := m) (s := M + 1) (k := i) (by omega)
    refine ⟨_, rfl, _, rfl, _, _, EA _ _ hf, hA, small63 (by rw [List.length_map, List.length_map]; omega), fun p3 hp3 => ?_⟩
    have g0 : 0 ≤ 0 + (i : Int) := by omega
    have g1 : 0 + (i : Int) < 1000000000000000000 := by omega
    have hln := numLen g0 g1
    have hx : (Str.ofString "x").length = 1 := by decide +kernel
    have hy := rep_y (k := x / 5 % 3) (by omega) (by omega)
    have hxl : ((Str.ofString "x") ++ Str.ofString (toString (0 + (i : Int)))).length ≤ 19 := by rw [Str.length_append]; omega
    have hp3' : up CA p3 (.lst ((ps.flatMap (·.2.1)).map T.int ++ nA.map T.int)) pp = some (.lst (xs.map fun x => .tup [x.1, x.2])) := by rw [up_ne (cne (EA _ _ hp1) hp3)]; exact EA _ _ hp1
    refine ⟨_, rfl, ⟨_, _, rfl, hp3'⟩, _, rfl, .inl ⟨_, rfl, numLg g0 g1, small63 (by show (Str.ofString "x").length + (Str.ofString (toString (0 + (i : Int)))).length ≤ _; omega), _, rfl, ⟨by decide, by decide⟩, by decide, _, _, rfl, rfl, by omega, by omega, by decide, small63 (by show ((Str.ofString "x") ++ Str.ofString (toString (0 + (i : Int)))).length + (repS "y" (x / 5 % 3)).length ≤ _; omega), _, rfl, Nat.le_of_ble_eq_true rfl, _, _, _, rfl, rfl, hp3', small63' (by rw [List.length_map]; omega), ?_⟩⟩
    refine hN _ _ ⟨p3, _, _, _, xs ++ [(_, A)], ps ++ [(A, nA, sl m (M + 1) i)], rfl, ((E1.trans EA).trans (Ex.new hp3)).up cpp, cne' (EA _ _ hp1) hp3, ?_, by rw [up_same, List.map_append]; rfl, by rw [List.map_append, List.map_append, exs]; rfl, by rw [List.length_append, hl]; rfl, ?_, ?_⟩
    · rw [up_ne (cne' (EA _ _ hp1) hp3), up_same, List.flatMap_append, List.map_append]; simp
    · intro p hp
      rcases List.mem_append.mp hp with hp | hp
      · exact hg p hp
      · rw [List.mem_singleton.mp hp]; exact gA
    · rw [List.map_append, List.sum_append, hsum]
      show sls m (M + 1) i + (sl m (M + 1) i + 0) = sls m (M + 1) i + sl m (M + 1) i
      omega
  · rintro τ C1 ⟨f, v6, v7, v8, xs, ps, rfl, E1, nf, hf, hp1, exs, hl, hg, hsum⟩
    have hlx : xs.length = M := by have := congrArg List.length exs; rw [List.length_map, List.length_map] at this; omega
    have hall := sls_all (m := m) (s := M + 1) (by omega) (by omega) (by omega)
    have hall' : sls m (M + 1) M + sl m (M + 1) M = m := hall
    have hfl := flat_len hg
    rw [sum_len, hsum, hl] at hfl
    refine ⟨_, rfl, _, rfl, _, rfl, _, rfl, _, rfl, .inr ⟨_, _, rfl, E1 _ _ hb, by intro e; injection e with e; omega, fun p2 hp2 => ⟨_, rfl, ⟨by decide, by decide⟩, _, rfl, ?_⟩⟩⟩
    dsimp only [aNil, eC]
    refine s_sub (s := M + 1) (k := M) ht hc (by omega) rfl (by omega) (by omega) (by omega) (fun A nA pA CA EA hA gA => ?_) p2 hp2
    refine ⟨_, rfl, _, _, rfl, _, _, rfl, rfl, ?_⟩
    have lA := gA.l
    refine ⟨_, rfl, _, rfl, _, EA _ _ hp1, _, rfl, Nat.le_of_ble_eq_true rfl, _, rfl, _, rfl, _, _, EA _ _ hf, hA, small63 (by rw [List.length_map, List.length_map]; omega), fun p3 hp3 => ⟨Nat.le_of_ble_eq_true rfl, ?_⟩⟩
    refine q _ (ps.flatMap (·.2.1) ++ nA) p3 _ ((E1.trans EA).trans (Ex.new hp3)) (by rw [up_same, List.map_append]) (gd_of (ps := ps ++ [(A, nA, sl m (M + 1) M)]) (by decide) (by decide) (.let_ (xs := xs) (by omega)) ?_ ?_ (by rw [List.length_append, hl]; show M + 1 ≤ 6; omega) ?_ (by rw [List.flatMap_append]; simp))
    · rw [List.map_append, List.map_append, List.map_map, ← exs]
      rfl
    · intro p hp
      rcases List.mem_append.mp hp with hp | hp
      · exact hg p hp
      · rw [List.mem_singleton.mp hp]; exact gA
    · rw [List.map_append, List.sum_append, hsum]
      show sls m (M + 1) M + (sl m (M + 1) M + 0) ≤ m
      omega
end
end K41
set_option Elab.async false
set_option linter.all false
set_option maxRecDepth 100000
set_option maxHeartbeats 400000
namespace K41
open PySem PySem.Spec PyProof.Rows L2 WL
theorem tok : ∀ d, TOK d := by
  intro d
  induction d with
  | zero =>
    intro C Q χ n m a cs x ha hc hm h0 h1 q
    refine u__law_term rfl ?_
    have hsum := Ce.sum hc.b
    have hlc := hc.l
    refine ⟨_, rfl, _, rfl, _, ha, _, rfl, ite_k (fun c => ite_t ?_) (fun c => ⟨_, rfl, eqIc rfl ⟨_, rfl, ite_t ?_⟩⟩)⟩
    all_goals
      refine ⟨_, rfl, _, _, rfl, ha, _, rfl, by decide, eqIc rfl ⟨_, rfl, ite_k (fun _ => ?_) (fun _ => ?_)⟩⟩
      · obtain ⟨v, hv, hm'⟩ := l_at (xs := (["Nil", "No", "Yes"] : List Str).map T.str) (x := x) (by decide)
        exact ⟨Nat.le_of_ble_eq_true rfl, fun p hp => ⟨_, rfl, by decide, _, _, up_same, hv, Nat.le_of_ble_eq_true rfl, Nat.le_of_ble_eq_true rfl, Nat.le_of_ble_eq_true rfl, fun p2 hp2 => ⟨Nat.le_of_ble_eq_true rfl, q _ [] p2 _ ((Ex.new hp).trans (Ex.new hp2)) up_same gd_shape0⟩⟩⟩
      · refine ⟨_, rfl, _, _, rfl, ha, _, rfl, ?_⟩
        dsimp only [aNil, wAdd]
        exact s_leaf (n := n) (by omega) (by omega) q
  | succ d ih =>
    intro C Q χ n m a cs x ha hc hm h0 h1 q
    have e : n + 2 * (d + 1) + 3 = (n + 2 * d + 4) + 1 := by omega
    rw [e]
    refine u__law_term rfl ?_
    have hsum := Ce.sum hc.b
    have hlc := hc.l
    refine ⟨_, rfl, _, rfl, _, ha, _, rfl, ite_k (fun c => ite_t ?_) (fun c => ⟨_, rfl, eqIc (v := false) (beq_eq_false_iff_ne.mpr (by omega)) ⟨_, rfl, ite_f ?_⟩⟩)⟩
    · refine ⟨_, rfl, _, _, rfl, ha, _, rfl, by decide, eqIc rfl ⟨_, rfl, ite_k (fun _ => ?_) (fun _ => ?_)⟩⟩
      · obtain ⟨v, hv, hm'⟩ := l_at (xs := (["Nil", "No", "Yes"] : List Str).map T.str) (x := x) (by decide)
        exact ⟨Nat.le_of_ble_eq_true rfl, fun p hp => ⟨_, rfl, by decide, _, _, up_same, hv, Nat.le_of_ble_eq_true rfl, Nat.le_of_ble_eq_true rfl, Nat.le_of_ble_eq_true rfl, fun p2 hp2 => ⟨Nat.le_of_ble_eq_true rfl, q _ [] p2 _ ((Ex.new hp).trans (Ex.new hp2)) up_same gd_shape0⟩⟩⟩
      · refine ⟨_, rfl, _, _, rfl, ha, _, rfl, ?_⟩
        dsimp only [aNil, wAdd]
        exact s_leaf (n := n + 2 * d + 2) (by omega) (by omega) q
    · have c' := of_decide_eq_false c
      rw [List.length_map] at c'
      cases cs with
      | nil => exact absurd (by decide) c'
      | cons y r =>
        have hy := hc.b y (List.mem_cons_self ..)
        have hr : Ce r (m - 1) := ⟨by rw [List.length_cons] at hlc; omega, fun z hz => hc.b z (List.mem_cons_of_mem _ hz)⟩
        have hm1 : m - 1 + 1 = m := by rw [List.length_cons] at hlc; omega
        have ed : ((d + 1 : Nat) : Int) - 1 = (d : Int) := by omega
        refine ⟨_, rfl, _, _, ha, atI_0, ⟨by decide, by decide⟩, ?_⟩
        refine ⟨_, rfl, _, _, ha, atI_0, by decide, _, rfl, ite_k (fun _ => ?_) (fun _ => ?_)⟩
        · refine ⟨_, rfl, _, rfl, _, rfl, _, ha, fun p hp => ⟨_, rfl, ?_⟩⟩
          dsimp only [aNil, eC, wSub]
          rw [ed, cut_map, cut_tl]
          exact s_let (n := n) ih up_same hr (by omega) (by omega) (by omega) (by rw [hm1]; exact q.ex (Ex.new hp))
        refine ⟨_, rfl, _, _, ha, atI_0, by decide, _, rfl, ite_k (fun _ => ?_) (fun _ => ?_)⟩
        · refine ⟨_, rfl, _, rfl, _, rfl, _, ha, fun p hp => ⟨_, rfl, ?_⟩⟩
          dsimp only [aNil, eC, wSub]
          rw [ed, cut_map, cut_tl]
          exact s_choose (n := n) ih up_same hr (by omega) (by omega) (by omega) (by rw [hm1]; exact q.ex (Ex.new hp))
        · refine ⟨_, rfl, _, rfl, _, rfl, _, ha, fun p hp => ⟨_, rfl, ?_⟩⟩
          dsimp only [aNil, eC, wSub]
          rw [ed, cut_map, cut_tl]
          exact s_two (n := n) ih up_same hr (by omega) (by omega) (by omega) (by rw [hm1]; exact q.ex (Ex.new hp))
/-- what is drawn: a term, or a made shape -/
inductive Dr : T → List Int → Prop
  | term {t : T} {ns : List Int} : Gd t ns 30 → Dr t ns
  | made {c : T} {us : List T} {ns : List Int} : Ms us.reverse ns 2 → us.length ≤ 2 → ns.length ≤ 2 → Dr (.tup [.str "made", c, .tup us]) ns
theorem Ms.snoc {us : List T} {t : T} {ns ns' : List Int} {b b' : Nat} (h : Ms us.reverse ns b) (ht : Mt t ns' b') : Ms (us ++ [t]).reverse (ns ++ ns') (b + b') := by
  rw [List.reverse_append]
  exact (Ms.cons ht h).same (fun y => by simp [or_comm]) (by omega)
section
variable {C : Hw} {Q : WK} {χ : WX} {n : Nat} {b : Addr} {cs : List Int}
theorem s_shape (hb : C b = some (.lst (cs.map T.int))) (hc : Ce cs 30) (hn : cs ≠ []) (q : ∀ t ns p C', Ex C C' → C' p = some (.lst (ns.map T.int)) → Dr t ns → Q (.tup [t, .ref p]) C') : wpc pr (n + 2) i__law_shape [.ref b] C Q χ := by
  refine u__law_shape rfl ?_
  have hlc := hc.l
  have hl0 : 0 < cs.length := List.length_pos_iff.mpr hn
  obtain ⟨y, r, rfl⟩ : ∃ y r, cs = y :: r := by cases cs with | nil => exact absurd rfl hn | cons y r => exact ⟨y, r, rfl⟩
  obtain ⟨v, hv, hm⟩ := l_at (xs := (["Nil", "No", "Yes", "Cons", "Pair"] : List Str).map T.str) (x := y / 3) (by decide)
  obtain ⟨w, hw, rfl⟩ := List.mem_map.mp hm
  refine ⟨Nat.le_of_ble_eq_true rfl, fun p1 hp1 => ?_⟩
  have E1 := Ex.new (o := .lst [.str "Nil", .str "No", .str "Yes", .str "Cons", .str "Pair"]) hp1
  refine ⟨_, rfl, _, _, E1 _ _ hb, atI_0, ⟨by decide, by decide⟩, by decide, _, _, up_same, hv, ?_⟩
  have hbb := E1 _ _ hb
  generalize up C p1 (.lst [.str "Nil", .str "No", .str "Yes", .str "Cons", .str "Pair"]) = C1 at E1 hbb
  refine ⟨_, rfl, Nat.le_of_ble_eq_true rfl, rfl, rfl, ⟨_, rfl, ite_k (fun _ => ?_) (fun _ => ?_)⟩⟩
  · exact ⟨_, rfl, Nat.le_of_ble_eq_true rfl, Nat.le_of_ble_eq_true rfl, Nat.le_of_ble_eq_true rfl, fun p2 hp2 => ⟨Nat.le_of_ble_eq_true rfl, q _ [] p2 _ (E1.trans (Ex.new hp2)) up_same (.made (Ms.nil.same (fun _ => Iff.rfl) (by decide)) (by decide) (by decide))⟩⟩
  refine ⟨Nat.le_of_ble_eq_true rfl, fun pm hpm => ⟨Nat.le_of_ble_eq_true rfl, fun pf hpf => ?_⟩⟩
  have E2 := (E1.trans (Ex.new (o := .lst []) hpm)).trans (Ex.new (o := .lst []) hpf)
  have nmf : pm ≠ pf := (fr1 hpf).1.symm
  have cm : C pm = none := E1.free hpm
  have cf : C pf = none := E1.free (fr1 hpf).2
  refine ⟨_, rfl, by decide, by decide, ?_⟩
  refine for_rng (n := 2) (fun i τ C' => ∃ (v4 v5 v6 : Option T) (us : List T) (ns : List Int), τ = [some (.ref b), some (.str w), some (.ref pm), some (.ref pf), v4, v5, v6] ∧ Ex C C' ∧ C' pm = some (.lst us) ∧ C' pf = some (.lst (ns.map T.int)) ∧ Ms us.reverse ns i ∧ us.length = i ∧ ns.length ≤ i) ⟨none, none, none, [], [], rfl, E2, by rw [up_ne nmf]; exact up_same, up_same, Ms.nil, rfl, Nat.le_refl _⟩ (fun _ => trivial) ?_ ?_
  · rintro i τ C3 N hi ⟨v4, v5, v6, us, ns, rfl, E3, hm3, hf3, M3, lu, ln⟩ hN
    have hlen : (((y :: r).map T.int).length : Int) = ((y :: r).length : Int) := by rw [List.length_map]
    obtain ⟨z, g1, g2⟩ := atT_ints (ds := y :: r) (i := (0 + (i : Int) + 1) % (((y :: r).map T.int).length : Int)) (Int.emod_nonneg _ (by omega)) (by rw [hlen]; exact Int.emod_lt_of_pos _ (by omega))
    have hz := hc.b z g2
    refine ⟨_, rfl, _, rfl, _, rfl, _, rfl, _, E3 _ _ hb, by omega, _, _, E3 _ _ hb, g1, ⟨by decide, by decide⟩, ?_⟩
    dsimp only [aNil]
    refine s_number ⟨by omega, by omega⟩ fun k => ?_
    refine ⟨Nat.le_of_ble_eq_true rfl, fun p5 hp5 => ?_⟩
    have E5 := Ex.new (o := .lst [.str "at", .str "at", .str "at", .str "shut", .str "ring"]) hp5
    obtain ⟨v', hv', hm'⟩ := l_at (xs := (["at", "at", "at", "shut", "ring"] : List Str).map T.str) (x := (y :: r).sum / (15 + (0 + (i : Int)))) (by decide)
    obtain ⟨w', hw', rfl⟩ := List.mem_map.mp hm'
    refine ⟨_, rfl, _, _, rfl, E5 _ _ (E3 _ _ hb), _, rfl, ⟨by omega, by omega⟩, by decide, _, _, up_same, hv', ?_⟩
    have hm5 := E5 _ _ hm3
    have hf5 := E5 _ _ hf3
    have E35 := E3.trans E5
    generalize up C3 p5 (.lst [.str "at", .str "at", .str "at", .str "shut", .str "ring"]) = C5 at hm5 hf5 E35
    refine ⟨_, rfl, ⟨_, _, rfl, hm5⟩, _, rfl, _, rfl, Nat.le_of_ble_eq_true rfl, _, _, _, rfl, rfl, hm5, small63' (by omega), ?_⟩
    have hf6 : up C5 pm (.lst (us ++ [.tup [.str w', .int k]])) pf = some (.lst (ns.map T.int)) := by rw [up_ne nmf.symm]; exact hf5
    by_cases hat : w' = "at"
    · subst hat
      refine ⟨_, rfl, eqSc rfl ⟨_, rfl, ite_t ?_⟩⟩
      refine ⟨_, rfl, ⟨_, _, rfl, hf6⟩, _, rfl, _, _, _, rfl, rfl, hf6, small63' (by rw [List.length_map]; omega), ?_⟩
      exact hN _ _ ⟨_, _, _, us ++ [.tup [.str "at", .int k]], ns ++ [k], rfl, (E35.up cm).up cf, by rw [up_ne nmf]; exact up_same, by rw [up_same, List.map_append]; rfl, M3.snoc (Mt.at_ k), by rw [List.length_append, lu]; rfl, by rw [List.length_append]; show ns.length + 1 ≤ _; omega⟩
    · refine ⟨_, rfl, eqSc (beq_eq_false_iff_ne.mpr hat) ⟨_, rfl, ite_f ?_⟩⟩
      have hw2 : w' ∈ (["shut", "ring"] : List Str) := by
        simp only [List.mem_cons, List.not_mem_nil, or_false] at hw' ⊢
        rcases hw' with h | h | h | h | h
        · exact absurd h hat
        · exact absurd h hat
        · exact absurd h hat
        · exact .inl h
        · exact .inr h
      have hww := wsr w' hw2
      exact hN _ _ ⟨_, _, _, us ++ [.tup [.str w', .int k]], ns ++ [], rfl, E35.up cm, up_same, by rw [List.append_nil]; exact hf6, M3.snoc (Mt.leaf hww.1 hww.2.1 hww.2.2), by rw [List.length_append, lu]; rfl, by rw [List.append_nil]; omega⟩
  · rintro τ C3 ⟨v4, v5, v6, us, ns, rfl, E3, hm3, hf3, M3, lu, ln⟩
    exact ⟨_, rfl, _, rfl, _, rfl, _, hm3, Nat.le_of_ble_eq_true rfl, _, rfl, Nat.le_of_ble_eq_true rfl, q _ ns pf C3 E3 hf3 (.made M3 (by omega) ln)⟩
theorem s_drawn (hb : C b = some (.lst (cs.map T.int))) (hc : Ce cs 30) (q : ∀ t ns p C', Ex C C' → C' p = some (.lst (ns.map T.int)) → Dr t ns → Q (.tup [t, .ref p]) C') : wpc pr (n + 22) i__law_drawn [.ref b] C Q χ := by
  refine u__law_drawn rfl ?_
  have fin : ∀ D : We, D.rt = Q → D.xc = χ → sRet (eCall (wpc pr (n + 21)) 20 (aCons (eVar 0) (aCons (eBi bLen (aCons (eVar 0) aNil)) (aCons (eC (.int 9)) aNil)))) D [some (.ref b)] C := by
    rintro D rfl rfl
    refine ⟨_, rfl, _, rfl, _, rfl, _, hb, ?_⟩
    dsimp only [aNil, eC]
    have := hc.l
    exact tok 9 _ _ _ n 30 b cs _ hb hc (by decide) (by omega) (by rw [List.length_map]; omega) fun t ns p C' E h g => q t ns p C' E h (.term g)
  refine ⟨_, rfl, _, rfl, _, hb, _, rfl, ite_k (fun c => ?_) (fun c => ite_f (fin _ rfl rfl))⟩
  have c' := of_decide_eq_true c
  rw [List.length_map] at c'
  cases cs with
  | nil => exact absurd c' (by decide)
  | cons y r =>
    refine ⟨_, rfl, _, _, hb, atI_0, by decide, eqIc rfl ⟨_, rfl, ite_k (fun _ => ?_) (fun _ => fin _ rfl rfl)⟩⟩
    refine ⟨_, rfl, ?_⟩
    dsimp only [aNil]
    exact s_shape (n := n + 19) hb hc (by simp) q
end
end K41
set_option Elab.async false
set_option linter.all false
set_option maxRecDepth 100000
set_option maxHeartbeats 400000
namespace K41
open PySem PySem.Spec PyProof.Rows L2 WL
section
variable {C : Hw} {Q : WK} {χ : WX} {n : Nat} {p r : Addr} {ys : List Int}
theorem s_tells {cn word : Str} {fs : List (Str × T)} {il is : Nat} (hp : C p = some (.ins cn fs)) (hf1 : fs.lookup (Str.ofString "links") = none) (hf2 : fs.lookup (Str.ofString "state") = none) (l1 : [(Str.ofString "Node", 5), (Str.ofString "Waiting", 8), (Str.ofString "Underway", 5), (Str.ofString "Ready", 12)].lookup cn = some il) (l2 : [(Str.ofString "Node", 4), (Str.ofString "Waiting", 7), (Str.ofString "Underway", 9), (Str.ofString "Ready", 11)].lookup cn = some is)
    (hl : ∀ {C' : Hw} {Q : WK} {χ : WX}, Ex C C' → (∀ r C2, Ex C' C2 → C' r = none → C2 r = some (.lst (ys.map T.int)) → Q (.ref r) C2) → wpc pr (n + 5) il [.ref p] C' Q χ)
    (hs : ∀ {C' : Hw} {Q : WK} {χ : WX}, Q (.str word) C' → wpc pr (n + 5) is [.ref p] C' Q χ)
    (hr : C r = some (.lst (ys.map T.int))) (hy : ys.length ≤ 2000) (q : ∀ C', Ex C C' → Q (.bl true) C') : wpc pr (n + 6) i__law_tells [.ref p, .str word, .ref r] C Q χ := by
  refine u__law_tells rfl ?_
  refine ⟨_, rfl, by decide, by decide, ?_⟩
  refine for_rng (n := 2) (fun i τ C' => ∃ (v3 v4 : Option T), τ = [some (.ref p), some (.str word), some (.ref r), v3, v4] ∧ Ex C C') ⟨none, none, rfl, fun a o e => e⟩ (fun _ => trivial) ?_ ?_
  · rintro i τ C1 N hi ⟨v3, v4, rfl, E1⟩ hN
    refine ⟨_, rfl, _, _, _, _, rfl, E1 _ _ hp, l1, hf1, ?_⟩
    dsimp only [aNil]
    refine hl E1 fun a C2 E2 ha h2 => ?_
    refine ⟨_, rfl, _, _, _, _, rfl, E2 _ _ (E1 _ _ hp), l2, hf2, ?_⟩
    dsimp only [aNil]
    refine hs ⟨"str", rfl, _, rfl, ite_f ?_⟩
    refine ⟨_, rfl, _, _, _, _, rfl, E2 _ _ (E1 _ _ hp), l2, hf2, ?_⟩
    dsimp only [aNil]
    refine hs ⟨_, rfl, neS (beq_self_eq_true _) ⟨_, rfl, ite_f ?_⟩⟩
    refine ⟨_, rfl, _, rfl, ?_⟩
    dsimp only [aNil]
    refine s_is_list (n := n + 4) h2 (E2 _ _ (E1 _ _ hr)) hy fun C3 E3 => ⟨_, rfl, ite_f ?_⟩
    have h3 := E3 _ _ h2
    refine ⟨_, rfl, ⟨_, _, rfl, h3⟩, _, rfl, _, _, _, rfl, rfl, h3, small63' (by rw [List.length_map]; omega), ?_⟩
    exact hN _ _ ⟨_, _, rfl, ((E1.trans E2).trans E3).up (E1.free ha)⟩
  · rintro τ C1 ⟨v3, v4, rfl, E1⟩
    exact q C1 E1
variable {t u u' : T} {ns : List Int} {b : Nat}
theorem s_tells_w (hp : C p = some (.ins "Waiting" [("text", u)])) (h : Mt u ns b) (hb : b ≤ 2000) (hy : ys.Pairwise (· < ·)) (hm : ∀ y, y ∈ ys ↔ y ∈ ns) (hl : ys.length ≤ 2000) (hr : C r = some (.lst (ys.map T.int))) (q : ∀ C', Ex C C' → Q (.bl true) C') : wpc pr (n + 6) i__law_tells [.ref p, .str "waiting", .ref r] C Q χ :=
  s_tells hp rfl rfl rfl rfl (fun E q => s_Waiting_links (n := n) (E _ _ hp) h hb hy hm q) (fun q => s_Waiting_state (n := n + 4) q) hr hl q
theorem s_tells_r (hp : C p = some (.ins "Ready" [("value", u)])) (h : Mt u ns b) (hb : b ≤ 2000) (hy : ys.Pairwise (· < ·)) (hm : ∀ y, y ∈ ys ↔ y ∈ ns) (hl : ys.length ≤ 2000) (hr : C r = some (.lst (ys.map T.int))) (q : ∀ C', Ex C C' → Q (.bl true) C') : wpc pr (n + 6) i__law_tells [.ref p, .str "ready", .ref r] C Q χ :=
  s_tells hp rfl rfl rfl rfl (fun E q => s_Ready_links (n := n) (E _ _ hp) h hb hy hm q) (fun q => s_Ready_state (n := n + 4) q) hr hl q
theorem s_tells_u (hp : C p = some (.ins "Underway" [])) (hr : C r = some (.lst [])) (q : ∀ C', Ex C C' → Q (.bl true) C') : wpc pr (n + 6) i__law_tells [.ref p, .str "under way", .ref r] C Q χ :=
  s_tells (ys := []) hp rfl rfl rfl rfl (fun E q => s_Node_links (n := n + 4) q) (fun q => s_Underway_state (n := n + 4) q) hr (by decide) q
theorem s_tells_n (hp : C p = some (.ins "Node" [])) (hr : C r = some (.lst [])) (q : ∀ C', Ex C C' → Q (.bl true) C') : wpc pr (n + 6) i__law_tells [.ref p, .str "", .ref r] C Q χ :=
  s_tells (ys := []) hp rfl rfl rfl rfl (fun E q => s_Node_links (n := n + 4) q) (fun q => s_Node_state (n := n + 4) q) hr (by decide) q
/-- what holds of a thing that is drawn -/
structure Dk (t : T) (ns : List Int) : Prop where
  mt : Mt t ns 200
  l : ns.length ≤ 200
  w : ∃ u, Mt u ns 200 ∧ ∀ {C : Hw} {Q : WK} {χ : WX} {n : Nat}, (∀ p C', Ex C C' → C p = none → C' p = some (.ins "Waiting" [("text", u)]) → Q (.ref p) C') → wpc pr (n + 3) i__law_waits [t] C Q χ
  r : ∃ u, Mt u ns 200 ∧ ∀ {C : Hw} {Q : WK} {χ : WX} {n : Nat}, (∀ p C', Ex C C' → C p = none → C' p = some (.ins "Ready" [("value", u)]) → Q (.ref p) C') → wpc pr (n + 3) i__law_ready [t] C Q χ
theorem Dr.dk (h : Dr t ns) : Dk t ns := by
  cases h with
  | term g =>
    have hl := g.l
    have mt := g.mt
    obtain ⟨w, rr, rfl, hw⟩ := g.hd
    refine ⟨mt.same (fun _ => Iff.rfl) (by decide), by omega, ⟨_, mt.same (fun _ => Iff.rfl) (by decide), fun q => s_waits_term hw q⟩, ?_⟩
    cases hi : inL (.str w) [T.str "made", T.str "number"] with
    | true => exact ⟨_, mt.same (fun _ => Iff.rfl) (by decide), fun q => s_ready_as hi q⟩
    | false => exact ⟨_, (Mt.part (w := "fun") (by decide) (by decide) .fun_ (Ms.cons mt Ms.nil)).same (fun y => by rw [List.append_nil]) (by decide), fun q => s_ready_fun hi q⟩
  | @made c us ns M lu ln =>
    have m1 : Mt (.tup [.str "made", c, .tup us]) ns 200 := (Mt.made M).same (fun _ => Iff.rfl) (by decide)
    have m2 : Mt (.tup [.str "shape", c, .tup us]) ns 200 := (Mt.part (w := "shape") (by decide) (by decide) (.shape (ps := us) (by omega)) (by rw [List.map_map]; show Ms (us.map fun x => x).reverse ns 2; rw [List.map_id']; exact M)).same (fun _ => Iff.rfl) (by decide)
    exact ⟨m1, by omega, ⟨_, m2, fun q => s_waits_made q⟩, ⟨_, m1, fun q => s_ready_as (by decide +kernel) q⟩⟩
theorem s_kept (h : Dk t ns) (hy : ys.Pairwise (· < ·)) (hm : ∀ y, y ∈ ys ↔ y ∈ ns) (hl : ys.length ≤ 2000) (hr : C r = some (.lst (ys.map T.int))) (q : ∀ C', Ex C C' → Q (.bl true) C') : wpc pr (n + 7) i__law_kept [t, .ref r] C Q χ := by
  obtain ⟨u, hu, hw⟩ := h.w
  obtain ⟨u', hu', hw'⟩ := h.r
  refine u__law_kept rfl ?_
  refine ⟨_, rfl, ?_⟩
  dsimp only [aNil]
  refine hw (n := n + 3) fun p2 C2 E2 hp2 h2 => ?_
  refine ⟨_, rfl, ?_⟩
  dsimp only [aNil]
  refine hw' (n := n + 3) fun p3 C3 E3 hp3 h3 => ?_
  intro p4 hp4
  have E4 := (E2.trans E3).trans (Ex.new (o := .ins "Underway" []) hp4)
  have h24 := (Ex.new (o := .ins "Underway" []) hp4) _ _ (E3 _ _ h2)
  have h34 := (Ex.new (o := .ins "Underway" []) hp4) _ _ h3
  have h44 : up C3 p4 (.ins "Underway" []) p4 = some (.ins "Underway" []) := up_same
  show sSeq _ _ _ _ (up C3 p4 (.ins "Underway" []))
  generalize up C3 p4 (.ins "Underway" []) = C4 at E4 h24 h34 h44
  refine ⟨_, rfl, _, _, _, _, rfl, h24, rfl, _, rfl, ite_f ?_⟩
  refine ⟨_, rfl, _, _, _, _, rfl, h34, rfl, _, rfl, ite_f ?_⟩
  refine ⟨_, rfl, _, _, _, _, rfl, h44, rfl, _, rfl, ite_f ?_⟩
  refine ⟨_, rfl, _, _, _, _, rfl, h24, rfl, _, rfl, ite_f ?_⟩
  refine ⟨_, rfl, _, _, _, _, rfl, h34, rfl, _, rfl, ite_f ?_⟩
  refine ⟨_, rfl, _, _, _, _, rfl, h44, rfl, _, rfl, ite_f ?_⟩
  intro p5 hp5
  have E5 := Ex.new (o := .ins "Node" []) hp5
  refine ⟨_, _, _, _, rfl, up_same, rfl, _, rfl, ite_f ?_⟩
  have E05 := E4.trans E5
  have h25 := E5 _ _ h24
  have h35 := E5 _ _ h34
  have h45 := E5 _ _ h44
  show sSeq _ _ _ _ (up C4 p5 (.ins "Node" []))
  generalize up C4 p5 (.ins "Node" []) = C5 at E05 h25 h35 h45
  refine ⟨_, rfl, _, rfl, ?_⟩
  dsimp only [aNil]
  refine s_tells_w (n := n) h25 hu (by decide) hy hm hl (E05 _ _ hr) fun C6 E6 => ⟨_, rfl, ite_f ?_⟩
  refine ⟨_, rfl, Nat.le_of_ble_eq_true rfl, fun p7 hp7 => ?_⟩
  have E7 := Ex.new (o := .lst []) hp7
  dsimp only [aNil]
  refine s_tells_u (n := n) (E7 _ _ (E6 _ _ h45)) up_same fun C8 E8 => ⟨_, rfl, ite_f ?_⟩
  have E58 := (E6.trans E7).trans E8
  refine ⟨_, rfl, _, rfl, ?_⟩
  dsimp only [aNil]
  refine s_tells_r (n := n) (E58 _ _ h35) hu' (by decide) hy hm hl (E58 _ _ (E05 _ _ hr)) fun C9 E9 => ⟨_, rfl, ite_t ?_⟩
  intro pa hpa
  refine ⟨Nat.le_of_ble_eq_true rfl, fun pb hpb => ?_⟩
  have Ea := Ex.new (o := .ins "Node" []) hpa
  have Eb := Ex.new (o := .lst []) hpb
  dsimp only [aNil]
  refine s_tells_n (n := n) (Eb _ _ up_same) up_same fun Cc Ec => ⟨_, rfl, ite_t ?_⟩
  have Ez := E58.trans (((E9.trans Ea).trans Eb).trans Ec)
  refine ⟨_, rfl, _, rfl, ?_⟩
  dsimp only [aNil]
  exact s_tells_w (n := n) (Ez _ _ h25) hu (by decide) hy hm hl (Ez _ _ (E05 _ _ hr)) fun Cd Ed => q _ ((E05.trans Ez).trans Ed)
end
end K41
set_option Elab.async false
set_option linter.all false
set_option maxRecDepth 100000
set_option maxHeartbeats 400000
namespace K41
open PySem PySem.Spec PyProof.Rows L2 WL
theorem rise_len {ys ns : List Int} (hy : ys.Pairwise (· < ·)) (hm : ∀ y, y ∈ ys ↔ y ∈ ns) : ys.length ≤ ns.length :=
  (List.nodup_iff_pairwise_ne.mpr (hy.imp fun h => Int.ne_of_lt h)).length_le_of_subset fun y h => (hm y).mp h
theorem law_true (ns : List Int) (h63 : ns.length ≤ 63) : wpc pr 60 i_law [.cl (ns.map T.int)] (fun _ => none) (fun v _ => v = .bl true) (fun _ _ => False) := by
  refine u_law rfl ?_
  refine ⟨_, rfl, ?_⟩
  dsimp only [aNil, aCons, eC]
  refine s_cells (n := 58) h63 (.inl rfl) fun pa ca Ca Ea ha ka => ?_
  refine s_drawn (n := 37) ha ka fun t1 n1 p1 C1 E1 h1 d1 => ?_
  refine ⟨_, rfl, _, _, rfl, _, _, rfl, rfl, ?_⟩
  refine ⟨_, rfl, ?_⟩
  dsimp only [aNil, aCons, eC]
  refine s_cells (n := 58) h63 (.inr rfl) fun pb cb Cb Eb hb kb => ?_
  refine s_drawn (n := 37) hb kb fun t2 n2 p2 C2 E2 h2 d2 => ?_
  refine ⟨_, rfl, _, _, rfl, _, _, rfl, rfl, ?_⟩
  have k1 := d1.dk
  have k2 := d2.dk
  have l1 := k1.l
  have l2 := k2.l
  have big : 201 < scanBound := by decide
  refine ⟨_, rfl, _, n1, rfl, (Eb.trans E2) _ _ h1, by omega, fun p3 ys h3 m3 r3 => ?_⟩
  have E3 := Ex.new (o := .lst (ys.map T.int)) h3
  refine ⟨_, rfl, _, n2, rfl, E3 _ _ h2, by omega, fun p4 zs h4 m4 r4 => ?_⟩
  have E4 := Ex.new (o := .lst (zs.map T.int)) h4
  have g3 := E4 _ _ (up_same (C := C2) (a := p3) (o := .lst (ys.map T.int)))
  have g4 : up (up C2 p3 (.lst (ys.map T.int))) p4 (.lst (zs.map T.int)) p4 = some (.lst (zs.map T.int)) := up_same
  show sSeq _ _ _ _ (up (up C2 p3 (.lst (ys.map T.int))) p4 (.lst (zs.map T.int)))
  generalize up (up C2 p3 (.lst (ys.map T.int))) p4 (.lst (zs.map T.int)) = C4 at g3 g4
  have b3 : ys.length ≤ 2000 := Nat.le_trans (rise_len r3 m3) (by omega)
  have b4 : zs.length ≤ 2000 := Nat.le_trans (rise_len r4 m4) (by omega)
  obtain ⟨u, hu, hw⟩ := k2.r
  refine ⟨_, rfl, ?_⟩
  dsimp only [aNil]
  refine hw (n := 56) fun p5 C5 E5 f5 h5 => ?_
  refine ⟨_, rfl, _, rfl, ?_⟩
  dsimp only [aNil]
  refine s_kept (n := 52) k1 r3 m3 b3 (E5 _ _ g3) fun C6 E6 => ⟨_, rfl, ite_f ?_⟩
  refine ⟨_, rfl, _, rfl, ?_⟩
  dsimp only [aNil]
  refine s_kept (n := 52) k2 r4 m4 b4 (E6 _ _ (E5 _ _ g4)) fun C7 E7 => ⟨_, rfl, ite_f ?_⟩
  refine ⟨_, rfl, _, rfl, ?_⟩
  dsimp only [aNil]
  refine s_tells_r (n := 53) (E7 _ _ (E6 _ _ h5)) hu (by decide) r4 m4 b4 (E7 _ _ (E6 _ _ (E5 _ _ g4))) fun C8 E8 => ⟨_, rfl, ite_f ?_⟩
  have E58 := (E6.trans E7).trans E8
  have G3 := E58 _ _ (E5 _ _ g3)
  have G4 := E58 _ _ (E5 _ _ g4)
  refine ⟨_, rfl, ?_⟩
  dsimp only [aNil]
  refine s_marks_of (n := 55) k1.mt (by decide) r3 m3 fun p9 C9 E9 f9 h9 => ?_
  refine ⟨_, rfl, _, rfl, ?_⟩
  dsimp only [aNil]
  refine s_is_list (n := 58) h9 (E9 _ _ G3) b3 fun Ca' Ea' => ⟨_, rfl, ite_f ?_⟩
  refine ⟨_, rfl, ?_⟩
  dsimp only [aNil, aCons]
  refine s_marks_of (n := 55) k2.mt (by decide) r4 m4 fun pb' Cb' Eb' fb' hb' => ?_
  refine ⟨_, rfl, ?_⟩
  dsimp only [aNil]
  refine s_is_list (n := 58) hb' (Eb' _ _ (Ea' _ _ (E9 _ _ G4))) b4 fun Cc Ec => ⟨_, rfl, ite_f ?_⟩
  have Ez := (Ea'.trans Eb').trans Ec
  have h9' := Ez _ _ h9
  refine ⟨_, rfl, ⟨_, _, rfl, h9'⟩, _, _, _, rfl, rfl, h9', small63' (by rw [List.length_map]; omega), ?_⟩
  have G3' := Ez _ _ (E9 _ _ G3)
  have n39 : p3 ≠ p9 := cne G3 f9
  refine ⟨_, rfl, ?_⟩
  dsimp only [aNil, aCons]
  refine s_marks_of (n := 55) k1.mt (by decide) r3 m3 fun pd Cd Ed fd hd => ?_
  refine ⟨_, rfl, ?_⟩
  dsimp only [aNil]
  exact s_is_list (n := 58) hd (Ed _ _ (by rw [up_ne n39]; exact G3')) b3 fun Ce Ee => rfl
end K41
set_option Elab.async false
set_option linter.all false
set_option maxRecDepth 100000
set_option maxHeartbeats 4000000
open PySem PySem.W PyProof.Rows
def PySem.W.Fast.tw15995676114383701758 :=True
def PySem.W.Fast.tw17361910045769658524 :=True
def PySem.W.Fast.tw1692188356922945827 : PySem.Program := PySem.Challenge.pw_idlegraph_k41_things_kept
theorem PySem.W.Fast.te1692188356922945827 : PySem.Challenge.pw_idlegraph_k41_things_kept = PySem.W.Fast.tw1692188356922945827 := rfl
def PySem.W.Fast.tw10831891789073811843 :=True
def PySem.W.Fast.tw15908088458841000800 :=True
def PySem.W.Fast.tw7472144485557653316 :=True
def PySem.W.Fast.tw18286061690039646035 :=True
def PySem.W.Fast.tw3346082900087471252 :=True
def PySem.W.Fast.tw12092274601171511090 :=True
def PySem.W.Fast.tw17786309414676645742 :=True
def PySem.W.Fast.tw12933564676640362439 :=True
def PySem.W.Fast.tw9495303117306218815 :=True
def PySem.W.Fast.tw10376580613456398867 :=True
def PySem.W.Fast.tw17090375953442880659 :=True
def PySem.W.Fast.tw15961088167627991936 :=True
def PySem.W.Fast.tw10572092901675562204 :=True
def PySem.W.Fast.tw13556819885696320738 :=True
def PySem.W.Fast.tw2893121025954035538 :=True
def PySem.W.Fast.tw6155496579837254523 :=True
def PySem.W.Fast.tw15585606904141988505 :=True
def PySem.W.Fast.tw12359101715763744223 :=True
def PySem.W.Fast.tw1235333618154597009 :=True
def PySem.W.Fast.tw3207069917113676406 :=True
def PySem.W.Fast.tw17278761441297848346 :=True
def PySem.W.Fast.tw10028179536905057658 :=True
def PySem.W.Fast.tw1754656959013482592 :=True
def PySem.W.Fast.tw15916901122815208422 :=True
def PySem.W.Fast.tw5404628969017069454 :=True
def PySem.W.Fast.tw17602913464612551466 :=True
def PySem.W.Fast.tw9760260637321276280 :=True
def PySem.W.Fast.tw16226324396398007396 :=True
def PySem.W.Fast.tw11674740234848409880 :=True
def PySem.W.Fast.tw14015240495344098314 :=True
def PySem.W.Fast.tw11894938102420340809 :=True
def PySem.W.Fast.tw17063339226782518171 :=True
def PySem.W.Fast.tw15531153849837705457 :=True
def PySem.W.Fast.tw12916681070944137963 :=True
def PySem.W.Fast.tw1300630857703683870 :=True
def PySem.W.Fast.tw5484870127661603467 :=True
def PySem.W.Fast.tw1650168710927109218 :=True
def PySem.W.Fast.tw13657403065733324934 :=True
def PySem.W.Fast.tw18151224859703101781 :=True
def PySem.W.Fast.tw16523376026556307136 :=True
def PySem.W.Fast.tw6643166424412947816 :=True
def PySem.W.Fast.tw13796967105934594589 :=True
def PySem.W.Fast.tw3675100303077942142 :=True
def PySem.W.Fast.tw8554249093101827706 :=True
def PySem.W.Fast.tw14442070736800137704 :=True
def PySem.W.Fast.tw9161707843210766602 :=True
def PySem.W.Fast.tw16582083656827784951 :=True
def PySem.W.Fast.tw11542483706249275435 :=True
def PySem.W.Fast.tw16562778950126150285 :=True
def PySem.W.Fast.tw2328849680326546024 :=True
def PySem.W.Fast.tw12167123608350345585 :=True
def PySem.W.Fast.tw4727112350652313157 :=True
def PySem.W.Fast.tw828000657776493552 :=True
def PySem.W.Fast.tw1872809092902949988 :=True
def PySem.W.Fast.tw7630638382996621090 :=True
def PySem.W.Fast.tw4775543523673723325 :=True
def PySem.W.Fast.tw16671339883094614373 :=True
def PySem.W.Fast.tw14574467613007741029 :=True
def PySem.W.Fast.tw6536430944675122382 :=True
def PySem.W.Fast.tw14984842408691448743 :=True
def PySem.W.Fast.tw4676193314946572072 :=True
def PySem.W.Fast.tw5224983569239933376 :=True
def PySem.W.Fast.tw11154931094716351285 :=True
def PySem.W.Fast.tw10218955550628674289 :=True
def PySem.W.Fast.tw5570622895892990585 :=True
def PySem.W.Fast.tw11421303558247857317 :=True
def PySem.W.Fast.tw45389976510686917 :=True
def PySem.W.Fast.tw16205486956264618632 :=True
def PySem.W.Fast.tw7987923185946137766 :=True
def PySem.W.Fast.tw11873236019141164808 :=True
def PySem.W.Fast.tw9343292532024620616 :=True
def PySem.W.Fast.tw17031892918306168059 :=True
def PySem.W.Fast.tw6486708033749604479 :=True
def PySem.W.Fast.tw10158745842979618880 :=True
def PySem.W.Fast.tw10846850876901078722 :=True
def PySem.W.Fast.tw6169575808791766528 :=True
def PySem.W.Fast.tw7398274623763175731 :=True
def PySem.W.Fast.tw3091415360468982667 :=True
def PySem.W.Fast.tw14231448673385431308 :=True
def PySem.W.Fast.tw13970746212480509290 :=True
def PySem.W.Fast.tw16676329575295744076 :=True
def PySem.W.Fast.tw17660526007225764485 :=True
def PySem.W.Fast.tw6382146608510809738 :=True
def PySem.W.Fast.tw3982295488250654989 :=True
def PySem.W.Fast.tw1305345035881862254 :=True
def PySem.W.Fast.tw120746599813746051 :=True
def PySem.W.Fast.tw1898104883651834603 :=True
def PySem.W.Fast.tw10800438241026835756 :=True
def PySem.W.Fast.tw17545659220084719916 :=True
def PySem.W.Fast.tw16862625668323942758 :=True
def PySem.W.Fast.tw12741013202369872673 :=True
def PySem.W.Fast.tw9007317143216436406 :=True
def PySem.W.Fast.tw3819147113420504032 :=True
def PySem.W.Fast.tw13815870532192112761 :=True
def PySem.W.Fast.tw2438622895318943169 :=True
def PySem.W.Fast.tw13784742601899846130 :=True
def PySem.W.Fast.tw18052749441875497973 :=True
def PySem.W.Fast.tw18019125398709098980 :=True
def PySem.W.Fast.tw18112658926724002291 :=True
def PySem.W.Fast.tw4645239438535557736 :=True
def PySem.W.Fast.tw18320945111004450191 :=True
def PySem.W.Fast.tw6088773035059405329 :=True
def PySem.W.Fast.tw14773909422699265939 :=True
def PySem.W.Fast.tw15182294157396031636 :=True
def PySem.W.Fast.tw1405699665516378595 :=True
def PySem.W.Fast.tw1532308394292555411 :=True
def PySem.W.Fast.tw17861363146216054291 :=True
def PySem.W.Fast.tw8070177755520726415 :=True
def PySem.W.Fast.tw16564226475899856631 :=True
def PySem.W.Fast.tw13456635149655613600 :=True
def PySem.W.Fast.tw11734216064868596383 :=True
def PySem.W.Fast.tw9141381632163913508 :=True
def PySem.W.Fast.tw3701628836277437970 :=True
def PySem.W.Fast.tw1742466834314899844 :=True
def PySem.W.Fast.tw16936103315144183354 :=True
def PySem.W.Fast.tw8700444824066853939 :=True
def PySem.W.Fast.tw7218116831134200514 :=True
def PySem.W.Fast.tw16783144192928468219 :=True
def PySem.W.Fast.tw6998539475538814666 :=True
def PySem.W.Fast.tw3071684027476693194 :=True
def PySem.W.Fast.tw10923943654838829166 :=True
def PySem.W.Fast.tw6195260089025009701 :=True
def PySem.W.Fast.tw445663018897554626 :=True
def PySem.W.Fast.tw11378330627490192758 :=True
def PySem.W.Fast.tw16366736429125879699 :=True
def PySem.W.Fast.tw2675558599461785899 :=True
def PySem.W.Fast.tw7452913150629282926 :=True
def PySem.W.Fast.tw11759287457284980609 :=True
def PySem.W.Fast.tw12644113049033985467 :=True
def PySem.W.Fast.tw15848451647101341793 :=True
def PySem.W.Fast.tw10072035151396291198 :=True
def PySem.W.Fast.tw5785717327970576146 :=True
def PySem.W.Fast.tw13014881303975805504 :=True
def PySem.W.Fast.tw4914775671186270717 :=True
def PySem.W.Fast.tw813622270195636316 :=True
def PySem.W.Fast.tw12557279844563034893 :=True
def PySem.W.Fast.tw3393957378042478695 :=True
def PySem.W.Fast.tw14802340696829165473 :=True
def PySem.W.Fast.tw6648296798572756022 :=True
def PySem.W.Fast.tw14293094135215382987 :=True
def PySem.W.Fast.tw1174920841750860855 :=True
def PySem.W.Fast.tw2939607961125054690 :=True
def PySem.W.Fast.tw14662686805435724709 :=True
def PySem.W.Fast.tw10900479438199896646 :=True
def PySem.W.Fast.tw5298994077463560341 :=True
def PySem.W.Fast.tw3742530030302549386 :=True
def PySem.W.Fast.tw5837482892682136234 :=True
def PySem.W.Fast.tw9359674188250255448 :=True
def PySem.W.Fast.tw16830761976638378238 :=True
def PySem.W.Fast.tw3072375011160358196 :=True
def PySem.W.Fast.tw5743538018201690574 :=True
def PySem.W.Fast.tw7800131279801744554 :=True
def PySem.W.Fast.tw15510395381331550641 :=True
set_option maxRecDepth 100000 in
set_option maxHeartbeats 0 in
theorem PySem.Challenge.cw_idlegraph_k41_things_kept_holds : PySem.Challenge.rw_idlegraph_k41_things_kept.Holds := by
  w_on; o_law; k_head; (case hw => w_witness2)
  k_fill
  refine L2.walk_ofK (l := PySem.Challenge.rw_idlegraph_k41_things_kept) (n := 63) (k := 60) (x := "_law_script") (CX := L2.CX0) (sp := fun K => WL.spW K K41.pr 60 28) rfl (by decide) rfl ⟨rfl, by decide, by decide⟩ (fun w h Y => PySem.W.kIn_of Y) ?F (fun K H a ns hl hO hS => WL.law_sp hO hS (K41.law_true ns hl)) (fun _ _ _ _ z => z)
  case F =>
    intro w mg fa h KX G hmg
    refine' K41.all_mk KX G hmg ?aC_Node ?aC_Waiting ?aC_Underway ?aC_Ready ?pg_Node ?hd_Node ?po_Node ?sa_Node ?kc_Node ?mk_Node ?oi_Node ?pg_Waiting ?hd_Waiting ?po_Waiting ?sa_Waiting ?kc_Waiting ?mk_Waiting ?pg_Underway ?hd_Underway ?po_Underway ?sa_Underway ?kc_Underway ?mk_Underway ?oi_Underway ?pg_Ready ?hd_Ready ?po_Ready ?sa_Ready ?kc_Ready ?mk_Ready ?nf_Ready_value ?nf_Waiting_text ?ip_Node ?ia_Node ?io_Node ?ip_Ready ?ia_Ready ?io_Ready ?ip_Underway ?ia_Underway ?io_Underway ?ip_Waiting ?ia_Waiting ?io_Waiting ?ig ?it ?iq_Node_Node ?iq_Node_Waiting ?iq_Node_Underway ?iq_Node_Ready ?iq_Ready_Node ?iq_Ready_Waiting ?iq_Ready_Underway ?iq_Ready_Ready ?iq_Underway_Node ?iq_Underway_Waiting ?iq_Underway_Underway ?iq_Underway_Ready ?iq_Waiting_Node ?iq_Waiting_Waiting ?iq_Waiting_Underway ?iq_Waiting_Ready ?gg0_l0 ?gg0_l1 ?gg0_l2 ?gg0_l3 ?mm_l4_Node ?mm_l5_Node ?mm_l5_Underway ?mm_l6_Waiting ?mm_l7_Waiting ?mm_l8_Waiting ?mm_l9_Underway ?mm_l10_Ready ?mm_l11_Ready ?mm_l12_Ready ?gg0_l13 ?gg0_l14 ?gg0_l15 ?gg0_l16 ?gg0_l17 ?gg0_l18 ?gg0_l19 ?gg0_l20 ?gg0_l21 ?gg0_l22 ?gg0_l23 ?gg0_l24 ?gg0_l25 ?gg0_l26 ?gg0_l27 ?gg0_l28 ?z_bool ?z_int ?z_isinstance ?z_len ?z_list ?z_range ?z_set ?z_sorted ?z_str ?z_sum ?z_tuple
    case aC_Node | aC_Waiting | aC_Underway | aC_Ready | pg_Node | hd_Node | po_Node | sa_Node | kc_Node | mk_Node | oi_Node | pg_Waiting | hd_Waiting | po_Waiting | sa_Waiting | kc_Waiting | mk_Waiting | pg_Underway | hd_Underway | po_Underway | sa_Underway | kc_Underway | mk_Underway | oi_Underway | pg_Ready | hd_Ready | po_Ready | sa_Ready | kc_Ready | mk_Ready | nf_Ready_value | nf_Waiting_text | ip_Node | ia_Node | io_Node | ip_Ready | ia_Ready | io_Ready | ip_Underway | ia_Underway | io_Underway | ip_Waiting | ia_Waiting | io_Waiting | ig | it | z_bool | z_int | z_isinstance | z_len | z_list | z_range | z_set | z_sorted | z_str | z_sum | z_tuple => k_is
    case gg0_l0 | gg0_l1 | gg0_l2 | gg0_l3 | gg0_l13 | gg0_l14 | gg0_l15 | gg0_l16 | gg0_l17 | gg0_l18 | gg0_l19 | gg0_l20 | gg0_l21 | gg0_l22 | gg0_l23 | gg0_l24 | gg0_l25 | gg0_l26 | gg0_l27 | gg0_l28 => exact ⟨_, _, by k_is, ⟨_, _, _, _, _, _, _, _, _, rfl, by k_is, by k_is⟩, by k_is⟩
    case mm_l4_Node | mm_l5_Node | mm_l5_Underway | mm_l6_Waiting | mm_l7_Waiting | mm_l8_Waiting | mm_l9_Underway | mm_l10_Ready | mm_l11_Ready | mm_l12_Ready => exact ⟨_, _, ⟨by k_is, by k_is, by k_is⟩, ⟨_, _, _, _, _, _, _, _, _, rfl, by k_is, by k_is⟩, by k_is⟩
    case iq_Node_Node => kit_is
    case iq_Node_Waiting => kit_is
    case iq_Node_Underway => kit_is
    case iq_Node_Ready => kit_is
    case iq_Ready_Node => kit_is
    case iq_Ready_Waiting => kit_is
    case iq_Ready_Underway => kit_is
    case iq_Ready_Ready => kit_is
    case iq_Underway_Node => kit_is
    case iq_Underway_Waiting => kit_is
    case iq_Underway_Underway => kit_is
    case iq_Underway_Ready => kit_is
    case iq_Waiting_Node => kit_is
    case iq_Waiting_Waiting => kit_is
    case iq_Waiting_Underway => kit_is
    case iq_Waiting_Ready => kit_is
#print axioms PySem.Challenge.cw_idlegraph_k41_things_kept_holds