import PyProof.Rows.All
import Wide.All
import OpenK.AllK
import Wide.FinOn
import Lean
import PyProof.EqAt
import PyProof.EqKinds
import PyProof.TupleCall
import KE.KRevIter
import KE.KDictList
import PyProof.StrReplace2
import PyProof.StrCalls6
import PyProof.ZipIter
import PyProof.Draws
import PyProof.DictWalks
import PySem.Challenge.RW_idlegraph_k30_put
set_option Elab.async false
set_option linter.all false
set_option maxRecDepth 100000
/-! THE HAND LAYER, for ints, bools, texts, own classes, LISTS and tuples (index, slices, in, append, pop ..), calls, loops. Paste it whole ahead of your own text; what your proof does not reach may be deleted. -/
namespace L2
open PySem PySem.Spec PyProof.Rows
/-- a key: an int or a str -/
abbrev Key := Sum Int Str
def keyIs : Key → Value → Bool
  | .inl k, v => Value.isInt k v
  | .inr x, v => Value.isStrOf x v
def keyH (w : World) : Key → Int
  | .inl k => hashInt k
  | .inr x => hashStr w x
theorem keyIs_shape : ∀ {k : Key} {v : Value}, keyIs k v = true → (∃ i t, k = Sum.inl i ∧ v = Value.int i t) ∨ (∃ x t, k = Sum.inr x ∧ v = Value.str x t)
  | .inl i, v, h => by
    obtain ⟨t, e⟩ := Value.isInt_shape (k := i) (v := v) h
    exact .inl ⟨i, t, rfl, e⟩
  | .inr x, v, h => by
    obtain ⟨t, e⟩ := Value.isStrOf_shape (x := x) (v := v) h
    exact .inr ⟨x, t, rfl, e⟩
theorem keyIs_int (i : Int) (t : Tok) : keyIs (.inl i) (.int i t) = true := by simp [keyIs, Value.isInt]
theorem keyIs_str (x : Str) (t : Tok) : keyIs (.inr x) (.str x t) = true := by simp [keyIs, Value.isStrOf]
theorem key_ll (a b : Int) : decide ((Sum.inl a : Key) = Sum.inl b) = (a == b) := by
  by_cases e : a = b
  · subst e; simp
  · have h : ¬ (Sum.inl a : Key) = Sum.inl b := fun q => e (Sum.inl.inj q)
    rw [decide_eq_false h]
    exact (beq_eq_false_iff_ne.mpr e).symm
theorem key_rr (a b : Str) : decide ((Sum.inr a : Key) = Sum.inr b) = decide (a = b) := by
  by_cases e : a = b
  · subst e; simp
  · have h : ¬ (Sum.inr a : Key) = Sum.inr b := fun q => e (Sum.inr.inj q)
    rw [decide_eq_false h, decide_eq_false e]
theorem key_lr (a : Int) (b : Str) : decide ((Sum.inl a : Key) = Sum.inr b) = false := decide_eq_false (fun q => nomatch q)
theorem key_rl (a : Str) (b : Int) : decide ((Sum.inr a : Key) = Sum.inl b) = false := decide_eq_false (fun q => nomatch q)
def mixKind (prog : Program) (w : World) : PySem.KeyKind prog w Key where
  is := keyIs
  hash := keyH w
  inj := fun v a b ha hb => by
    rcases keyIs_shape ha with ⟨i, t, rfl, rfl⟩ | ⟨x, t, rfl, rfl⟩
    · rcases keyIs_shape hb with ⟨j, u, rfl, e⟩ | ⟨y, u, rfl, e⟩
      · injection e with e1 _; rw [e1]
      · exact nomatch e
    · rcases keyIs_shape hb with ⟨j, u, rfl, e⟩ | ⟨y, u, rfl, e⟩
      · exact nomatch e
      · injection e with e1 _; rw [e1]
  byValue := fun k v h => by
    rcases keyIs_shape h with ⟨i, t, rfl, rfl⟩ | ⟨x, t, rfl, rfl⟩ <;> rfl
  pyHash := fun hv h => by
    rcases keyIs_shape hv with ⟨i, t, rfl, rfl⟩ | ⟨x, t, rfl, rfl⟩
    · exact wpAny_pyHash_int h
    · exact wpAny_pyHash_str h
  eqBool := fun hu hv h => by
    rcases keyIs_shape hu with ⟨i, t, rfl, rfl⟩ | ⟨x, t, rfl, rfl⟩
    · rcases keyIs_shape hv with ⟨j, u, rfl, rfl⟩ | ⟨y, u, rfl, rfl⟩
      · rw [key_ll] at h; exact wpAny_eqBool_int h
      · rw [key_lr] at h; exact SeqAt.EqAt.int_str i t y u _ _ _ _ h
    · rcases keyIs_shape hv with ⟨j, u, rfl, rfl⟩ | ⟨y, u, rfl, rfl⟩
      · rw [key_rl] at h; exact SeqAt.EqAt.str_int x t j u _ _ _ _ h
      · rw [key_rr] at h; exact wpAny_eqBool_str h
  «strs» := fun k x t v h => by
    rcases keyIs_shape h with ⟨i, u, rfl, e⟩ | ⟨y, u, rfl, e⟩
    · exact nomatch e
    · injection e with e1 _
      subst e1
      cases v <;> rfl
theorem mixKind_int (prog : Program) (w : World) (i : Int) (t : Tok) : (mixKind prog w).is (.inl i) (.int i t) = true := keyIs_int i t
theorem mixKind_str (prog : Program) (w : World) (x : Str) (t : Tok) : (mixKind prog w).is (.inr x) (.str x t) = true := keyIs_str x t
end L2
namespace L2
open PySem PySem.Spec PyProof.Rows
/-- a value, without the heap -/
inductive V where
  | non | bl (b : Bool) | int (i : Int) | str (x : Str) | byt (b : Array UInt8) | flt (b : UInt64) | ref (a : Addr) | ty (n : String)
  deriving DecidableEq
def RelV : V → Value → Prop
  | .non, u => u = Value.none
  | .bl b, u => u = Value.bool b
  | .int i, u => ∃ t, u = Value.int i t
  | .str x, u => ∃ t, u = Value.str x t
  | .byt b, u => ∃ t, u = Value.bytes b t
  | .flt b, u => ∃ t, u = Value.float b t
  | .ref a, u => u = Value.ref a
  | .ty n, u => u = Value.type n
abbrev Vals : List V → List Value → Prop := Paired RelV
theorem Vals.length {xs : List V} {us : List Value} (r : Vals xs us) : xs.length = us.length := Paired.length r
theorem Vals.get : ∀ {xs : List V} {us : List Value} {i : Nat} {x : V}, Vals xs us → xs[i]? = some x → ∃ u, us[i]? = some u ∧ RelV x u
  | _, _, _, _, .nil, e => by simp at e
  | _, _, 0, _, .cons r _, e => by simp at e; subst e; exact ⟨_, rfl, r⟩
  | _, _, i + 1, x, .cons _ t, e => by
    obtain ⟨u, h1, h2⟩ := Vals.get (i := i) (x := x) t (by simpa using e)
    exact ⟨u, by simpa using h1, h2⟩
theorem Vals.append : ∀ {xs ys : List V} {us ws : List Value}, Vals xs us → Vals ys ws → Vals (xs ++ ys) (us ++ ws)
  | _, _, _, _, .nil, s => s
  | _, _, _, _, .cons r t, s => .cons r (Vals.append t s)
theorem Vals.take : ∀ {xs : List V} {us : List Value} (n : Nat), Vals xs us → Vals (xs.take n) (us.take n)
  | _, _, 0, _ => .nil
  | _, _, _ + 1, .nil => .nil
  | _, _, n + 1, .cons r t => .cons r (Vals.take n t)
theorem Vals.drop : ∀ {xs : List V} {us : List Value} (n : Nat), Vals xs us → Vals (xs.drop n) (us.drop n)
  | _, _, 0, r => r
  | _, _, _ + 1, .nil => .nil
  | _, _, n + 1, .cons _ t => Vals.drop n t
def RelO : Option V → Option Value → Prop
  | some v, some u => RelV v u
  | none, none => True
  | _, _ => False
def KV {κ : Type} : List (κ × V) → List (κ × Value) → Prop := Paired fun (p : κ × V) (q : κ × Value) => p.1 = q.1 ∧ RelV p.2 q.2
/-- a key of a dict (00_mix): an int or a text -/
def kV : Key → V
  | .inl i => .int i
  | .inr x => .str x
/-- what stands at a tracked address -/
inductive HO where
  /-- a list -/
  | lst (xs : List V)
  /-- a tuple (never changes) -/
  | tup (xs : List V)
  /-- a dict whose keys are ints and texts; one whose keys are tuples of ints and texts (the empty one is both) -/
  | dK (kvs : List (Key × V)) | dT (kvs : List (List Key × V))
  /-- a set of ints: its members, its size -/
  | set (S : Int → Bool) (n : Nat)
  /-- an instance of the class at C, its dict at dx, its attributes -/
  | ins (C dx : Addr) (fs : List (Str × V))
  /-- the dict of the instance at x -/
  | own (x : Addr)
  /-- the dict of an exception -/
  | xd (fs : List (Str × V))
  /-- a bound method, f of x -/
  | met (f x : Addr)
  /-- a range object lo, lo + 1, .. below hi -/
  | rng (lo hi : Int)
  /-- a thing that is known to the object (the script; a dict while a loop walks it): read, never written while it is so -/
  | frz (o : Obj) (u : HO)
  /-- a code object's table -/
  | tbl (ps : Array Value)
  /-- any other thing, by what is true of its one object (a def of one's own: SetO a S n := HO.ext fun h => ..) -/
  | ext (φ : Heap → Prop)
abbrev Hp := Addr → Option HO
def upd (H : Hp) (a : Addr) (o : HO) : Hp := fun b => if b = a then some o else H b
theorem upd_same {H : Hp} {a : Addr} {o : HO} : upd H a o a = some o := by unfold upd; rw [if_pos rfl]
theorem upd_ne {H : Hp} {a b : Addr} {o : HO} (h : b ≠ a) : upd H a o b = H b := by unfold upd; rw [if_neg h]
/-- two objects of different content stand apart -/
theorem ne_of {H : Hp} {a b : Addr} {o u : HO} (h : H a = some o) (h' : H b = some u) (d : o ≠ u) : a ≠ b := by
  intro e; subst e; rw [h] at h'; exact d (Option.some.inj h')
theorem ne_of_none {H : Hp} {a b : Addr} {o : HO} (h : H a = some o) (h' : H b = none) : a ≠ b := by
  intro e; subst e; rw [h] at h'; cases h'
section
variable (P : Program) (w : World)
def ObjOk (H : Hp) (h : Heap) (a : Addr) : HO → Prop
  | .lst xs => xs.length ≤ sizeLine ∧ ∃ (its : List Value) (n : Nat), Vals xs its ∧ h.get? a = some { cls := .type "list", data := .seq its.toArray n }
  | .tup xs => xs.length ≤ sizeLine ∧ ∃ its : List Value, Vals xs its ∧ IsTup h a its.toArray
  | .dK kvs => kvs.length ≤ sizeLine ∧ (a == sysModules) = false ∧ ∃ vs, KV kvs vs ∧ h.DictOf (mixKind P w) a vs
  | .dT kvs => kvs.length ≤ sizeLine ∧ (a == sysModules) = false ∧ ∃ xs : List (List Key × Addr × Value),
      Paired (fun (p : List Key × V) (q : List Key × Addr × Value) => p.1 = q.1 ∧ H q.2.1 = some (.tup (p.1.map kV)) ∧ RelV p.2 q.2.2) kvs xs ∧
      ∃ o es ep, h.get? a = some o ∧ o.ExactDict ∧ o.data = .dict es ep ∧ es.toList = xs.map (entryOfKey (tupleKind (mixKind P w))) ∧ (xs.map (·.1)).Nodup
  | .set S n => h.SetOf (intKind P w) a S n
  | .ins C dx fs => H dx = some (.own a) ∧ fs.length ≤ 1000 ∧ dx ≠ a ∧ h.get? a = some (PySem.W.instObj C dx) ∧
      ∃ mA, h.Ns1 dx mA ∧ (∀ f, RelO (fs.lookup f) (mA f)) ∧ PySem.Within mA (fs.map (·.1))
  | .own _ => ∃ o, h.get? a = some o
  | .xd fs => ∃ mA, h.Ns1 a mA ∧ ∀ f, RelO (fs.lookup f) (mA f)
  | .rng lo hi => ∃ t u v, h.get? a = some { cls := .type "range", data := .fields #[.int lo t, .int hi u, .int 1 v] }
  | .frz o u => h.get? a = some o ∧ ObjOk H h a u
  | .tbl ps => h.get? a = some { cls := .none, data := .fields ps }
  | .met f x => h.get? a = some (PySem.W.methodObj (.ref f) (.ref x))
  | .ext φ => φ h ∧ (∃ o, h.get? a = some o) ∧ ∀ h1 h2 : Heap, φ h1 → (∀ o, h1.get? a = some o → h2.get? a = some o) → φ h2
/-- the abstract heap is held -/
def HOk (H : Hp) (h : Heap) : Prop := ∀ a o, H a = some o → ObjOk P w H h a o
end
section
variable {P : Program} {w : World} {H H' : Hp} {h h' : Heap} {a : Addr} {o : HO}
theorem ObjOk.lt (x : ObjOk P w H h a o) : a < h.objs.size := by
  cases o with
  | lst xs => obtain ⟨_, _, _, _, e⟩ := x; exact Heap.lt_size e
  | tup xs => obtain ⟨_, _, _, p⟩ := x; exact p.lt
  | dK kvs => obtain ⟨_, _, _, _, o, _, _, e, _⟩ := x; exact Heap.lt_size e
  | dT kvs => obtain ⟨_, _, _, _, o, _, _, e, _⟩ := x; exact Heap.lt_size e
  | set S n => obtain ⟨o, _, _, _, e, _⟩ := x; exact Heap.lt_size e
  | ins C dx fs => obtain ⟨_, _, _, e, _⟩ := x; exact Heap.lt_size e
  | own y => obtain ⟨_, e⟩ := x; exact Heap.lt_size e
  | xd fs => obtain ⟨_, ⟨_, _, _, e, _⟩, _⟩ := x; exact Heap.lt_size e
  | rng lo hi => obtain ⟨_, _, _, e⟩ := x; exact Heap.lt_size e
  | frz ob u => obtain ⟨e, _⟩ := x; exact Heap.lt_size e
  | tbl ps => exact Heap.lt_size (show h.get? a = some _ from x)
  | met f y => exact Heap.lt_size (show h.get? a = some _ from x)
  | ext φ => obtain ⟨_, ⟨_, e⟩, _⟩ := x; exact Heap.lt_size e
theorem Paired.mapP {α β : Type} {F G : α → β → Prop} : ∀ {l₁ : List α} {l₂ : List β}, Paired F l₁ l₂ → (∀ a b, F a b → G a b) → Paired G l₁ l₂
  | _, _, .nil, _ => .nil
  | _, _, .cons r t, f => .cons (f _ _ r) (Paired.mapP t f)
/-- what an object's description leans on: its own object, its own dict, the tuples -/
theorem ObjOk.stay (x : ObjOk P w H h a o) (k : ∀ b u, (b = a ∨ H b = some (.own a)) → h.get? b = some u → h'.get? b = some u)
    (ho : ∀ b, H b = some (.own a) → H' b = some (.own a)) (ht : ∀ b xs, H b = some (.tup xs) → H' b = some (.tup xs)) : ObjOk P w H' h' a o := by
  induction o with
  | lst xs => obtain ⟨z, its, n, r, e⟩ := x; exact ⟨z, its, n, r, k _ _ (.inl rfl) e⟩
  | tup xs => obtain ⟨z, its, r, ob, e, c⟩ := x; exact ⟨z, its, r, ob, k _ _ (.inl rfl) e, c⟩
  | dK kvs => obtain ⟨z, y, vs, r, ob, es, ep, e, c⟩ := x; exact ⟨z, y, vs, r, ob, es, ep, k _ _ (.inl rfl) e, c⟩
  | dT kvs =>
    obtain ⟨z, y, xs, r, ob, es, ep, e, c⟩ := x
    exact ⟨z, y, xs, Paired.mapP r fun p q z => ⟨z.1, ht _ _ z.2.1, z.2.2⟩, ob, es, ep, k _ _ (.inl rfl) e, c⟩
  | set S n => obtain ⟨ob, es, ep, t, e, c⟩ := x; exact ⟨ob, es, ep, t, k _ _ (.inl rfl) e, c⟩
  | ins C dx fs =>
    obtain ⟨d, z, ne, e, mA, ⟨od, es, ep, e2, c⟩, r⟩ := x
    exact ⟨ho _ d, z, ne, k _ _ (.inl rfl) e, mA, ⟨od, es, ep, k _ _ (.inr d) e2, c⟩, r⟩
  | own y => obtain ⟨ob, e⟩ := x; exact ⟨ob, k _ _ (.inl rfl) e⟩
  | xd fs => obtain ⟨mA, ⟨od, es, ep, e, c⟩, r⟩ := x; exact ⟨mA, ⟨od, es, ep, k _ _ (.inl rfl) e, c⟩, r⟩
  | rng lo hi => obtain ⟨t, u, v, e⟩ := x; exact ⟨t, u, v, k _ _ (.inl rfl) e⟩
  | frz ob u ih => obtain ⟨e, q⟩ := x; exact ⟨k _ _ (.inl rfl) e, ih q⟩
  | tbl ps =>
    have e : h.get? a = some { cls := .none, data := .fields ps } := x
    show h'.get? a = some { cls := .none, data := .fields ps }
    exact k a _ (.inl rfl) e
  | met f y =>
    have e : h.get? a = some (PySem.W.methodObj (.ref f) (.ref y)) := x
    show h'.get? a = some (PySem.W.methodObj (.ref f) (.ref y))
    exact k a _ (.inl rfl) e
  | ext φ => obtain ⟨p, ⟨o, e⟩, st⟩ := x; exact ⟨st _ _ p fun o q => k _ _ (.inl rfl) q, ⟨o, k _ _ (.inl rfl) e⟩, st⟩
theorem HOk.lt (x : HOk P w H h) (e : H a = some o) : a < h.objs.size := (x a o e).lt
theorem HOk.fresh (x : HOk P w H h) (e : h.objs.size ≤ a) : H a = none := by
  cases q : H a with
  | none => rfl
  | some u => exact absurd (Nat.lt_of_lt_of_le (x.lt q) e) (Nat.lt_irrefl _)
/-- every object of the heap is kept -/
theorem HOk.kept (x : HOk P w H h) (k : ∀ b u, h.get? b = some u → h'.get? b = some u) : HOk P w H h' := fun a o e =>
  (x a o e).stay (fun b u _ q => k b u q) (fun _ q => q) fun _ _ q => q
/-- a new object is laid and tracked -/
theorem HOk.laid (x : HOk P w H h) (k : ∀ b u, h.get? b = some u → h'.get? b = some u) (hp : h.objs.size ≤ a) (new : ObjOk P w (upd H a o) h' a o) : HOk P w (upd H a o) h' := fun b u e => by
  have hn := x.fresh hp
  by_cases hb : b = a
  · subst hb; rw [upd_same] at e; cases e; exact new
  · rw [upd_ne hb] at e
    exact (x b u e).stay (fun c v _ q => k c v q) (fun c q => by rw [upd_ne (ne_of_none q hn)]; exact q) fun c xs q => by rw [upd_ne (ne_of_none q hn)]; exact q
end
/-- what may be read as u: it is u, or a known u -/
def Rd (H : Hp) (a : Addr) (u : HO) : Prop := H a = some u ∨ ∃ o, H a = some (.frz o u)
theorem Rd.ok {P : Program} {w : World} {H : Hp} {h : Heap} {a : Addr} {u : HO} (r : Rd H a u) (x : HOk P w H h) : ObjOk P w H h a u := by
  rcases r with r | ⟨o, r⟩
  · exact x a u r
  · obtain ⟨_, q⟩ := x a _ r
    exact q
/-- what may be written -/
def Mut : Option HO → Prop
  | some (.lst _) => True
  | some (.dK _) => True
  | some (.dT _) => True
  | some (.set _ _) => True
  | some (.ins _ _ _) => True
  | some (.ext _) => True
  | _ => False
section
variable {P : Program} {w : World} {H : Hp} {h h' : Heap} {x e : Addr} {o' : HO}
/-- the object at e is changed: x itself, or the dict of the instance x -/
theorem HOk.write (ok : HOk P w H h) (mu : Mut (H x)) (he : e = x ∨ H e = some (.own x)) (k : ∀ b u, b ≠ e → h.get? b = some u → h'.get? b = some u) (heo : ∃ u, h'.get? e = some u)
    (new : ObjOk P w (upd H x o') h' x o') : HOk P w (upd H x o') h' := fun b u q => by
  have nown : ∀ c y, H c = some (.own y) → c ≠ x := fun c y r z => by subst z; rw [r] at mu; exact mu
  have ntup : ∀ c xs, H c = some (.tup xs) → c ≠ x := fun c xs r z => by subst z; rw [r] at mu; exact mu
  by_cases hb : b = x
  · subst hb; rw [upd_same] at q; cases q; exact new
  · rw [upd_ne hb] at q
    by_cases hbe : b = e
    · have q' : H b = some (.own x) := by
        rcases he with z | z
        · exact absurd (hbe.trans z) hb
        · rw [hbe]; exact z
      rw [q] at q'; cases q'
      obtain ⟨v, hv⟩ := heo
      exact ⟨v, by rw [hbe]; exact hv⟩
    · refine (ok b u q).stay (fun c v hc r => k c v ?_ r) (fun c r => by rw [upd_ne (nown c b r)]; exact r) fun c xs r => by rw [upd_ne (ntup c xs r)]; exact r
      rcases hc with rfl | hc
      · exact hbe
      · rintro rfl
        rcases he with z | z
        · exact nown c b hc z
        · rw [hc] at z; cases z; exact hb rfl
end
/-! ### kept unless tracked; of the frames at fs (the callers') the slots may change (an exception that passes writes there); of the records at ex (iterators) nothing is said -/
structure Un (fs ex : List Addr) (H H' : Hp) (h h' : Heap) : Prop where
  keep : ∀ b o, h.get? b = some o → H b = none → b ∉ fs → b ∉ ex → h'.get? b = some o
  slot : ∀ b o, h.get? b = some o → H b = none → b ∈ fs → b ∉ ex → ∃ sl, h'.get? b = some { o with slots := sl }
  free : ∀ b o, h.get? b = some o → H b = none → b ∉ ex → H' b = none
  there : ∀ b o, h.get? b = some o → b ∉ ex → ∃ o', h'.get? b = some o'
  tups : ∀ b xs, H b = some (.tup xs) → H' b = some (.tup xs)
  frzs : ∀ b o u, H b = some (.frz o u) → H' b = some (.frz o u)
  tbls : ∀ b ps, H b = some (.tbl ps) → ∃ more, H' b = some (.tbl (ps ++ more))
section
variable {fs fs' ex ex' : List Addr} {H H1 H2 : Hp} {h h1 h2 h' : Heap} {a x e : Addr} {o : HO}
theorem Un.any (u : Un fs ex H H1 h h1) {b : Addr} {ob : Obj} (q : h.get? b = some ob) (n : H b = none) (hx : b ∉ ex) : ∃ sl, h1.get? b = some { ob with slots := sl } := by
  by_cases hb : b ∈ fs
  · exact u.slot b ob q n hb hx
  · exact ⟨ob.slots, u.keep b ob q n hb hx⟩
theorem Un.kept (k : ∀ b u, h.get? b = some u → h'.get? b = some u) : Un fs ex H H h h' :=
  ⟨fun b ob q _ _ _ => k b ob q, fun b ob q _ _ _ => ⟨ob.slots, k b ob q⟩, fun _ _ _ n _ => n, fun b ob q _ => ⟨ob, k b ob q⟩, fun _ _ q => q, fun _ _ _ q => q, fun _ ps q => ⟨#[], by rw [q]; simp⟩⟩
theorem Un.refl : Un fs ex H H h h := Un.kept fun _ _ q => q
theorem Un.laid (k : ∀ b u, h.get? b = some u → h'.get? b = some u) (hp : h.objs.size ≤ a) (hn : H a = none) : Un fs ex H (upd H a o) h h' where
  keep := fun b u q _ _ _ => k b u q
  slot := fun b u q _ _ _ => ⟨u.slots, k b u q⟩
  free := fun b u q n _ => by rw [upd_ne (Nat.ne_of_lt (Nat.lt_of_lt_of_le (Heap.lt_size q) hp))]; exact n
  there := fun b u q _ => ⟨u, k b u q⟩
  tups := fun b xs q => by rw [upd_ne (ne_of_none q hn)]; exact q
  frzs := fun b u xs q => by rw [upd_ne (ne_of_none q hn)]; exact q
  tbls := fun b ps q => ⟨#[], by rw [upd_ne (ne_of_none q hn), q]; simp⟩
theorem Un.write (mu : Mut (H x)) (he : e = x ∨ H e = some (.own x)) (k : ∀ b u, b ≠ e → h.get? b = some u → h'.get? b = some u) (heo : ∃ u, h'.get? e = some u) : Un fs ex H (upd H x o) h h' := by
  have hx : ∀ b, H b = none → b ≠ x := fun b n z => by subst z; rw [n] at mu; exact mu
  have hb : ∀ b, H b = none → b ≠ e := fun b n z => by
    subst z
    rcases he with r | r
    · exact hx b n r
    · rw [n] at r; cases r
  have hm : ∀ b u, H b = some u → ¬ Mut (some u) → b ≠ x := fun b u q nm z => by subst z; rw [q] at mu; exact nm mu
  refine ⟨fun b u q n _ _ => k b u (hb b n) q, fun b u q n _ _ => ⟨u.slots, k b u (hb b n) q⟩, fun b u q n _ => by rw [upd_ne (hx b n)]; exact n, fun b u q _ => ?_,
    fun b xs q => by rw [upd_ne (hm b _ q fun z => z)]; exact q, fun b u xs q => by rw [upd_ne (hm b _ q fun z => z)]; exact q, fun b ps q => ⟨#[], by rw [upd_ne (hm b _ q fun z => z), q]; simp⟩⟩
  by_cases hbe : b = e
  · subst hbe; exact heo
  · exact ⟨u, k b u hbe q⟩
end
/-! ### the heap without what is tracked -/
def trk (h : Heap) (H : Hp) : List Addr := (List.range h.objs.size).filter fun a => (H a).isSome
def hidT (h : Heap) (H : Hp) : Heap := PySem.W.hideAll h (trk h H)
theorem hidT_size (h : Heap) (H : Hp) : (hidT h H).objs.size = h.objs.size := PySem.W.hideAll_size _ _
theorem hidT_get {h : Heap} {H : Hp} {b : Addr} {o : Obj} (e : h.get? b = some o) (n : H b = none) : (hidT h H).get? b = some o :=
  PySem.W.hideAll_get _ e fun hm => by
    have q : (H b).isSome = true := (List.mem_filter.mp hm).2
    rw [n] at q; simp at q
theorem of_hidT {h : Heap} {H : Hp} {b : Addr} {o : Obj} (e : (hidT h H).get? b = some o) : h.get? b = some o ∧ H b = none := by
  have e' : h.get? b = some o := PySem.W.of_hideAll (trk h H) e
  refine ⟨e', ?_⟩
  cases q : H b with
  | none => rfl
  | some x =>
    have hm : b ∈ trk h H := List.mem_filter.mpr ⟨List.mem_range.mpr (Heap.lt_size e'), by simp [q]⟩
    have z : (hidT h H).get? b = none := PySem.W.hideAll_none (trk h H) hm
    rw [z] at e; cases e
/-! ### OpenK's ledger, filled with every new object but one -/
def allNews (g h : Heap) (L : Addr) : List (Addr × Obj) := (List.range h.objs.size).filterMap fun a => if a = L ∨ (g.get? a).isSome = true then none else (h.get? a).map fun o => (a, o)
def rest (g h : Heap) (L d : Addr) : List (Addr × Obj) := (allNews g h L).filter fun p => decide (p.1 ≠ d)
end L2
namespace L2
open PySem PySem.Spec PyProof.Rows
/-- the module's facts, over the base: the heap at the law's entry without what is tracked there -/
structure Mod (K : PySem.W.Frag) (mg : Str → Option Value) (base : Heap) : Prop where
  kin : K.In base
  glob : base.Ns mainGlobals mg
  blt : ∃ mb, base.Ns builtinsNs mb ∧ ∀ x : Str, x ≠ "__name__" → mb x = bootBuiltins x
  nolimit : base.NoLimit
/-- the context: a def's body (or a comprehension's block) running. base: fixed through the whole law; s₀, H₀: the entry; outer: the frames whose slots others may change (a def's callers); stack: all frames that run;
   ex: iterators that were made ahead of the entry and are walked here (a comprehension's); fn: the names whose cells were made at the entry (a def: all; a comprehension's block: its own); calm: not within an except suite; pn: pins that every state bears; xe: what is wanted of an exception that leaves the code -/
structure Cx where
  prog : Program
  w : World
  K : PySem.W.Frag
  mg : Str → Option Value
  base : Heap
  A : Around
  N : List Str
  s₀ : Shared
  H₀ : Hp
  env : Env
  outer : List Env
  stack : List Env
  ex : List Addr
  fn : Str → Bool
  calm : Bool
  pn : List (Addr × Obj)
  xe : Value → Shared → Prop
/-- the callers' frames -/
def frs (l : List Env) : List Addr := l.filterMap (·.frame)
abbrev Cx.fs (X : Cx) : List Addr := frs X.outer
def Vis (sc : Scope) (x : Str) : Prop := sc.names.lookup x = some .local ∨ sc.names.lookup x = some .cell ∨ sc.names.lookup x = some .free
def Loc (sc : Scope) (x : Str) : Prop := sc.names.lookup x = some .local ∨ sc.names.lookup x = some .cell
def Look (env : Env) (h : Heap) (m : Str → Option Value) (x : Str) (u : Value) : Prop :=
  (env.kindOf x = some .local ∧ m x = some u) ∨ ((env.kindOf x = some .cell ∨ env.kindOf x = some .free) ∧ ∃ c, env.cells.lookup x = some c ∧ h.IsCell c (some u))
structure Cx.Ok (X : Cx) : Prop where
  mod : Mod X.K X.mg X.base
  kind : X.env.scope.kind = .function
  glob : X.env.globals = mainGlobals
  blt : X.env.builtins = builtinsNs
  above : X.s₀.heap.objs.size ≤ X.env.locals
  inj : ∀ x y c, X.env.cells.lookup x = some c → X.env.cells.lookup y = some c → x = y
  has : ∀ x, (X.env.kindOf x = some .cell ∨ X.env.kindOf x = some .free) → ∃ c, X.env.cells.lookup x = some c
  cab : ∀ x c, X.fn x = true → X.env.cells.lookup x = some c → X.s₀.heap.objs.size ≤ c
  hd : X.calm = true → X.A.handled = none
  frames : X.A.frames = some X.stack
  stk : X.stack = X.outer ∨ (X.stack = X.env :: X.outer ∧ X.env.frame = some X.env.locals)
  exf : ∀ b ∈ X.ex, b ≠ X.env.locals ∧ ∀ x c, X.env.cells.lookup x = some c → c ≠ b
  bs : ∀ b o, X.base.get? b = some o → X.s₀.heap.get? b = some o ∧ X.H₀ b = none
  bsz : X.base.objs.size ≤ X.s₀.heap.objs.size
  noex : ∀ b o, X.base.get? b = some o → b ∉ X.ex
  exfs : ∀ b ∈ X.ex, b ∉ X.fs
  funs : X.s₀.heap.FunFrames X.base X.outer
  frf : ∀ b ∈ X.fs, X.H₀ b = none
structure Inv (X : Cx) (pins : List (Addr × Obj)) (σ : List (Option V)) (H : Hp) (s : Shared) : Prop where
  ok : X.Ok
  os : s.os = X.s₀.os
  bare : AllBare s.gens
  base : Un X.fs X.ex X.H₀ H X.s₀.heap s.heap
  loc : ∃ m, s.heap.Ns X.env.locals m ∧ ∀ (i : Nat) (x : Str) (v : V), X.N[i]? = some x → σ[i]? = some (some v) → Vis X.env.scope x → ∃ u, RelV v u ∧ Look X.env s.heap m x u
  cell : ∀ x c, X.env.cells.lookup x = some c → ∃ v, s.heap.IsCell c v
  free : H X.env.locals = none
  freeC : ∀ x c, X.env.cells.lookup x = some c → H c = none
  pin : ∀ p ∈ X.pn ++ pins, s.heap.get? p.1 = some p.2 ∧ H p.1 = none ∧ p.1 ≠ X.env.locals ∧ p.1 ∉ X.fs ∧ ∀ v, p.2.data ≠ .cell v
  hok : HOk X.prog X.w H s.heap
  len : σ.length = X.N.length
section
variable {X : Cx} {pins : List (Addr × Obj)} {σ : List (Option V)} {H H' : Hp} {s : Shared} {h' : Heap}
theorem Cx.Ok.nofr (ok : X.Ok) {b : Addr} {o : Obj} (e : X.base.get? b = some o) : b ∉ X.fs := fun hb => by
  have := (ok.funs.mem hb).1
  rw [e] at this; cases this
theorem Inv.bs (I : Inv X pins σ H s) : ∀ b o, X.base.get? b = some o → s.heap.get? b = some o ∧ H b = none := fun b o e =>
  ⟨I.base.keep b o (I.ok.bs b o e).1 (I.ok.bs b o e).2 (I.ok.nofr e) (I.ok.noex b o e), I.base.free b o (I.ok.bs b o e).1 (I.ok.bs b o e).2 (I.ok.noex b o e)⟩
theorem Inv.bk (I : Inv X pins σ H s) : ∀ b o, X.base.get? b = some o → s.heap.get? b = some o := fun b o e => (I.bs b o e).1
theorem Inv.mod (I : Inv X pins σ H s) : Mod X.K X.mg X.base := I.ok.mod
theorem Inv.kIn (I : Inv X pins σ H s) : X.K.In s.heap := I.ok.mod.kin.keeps I.bk
theorem Inv.lt (I : Inv X pins σ H s) : X.env.locals < s.heap.objs.size := let ⟨_, hn, _⟩ := I.loc; hn.lt
theorem Inv.sz (I : Inv X pins σ H s) : X.s₀.heap.objs.size ≤ s.heap.objs.size := Nat.le_trans I.ok.above (Nat.le_of_lt I.lt)
theorem Inv.nofs (I : Inv X pins σ H s) {a : Addr} (h : s.heap.objs.size ≤ a) : a ∉ X.fs := fun hb => by
  obtain ⟨_, o, ho, _⟩ := I.ok.funs.mem hb
  exact absurd (Nat.lt_of_lt_of_le (Heap.lt_size ho) (Nat.le_trans I.sz h)) (Nat.lt_irrefl _)
theorem Inv.cne (I : Inv X pins σ H s) : ∀ x c, X.env.cells.lookup x = some c → c ≠ X.env.locals := fun x c e z => by
  obtain ⟨v, o, ho, hd⟩ := I.cell x c e
  obtain ⟨m, ⟨o', es, ep, ho', hd', _⟩, _⟩ := I.loc
  rw [z, ho'] at ho; cases ho; rw [hd'] at hd; cases hd
theorem Inv.funs (I : Inv X pins σ H s) : s.heap.FunFrames X.base X.outer := by
  have all : ∀ (l : List Env), (∀ b ∈ frs l, b ∈ X.fs) → X.s₀.heap.FunFrames X.base l → s.heap.FunFrames X.base l := by
    intro l
    induction l with
    | nil => intro _ _; trivial
    | cons env r ih =>
      intro hs hl
      obtain ⟨hk, ⟨L, o, hf, hn, ho, hd⟩, hr⟩ := hl
      have hL : L ∈ X.fs := hs L (by unfold frs; rw [List.filterMap_cons, hf]; exact List.mem_cons_self)
      obtain ⟨sl, e⟩ := I.base.slot L o ho (I.ok.frf L hL) hL fun z => I.ok.exfs L z hL
      exact ⟨hk, ⟨L, _, hf, hn, e, hd⟩, ih (fun b hb => hs b (by unfold frs; rw [List.filterMap_cons, hf]; exact List.mem_cons_of_mem _ hb)) hr⟩
  exact all X.outer (fun _ hb => hb) I.ok.funs
/-- the frames that run, for a call -/
theorem Inv.stack (I : Inv X pins σ H s) : s.heap.FunFrames X.base X.stack := by
  rcases I.ok.stk with e | ⟨e, hf⟩
  · rw [e]; exact I.funs
  · rw [e]
    obtain ⟨m, hn, _⟩ := I.loc
    refine .cons (by rw [I.ok.kind]; decide) hf hn ?_ I.funs
    exact Heap.get?_none_of_le (Nat.le_trans I.ok.bsz I.ok.above)
theorem Inv.stkSub (I : Inv X pins σ H s) : ∀ b ∈ frs X.stack, b ∈ X.env.locals :: X.fs := fun b hb => by
  rcases I.ok.stk with e | ⟨e, hf⟩
  · rw [e] at hb; exact List.mem_cons_of_mem _ hb
  · rw [e] at hb
    unfold frs at hb
    rw [List.filterMap_cons, hf] at hb
    exact hb
theorem Inv.stkFree (I : Inv X pins σ H s) : ∀ b ∈ frs X.stack, H b = none := fun b hb => by
  rcases List.mem_cons.mp (I.stkSub b hb) with e | hb
  · rw [e]; exact I.free
  · obtain ⟨_, o, ho, _⟩ := I.ok.funs.mem hb
    exact I.base.free b o ho (I.ok.frf b hb) fun z => I.ok.exfs b z hb
/-- THE STEP: the untracked objects but the frame and the records at ch are kept (the callers' frames up to slots), the frame's map is kept, the new abstract heap is held -/
theorem Inv.step {g' : Array GenState} {t' : Nat} {d' : Drawn} {ch : List Addr} (I : Inv X pins σ H s)
    (hch : ∀ b ∈ ch, (b ∈ X.ex ∨ X.s₀.heap.objs.size ≤ b) ∧ b ≠ X.env.locals ∧ (∀ x c, X.env.cells.lookup x = some c → c ≠ b) ∧ ∀ p ∈ X.pn ++ pins, p.1 ≠ b)
    (keep : ∀ b o, b ≠ X.env.locals → b ∉ X.fs → b ∉ ch → s.heap.get? b = some o → H b = none → h'.get? b = some o)
    (slot : ∀ b o, b ≠ X.env.locals → b ∈ X.fs → b ∉ ch → s.heap.get? b = some o → H b = none → ∃ sl, h'.get? b = some { o with slots := sl }) (free : ∀ b o, b ∉ ch → s.heap.get? b = some o → H b = none → H' b = none)
    (there : ∀ b o, b ∉ ch → s.heap.get? b = some o → ∃ o', h'.get? b = some o')
    (tups : ∀ b xs, H b = some (.tup xs) → H' b = some (.tup xs)) (frzs : ∀ b o u, H b = some (.frz o u) → H' b = some (.frz o u)) (tbls : ∀ b ps, H b = some (.tbl ps) → ∃ more, H' b = some (.tbl (ps ++ more)))
    (ns : ∀ m, s.heap.Ns X.env.locals m → h'.Ns X.env.locals m) (hok : HOk X.prog X.w H' h') (hg : AllBare g') :
    Inv X pins σ H' { s with heap := h', gens := g', drawn := d', toks := t' } := by
  have neL : ∀ b o, X.s₀.heap.get? b = some o → b ≠ X.env.locals := fun b o e => Nat.ne_of_lt (Nat.lt_of_lt_of_le (Heap.lt_size e) I.ok.above)
  have neC : ∀ b o, X.s₀.heap.get? b = some o → b ∉ X.ex → b ∉ ch := fun b o e hx hb => by
    rcases (hch b hb).1 with z | z
    · exact hx z
    · exact absurd (Nat.lt_of_lt_of_le (Heap.lt_size e) z) (Nat.lt_irrefl _)
  have cellK : ∀ x c, X.env.cells.lookup x = some c → ∀ v, s.heap.IsCell c v → h'.IsCell c v := fun x c e v ⟨o, ho, hd⟩ => by
    have nch : c ∉ ch := fun z => (hch c z).2.2.1 x c e rfl
    by_cases hc : c ∈ X.fs
    · obtain ⟨sl, q⟩ := slot c o (I.cne x c e) hc nch ho (I.freeC x c e)
      exact ⟨_, q, hd⟩
    · exact ⟨o, keep c o (I.cne x c e) hc nch ho (I.freeC x c e), hd⟩
  refine ⟨I.ok, I.os, hg, ⟨fun b o e n hb hx => ?_, fun b o e n hb hx => ?_, fun b o e n hx => ?_, fun b o e hx => ?_, fun b xs e => tups b xs (I.base.tups b xs e), fun b o xs e => frzs b o xs (I.base.frzs b o xs e), fun b ps e => ?_⟩, ?_, fun x c e => ?_, ?_, fun x c e => ?_, fun p hp => ?_, hok, I.len⟩
  · exact keep b o (neL b o e) hb (neC b o e hx) (I.base.keep b o e n hb hx) (I.base.free b o e n hx)
  · obtain ⟨sl, e1⟩ := I.base.slot b o e n hb hx
    obtain ⟨sl', e2⟩ := slot b _ (neL b o e) hb (neC b o e hx) e1 (I.base.free b o e n hx)
    exact ⟨sl', e2⟩
  · obtain ⟨o', e1⟩ := I.base.there b o e hx
    exact free b o' (neC b o e hx) e1 (I.base.free b o e n hx)
  · obtain ⟨o', e1⟩ := I.base.there b o e hx
    exact there b o' (neC b o e hx) e1
  · obtain ⟨m1, e1⟩ := I.base.tbls b ps e
    obtain ⟨m2, e2⟩ := tbls b _ e1
    exact ⟨m1 ++ m2, by rw [e2, Array.append_assoc]⟩
  · obtain ⟨m, hn, hl⟩ := I.loc
    refine ⟨m, ns m hn, fun i x v e1 e2 e3 => ?_⟩
    obtain ⟨u, r, l⟩ := hl i x v e1 e2 e3
    refine ⟨u, r, ?_⟩
    rcases l with l | ⟨k, c, e, z⟩
    · exact .inl l
    · exact .inr ⟨k, c, e, cellK x c e _ z⟩
  · obtain ⟨v, z⟩ := I.cell x c e
    exact ⟨v, cellK x c e v z⟩
  · obtain ⟨m, ⟨o, _, _, ho, _⟩, _⟩ := I.loc
    exact free _ o (fun z => (hch _ z).2.1 rfl) ho I.free
  · obtain ⟨v, o, ho, hd⟩ := I.cell x c e
    exact free c o (fun z => (hch c z).2.2.1 x c e rfl) ho (I.freeC x c e)
  · obtain ⟨e, n, ne, nf, d⟩ := I.pin p hp
    have nch : p.1 ∉ ch := fun z => (hch p.1 z).2.2.2 p hp rfl
    exact ⟨keep p.1 p.2 ne nf nch e n, free p.1 p.2 nch e n, ne, nf, d⟩
/-- .. where the frame's own object is kept too -/
theorem Inv.un {t' : Nat} (I : Inv X pins σ H s) (u : Un X.fs [] H H' s.heap h') (hok : HOk X.prog X.w H' h') : Inv X pins σ H' { s with heap := h', toks := t' } := by
  obtain ⟨m, ⟨o, es, ep, ho, r⟩, _⟩ := id I.loc
  obtain ⟨sl, hL⟩ := u.any ho I.free (by simp)
  exact I.step (g' := s.gens) (d' := s.drawn) (ch := []) (fun _ z => nomatch z) (fun b o _ hb _ e n => u.keep b o e n hb (by simp)) (fun b o _ hb _ e n => u.slot b o e n hb (by simp)) (fun b o _ e n => u.free b o e n (by simp)) (fun b o _ e => u.there b o e (by simp)) u.tups u.frzs u.tbls (fun m' hm => by
    obtain ⟨o', es', ep', ho', r'⟩ := hm
    rw [ho] at ho'; cases ho'
    exact ⟨_, es', ep', hL, r'⟩) hok I.bare
/-- behind a call (or a comprehension's block): the slots of this frame may have changed too, the records at ch may have turned -/
theorem Inv.call {g' : Array GenState} {t' : Nat} {d' : Drawn} {ch : List Addr} (I : Inv X pins σ H s) (u : Un (frs X.stack) ch H H' s.heap h') (hok : HOk X.prog X.w H' h') (hg : AllBare g')
    (hch : ∀ b ∈ ch, (b ∈ X.ex ∨ X.s₀.heap.objs.size ≤ b) ∧ b ≠ X.env.locals ∧ (∀ x c, X.env.cells.lookup x = some c → c ≠ b) ∧ ∀ p ∈ X.pn ++ pins, p.1 ≠ b) :
    Inv X pins σ H' { s with heap := h', gens := g', drawn := d', toks := t' } := by
  obtain ⟨m, ⟨o, es, ep, ho, r⟩, _⟩ := id I.loc
  obtain ⟨sl, hL⟩ := u.any ho I.free fun z => (hch _ z).2.1 rfl
  exact I.step (ch := ch) hch (fun b o hL hb hc e n => u.keep b o e n (fun z => (List.mem_cons.mp (I.stkSub b z)).elim hL hb) hc) (fun b o _ _ hc e n => u.any e n hc) (fun b o hc e n => u.free b o e n hc) (fun b o hc e => u.there b o e hc) u.tups u.frzs u.tbls (fun m' hm => by
    obtain ⟨o', es', ep', ho', r'⟩ := hm
    rw [ho] at ho'; cases ho'
    exact ⟨_, es', ep', hL, r'⟩) hok hg
/-- an untracked record of ours (an iterator) has turned -/
theorem Inv.turned {t' : Nat} {it : Addr} (I : Inv X pins σ H s) (k : ∀ b o, b ≠ it → s.heap.get? b = some o → h'.get? b = some o) (hn : H it = none) (hL : it ≠ X.env.locals)
    (h1 : it ∈ X.ex ∨ X.s₀.heap.objs.size ≤ it) (h2 : ∀ x c, X.env.cells.lookup x = some c → c ≠ it) (h3 : ∀ p ∈ X.pn ++ pins, p.1 ≠ it) : Inv X pins σ H { s with heap := h', toks := t' } := by
  have nit : ∀ b u, H b = some u → b ≠ it := fun b u e z => by rw [z, hn] at e; cases e
  refine I.step (g' := s.gens) (d' := s.drawn) (ch := [it]) (fun b hb => ?_) (fun b o _ _ hc e _ => k b o (fun z => hc (by simp [z])) e) (fun b o _ _ hc e _ => ⟨o.slots, k b o (fun z => hc (by simp [z])) e⟩) (fun _ _ _ _ n => n)
    (fun b o hc e => ⟨o, k b o (fun z => hc (by simp [z])) e⟩) (fun _ _ e => e) (fun _ _ _ e => e) (fun b ps e => ⟨#[], by rw [e]; simp⟩) (fun m hm => ?_) (fun b u e => ?_) I.bare
  · have e : b = it := by simpa using hb
    subst e
    exact ⟨h1, hL, h2, h3⟩
  · obtain ⟨o, es, ep, ho, r⟩ := hm
    exact ⟨o, es, ep, k _ o (Ne.symm hL) ho, r⟩
  · refine (I.hok b u e).stay (fun c v hc q => k c v ?_ q) (fun _ q => q) fun _ _ q => q
    rcases hc with z | z
    · rw [z]; exact nit b u e
    · exact nit c _ z
theorem Inv.tok (I : Inv X pins σ H s) (t : Nat) : Inv X pins σ H { s with toks := t } := I.un (h' := s.heap) (t' := t) Un.refl I.hok
/-- all objects kept -/
theorem Inv.kept {t' : Nat} (I : Inv X pins σ H s) (k : ∀ b u, s.heap.get? b = some u → h'.get? b = some u) : Inv X pins σ H { s with heap := h', toks := t' } := I.un (Un.kept k) (I.hok.kept k)
/-- a new object laid and tracked -/
theorem Inv.laid {a : Addr} {o : HO} {t' : Nat} (I : Inv X pins σ H s) (k : ∀ b u, s.heap.get? b = some u → h'.get? b = some u) (hp : s.heap.objs.size ≤ a) (new : ObjOk X.prog X.w (upd H a o) h' a o) :
    Inv X pins σ (upd H a o) { s with heap := h', toks := t' } := I.un (Un.laid k hp (I.hok.fresh hp)) (I.hok.laid k hp new)
/-- an object written -/
theorem Inv.write {x e : Addr} {o : HO} {t' : Nat} (I : Inv X pins σ H s) (mu : Mut (H x)) (he : e = x ∨ H e = some (.own x)) (k : ∀ b u, b ≠ e → s.heap.get? b = some u → h'.get? b = some u) (heo : ∃ u, h'.get? e = some u)
    (new : ObjOk X.prog X.w (upd H x o) h' x o) : Inv X pins σ (upd H x o) { s with heap := h', toks := t' } := I.un (Un.write mu he k heo) (I.hok.write mu he k heo new)
/-- forgetting slots, pins -/
theorem Inv.weak {σ' : List (Option V)} (I : Inv X pins σ H s) (hl : σ'.length = σ.length) (w : ∀ (i : Nat) v, σ'[i]? = some (some v) → σ[i]? = some (some v)) : Inv X pins σ' H s :=
  ⟨I.ok, I.os, I.bare, I.base, let ⟨m, hn, hl'⟩ := I.loc; ⟨m, hn, fun i x v e1 e2 e3 => hl' i x v e1 (w i v e2) e3⟩, I.cell, I.free, I.freeC, I.pin, I.hok, hl.trans I.len⟩
theorem Inv.pins_of {pins' : List (Addr × Obj)} (I : Inv X pins σ H s) (h : ∀ p ∈ pins', s.heap.get? p.1 = some p.2 ∧ H p.1 = none ∧ p.1 ≠ X.env.locals ∧ p.1 ∉ X.fs ∧ ∀ v, p.2.data ≠ .cell v) : Inv X pins' σ H s :=
  ⟨I.ok, I.os, I.bare, I.base, I.loc, I.cell, I.free, I.freeC, fun p hp => (List.mem_append.mp hp).elim (fun z => I.pin p (List.mem_append_left _ z)) (h p), I.hok, I.len⟩
theorem nodup_ix {N : List Str} (hN : N.Nodup) {i j : Nat} {x : Str} (a : N[i]? = some x) (b : N[j]? = some x) : i = j := by
  obtain ⟨h1, e1⟩ := List.getElem?_eq_some_iff.mp a
  obtain ⟨h2, e2⟩ := List.getElem?_eq_some_iff.mp b
  exact (List.getElem_inj hN).mp (e1.trans e2.symm)
/-- a name is stored; what changed -/
theorem store_ok2 {M : Model} {A : Around} {E : Value → Shared → Prop} {i : Nat} {x : Str} {v : V} {u : Value} {Q : Unit → Shared → Prop} (I : Inv X pins σ H s) (hN : X.N.Nodup) (hi : X.N[i]? = some x) (hx : Loc X.env.scope x) (r : RelV v u)
    (h : ∀ s', Inv X pins (σ.set i (some v)) H s' → (∃ a, Heap.SameBut a s.heap s'.heap ∧ (a = X.env.locals ∨ X.env.cells.lookup x = some a)) → Q () s') (hf : X.fn x = true ∨ X.env.scope.names.lookup x = some .local := by first | exact .inl rfl | exact .inr rfl | assumption) : wpAny M A (storeName X.env x u) Q E s := by
  obtain ⟨m, hn, hl⟩ := id I.loc
  have hcls : (X.env.scope.kind == .class || (X.env.scope.kind == .module && X.env.locals != X.env.globals)) = false := by rw [I.ok.kind]; rfl
  have hiσ : i < σ.length := by rw [I.len]; exact (List.getElem?_eq_some_iff.mp hi).1
  have cne := I.cne
  have tracked : ∀ {a : Addr} {h' : Heap}, (∃ o, s.heap.get? a = some o ∧ H a = none) → Heap.SameBut a s.heap h' → HOk X.prog X.w H h' := fun {a h'} ha hs b ob e => by
    obtain ⟨_, _, hfree⟩ := ha
    refine (I.hok b ob e).stay (fun c w' hc q => (hs.2 c ?_).trans q) (fun _ q => q) fun _ _ q => q
    rintro rfl
    rcases hc with rfl | hc
    · rw [hfree] at e; cases e
    · rw [hfree] at hc; cases hc
  rcases hx with hk | hk
  · refine wpAny_storeName_local hk hn (fun h' hn' hs => ?_) hcls
    obtain ⟨oL, _, _, hoL, _⟩ := id hn
    refine h _ ⟨I.ok, I.os, I.bare, ⟨fun b o e n hb hx => ?_, fun b o e n hb hx => ?_, I.base.free, fun b o e hx => ?_, I.base.tups, I.base.frzs, I.base.tbls⟩, ⟨_, hn', fun j y v' e1 e2 e3 => ?_⟩, fun y c e => ?_, I.free, I.freeC, fun p hp => ?_, tracked ⟨oL, hoL, I.free⟩ hs, by simpa using I.len⟩ ⟨_, hs, .inl rfl⟩
    · exact (hs.2 b (Nat.ne_of_lt (Nat.lt_of_lt_of_le (Heap.lt_size e) I.ok.above))).trans (I.base.keep b o e n hb hx)
    · obtain ⟨sl, e1⟩ := I.base.slot b o e n hb hx
      exact ⟨sl, (hs.2 b (Nat.ne_of_lt (Nat.lt_of_lt_of_le (Heap.lt_size e) I.ok.above))).trans e1⟩
    · obtain ⟨o', e1⟩ := I.base.there b o e hx
      exact ⟨o', (hs.2 b (Nat.ne_of_lt (Nat.lt_of_lt_of_le (Heap.lt_size e) I.ok.above))).trans e1⟩
    · by_cases hj : j = i
      · subst hj
        rw [hi] at e1; cases e1
        rw [List.getElem?_set_self hiσ] at e2
        cases e2
        exact ⟨u, r, .inl ⟨hk, by simp⟩⟩
      · rw [List.getElem?_set_ne (Ne.symm hj)] at e2
        obtain ⟨u', r', q⟩ := hl j y v' e1 e2 e3
        refine ⟨u', r', ?_⟩
        rcases q with ⟨k, e⟩ | ⟨k, c, e, z⟩
        · refine .inl ⟨k, ?_⟩
          have : y ≠ x := fun e => hj (nodup_ix hN e1 (e ▸ hi))
          simp [this, e]
        · exact .inr ⟨k, c, e, z.sameBut hs (cne y c e)⟩
    · obtain ⟨w', z⟩ := I.cell y c e
      exact ⟨w', z.sameBut hs (cne y c e)⟩
    · obtain ⟨e, n, ne, nf, d⟩ := I.pin p hp
      exact ⟨(hs.2 p.1 ne).trans e, n, ne, nf, d⟩
  · have hfn : X.fn x = true := by
      rcases hf with z | z
      · exact z
      · rw [z] at hk; cases hk
    obtain ⟨c, hc⟩ := I.ok.has x (.inl hk)
    obtain ⟨w', z⟩ := I.cell x c hc
    refine wpAny_storeName_cell I.ok.kind hk hc z (fun h' hc' hs => ?_)
    obtain ⟨oc, hoc, hocd⟩ := id z
    refine h { s with heap := h' } ⟨I.ok, I.os, I.bare, ⟨fun b o e n hb hx => ?_, fun b o e n hb hx => ?_, I.base.free, fun b o e hx => ?_, I.base.tups, I.base.frzs, I.base.tbls⟩, ⟨m, hn.sameBut hs (Ne.symm (cne x c hc)), fun j y v' e1 e2 e3 => ?_⟩, fun y c' e => ?_, I.free, I.freeC, fun p hp => ?_, tracked ⟨oc, hoc, I.freeC x c hc⟩ hs, by simpa using I.len⟩ ⟨c, hs, .inr hc⟩
    · exact (hs.2 b (Nat.ne_of_lt (Nat.lt_of_lt_of_le (Heap.lt_size e) (I.ok.cab x c hfn hc)))).trans (I.base.keep b o e n hb hx)
    · obtain ⟨sl, e1⟩ := I.base.slot b o e n hb hx
      exact ⟨sl, (hs.2 b (Nat.ne_of_lt (Nat.lt_of_lt_of_le (Heap.lt_size e) (I.ok.cab x c hfn hc)))).trans e1⟩
    · obtain ⟨o', e1⟩ := I.base.there b o e hx
      exact ⟨o', (hs.2 b (Nat.ne_of_lt (Nat.lt_of_lt_of_le (Heap.lt_size e) (I.ok.cab x c hfn hc)))).trans e1⟩
    · by_cases hj : j = i
      · subst hj
        rw [hi] at e1; cases e1
        rw [List.getElem?_set_self hiσ] at e2
        cases e2
        exact ⟨u, r, .inr ⟨.inl hk, c, hc, hc'⟩⟩
      · rw [List.getElem?_set_ne (Ne.symm hj)] at e2
        obtain ⟨u', r', q⟩ := hl j y v' e1 e2 e3
        refine ⟨u', r', ?_⟩
        rcases q with q | ⟨k, c', e, z'⟩
        · exact .inl q
        · refine .inr ⟨k, c', e, z'.sameBut hs ?_⟩
          rintro rfl
          exact hj (nodup_ix hN e1 (I.ok.inj _ _ _ e hc ▸ hi))
    · by_cases hcc : c' = c
      · subst hcc; exact ⟨_, hc'⟩
      · obtain ⟨w2, z2⟩ := I.cell y c' e
        exact ⟨w2, z2.sameBut hs hcc⟩
    · obtain ⟨e, n, ne, nf, d⟩ := I.pin p hp
      refine ⟨(hs.2 p.1 ?_).trans e, n, ne, nf, d⟩
      intro q
      rw [q, hoc] at e
      have q' : oc = p.2 := Option.some.inj e
      exact d w' (by rw [← q']; exact hocd)
theorem store_ok {M : Model} {A : Around} {E : Value → Shared → Prop} {i : Nat} {x : Str} {v : V} {u : Value} {Q : Unit → Shared → Prop} (I : Inv X pins σ H s) (hN : X.N.Nodup) (hi : X.N[i]? = some x) (hx : Loc X.env.scope x) (r : RelV v u)
    (h : ∀ s', Inv X pins (σ.set i (some v)) H s' → Q () s') (hf : X.fn x = true ∨ X.env.scope.names.lookup x = some .local := by first | exact .inl rfl | exact .inr rfl | assumption) : wpAny M A (storeName X.env x u) Q E s :=
  store_ok2 I hN hi hx r (fun s' I' _ => h s' I') hf
/-- behind a call or a block, the state as it is -/
theorem Inv.call' {s' : Shared} {ch : List Addr} (I : Inv X pins σ H s) (ho : s'.os = s.os) (u : Un (frs X.stack) ch H H' s.heap s'.heap) (hok : HOk X.prog X.w H' s'.heap) (hg : AllBare s'.gens)
    (hch : ∀ b ∈ ch, (b ∈ X.ex ∨ X.s₀.heap.objs.size ≤ b) ∧ b ≠ X.env.locals ∧ (∀ x c, X.env.cells.lookup x = some c → c ≠ b) ∧ ∀ p ∈ X.pn ++ pins, p.1 ≠ b) : Inv X pins σ H' s' := by
  obtain ⟨h', g', d', t', o'⟩ := s'
  have e : o' = s.os := ho
  subst e
  exact I.call (g' := g') (t' := t') (d' := d') u hok hg hch
end
/-! ### the judgements -/
/-- an exception: its class, its own dict's address (where it has one), the abstract heap behind it -/
abbrev XK := Value → Option Addr → Hp → Prop
abbrev St := List (Option V)
abbrev VK := V → Hp → Prop
/-- an expression's reading; a test's; an argument list's -/
abbrev TE := St → Hp → VK → Prop
abbrev TT := St → Hp → (Bool → Hp → Prop) → Prop
abbrev TA := St → Hp → (List V → Hp → Prop) → Prop
/-- what is wanted behind a statement -/
structure Ends where
  nx : St → Hp → Prop
  rt : VK
  bk : St → Hp → Prop := fun _ _ => False
  ct : St → Hp → Prop := fun _ _ => False
abbrev TS := Ends → St → Hp → Prop
def EP (X : Cx) (pins : List (Addr × Obj)) (σ : St) (Q : VK) (u : Value) (s' : Shared) : Prop := ∃ v H', Inv X pins σ H' s' ∧ RelV v u ∧ Q v H'
def TP (X : Cx) (pins : List (Addr × Obj)) (σ : St) (Q : Bool → Hp → Prop) (b : Bool) (s' : Shared) : Prop := ∃ H', Inv X pins σ H' s' ∧ Q b H'
def AP (X : Cx) (pins : List (Addr × Obj)) (σ : St) (Q : List V → Hp → Prop) (us : List Value) (s' : Shared) : Prop := ∃ vs H', Inv X pins σ H' s' ∧ Vals vs us ∧ Q vs H'
def SP (X : Cx) (pins : List (Addr × Obj)) (D : Ends) (f : Flow) (s' : Shared) : Prop :=
  match f with
  | .next => ∃ σ' H', Inv X pins σ' H' s' ∧ D.nx σ' H'
  | .brk => ∃ σ' H', Inv X pins σ' H' s' ∧ D.bk σ' H'
  | .cont => ∃ σ' H', Inv X pins σ' H' s' ∧ D.ct σ' H'
  | .ret u => ∃ v σ' H', Inv X pins σ' H' s' ∧ RelV v u ∧ D.rt v H'
def PE (X : Cx) (e : Expr) (t : TE) : Prop :=
  ∀ (pins : List (Addr × Obj)) (s : Shared) (σ : St) (H : Hp) (Q : VK), Inv X pins σ H s → t σ H Q → wpAny (model X.prog X.w) X.A (eval e X.env) (EP X pins σ Q) X.xe s
def PT (X : Cx) (e : Expr) (t : TT) : Prop :=
  ∀ (pins : List (Addr × Obj)) (s : Shared) (σ : St) (H : Hp) (Q : Bool → Hp → Prop), Inv X pins σ H s → t σ H Q → wpAny (model X.prog X.w) X.A (isTrue e X.env (eval e X.env)) (TP X pins σ Q) X.xe s
/-- a test whatever its 'whole' is (and, or) -/
def PW (X : Cx) (e : Expr) (t : TT) : Prop :=
  ∀ (whole : Sem Value) (pins : List (Addr × Obj)) (s : Shared) (σ : St) (H : Hp) (Q : Bool → Hp → Prop), Inv X pins σ H s → t σ H Q → wpAny (model X.prog X.w) X.A (isTrue e X.env whole) (TP X pins σ Q) X.xe s
theorem PW.pt {X : Cx} {e : Expr} {t : TT} (h : PW X e t) : PT X e t := h _
/-- an argument list (no star), from the left -/
def PA (X : Cx) (es : List Expr) (t : TA) : Prop :=
  ∀ (pos : Pos) (pins : List (Addr × Obj)) (s : Shared) (σ : St) (H : Hp) (Q : List V → Hp → Prop), Inv X pins σ H s → t σ H Q → wpAny (model X.prog X.w) X.A (spliced (backTo pos (starEach es X.env))) (AP X pins σ Q) X.xe s
def PS (X : Cx) (st : Stmt) (t : TS) : Prop :=
  ∀ (pins : List (Addr × Obj)) (s : Shared) (σ : St) (H : Hp) (D : Ends), Inv X pins σ H s → t D σ H → wpAny (model X.prog X.w) X.A (exec st X.env) (SP X pins D) X.xe s
def PSs (X : Cx) (st : List Stmt) (t : TS) : Prop :=
  ∀ (pins : List (Addr × Obj)) (s : Shared) (σ : St) (H : Hp) (D : Ends), Inv X pins σ H s → t D σ H → wpAny (model X.prog X.w) X.A (execs st X.env) (SP X pins D) X.xe s
/-- weaken the end -/
theorem thn {α : Type} {t : Sem α} {Q Q' : α → Shared → Prop} {M : Model} {A : Around} {E : Value → Shared → Prop} {s : Shared} (h : wpAny M A t Q E s) (hQ : ∀ a s, Q a s → Q' a s) : wpAny M A t Q' E s := wpAny_mono h hQ fun _ _ x => x
end L2
namespace L2
open PySem PySem.Spec PyProof.Rows
section
variable {X : Cx}
/-! ### names and constants -/
def tVar (i : Nat) : TE := fun σ H Q => ∃ v, σ[i]? = some (some v) ∧ Q v H
def tC (v : V) : TE := fun _ H Q => Q v H
theorem pe_var {i : Nat} {x : Str} {pos : Pos} (hN : X.N[i]? = some x) (hv : Vis X.env.scope x) (hd : (x == ("__debug__" : Str)) = false := by decide) (hcd : (x == ("__classdict__" : Str)) = false := by decide) : PE X (.Name x pos) (tVar i) := by
  intro pins s σ H Q I h
  obtain ⟨v, e, h⟩ := h
  obtain ⟨m, hn, hl⟩ := I.loc
  obtain ⟨u, r, l⟩ := hl i x v hN e hv
  have fin : EP X pins σ Q u s := ⟨v, H, I, r, h⟩
  rcases l with ⟨hk, hm⟩ | ⟨hk, c, hc, hcell⟩
  · exact wpAny_Name (wpAny_loadName_local I.ok.kind hk hn hm fin) hd
  · rcases hk with hk | hk
    · exact wpAny_Name (wpAny_loadName_cell I.ok.kind hk hc hcell fin) hd
    · exact wpAny_Name (wpAny_loadName_free I.ok.kind hk hc hcell fin hcd) hd
theorem pe_int {i j pos} : PE X (.Constant (.int i) j pos) (tC (.int i)) := fun _ _ _ H _ I h => wpAny_Constant_int ⟨.int i, H, I.tok _, ⟨_, rfl⟩, h⟩
theorem pe_bl {b j pos} : PE X (.Constant (.bool b) j pos) (tC (.bl b)) := fun _ _ _ H _ I h => Constant_bool ⟨.bl b, H, I, rfl, h⟩
theorem pe_non {j pos} : PE X (.Constant .none j pos) (tC .non) := fun _ _ _ H _ I h => Constant_none ⟨.non, H, I, rfl, h⟩
theorem pe_str {x j pos} : PE X (.Constant (.str x) j pos) (tC (.str x)) := fun _ _ _ H _ I h => Calls.Constant_str ⟨.str x, H, I.tok _, ⟨_, rfl⟩, h⟩
/-- a global name of the def -/
def Gl (X : Cx) (x : Str) : Prop := X.env.kindOf x = some .globalImplicit
theorem ld_glob {E : Value → Shared → Prop} {pins : List (Addr × Obj)} {s : Shared} {σ : St} {H : Hp} {x : Str} {u : Value} {pos : Pos} {Q : Value → Shared → Prop} (I : Inv X pins σ H s) (hg : Gl X x) (hm : X.mg x = some u) (h : Q u s)
    (hd : (x == ("__debug__" : Str)) = false := by decide) : wpAny (model X.prog X.w) X.A (eval (.Name x pos) X.env) Q E s :=
  Calls.Name_function_global I.ok.kind hg (Calls.loadGlobal_global (by rw [I.ok.glob]; exact I.mod.glob.keeps I.bk) hm h) hd
theorem ld_blt {E : Value → Shared → Prop} {pins : List (Addr × Obj)} {s : Shared} {σ : St} {H : Hp} {x : Str} {u : Value} {pos : Pos} {Q : Value → Shared → Prop} (I : Inv X pins σ H s) (hg : Gl X x) (hm : X.mg x = none) (hv : bootBuiltins x = some u) (h : Q u s)
    (hn : x ≠ "__name__" := by decide) (hd : (x == ("__debug__" : Str)) = false := by decide) : wpAny (model X.prog X.w) X.A (eval (.Name x pos) X.env) Q E s := by
  obtain ⟨mb, h1, h2⟩ := I.mod.blt
  exact Calls.Name_function_global I.ok.kind hg (Calls.loadGlobal_builtin (by rw [I.ok.glob]; exact I.mod.glob.keeps I.bk) hm (by rw [I.ok.blt]; exact h1.keeps I.bk) ((h2 x hn).trans hv) h) hd
theorem pe_bltn {x : Str} {v : V} {u : Value} {pos : Pos} (hg : Gl X x) (hm : X.mg x = none) (hv : bootBuiltins x = some u) (r : RelV v u) (hn : x ≠ "__name__" := by decide) (hd : (x == ("__debug__" : Str)) = false := by decide) : PE X (.Name x pos) (tC v) :=
  fun _ _ _ H _ I h => ld_blt I hg hm hv ⟨v, H, I, r, h⟩ hn hd
/-! ### arithmetic -/
/-- two ints -/
def t2I (ta tb : TE) (k : Int → Int → Hp → Prop) : St → Hp → Prop := fun σ H => ta σ H fun x H1 => tb σ H1 fun y H2 => ∃ i j, x = .int i ∧ y = .int j ∧ k i j H2
def tAdd (ta tb : TE) : TE := fun σ H Q => t2I ta tb (fun i j H2 => Q (.int (i + j)) H2) σ H
def tSub (ta tb : TE) : TE := fun σ H Q => t2I ta tb (fun i j H2 => Q (.int (i - j)) H2) σ H
/-- the left factor below 2^64 -/
def tMul (ta tb : TE) : TE := fun σ H Q => t2I ta tb (fun i j H2 => (-(2 ^ 64) < i ∧ i < 2 ^ 64) ∧ Q (.int (i * j)) H2) σ H
variable {a b : Expr} {ta tb : TE} {pos : Pos}
/-! ### comparisons -/
def PC (X : Cx) (op : CmpOp) (a b : Expr) (t : TE) : Prop :=
  ∀ (pins : List (Addr × Obj)) (s : Shared) (σ : St) (H : Hp) (Q : VK), Inv X pins σ H s → t σ H Q →
    wpAny (model X.prog X.w) X.A (eval a X.env) (fun v s₁ => wpAny (model X.prog X.w) X.A (eval b X.env) (fun u s₂ => wpAny (model X.prog X.w) X.A (compareOp op v u) (EP X pins σ Q) X.xe s₂) X.xe s₁) X.xe s
def tCmp (p : Int → Int → Bool) (ta tb : TE) : TE := fun σ H Q => t2I ta tb (fun i j H2 => Q (.bl (p i j)) H2) σ H
abbrev tLt : TE → TE → TE := tCmp fun i j => decide (i < j)
abbrev tLe : TE → TE → TE := tCmp fun i j => decide (i ≤ j)
abbrev tGt : TE → TE → TE := tCmp fun i j => decide (j < i)
abbrev tGe : TE → TE → TE := tCmp fun i j => decide (j ≤ i)
abbrev tEqI : TE → TE → TE := tCmp fun i j => decide (i = j)
abbrev tNeI : TE → TE → TE := tCmp fun i j => !decide (i = j)
/-- is None -/
def tIsN (ta : TE) : TE := fun σ H Q => ta σ H fun x H1 => Q (.bl (decide (x = .non))) H1
def tNotN (ta : TE) : TE := fun σ H Q => ta σ H fun x H1 => Q (.bl (!decide (x = .non))) H1
/-- a comparison as a value, as a test -/
def tB (t : TE) : TT := fun σ H Q => t σ H fun x H1 => ∃ c, x = .bl c ∧ Q c H1
/-! ### and, or, not -/
variable {tA tB' : TT} {rest : List Expr}
def tAnd (t u : TT) : TT := fun σ H Q => t σ H fun c H1 => if c = true then u σ H1 Q else Q false H1
def tOr (t u : TT) : TT := fun σ H Q => t σ H fun c H1 => if c = true then Q true H1 else u σ H1 Q
def tNot (t : TT) : TT := fun σ H Q => t σ H fun c H1 => Q (!c) H1
theorem pw_and1 (ha : PT X a tA) : PW X (.BoolOp .And [a] pos) tA := by
  intro wh pins s σ H Q I h
  refine isTrue_and (thn (ha pins s σ H Q I h) fun c s1 e => ?_)
  cases c with
  | true => exact isTrue_and_nil e
  | false => exact e
theorem pw_or1 (ha : PT X a tA) : PW X (.BoolOp .Or [a] pos) tA := by
  intro wh pins s σ H Q I h
  refine isTrue_or (thn (ha pins s σ H Q I h) fun c s1 e => ?_)
  cases c with
  | false => exact isTrue_or_nil e
  | true => exact e
theorem pw_and (ha : PT X a tA) (hb : PW X (.BoolOp .And (b :: rest) pos) tB') : PW X (.BoolOp .And (a :: b :: rest) pos) (tAnd tA tB') := by
  intro wh pins s σ H Q I h
  refine isTrue_and (thn (ha pins s σ H _ I h) fun c s1 ⟨H1, I1, q1⟩ => ?_)
  cases c with
  | true => exact hb wh pins s1 σ H1 Q I1 q1
  | false => exact ⟨H1, I1, q1⟩
theorem pw_or (ha : PT X a tA) (hb : PW X (.BoolOp .Or (b :: rest) pos) tB') : PW X (.BoolOp .Or (a :: b :: rest) pos) (tOr tA tB') := by
  intro wh pins s σ H Q I h
  refine isTrue_or (thn (ha pins s σ H _ I h) fun c s1 ⟨H1, I1, q1⟩ => ?_)
  cases c with
  | true => exact ⟨H1, I1, q1⟩
  | false => exact hb wh pins s1 σ H1 Q I1 q1
theorem pt_not (ha : PT X a tA) : PT X (.UnaryOp .Not a pos) (tNot tA) := by
  intro pins s σ H Q I h
  exact isTrue_not (ha pins s σ H (fun c H1 => Q (!c) H1) I h)
/-- .. as values (bools) -/
def tAndV (ta tb : TE) : TE := fun σ H Q => ta σ H fun x H1 => ∃ c, x = .bl c ∧ if c = true then tb σ H1 Q else Q (.bl false) H1
def tOrV (ta tb : TE) : TE := fun σ H Q => ta σ H fun x H1 => ∃ c, x = .bl c ∧ if c = true then Q (.bl true) H1 else tb σ H1 Q
def tNotV (ta : TE) : TE := fun σ H Q => ta σ H fun x H1 => ∃ c, x = .bl c ∧ Q (.bl (!c)) H1
theorem pe_one {op} {t : TE} (h : PE X a t) : PE X (.BoolOp op [a] pos) t := fun pins s σ H Q I hw => BoolOp_one (h pins s σ H Q I hw)
theorem pe_and (ha : PE X a ta) (hb : PE X (.BoolOp .And (b :: rest) pos) tb) : PE X (.BoolOp .And (a :: b :: rest) pos) (tAndV ta tb) := by
  intro pins s σ H Q I h
  refine BoolOp_and (thn (ha pins s σ H _ I h) fun v s1 ⟨x, H1, I1, r1, q1⟩ => ?_)
  obtain ⟨c, rfl, q1⟩ := q1
  cases r1
  refine wpAny_truthy_bool ?_
  cases c with
  | true => exact hb pins s1 σ H1 Q I1 q1
  | false => exact ⟨.bl false, H1, I1, rfl, q1⟩
/-- a if t else b -/
def tIf (t : TT) (ta tb : TE) : TE := fun σ H Q => t σ H fun c H1 => if c = true then ta σ H1 Q else tb σ H1 Q
theorem pe_ifExp {c : Expr} (hc : PT X c tA) (ha : PE X a ta) (hb : PE X b tb) : PE X (.IfExp c a b pos) (tIf tA ta tb) := by
  intro pins s σ H Q I h
  refine wpAny_IfExp (thn (hc pins s σ H _ I h) fun d s1 ⟨H1, I1, q1⟩ => ?_)
  cases d with
  | true => exact ha pins s1 σ H1 Q I1 q1
  | false => exact hb pins s1 σ H1 Q I1 q1
end
end L2
namespace L2
open PySem PySem.Spec PyProof.Rows
/-! ### a list, a tuple that is read: tracked, frozen, or an object of the module -/
def SqL (K : PySem.W.Frag) (H : Hp) (a : Addr) (xs : List V) : Prop :=
  Rd H a (.lst xs) ∨
    ∃ (o : Obj) (its : Array Value) (n : Nat), K.lookup a = some o ∧ o.cls = .type "list" ∧ o.dict = none ∧ o.data = .seq its n ∧ its.size ≤ sizeLine ∧ Vals xs its.toList
def SqT (K : PySem.W.Frag) (H : Hp) (a : Addr) (xs : List V) : Prop :=
  Rd H a (.tup xs) ∨
    ∃ (o : Obj) (its : Array Value) (n : Nat), K.lookup a = some o ∧ o.cls = .type "tuple" ∧ o.data = .seq its n ∧ its.size ≤ sizeLine ∧ Vals xs its.toList
def absV : Value → Option V
  | .none => some .non
  | .bool b => some (.bl b)
  | .int i _ => some (.int i)
  | .str x _ => some (.str x)
  | .bytes b _ => some (.byt b)
  | .float b _ => some (.flt b)
  | .ref a => some (.ref a)
  | .type n => some (.ty n)
  | _ => none
theorem RelV.abs {x : V} {u : Value} (r : RelV x u) : absV u = some x := by
  cases x with
  | non => cases r; rfl
  | bl _ => cases r; rfl
  | int _ => obtain ⟨t, rfl⟩ := r; rfl
  | str _ => obtain ⟨t, rfl⟩ := r; rfl
  | byt _ => obtain ⟨t, rfl⟩ := r; rfl
  | flt _ => obtain ⟨t, rfl⟩ := r; rfl
  | ref _ => cases r; rfl
  | ty _ => cases r; rfl
theorem RelV.inj {x y : V} {u : Value} (r : RelV x u) (q : RelV y u) : x = y := Option.some.inj (r.abs.symm.trans q.abs)
theorem Vals.inj : ∀ {xs ys : List V} {us : List Value}, Vals xs us → Vals ys us → xs = ys
  | _, _, _, .nil, .nil => rfl
  | _, _, _, .cons r t, .cons r' t' => by rw [r.inj r', Vals.inj t t']
section
variable {X : Cx} {pins : List (Addr × Obj)} {σ : St} {H : Hp} {s : Shared} {a : Addr} {xs ys : List V}
theorem SqL.of {K : PySem.W.Frag} (h : H a = some (.lst xs)) : SqL K H a xs := .inl (.inl h)
theorem SqT.of {K : PySem.W.Frag} (h : H a = some (.tup xs)) : SqT K H a xs := .inl (.inl h)
theorem Inv.list (I : Inv X pins σ H s) (h : SqL X.K H a xs) : ∃ its : List Value, Vals xs its ∧ PlainL s.heap a its.toArray ∧ xs.length ≤ sizeLine := by
  rcases h with h | ⟨o, its, n, hk, hc, hd, hs, hz, r⟩
  · obtain ⟨z, its, n, r, e⟩ := h.ok I.hok
    exact ⟨its, r, ⟨_, n, e, rfl, rfl, rfl⟩, z⟩
  · refine ⟨its.toList, r, ⟨o, n, I.kIn a o hk, hc, hd, by simpa using hs⟩, ?_⟩
    have e := r.length
    simp only [Array.length_toList] at e
    omega
theorem Inv.tuple (I : Inv X pins σ H s) (h : SqT X.K H a xs) : ∃ its : List Value, Vals xs its ∧ IsTup s.heap a its.toArray ∧ xs.length ≤ sizeLine := by
  rcases h with h | ⟨o, its, n, hk, hc, hs, hz, r⟩
  · obtain ⟨z, its, r, p⟩ := h.ok I.hok
    exact ⟨its, r, p, z⟩
  · refine ⟨its.toList, r, ⟨o, I.kIn a o hk, hc, n, by simpa using hs⟩, ?_⟩
    have e := r.length
    simp only [Array.length_toList] at e
    omega
theorem Inv.list_inj (I : Inv X pins σ H s) (h : SqL X.K H a xs) (h' : SqL X.K H a ys) : xs = ys := by
  obtain ⟨its, r, ⟨o, n, e, _, _, d⟩, _⟩ := I.list h
  obtain ⟨its', r', ⟨o', n', e', _, _, d'⟩, _⟩ := I.list h'
  rw [e] at e'; cases e'
  rw [d] at d'
  injection d' with d1 _
  have : its = its' := by simpa using congrArg Array.toList d1
  subst this
  exact r.inj r'
theorem Inv.tuple_inj (I : Inv X pins σ H s) (h : SqT X.K H a xs) (h' : SqT X.K H a ys) : xs = ys := by
  obtain ⟨its, r, ⟨o, e, _, n, d⟩, _⟩ := I.tuple h
  obtain ⟨its', r', ⟨o', e', _, n', d'⟩, _⟩ := I.tuple h'
  rw [e] at e'; cases e'
  rw [d] at d'
  injection d' with d1 _
  have : its = its' := by simpa using congrArg Array.toList d1
  subst this
  exact r.inj r'
end
/-! ### another wish about exceptions -/
abbrev Cx.wish (X : Cx) (E : Value → Shared → Prop) : Cx := { X with xe := E }
/-- no exception leaves -/
abbrev Cx.nox (X : Cx) : Cx := X.wish fun _ _ => False
theorem Cx.Ok.wish {X : Cx} (ok : X.Ok) (E : Value → Shared → Prop) : (X.wish E).Ok :=
  ⟨ok.mod, ok.kind, ok.glob, ok.blt, ok.above, ok.inj, ok.has, ok.cab, ok.hd, ok.frames, ok.stk, ok.exf, ok.bs, ok.bsz, ok.noex, ok.exfs, ok.funs, ok.frf⟩
theorem Cx.Ok.unwish {X : Cx} {E : Value → Shared → Prop} (ok : (X.wish E).Ok) : X.Ok :=
  ⟨ok.mod, ok.kind, ok.glob, ok.blt, ok.above, ok.inj, ok.has, ok.cab, ok.hd, ok.frames, ok.stk, ok.exf, ok.bs, ok.bsz, ok.noex, ok.exfs, ok.funs, ok.frf⟩
section
variable {X : Cx} {pins : List (Addr × Obj)} {σ : St} {H : Hp} {s : Shared} {E : Value → Shared → Prop}
theorem Inv.wish (I : Inv X pins σ H s) (E : Value → Shared → Prop) : Inv (X.wish E) pins σ H s := ⟨I.ok.wish E, I.os, I.bare, I.base, I.loc, I.cell, I.free, I.freeC, I.pin, I.hok, I.len⟩
theorem Inv.unwish (I : Inv (X.wish E) pins σ H s) : Inv X pins σ H s := ⟨I.ok.unwish, I.os, I.bare, I.base, I.loc, I.cell, I.free, I.freeC, I.pin, I.hok, I.len⟩
theorem SP.unwish {D : Ends} {f : Flow} {s' : Shared} (h : SP (X.wish E) pins D f s') : SP X pins D f s' := by
  cases f with
  | next => obtain ⟨σ', H', I, q⟩ := h; exact ⟨σ', H', I.unwish, q⟩
  | brk => obtain ⟨σ', H', I, q⟩ := h; exact ⟨σ', H', I.unwish, q⟩
  | cont => obtain ⟨σ', H', I, q⟩ := h; exact ⟨σ', H', I.unwish, q⟩
  | ret u => obtain ⟨v, σ', H', I, r, q⟩ := h; exact ⟨v, σ', H', I.unwish, r, q⟩
theorem PSs.nox {st : List Stmt} {t : TS} (h : PSs X.nox st t) : PSs X st t := fun pins s σ H D I hw =>
  wpAny_mono (h pins s σ H D (I.wish _) hw) (fun _ _ q => q.unwish) fun _ _ z => False.elim z
end
/-! ### blocks and small statements -/
section
variable {X : Cx} {st : Stmt} {rest : List Stmt} {t u : TS} {e : Expr} {te : TE} {pos : Pos}
def tNext : TS := fun D σ H => D.nx σ H
def tSeq (t u : TS) : TS := fun D σ H => t { D with nx := u D } σ H
theorem pss_nil : PSs X [] tNext := fun _ _ σ H _ I h => wpAny_execs_nil ⟨σ, H, I, h⟩
theorem pss_cons (h1 : PS X st t) (h2 : PSs X rest u) : PSs X (st :: rest) (tSeq t u) := by
  intro pins s σ H D I h
  refine wpAny_execs_cons (thn (h1 pins s σ H { D with nx := u D } I h) fun f s1 q => ?_)
  cases f with
  | next =>
    obtain ⟨σ', H', I', q⟩ := q
    exact h2 pins s1 σ' H' D I' q
  | ret v => exact q
  | brk => exact q
  | cont => exact q
theorem pss_one (h1 : PS X st t) : PSs X [st] t := by
  intro pins s σ H D I h
  refine wpAny_execs_cons (thn (h1 pins s σ H D I h) fun f s1 q => ?_)
  cases f with
  | next => exact wpAny_execs_nil q
  | ret v => exact q
  | brk => exact q
  | cont => exact q
def tBreak : TS := fun D σ H => D.bk σ H
def tCont : TS := fun D σ H => D.ct σ H
/-- in a def's body nothing is shown -/
theorem Inv.quiet {pins : List (Addr × Obj)} {σ : St} {H : Hp} {s : Shared} (I : Inv X pins σ H s) : interactive X.env = false := by simp [interactive, I.ok.kind]
/-- an expression whose value is dropped -/
def tDrop (te : TE) : TS := fun D σ H => te σ H fun _ H1 => D.nx σ H1
theorem ps_expr (he : PE X e te) (hs : swapsWith e none pos.line X.env = pure false := by rfl) : PS X (.Expr e pos) (tDrop te) := by
  intro pins s σ H D I h
  exact wpAny_Expr_any (thn (he pins s σ H _ I h) fun v s1 ⟨x, H1, I1, r1, q1⟩ => ⟨σ, H1, I1, q1⟩) I.quiet hs
def tRet (te : TE) : TS := fun D σ H => te σ H D.rt
theorem ps_ret (he : PE X e te) : PS X (.Return (some e) pos) (tRet te) := by
  intro pins s σ H D I h
  exact wpAny_Return_some (thn (he pins s σ H _ I h) fun v s1 ⟨x, H1, I1, r1, q1⟩ => ⟨x, σ, H1, I1, r1, q1⟩)
def tRetN : TS := fun D _ H => D.rt .non H
def tIfS (c : TT) (t u : TS) : TS := fun D σ H => c σ H fun b H1 => if b = true then t D σ H1 else u D σ H1
theorem ps_if {c : Expr} {a b : List Stmt} {tc : TT} (hc : PT X c tc) (ha : PSs X a t) (hb : PSs X b u) : PS X (.If c a b pos) (tIfS tc t u) := by
  intro pins s σ H D I h
  refine wpAny_If (thn (hc pins s σ H _ I h) fun d s1 ⟨H1, I1, q1⟩ => ?_)
  cases d with
  | true => exact ha pins s1 σ H1 D I1 q1
  | false => exact hb pins s1 σ H1 D I1 q1
/-- code that the proof never comes to -/
def tNever : TS := fun _ _ _ => False
end
/-! ### targets -/
abbrev TG := V → St → Hp → (St → Hp → Prop) → Prop
abbrev TGs := List V → St → Hp → (St → Hp → Prop) → Prop
def PG (X : Cx) (target : Expr) (t : TG) : Prop :=
  ∀ (pins : List (Addr × Obj)) (s : Shared) (σ : St) (H : Hp) (v : V) (u : Value) (Q : St → Hp → Prop), Inv X pins σ H s → RelV v u → t v σ H Q →
    wpAny (model X.prog X.w) X.A (assign target X.env u) (fun _ s' => ∃ σ' H', Inv X pins σ' H' s' ∧ Q σ' H') X.xe s
/-- several targets, one after another -/
def PGs (X : Cx) (ts : List Expr) (t : TGs) : Prop :=
  ∀ (pins : List (Addr × Obj)) (s : Shared) (σ : St) (H : Hp) (vs : List V) (us : List Value) (Q : St → Hp → Prop), Inv X pins σ H s → Vals vs us → t vs σ H Q →
    wpAny (model X.prog X.w) X.A (assignInOrder ((assignEach ts X.env).map (·.2)) us) (fun _ s' => ∃ σ' H', Inv X pins σ' H' s' ∧ Q σ' H') X.xe s
/-- o[i] = v, by values -/
abbrev TSet := V → V → V → Hp → (Hp → Prop) → Prop
def PSet (X : Cx) (t : TSet) : Prop :=
  ∀ (pins : List (Addr × Obj)) (s : Shared) (σ : St) (H : Hp) (o i v : V) (ov iv u : Value) (Q : Hp → Prop), Inv X pins σ H s → RelV o ov → RelV i iv → RelV v u → t o i v H Q →
    wpAny (model X.prog X.w) X.A (setItem ov iv u) (fun _ s' => ∃ H', Inv X pins σ H' s' ∧ Q H') X.xe s
/-- a op= b, by values -/
abbrev TIp := V → V → Hp → VK → Prop
def PIp (X : Cx) (op : Operator) (t : TIp) : Prop :=
  ∀ (pins : List (Addr × Obj)) (s : Shared) (σ : St) (H : Hp) (x y : V) (v u : Value) (Q : VK), Inv X pins σ H s → RelV x v → RelV y u → t x y H Q →
    wpAny (model X.prog X.w) X.A (inplaceOp op v u) (EP X pins σ Q) X.xe s
section
variable {X : Cx} {pos : Pos}
def gName (i : Nat) : TG := fun v σ H Q => Q (σ.set i (some v)) H
theorem pg_name {i : Nat} {x : Str} (hN : X.N.Nodup) (hi : X.N[i]? = some x) (hx : Loc X.env.scope x) (hf : X.fn x = true ∨ X.env.scope.names.lookup x = some .local := by first | exact .inl rfl | exact .inr rfl | assumption) : PG X (.Name x pos) (gName i) := by
  intro pins s σ H v u Q I r h
  exact wpAny_assign_Name (store_ok I hN hi hx r (fun s' I' => ⟨_, H, I', h⟩) hf)
def gNil : TGs := fun vs σ H Q => vs = [] ∧ Q σ H
def gCons (t : TG) (u : TGs) : TGs := fun vs σ H Q => ∃ v r, vs = v :: r ∧ t v σ H fun σ' H' => u r σ' H' Q
theorem pgs_nil : PGs X [] gNil := by
  intro pins s σ H vs us Q I r h
  obtain ⟨e, h⟩ := h
  subst e
  cases r
  exact assignInOrder_nil ⟨σ, H, I, h⟩
theorem pgs_cons {e : Expr} {es : List Expr} {t : TG} {u : TGs} (h1 : PG X e t) (h2 : PGs X es u)
    (hs : (assignEach (e :: es) X.env).map (·.2) = assign e X.env :: (assignEach es X.env).map (·.2) := by rfl) : PGs X (e :: es) (gCons t u) := by
  intro pins s σ H vs us Q I r h
  obtain ⟨v, vr, e1, h⟩ := h
  subst e1
  cases r with
  | cons r rr =>
    rw [hs]
    refine assignInOrder_cons (thn (h1 pins s σ H _ _ _ I r h) fun _ s1 ⟨σ1, H1, I1, q1⟩ => ?_)
    exact h2 pins s1 σ1 H1 _ _ Q I1 rr q1
/-- (a, b, ..) = a tuple of that length -/
def gTup (K : PySem.W.Frag) (n : Nat) (t : TGs) : TG := fun v σ H Q => ∃ a xs, v = .ref a ∧ SqT K H a xs ∧ xs.length = n ∧ t xs σ H Q
theorem pg_tup {es : List Expr} {k : Nat} {t : TGs} {n : Nat} (hc : X.calm = true) (h : PGs X es t)
    (hn : (assignEach es X.env).length = n := by rfl) (hst : (assignEach es X.env).findIdx? (·.1) = none := by rfl) : PG X (.Tuple es k pos) (gTup X.K n t) := by
  intro pins s σ H v u Q I r hw
  obtain ⟨a, xs, e1, hq, hl, hw⟩ := hw
  subst e1
  cases r
  obtain ⟨its, rv, ht, hz⟩ := I.tuple hq
  refine assign_Tuple_tuple (I.ok.hd hc) ht (by simp [hn, ← hl, rv.length]) hst fun h' hx => ?_
  have I1 : Inv X pins σ H { s with heap := h' } := I.kept (t' := s.toks) fun b o e => hx b o (Nat.ne_of_lt (Heap.lt_size e)) e
  exact h pins _ σ H xs _ Q I1 (by simpa using rv) hw
/-- o[i] = .. -/
def gSub (to ti : TE) (t : TSet) : TG := fun v σ H Q => to σ H fun o H1 => ti σ H1 fun i H2 => t o i v H2 fun H3 => Q σ H3
theorem pg_sub {o i : Expr} {to ti : TE} {t : TSet} (ho : PE X o to) (hi : PE X i ti) (hs : PSet X t)
    (ha : ∀ v, assign (.Subscript o i pos) X.env v = (do
      let ov ← holding [v] (eval o X.env)
      let iv ← holding [v, ov] (eval i X.env)
      standAt pos
      holding [v, ov, iv] (setItem ov iv v)
      release [v, ov, iv] []) := by intro _; rfl) : PG X (.Subscript o i pos) (gSub to ti t) := by
  intro pins s σ H v u Q I r h
  rw [ha]
  refine wpAny_bind (wpAny_holding (thn (ho pins s σ H _ I h) fun ov s1 ⟨x, H1, I1, r1, q1⟩ => ?_))
  refine wpAny_bind (wpAny_holding (thn (hi pins s1 σ H1 _ I1 q1) fun iv s2 ⟨y, H2, I2, r2, q2⟩ => ?_))
  refine wpAny_bind (wpAny_standAt (wpAny_bind (wpAny_holding (thn (hs pins s2 σ H2 x y v ov iv u _ I2 r1 r2 r q2) fun _ s3 ⟨H3, I3, q3⟩ => ?_))))
  exact wpAny_release ⟨σ, H3, I3, q3⟩
/-- target = value -/
def tAsg (te : TE) (g : TG) : TS := fun D σ H => te σ H fun x H1 => g x σ H1 D.nx
theorem ps_asg {tg e : Expr} {te : TE} {g : TG} (he : PE X e te) (hg : PG X tg g) (hs : swapsWithSole [tg] e pos.line X.env = pure false := by rfl) (hw : swappedStores [tg] e X.env = pure none := by rfl)
    (h1 : (assignEach [tg] X.env).map (·.2) = [assign tg X.env] := by rfl) : PS X (.Assign [tg] e pos) (tAsg te g) := by
  intro pins s σ H D I h
  refine wpAny_Assign_stores (thn (he pins s σ H _ I h) fun v s1 ⟨x, H1, I1, r1, q1⟩ => ?_) hs hw
  rw [h1]
  exact thn (hg pins s1 σ H1 x v _ I1 r1 q1) fun _ s2 q => q
/-- name = value -/
theorem ps_set {i : Nat} {x : Str} {e : Expr} {te : TE} {pos' : Pos} (hN : X.N.Nodup) (hi : X.N[i]? = some x) (hx : Loc X.env.scope x) (he : PE X e te) (hs : swapsWith e (some (.Name x pos')) pos.line X.env = pure false := by rfl) (hf : X.fn x = true ∨ X.env.scope.names.lookup x = some .local := by first | exact .inl rfl | exact .inr rfl | assumption) :
    PS X (.Assign [.Name x pos'] e pos) (tAsg te (gName i)) := by
  intro pins s σ H D I h
  refine wpAny_Assign_Name (thn (he pins s σ H _ I h) fun v s1 ⟨y, H1, I1, r1, q1⟩ => ?_) hs
  exact store_ok I1 hN hi hx r1 (fun s2 I2 => ⟨_, H1, I2, q1⟩) hf
/-- a, b = x, y with plain local names: stored from the right; the pair itself is not tracked (the opening rows as in PyProof/Rows/TupAssign.lean:23) -/
def tPar (i j : Nat) (ta : TA) : TS := fun D σ H => ta σ H fun vs H1 => ∃ v w, vs = [v, w] ∧ D.nx ((σ.set i (some v)).set j (some w)) H1
/-- name op= e -/
def tAug (i : Nat) (te : TE) (ti : TIp) : TS := fun D σ H => ∃ x, σ[i]? = some (some x) ∧ te σ H fun y H1 => ti x y H1 fun z H2 => D.nx (σ.set i (some z)) H2
/-- o[i] op= e -/
def tAugS (to ti te : TE) (tget : V → V → Hp → VK → Prop) (tip : TIp) (tset : TSet) : TS := fun D σ H => to σ H fun o H1 => ti σ H1 fun i H2 => tget o i H2 fun x H3 => te σ H3 fun y H4 => tip x y H4 fun z H5 => tset o i z H5 fun H6 => D.nx σ H6
/-- o[i], by values -/
def PGet (X : Cx) (t : V → V → Hp → VK → Prop) : Prop :=
  ∀ (pins : List (Addr × Obj)) (s : Shared) (σ : St) (H : Hp) (o i : V) (ov iv : Value) (Q : VK), Inv X pins σ H s → RelV o ov → RelV i iv → t o i H Q →
    wpAny (model X.prog X.w) X.A (getItem ov iv) (EP X pins σ Q) X.xe s
/-- ints -/
def ipI (f : Int → Int → Int) : TIp := fun x y H Q => ∃ i j, x = .int i ∧ y = .int j ∧ Q (.int (f i j)) H
end
/-! ### while -/
section
variable {X : Cx} {pos : Pos}
/-- the invariant W with its measure -/
def tWhile (c : TT) (tb : TS) : TS := fun D σ H => ∃ W : Nat → St → Hp → Prop, (∃ m, W m σ H) ∧ ∀ m σ H, W m σ H →
  c σ H fun b H1 => if b = true then ∃ N : St → Hp → Prop, (∀ σ' H', N σ' H' → ∃ m', m' < m ∧ W m' σ' H') ∧ tb { D with nx := N, ct := N, bk := D.nx } σ H1 else D.nx σ H1
end
/-! ### what a loop or a comprehension walks -/
/-- at turn i: it yields x (the heap may grow), or it stops -/
structure It where
  go : Nat → Hp → Prop
  yld : Nat → Hp → V → Hp → Prop
  stop : Nat → Hp → Prop
/-- the iterator's own objects may turn: they are not the frame's, not pinned, younger than the entry (or a comprehension's own) -/
def FpOk (X : Cx) (pins : List (Addr × Obj)) (H : Hp) (b : Addr) : Prop :=
  H b = none ∧ b ≠ X.env.locals ∧ b ∉ X.fs ∧ (b ∈ X.ex ∨ X.s₀.heap.objs.size ≤ b) ∧ (∀ x c, X.env.cells.lookup x = some c → c ≠ b) ∧ ∀ p ∈ X.pn ++ pins, p.1 ≠ b
theorem Inv.fpOk {X : Cx} {pins : List (Addr × Obj)} {σ : St} {H H' : Hp} {s : Shared} {b : Addr} (I : Inv X pins σ H s) (hb : s.heap.objs.size ≤ b) (hn : H' b = none) : FpOk X pins H' b := by
  refine ⟨hn, Nat.ne_of_gt (Nat.lt_of_lt_of_le I.lt hb), I.nofs hb, .inr (Nat.le_trans I.sz hb), fun x c e z => ?_, fun p hp z => ?_⟩
  · obtain ⟨v, q⟩ := I.cell x c e
    exact absurd (Nat.lt_of_lt_of_le q.lt (by rw [z]; exact hb)) (Nat.lt_irrefl _)
  · exact absurd (Nat.lt_of_lt_of_le (Heap.lt_size (I.pin p hp).1) (by rw [z]; exact hb)) (Nat.lt_irrefl _)
structure Turn (P : Program) (w : World) (K : PySem.W.Frag) (tg : Expr) (J : It) (fp : List Addr) (it : Addr) (tn : Nat → Heap → Prop) : Prop where
  mem : it ∈ fp
  obj : ∀ i h, tn i h → ∀ b ∈ fp, ∃ o, h.get? b = some o ∧ ∀ v, o.data ≠ .cell v
  keep : ∀ i h h', tn i h → (∀ b ∈ fp, ∀ o, h.get? b = some o → h'.get? b = some o) → tn i h'
  item : ∀ (X : Cx), X.prog = P → X.w = w → X.K = K → X.calm = true → ∀ (i : Nat) (pins : List (Addr × Obj)) (s : Shared) (σ : St) (H : Hp) (E : Value → Shared → Prop), Inv X pins σ H s → (∀ b ∈ fp, FpOk X pins H b) → tn i s.heap → J.go i H →
    wpAny (model P w) X.A (pyNext (.ref it)) (fun r s1 => ∃ u, r = some u ∧
      wpAny (model P w) X.A (letOwnedTupleGo tg (.ref it) u) (fun _ s2 => ∃ x H', Inv X pins σ H' s2 ∧ RelV x u ∧ J.yld i H x H' ∧ tn (i + 1) s2.heap ∧ ∀ b ∈ fp, H' b = none) E s1) E s
  done : ∀ (X : Cx), X.prog = P → X.w = w → X.K = K → X.calm = true → ∀ (i : Nat) (pins : List (Addr × Obj)) (s : Shared) (σ : St) (H : Hp) (E : Value → Shared → Prop), Inv X pins σ H s → (∀ b ∈ fp, FpOk X pins H b) → tn i s.heap → J.stop i H →
    wpAny (model P w) X.A (pyNext (.ref it)) (fun r s1 => r = none ∧ Inv X pins σ H s1) E s
  self : ∀ (A : Around) (i : Nat) (s : Shared) (Q : Value → Shared → Prop) (E : Value → Shared → Prop), tn i s.heap → Q (.ref it) s → wpAny (model P w) A (pyIter (.ref it)) Q E s
abbrev TI := St → Hp → (It → Hp → Prop) → Prop
/-- an iterator has come -/
def PIE (X : Cx) (pins : List (Addr × Obj)) (σ : St) (tg : Expr) (R : It → Hp → Prop) (itv : Value) (s2 : Shared) : Prop :=
  ∃ (it : Addr) (fp : List Addr) (tn : Nat → Heap → Prop) (J : It) (H' : Hp), itv = .ref it ∧ Inv X pins σ H' s2 ∧ Turn X.prog X.w X.K tg J fp it tn ∧ tn 0 s2.heap ∧ (∀ b ∈ fp, FpOk X pins H' b) ∧ R J H'
def PI (X : Cx) (tg iter : Expr) (wi : TI) : Prop :=
  ∀ (pins : List (Addr × Obj)) (s : Shared) (σ : St) (H : Hp) (R : It → Hp → Prop), Inv X pins σ H s → wi σ H R →
    wpAny (model X.prog X.w) X.A (eval iter X.env) (fun v s1 => wpAny (model X.prog X.w) X.A (pyIter v) (PIE X pins σ tg R) X.xe s1) X.xe s
/-- the step ahead of the store is nothing for an iterator that keeps no tuple -/
theorem go_of {M : Model} {A : Around} {E : Value → Shared → Prop} {s : Shared} {tg : Expr} {it : Addr} {u : Value} {o : Obj} {n : String} {vs : Array Value} {Q : Unit → Shared → Prop} (ho : s.heap.get? it = some o) (hc : o.cls = .type n) (hd : o.data = .fields vs)
    (hn : ["enumerate", "zip", "dict_itemiterator", "dict_reverseitemiterator", "odict_iterator", "itertools.zip_longest", "itertools.pairwise"].contains n = false) (hQ : Q () s) : wpAny M A (letOwnedTupleGo tg (.ref it) u) Q E s := by
  unfold letOwnedTupleGo
  cases tg <;> first
    | exact wpAny_pure hQ
    | (cases u <;> first
        | exact wpAny_pure hQ
        | (refine wpAny_bind (wpAny_load ho ?_)
           rw [hc, hd]
           show wpAny M A (if (["enumerate", "zip", "dict_itemiterator", "dict_reverseitemiterator", "odict_iterator", "itertools.zip_longest", "itertools.pairwise"].contains n && vs[0]? == some (rawInt _)) = true then _ else _) Q E s
           rw [if_neg (by intro h; rw [hn, Bool.false_and] at h; cases h)]
           exact wpAny_pure hQ))
/-- the list at a, as it stands at each turn (a loop may append to it) -/
def Itl (K : PySem.W.Frag) (a : Addr) : It :=
  ⟨fun i H => ∃ xs x, SqL K H a xs ∧ xs[i]? = some x, fun i H x H' => H' = H ∧ ∀ xs, SqL K H a xs → xs[i]? = some x, fun i H => ∃ xs, SqL K H a xs ∧ xs.length ≤ i⟩
def Itt (K : PySem.W.Frag) (a : Addr) : It :=
  ⟨fun i H => ∃ xs x, SqT K H a xs ∧ xs[i]? = some x, fun i H x H' => H' = H ∧ ∀ xs, SqT K H a xs → xs[i]? = some x, fun i H => ∃ xs, SqT K H a xs ∧ xs.length ≤ i⟩
/-- lo, lo + 1, .. (n of them) -/
def Itr (lo : Int) (n : Nat) : It := ⟨fun i _ => i < n, fun i H x H' => H' = H ∧ x = .int (lo + i), fun i _ => n ≤ i⟩
theorem turn_list {P : Program} {w : World} {K : PySem.W.Frag} {tg : Expr} (a it : Addr) : Turn P w K tg (Itl K a) [it] it (fun i h => h.IsListIter it a i) where
  mem := by simp
  obj := fun i h st b hb => by
    have e : b = it := by simpa using hb
    subst e
    obtain ⟨o, e, c, d⟩ := st
    exact ⟨o, e, fun v z => by rw [d] at z; cases z⟩
  keep := fun i h h' st k => st.at fun o e => k it (by simp) o e
  item := by
    intro X hP hw hK hc i pins s σ H E I hf st hg
    subst hP hw hK
    obtain ⟨xs, x, hq, hx⟩ := hg
    obtain ⟨its, rv, p, hz⟩ := I.list hq
    obtain ⟨u, hu, ru⟩ := rv.get hx
    obtain ⟨f0, f1, f2, f3, f4, f5⟩ := hf it (by simp)
    refine wpAny_pyNext_list_item st p.isList (x := u) (by simpa using hu) fun h' st' sb => ?_
    have I1 : Inv X pins σ H { s with heap := h' } := I.turned (t' := s.toks) (fun b o hb e => (sb.2 b hb).trans e) f0 f1 f3 f4 f5
    obtain ⟨o, e, c, d⟩ := id st'
    exact ⟨u, rfl, go_of (s := { s with heap := h' }) e c d (by decide) ⟨x, H, I1, ru, ⟨rfl, fun ys hy => by rw [I.list_inj hy hq]; exact hx⟩, st', fun b hb => (hf b hb).1⟩⟩
  done := by
    intro X hP hw hK hc i pins s σ H E I hf st hg
    subst hP hw hK
    obtain ⟨xs, hq, hx⟩ := hg
    obtain ⟨its, rv, p, hz⟩ := I.list hq
    obtain ⟨f0, f1, f2, f3, f4, f5⟩ := hf it (by simp)
    have hl := rv.length
    exact wpAny_pyNext_list_end (I.ok.hd hc) st p.isList (by simp; omega) fun h' eb => ⟨rfl, I.turned (t' := s.toks) (fun b o hb e => eb b o hb e) f0 f1 f3 f4 f5⟩
  self := fun _ _ _ _ _ st h => wpAny_pyIter_listiter st h
theorem turn_tuple {P : Program} {w : World} {K : PySem.W.Frag} {tg : Expr} (a it : Addr) : Turn P w K tg (Itt K a) [it] it (fun i h => h.IsTupleIter it a i) where
  mem := by simp
  obj := fun i h st b hb => by
    have e : b = it := by simpa using hb
    subst e
    obtain ⟨o, e, c, d⟩ := st
    exact ⟨o, e, fun v z => by rw [d] at z; cases z⟩
  keep := fun i h h' st k => st.at fun o e => k it (by simp) o e
  item := by
    intro X hP hw hK hc i pins s σ H E I hf st hg
    subst hP hw hK
    obtain ⟨xs, x, hq, hx⟩ := hg
    obtain ⟨its, rv, p, hz⟩ := I.tuple hq
    obtain ⟨u, hu, ru⟩ := rv.get hx
    obtain ⟨f0, f1, f2, f3, f4, f5⟩ := hf it (by simp)
    refine wpAny_pyNext_tuple_item st (show s.heap.IsTuple a its.toArray from p) (x := u) (by simpa using hu) fun h' st' sb => ?_
    have I1 : Inv X pins σ H { s with heap := h' } := I.turned (t' := s.toks) (fun b o hb e => (sb.2 b hb).trans e) f0 f1 f3 f4 f5
    obtain ⟨o, e, c, d⟩ := id st'
    exact ⟨u, rfl, go_of (s := { s with heap := h' }) e c d (by decide) ⟨x, H, I1, ru, ⟨rfl, fun ys hy => by rw [I.tuple_inj hy hq]; exact hx⟩, st', fun b hb => (hf b hb).1⟩⟩
  done := by
    intro X hP hw hK hc i pins s σ H E I hf st hg
    subst hP hw hK
    obtain ⟨xs, hq, hx⟩ := hg
    obtain ⟨its, rv, p, hz⟩ := I.tuple hq
    obtain ⟨f0, f1, f2, f3, f4, f5⟩ := hf it (by simp)
    have hl := rv.length
    exact wpAny_pyNext_tuple_end (I.ok.hd hc) st (show s.heap.IsTuple a its.toArray from p) (by simp; omega) fun h' eb => ⟨rfl, I.turned (t' := s.toks) (fun b o hb e => eb b o hb e) f0 f1 f3 f4 f5⟩
  self := fun _ _ _ _ _ st h => wpAny_pyIter_tupleiter st h
theorem turn_range {P : Program} {w : World} {K : PySem.W.Frag} {tg : Expr} (it : Addr) (lo : Int) (n : Nat) : Turn P w K tg (Itr lo n) [it] it (fun i h => IsRangeIter h it (lo + (i : Nat) * 1) ((n : Int) - (i : Nat)) 1) where
  mem := by simp
  obj := fun i h st b hb => by
    have e : b = it := by simpa using hb
    subst e
    exact ⟨_, st, fun v z => by
      have z' : Data.fields _ = Data.cell v := z
      cases z'⟩
  keep := fun i h h' st k => k it (by simp) _ st
  item := by
    intro X hP hw hK hc i pins s σ H E I hf st hg
    subst hP hw hK
    obtain ⟨f0, f1, f2, f3, f4, f5⟩ := hf it (by simp)
    have W := Walks.range (prog := X.prog) (w := X.w) (I.ok.hd hc) it lo 1 n
    refine W.item i s _ _ hg st fun v h' tk hv st' kk => ?_
    obtain ⟨t, rfl⟩ := hv
    have I1 : Inv X pins σ H { s with heap := h', toks := tk } := I.turned (fun b o hb e => kk b o (by simpa using hb) e) f0 f1 f3 f4 f5
    refine ⟨_, rfl, go_of (s := { s with heap := h', toks := tk }) (n := "range_iterator") st' rfl rfl (by decide) ⟨.int (lo + i), H, I1, ⟨t, ?_⟩, ⟨rfl, rfl⟩, st', fun b hb => (hf b hb).1⟩⟩
    rw [Int.mul_one]
  done := by
    intro X hP hw hK hc i pins s σ H E I hf st hg
    subst hP hw hK
    obtain ⟨f0, f1, f2, f3, f4, f5⟩ := hf it (by simp)
    exact wpAny_pyNext_range_end (I.ok.hd hc) st (by have : n ≤ i := hg; omega) fun h' eb => ⟨rfl, I.turned (t' := s.toks) (fun b o hb e => eb b o hb e) f0 f1 f3 f4 f5⟩
  self := fun _ _ _ _ _ st h => wpAny_pyIter_rangeiter st h
end L2
namespace L2
open PySem PySem.Spec PyProof.Rows
section
variable {X : Cx} {tg : Expr}
def iList (K : PySem.W.Frag) (tl : TE) : TI := fun σ H R => tl σ H fun x H1 => ∃ a, x = .ref a ∧ (∃ xs, SqL K H1 a xs) ∧ R (Itl K a) H1
def iTup (K : PySem.W.Frag) (tl : TE) : TI := fun σ H R => tl σ H fun x H1 => ∃ a, x = .ref a ∧ (∃ xs, SqT K H1 a xs) ∧ R (Itt K a) H1
/-- a range object just made, walked -/
theorem range_it {pins : List (Addr × Obj)} {σ : St} {H : Hp} {s : Shared} {R : It → Hp → Prop} {E : Value → Shared → Prop} {lo hi : Int} {t u v : Tok} {tk : Nat} (I : Inv X pins σ H s) (h1 : -(2 ^ 62) ≤ lo) (h2 : lo < 2 ^ 62) (h3 : -(2 ^ 62) ≤ hi) (h4 : hi < 2 ^ 62)
    (q : R (Itr lo (hi - lo).toNat) H) : wpAny (model X.prog X.w) X.A (pyIter (.ref s.heap.objs.size)) (PIE X pins σ tg R) E { s with heap := s.heap.push { cls := .type "range", data := .fields #[.int lo t, .int hi u, .int 1 v] }, toks := tk } := by
  refine wpAny_pyIter_range (IsRange.new ..) (small_one h1 h2 h3 h4) ?_
  have I1 : Inv X pins σ H { s with heap := s.heap.push { cls := .type "range", data := .fields #[.int lo t, .int hi u, .int 1 v] }, toks := tk } := I.kept fun b o e => Heap.get?_push_of_some _ e
  refine ⟨(s.heap.push { cls := .type "range", data := .fields #[.int lo t, .int hi u, .int 1 v] }).objs.size, [(s.heap.push { cls := .type "range", data := .fields #[.int lo t, .int hi u, .int 1 v] }).objs.size], _, _, H, rfl,
    I1.kept (t' := tk) fun b o e => Heap.get?_push_of_some _ e, turn_range _ lo (hi - lo).toNat, ?_, fun b hb => ?_, q⟩
  · have e1 : lo + ((0 : Nat) : Int) * 1 = lo := by simp
    have e2 : (((hi - lo).toNat : Nat) : Int) - ((0 : Nat) : Int) = Builtin.Range.rangeSize lo hi 1 := by rw [rangeSize_one]; split <;> omega
    show IsRangeIter _ _ (lo + ((0 : Nat) : Int) * 1) ((((hi - lo).toNat : Nat) : Int) - ((0 : Nat) : Int)) 1
    rw [e1, e2]
    exact Heap.get?_push_size _ rfl
  · have e : b = (s.heap.push { cls := .type "range", data := .fields #[.int lo t, .int hi u, .int 1 v] }).objs.size := by simpa using hb
    subst e
    exact I1.fpOk (Nat.le_refl _) (I1.hok.fresh (Nat.le_refl _))
def iRng1 (ta : TA) : TI := fun σ H R => ta σ H fun vs H1 => ∃ j : Int, vs = [.int j] ∧ -(2 ^ 62) ≤ j ∧ j < 2 ^ 62 ∧ R (Itr 0 j.toNat) H1
def iRng2 (ta : TA) : TI := fun σ H R => ta σ H fun vs H1 => ∃ i j : Int, vs = [.int i, .int j] ∧ (-(2 ^ 62) ≤ i ∧ i < 2 ^ 62 ∧ -(2 ^ 62) ≤ j ∧ j < 2 ^ 62) ∧ R (Itr i (j - i).toNat) H1
theorem pi_range1 {a : Expr} {ta : TA} {p pos : Pos} (hg : Gl X "range") (hm : X.mg "range" = none) (ha : PA X [a] ta) (hs : starEach [a] X.env = [(false, eval a X.env)] := by rfl) : PI X tg (.Call (.Name "range" p) [a] [] pos) (iRng1 ta) := by
  intro pins s σ H R I h
  refine Call_ (ld_blt I hg hm boot_range (PyProof.Rows.callWith_type1 (thn (ha pos pins s σ H _ I h) fun us s1 ⟨vs, H1, I1, r1, q1⟩ => ?_) hs rfl))
  obtain ⟨j, e, q1, q2, q⟩ := q1
  subst e
  cases r1 with
  | cons r rr =>
    cases rr
    obtain ⟨t, rfl⟩ := r
    exact call_range_1 (range_it I1 (by omega) (by omega) q1 q2 (by simpa using q))
/-! ### for -/
/-- W: the invariant by the turn and a measure; N: what the body is to reach -/
def tFor (wi : TI) (g : TG) (tb : TS) : TS := fun D σ H => wi σ H fun J H1 => ∃ W : Nat → Nat → St → Hp → Prop, (∃ m, W 0 m σ H1) ∧ ∀ i m σ H, W i m σ H →
  (J.stop i H ∧ D.nx σ H) ∨ (J.go i H ∧ ∃ N : St → Hp → Prop, (∀ σ' H', N σ' H' → ∃ m', m' < m ∧ W (i + 1) m' σ' H') ∧ ∀ x H', J.yld i H x H' → g x σ H' fun σ2 H2 => tb { D with nx := N, ct := N, bk := D.nx } σ2 H2)
/-- the records at fp as they stand -/
def pinsAt (fp : List Addr) (h : Heap) : List (Addr × Obj) := fp.filterMap fun b => (h.get? b).map fun o => (b, o)
theorem mem_pinsAt {fp : List Addr} {h : Heap} {b : Addr} {o : Obj} (hb : b ∈ fp) (e : h.get? b = some o) : (b, o) ∈ pinsAt fp h := List.mem_filterMap.mpr ⟨b, hb, by rw [e]; rfl⟩
theorem of_pinsAt {fp : List Addr} {h : Heap} {p : Addr × Obj} (hp : p ∈ pinsAt fp h) : p.1 ∈ fp ∧ h.get? p.1 = some p.2 := by
  obtain ⟨b, hb, e⟩ := List.mem_filterMap.mp hp
  cases q : h.get? b with
  | none => rw [q] at e; cases e
  | some o =>
    rw [q] at e
    have e' : (b, o) = p := Option.some.inj e
    subst e'
    exact ⟨hb, q⟩
theorem Inv.pinned {pins : List (Addr × Obj)} {σ : St} {H : Hp} {s : Shared} {fp : List Addr} (I : Inv X pins σ H s) (hf : ∀ b ∈ fp, FpOk X pins H b) (ho : ∀ b ∈ fp, ∃ o, s.heap.get? b = some o ∧ ∀ v, o.data ≠ .cell v) : Inv X (pins ++ pinsAt fp s.heap) σ H s :=
  I.pins_of fun p hp => (List.mem_append.mp hp).elim (fun z => I.pin p (List.mem_append_right _ z)) fun z => by
    obtain ⟨hb, e⟩ := of_pinsAt z
    obtain ⟨f0, f1, f2, _⟩ := hf p.1 hb
    obtain ⟨o, e', d⟩ := ho p.1 hb
    rw [e] at e'; cases e'
    exact ⟨e, f0, f1, f2, d⟩
theorem Inv.unpinned {pins pl : List (Addr × Obj)} {σ : St} {H : Hp} {s : Shared} (I : Inv X (pins ++ pl) σ H s) : Inv X pins σ H s := I.pins_of fun p hp => I.pin p (List.mem_append_right _ (List.mem_append_left _ hp))
theorem ps_for {iter : Expr} {body : List Stmt} {wi : TI} {g : TG} {tb : TS} {pos : Pos} (hp : PassesOwn (model X.prog X.w) X.A X.env X.xe) (hc : X.calm = true) (hi : PI X tg iter wi) (hg : PG X tg g) (hb : PSs X body tb)
    (hs : ∀ x, foldedSetIterable iter X.env x = pure x := by intro _; rfl) : PS X (.For tg iter body [] pos) (tFor wi g tb) := by
  intro pins s σ H D I h
  refine wpAny_For (thn (hi pins s σ H _ I h) fun v s1 h1 => thn h1 fun itv s2 h2 => ?_) hs
  obtain ⟨it, fp, tn, J, H2, e, I2, T, st2, f2, W, ⟨m0, w0⟩, turn⟩ := h2
  subst e
  -- what stays true of the iterator's objects through the loop
  have stat : ∀ {H' : Hp}, (∀ b ∈ fp, H' b = none) → ∀ b ∈ fp, FpOk X pins H' b := fun hn b hb => ⟨hn b hb, (f2 b hb).2⟩
  refine codeAny_forLoop_any (fun n s' => ∃ i σ' H', Inv X pins σ' H' s' ∧ tn i s'.heap ∧ (∀ b ∈ fp, H' b = none) ∧ W i n σ' H') ?_ m0 ⟨0, σ, H2, I2, st2, fun b hb => (f2 b hb).1, w0⟩
  rintro n s3 ⟨i, σ3, H3, I3, st3, fr3, w3⟩
  rcases turn i n σ3 H3 w3 with ⟨stop, qn⟩ | ⟨go, N, hN, step⟩
  · refine wpAny_passesOwn hp (thn (T.done X rfl rfl rfl hc i pins s3 σ3 H3 X.xe I3 (stat fr3) st3 stop) fun r s4 ⟨hr, I4⟩ => ?_)
    subst hr
    exact wpAny_execs_nil ⟨σ3, H3, I4, qn⟩
  · refine wpAny_passesOwn hp (thn (T.item X rfl rfl rfl hc i pins s3 σ3 H3 X.xe I3 (stat fr3) st3 go) fun r s4 ⟨u, hr, h4⟩ => ?_)
    subst hr
    refine wpAny_passesOwn hp (thn h4 fun _ s5 ⟨x, H5, I5, r5, y5, st5, fr5⟩ => ?_)
    have I5' := I5.pinned (stat fr5) (T.obj _ _ st5)
    refine wpAny_passesOwn hp (thn (hg _ s5 σ3 H5 x u _ I5' r5 (step x H5 y5)) fun _ s6 ⟨σ6, H6, I6, q6⟩ => ?_)
    refine wpAny_passesOwn hp (thn (hb _ s6 σ6 H6 _ I6 q6) fun f s7 q7 => ?_)
    have again : ∀ {σ7 : St} {H7 : Hp}, Inv X (pins ++ pinsAt fp s5.heap) σ7 H7 s7 → N σ7 H7 → ∃ m, m < n ∧ ∃ i σ' H', Inv X pins σ' H' s7 ∧ tn i s7.heap ∧ (∀ b ∈ fp, H' b = none) ∧ W i m σ' H' := fun {σ7 H7} I7 n7 => by
      obtain ⟨m', hm, w7⟩ := hN σ7 H7 n7
      refine ⟨m', hm, i + 1, σ7, H7, I7.unpinned, T.keep _ _ _ st5 fun b hb o e => (I7.pin (b, o) (List.mem_append_right _ (List.mem_append_right _ (mem_pinsAt hb e)))).1, fun b hb => ?_, w7⟩
      obtain ⟨o, e, d⟩ := T.obj _ _ st5 b hb
      exact (I7.pin (b, o) (List.mem_append_right _ (List.mem_append_right _ (mem_pinsAt hb e)))).2.1
    cases f with
    | next => obtain ⟨σ7, H7, I7, n7⟩ := q7; exact again I7 n7
    | cont => obtain ⟨σ7, H7, I7, n7⟩ := q7; exact again I7 n7
    | brk => obtain ⟨σ7, H7, I7, q7⟩ := q7; exact ⟨σ7, H7, I7.unpinned, q7⟩
    | ret v => obtain ⟨x7, σ7, H7, I7, r7, q7⟩ := q7; exact ⟨x7, σ7, H7, I7.unpinned, r7, q7⟩
end
/-! ### the forms one uses -/
end L2
namespace L2
open PySem PySem.Spec PyProof.Rows
abbrev R2 := V → V → Hp → VK → Prop
/-- a two-place operation on values: f is binaryOp op, inplaceOp op or compareOp op -/
def OpR (X : Cx) (f : Value → Value → Sem Value) (r : R2) : Prop :=
  ∀ (pins : List (Addr × Obj)) (s : Shared) (σ : St) (H : Hp) (x y : V) (v u : Value) (Q : VK), Inv X pins σ H s → RelV x v → RelV y u → r x y H Q →
    wpAny (model X.prog X.w) X.A (f v u) (EP X pins σ Q) X.xe s
/-- a one-place operation -/
def UnR (X : Cx) (f : Value → Sem Value) (r : V → Hp → VK → Prop) : Prop :=
  ∀ (pins : List (Addr × Obj)) (s : Shared) (σ : St) (H : Hp) (x : V) (v : Value) (Q : VK), Inv X pins σ H s → RelV x v → r x H Q →
    wpAny (model X.prog X.w) X.A (f v) (EP X pins σ Q) X.xe s
/-- a call of a value that is known (a builtin, a type) with values -/
def CallR (X : Cx) (f : Value) (r : List V → Hp → VK → Prop) : Prop :=
  ∀ (pins : List (Addr × Obj)) (s : Shared) (σ : St) (H : Hp) (xs : List V) (us : List Value) (Q : VK), Inv X pins σ H s → Vals xs us → r xs H Q →
    wpAny (model X.prog X.w) X.A (call f us) (EP X pins σ Q) X.xe s
/-- a value's truth -/
def TruR (X : Cx) (r : V → Hp → (Bool → Hp → Prop) → Prop) : Prop :=
  ∀ (pins : List (Addr × Obj)) (s : Shared) (σ : St) (H : Hp) (x : V) (v : Value) (Q : Bool → Hp → Prop), Inv X pins σ H s → RelV x v → r x H Q →
    wpAny (model X.prog X.w) X.A (truthy v) (TP X pins σ Q) X.xe s
def tOp (r : R2) (ta tb : TE) : TE := fun σ H Q => ta σ H fun x H1 => tb σ H1 fun y H2 => r x y H2 Q
def tUn (r : V → Hp → VK → Prop) (ta : TE) : TE := fun σ H Q => ta σ H fun x H1 => r x H1 Q
/-- ints in, under C, and a value out -/
def rI (C : Int → Int → Prop) (g : Int → Int → V) : R2 := fun x y H Q => ∃ i j, x = .int i ∧ y = .int j ∧ C i j ∧ Q (g i j) H
def rI0 (g : Int → Int → V) : R2 := fun x y H Q => ∃ i j, x = .int i ∧ y = .int j ∧ Q (g i j) H
def rU (g : Int → V) : V → Hp → VK → Prop := fun x H Q => ∃ i, x = .int i ∧ Q (g i) H
section
variable {X : Cx} {a b c : Expr} {ta tb tc : TE} {pos : Pos}
theorem binT (ha : PE X a ta) (hb : PE X b tb) {pins : List (Addr × Obj)} {s : Shared} {σ : St} {H : Hp} {R : V → V → Hp → Prop} (I : Inv X pins σ H s)
    (h : ta σ H fun x H1 => tb σ H1 fun y H2 => R x y H2) {Q : Value → Shared → Prop} {f : Value → Value → Sem Value}
    (hf : ∀ v u s2 x y H2, Inv X pins σ H2 s2 → RelV x v → RelV y u → R x y H2 → wpAny (model X.prog X.w) X.A (f v u) Q X.xe s2) :
    wpAny (model X.prog X.w) X.A (eval a X.env) (fun v s₁ => wpAny (model X.prog X.w) X.A (eval b X.env) (fun u s₂ => wpAny (model X.prog X.w) X.A (f v u) Q X.xe s₂) X.xe s₁) X.xe s := by
  refine thn (ha pins s σ H _ I h) fun v s1 ⟨x, H1, I1, r1, q1⟩ => ?_
  refine thn (hb pins s1 σ H1 _ I1 q1) fun u s2 ⟨y, H2, I2, r2, q2⟩ => ?_
  exact hf v u s2 x y H2 I2 r1 r2 q2
theorem pe_op {op : Operator} {r : R2} (ho : OpR X (binaryOp op) r) (ha : PE X a ta) (hb : PE X b tb) : PE X (.BinOp a op b pos) (tOp r ta tb) := by
  intro pins s σ H Q I h
  exact wpAny_BinOp (binT ha hb I h fun v u s2 x y H2 I2 rx ry q => ho pins s2 σ H2 x y v u Q I2 rx ry q)
theorem pe_un {op : UnaryOp} {r : V → Hp → VK → Prop} (ho : UnR X (unaryOp op) r) (ha : PE X a ta) : PE X (.UnaryOp op a pos) (tUn r ta) := by
  intro pins s σ H Q I h
  exact UnaryOp_ (thn (ha pins s σ H _ I h) fun v s1 ⟨x, H1, I1, r1, q1⟩ => ho pins s1 σ H1 x v Q I1 r1 q1)
/-! ### ints -/
theorem opI {f : Value → Value → Sem Value} {C : Int → Int → Prop} {g : Int → Int → Int}
    (rule : ∀ (i j : Int) (t u : Tok) (s : Shared) (Q : Value → Shared → Prop) (E : Value → Shared → Prop), C i j → Q (.int (g i j) s.toks) { s with toks := s.toks + 1 } → wpAny (model X.prog X.w) X.A (f (.int i t) (.int j u)) Q E s) :
    OpR X f (rI C fun i j => .int (g i j)) := by
  intro pins s σ H x y v u Q I rx ry h
  obtain ⟨i, j, rfl, rfl, hc, q⟩ := h
  obtain ⟨t, rfl⟩ := rx
  obtain ⟨t', rfl⟩ := ry
  exact rule i j t t' s _ _ hc ⟨.int (g i j), H, I.tok _, ⟨_, rfl⟩, q⟩
theorem opI0 {f : Value → Value → Sem Value} {g : Int → Int → Int}
    (rule : ∀ (i j : Int) (t u : Tok) (s : Shared) (Q : Value → Shared → Prop) (E : Value → Shared → Prop), Q (.int (g i j) s.toks) { s with toks := s.toks + 1 } → wpAny (model X.prog X.w) X.A (f (.int i t) (.int j u)) Q E s) :
    OpR X f (rI0 fun i j => .int (g i j)) := by
  intro pins s σ H x y v u Q I rx ry h
  obtain ⟨i, j, rfl, rfl, q⟩ := h
  obtain ⟨t, rfl⟩ := rx
  obtain ⟨t', rfl⟩ := ry
  exact rule i j t t' s _ _ ⟨.int (g i j), H, I.tok _, ⟨_, rfl⟩, q⟩
theorem opB0 {f : Value → Value → Sem Value} {g : Int → Int → Bool}
    (rule : ∀ (i j : Int) (t u : Tok) (s : Shared) (Q : Value → Shared → Prop) (E : Value → Shared → Prop), Q (.bool (g i j)) s → wpAny (model X.prog X.w) X.A (f (.int i t) (.int j u)) Q E s) :
    OpR X f (rI0 fun i j => .bl (g i j)) := by
  intro pins s σ H x y v u Q I rx ry h
  obtain ⟨i, j, rfl, rfl, q⟩ := h
  obtain ⟨t, rfl⟩ := rx
  obtain ⟨t', rfl⟩ := ry
  exact rule i j t t' s _ _ ⟨.bl (g i j), H, I, rfl, q⟩
def CDiv (i j : Int) : Prop := 0 < j ∧ j < 1073741824
def CDivN (i j : Int) : Prop := j ≠ 0 ∧ j.natAbs < 1073741824
def CPow (i j : Int) : Prop := 0 ≤ j ∧ j ≤ 1000000 ∧ i.natAbs < 2 ^ 64
def CMul (i j : Int) : Prop := (-(2 ^ 64) < i ∧ i < 2 ^ 64) ∨ (-(2 ^ 64) < j ∧ j < 2 ^ 64)
theorem CMul.ok {i j : Int} (h : CMul i j) : IntMulOk i j := by
  rcases h with ⟨h1, h2⟩ | ⟨h1, h2⟩
  · exact .of_left (intBits_le_64 h1 h2)
  · exact .of_right (intBits_le_64 h1 h2)
theorem op_add : OpR X (binaryOp .Add) (rI0 fun i j => .int (i + j)) := opI0 fun _ _ _ _ _ _ _ q => add_int q
theorem op_sub : OpR X (binaryOp .Sub) (rI0 fun i j => .int (i - j)) := opI0 fun _ _ _ _ _ _ _ q => sub_int q
theorem op_mul : OpR X (binaryOp .Mult) (rI CMul fun i j => .int (i * j)) := opI fun _ _ _ _ _ _ _ hc q => mul_int q hc.ok
/-- // by a positive divisor -/
theorem op_fdiv : OpR X (binaryOp .FloorDiv) (rI CDiv fun i j => .int (i / j)) := opI fun i j _ _ _ _ _ hc q => by
  have h1 : (0 : Int) < j := hc.1
  have h2 : j < 1073741824 := hc.2
  exact floordiv_int (by omega) (by rw [Int.fdiv_eq_ediv_of_nonneg i (by omega)]; exact q) (.inl (PyProof.noPylong_small (by omega)))
/-- % by a positive divisor of any size -/
theorem op_mod : OpR X (binaryOp .Mod) (rI (fun _ j => 0 < j) fun i j => .int (i % j)) := opI fun i j _ _ _ _ _ hc q => by
  have h1 : (0 : Int) < j := hc
  exact mod_int' (by omega) (by rw [Int.fmod_eq_emod_of_nonneg i (by omega)]; exact q)
theorem op_pow : OpR X (binaryOp .Pow) (rI CPow fun i j => .int (i ^ j.toNat)) := opI fun _ _ _ _ _ _ _ hc q => pow_int_small hc.1 hc.2.1 hc.2.2 q
theorem unI {f : Value → Sem Value} {g : Int → Int}
    (rule : ∀ (i : Int) (t : Tok) (s : Shared) (Q : Value → Shared → Prop) (E : Value → Shared → Prop), Q (.int (g i) s.toks) { s with toks := s.toks + 1 } → wpAny (model X.prog X.w) X.A (f (.int i t)) Q E s) :
    UnR X f (rU fun i => .int (g i)) := by
  intro pins s σ H x v Q I rx h
  obtain ⟨i, rfl, q⟩ := h
  obtain ⟨t, rfl⟩ := rx
  exact rule i t s _ _ ⟨.int (g i), H, I.tok _, ⟨_, rfl⟩, q⟩
theorem un_neg : UnR X (unaryOp .USub) (rU fun i => .int (-i)) := unI fun _ _ _ _ _ q => neg_int q
/-! ### bools among ints: n += (a < b) -/
end
/-! ### comparisons -/
/-- the scalars that == tells apart as data does -/
def scal : V → V → Bool
  | .non, .non => true | .non, .int _ => true | .int _, .non => true | .non, .bl _ => true | .bl _, .non => true | .non, .str _ => true | .str _, .non => true
  | .int _, .int _ => true | .bl _, .bl _ => true | .str _, .str _ => true | .byt _, .byt _ => true
  | .int _, .str _ => true | .str _, .int _ => true | .bl _, .str _ => true | .str _, .bl _ => true
  | _, _ => false
def rEq : R2 := fun x y H Q => scal x y = true ∧ Q (.bl (decide (x = y))) H
def rNe : R2 := fun x y H Q => scal x y = true ∧ Q (.bl (!decide (x = y))) H
section
variable {X : Cx} {a b c : Expr} {ta tb tc : TE} {pos : Pos}
theorem fin_bl {pins : List (Addr × Obj)} {σ : St} {H : Hp} {s : Shared} {Q : VK} {k k' : Bool} (I : Inv X pins σ H s) (q : Q (.bl k) H) (e : k = k') : EP X pins σ Q (.bool k') s := by
  subst e
  exact ⟨.bl k, H, I, rfl, q⟩
theorem op_le : OpR X (compareOp .LtE) (rI0 fun i j => .bl (decide (i ≤ j))) := opB0 fun _ _ _ _ _ _ _ q => le_int q
theorem op_gt : OpR X (compareOp .Gt) (rI0 fun i j => .bl (decide (j < i))) := opB0 fun _ _ _ _ _ _ _ q => gt_int q
/-- is None, is not None: the right side a value none -/
theorem op_isN : OpR X (compareOp .Is) (fun x y H Q => y = .non ∧ Q (.bl (decide (x = .non))) H) := by
  intro pins s σ H x y v u Q I rx ry h
  obtain ⟨rfl, q⟩ := h
  cases ry
  refine is_none_gen (fin_bl I q ?_)
  cases x <;> first
    | (cases rx; rfl)
    | (obtain ⟨t, rfl⟩ := rx; rfl)
theorem op_notN : OpR X (compareOp .IsNot) (fun x y H Q => y = .non ∧ Q (.bl (!decide (x = .non))) H) := by
  intro pins s σ H x y v u Q I rx ry h
  obtain ⟨rfl, q⟩ := h
  cases ry
  refine isnot_none_gen (fin_bl I q ?_)
  cases x <;> first
    | (cases rx; rfl)
    | (obtain ⟨t, rfl⟩ := rx; rfl)
/-- is, is not of two objects that are tracked lists or instances -/
def isObj : HO → Bool
  | .lst _ => true
  | .ins _ _ _ => true
  | _ => false
/-- two rules for one operation: by cases -/
theorem OpR.or {f : Value → Value → Sem Value} {r r' : R2} (h : OpR X f r) (h' : OpR X f r') : OpR X f (fun x y H Q => r x y H Q ∨ r' x y H Q) := by
  intro pins s σ H x y v u Q I rx ry q
  rcases q with q | q
  · exact h pins s σ H x y v u Q I rx ry q
  · exact h' pins s σ H x y v u Q I rx ry q
theorem nomark (b : Expr) {op : CmpOp} (h : op ≠ .In := by decide) (h2 : op ≠ .NotIn := by decide) : behindInMarks op b = false := by
  have e1 : (op == CmpOp.In) = false := by cases op <;> first | rfl | exact absurd rfl h
  have e2 : (op == CmpOp.NotIn) = false := by cases op <;> first | rfl | exact absurd rfl h2
  cases b <;> simp [behindInMarks, e1, e2]
/-- a comparison as a value; hm: nomark b, or (for in, not in) by with_unfolding_all rfl -/
theorem pe_cmpR {op : CmpOp} {r : R2} (ho : OpR X (compareOp op) r) (ha : PE X a ta) (hb : PE X b tb) (hm : behindInMarks op b = false) : PE X (.Compare a [op] [b] pos) (tOp r ta tb) := by
  intro pins s σ H Q I h
  exact wpAny_Compare1 (binT ha hb I h fun v u s2 x y H2 I2 rx ry q => ho pins s2 σ H2 x y v u Q I2 rx ry q) hm
/-- a reading of a value as a test -/
def tTest (t : TE) : TT := fun σ H Q => t σ H fun x H' => ∃ k, x = .bl k ∧ Q k H'
theorem pt_cmpR {op : CmpOp} {r : R2} (ho : OpR X (compareOp op) r) (ha : PE X a ta) (hb : PE X b tb) (hm : behindInMarks op b = false) : PT X (.Compare a [op] [b] pos) (tTest (tOp r ta tb)) := by
  intro pins s σ H Q I h
  refine wpAny_isTrue_Compare1 (thn (ha pins s σ H _ I h) fun v s1 ⟨x, H1, I1, r1, q1⟩ => thn (hb pins s1 σ H1 _ I1 q1) fun u s2 ⟨y, H2, I2, r2, q2⟩ =>
    thn (ho pins s2 σ H2 x y v u _ I2 r1 r2 q2) fun c s3 ⟨z, H3, I3, r3, k, e, q3⟩ => ?_) hm
  subst e
  cases r3
  exact wpAny_truthy_bool ⟨H3, I3, q3⟩
/-- a op1 b op2 c -/
def tChain (r r' : R2) (ta tb tc : TE) : TE := fun σ H Q => ta σ H fun x H1 => tb σ H1 fun y H2 => r x y H2 fun z H3 => ∃ k, z = .bl k ∧
  (if k = true then tc σ H3 fun w' H4 => r' y w' H4 Q else Q (.bl false) H3)
/-! ### truth -/
/-- a value's truth by the abstract heap -/
def TruV (K : PySem.W.Frag) (x : V) (H : Hp) (k : Bool) : Prop :=
  match x with
  | .non => k = false
  | .bl b => k = b
  | .int i => k = (i != 0)
  | .str y => y.length ≤ sizeLine ∧ k = ((y.length : Int) != 0)
  | .byt y => y.size ≤ sizeLine ∧ k = ((y.size : Int) != 0)
  | .ref p => (∃ xs, SqL K H p xs ∧ k = !xs.isEmpty) ∨ (∃ xs, SqT K H p xs ∧ k = !xs.isEmpty) ∨ ∃ kvs, H p = some (.dK kvs) ∧ k = !kvs.isEmpty
  | _ => False
theorem isEmpty_kv {κ : Type} {kvs : List (κ × V)} {vs : List (κ × Value)} (r : KV kvs vs) : (!vs.isEmpty) = !kvs.isEmpty := by
  cases r <;> rfl
theorem isEmpty_of {xs : List V} {its : List Value} (r : Vals xs its) : (!its.toArray.isEmpty) = !xs.isEmpty := by
  cases r <;> simp
theorem line63 : (sizeLine : Nat) < 2 ^ 63 := by rw [sizeLine_eq]; decide
theorem tru_ok : TruR X (fun x H Q => ∃ k, TruV X.K x H k ∧ Q k H) := by
  intro pins s σ H x v Q I rx h
  obtain ⟨k, e, q⟩ := h
  have hl := line63
  have hs : sizeLine = 16777216 := sizeLine_eq
  cases x with
  | non =>
    cases rx
    have e' : k = false := e
    subst e'
    exact truthy_none ⟨H, I, q⟩
  | bl b =>
    cases rx
    have e' : k = b := e
    subst e'
    exact wpAny_truthy_bool ⟨H, I, q⟩
  | int i =>
    obtain ⟨t, rfl⟩ := rx
    have e' : k = (i != 0) := e
    subst e'
    exact PySem.P.truthy_int ⟨H, I, q⟩
  | str y =>
    obtain ⟨t, rfl⟩ := rx
    obtain ⟨hy, e'⟩ : y.length ≤ sizeLine ∧ k = ((y.length : Int) != 0) := e
    subst e'
    exact PySem.P.truthy_str (by omega) ⟨H, I.tok _, q⟩
  | byt y =>
    obtain ⟨t, rfl⟩ := rx
    obtain ⟨hy, e'⟩ : y.size ≤ sizeLine ∧ k = ((y.size : Int) != 0) := e
    subst e'
    exact PySem.W.truthy_bytes (by omega) ⟨H, I.tok _, q⟩
  | ref p =>
    cases rx
    have e' : (∃ xs, SqL X.K H p xs ∧ k = !xs.isEmpty) ∨ (∃ xs, SqT X.K H p xs ∧ k = !xs.isEmpty) ∨ ∃ kvs, H p = some (.dK kvs) ∧ k = !kvs.isEmpty := e
    rcases e' with ⟨xs, hx, e'⟩ | ⟨xs, hx, e'⟩ | ⟨kvs, hx, e'⟩
    · subst e'
      obtain ⟨its, r, pl, hz⟩ := I.list hx
      have hlen := r.length
      exact wpAny_truthy_list pl.isList (by simp only [List.size_toArray]; omega) ⟨H, I.tok _, by rw [isEmpty_of r]; exact q⟩
    · subst e'
      obtain ⟨its, r, pl, hz⟩ := I.tuple hx
      have hlen := r.length
      exact truthy_tuple pl (by simp only [List.size_toArray]; omega) ⟨H, I.tok _, by rw [isEmpty_of r]; exact q⟩
    · subst e'
      obtain ⟨hz, hS, vs, r, m⟩ : kvs.length ≤ sizeLine ∧ (p == sysModules) = false ∧ ∃ vs, KV kvs vs ∧ s.heap.DictOf (mixKind X.prog X.w) p vs := I.hok p _ hx
      have hlen : kvs.length = vs.length := Paired.length r
      exact wpAny_truthy_dict hS m (by omega) ⟨H, I.tok _, by rw [isEmpty_kv r]; exact q⟩
  | _ => exact (show False from e).elim
/-- any expression whose test is its value's truth (a name, a call, a subscript, a field ..: he by fun _ => rfl) -/
theorem pt_truth (ha : PE X a ta) (he : ∀ whole, isTrue a X.env whole = (do let v ← whole; standAt a.pos; holding [v] (truthy v))) :
    PT X a (fun σ H Q => ta σ H fun x H' => ∃ k, TruV X.K x H' k ∧ Q k H') := by
  intro pins s σ H Q I h
  exact isTrue_plain (thn (ha pins s σ H _ I h) fun v s1 ⟨x, H1, I1, r1, q1⟩ => tru_ok pins s1 σ H1 x v Q I1 r1 q1) (he _)
/-! ### strs and bytes -/
theorem op_add_str : OpR X (binaryOp .Add) (fun x y H Q => ∃ i j, x = .str i ∧ y = .str j ∧ i.length + j.length ≤ sizeLine ∧ Q (.str (i ++ j)) H) := by
  intro pins s σ H x y v u Q I rx ry h
  obtain ⟨i, j, rfl, rfl, hz, q⟩ := h
  obtain ⟨t, rfl⟩ := rx
  obtain ⟨t', rfl⟩ := ry
  exact add_str (fun t' tk => ⟨.str (i ++ j), H, I.tok _, ⟨_, rfl⟩, q⟩) hz
def PlainIxT (b : Expr) : Prop := ∀ o i, subscripted b false o i = operate [o, i] (getItem o i)
/-! ### scalar builtins, by CallR -/
theorem vals1 {x : V} {us : List Value} (r : Vals [x] us) : ∃ u, us = [u] ∧ RelV x u := by
  cases r with
  | cons r1 r2 => cases r2; exact ⟨_, rfl, r1⟩
theorem vals2 {x y : V} {us : List Value} (r : Vals [x, y] us) : ∃ u w', us = [u, w'] ∧ RelV x u ∧ RelV y w' := by
  cases r with
  | cons r1 r2 =>
    cases r2 with
    | cons r3 r4 => cases r4; exact ⟨_, _, rfl, r1, r3⟩
theorem call_max2 (hc : X.calm = true) : CallR X (.builtin "max") (fun xs H Q => ∃ i j, xs = [.int i, .int j] ∧ Q (.int (if j > i then j else i)) H) := by
  intro pins s σ H xs us Q I r h
  obtain ⟨i, j, rfl, q⟩ := h
  obtain ⟨u, w', rfl, ⟨t, rfl⟩, ⟨t', rfl⟩⟩ := vals2 r
  refine max_two_ints (I.ok.hd hc) fun h' tk k => ⟨_, H, I.kept k, ?_, q⟩
  by_cases hj : j > i
  · rw [if_pos hj, if_pos hj]; exact ⟨_, rfl⟩
  · rw [if_neg hj, if_neg hj]; exact ⟨_, rfl⟩
/-- len of a str, a bytes, a list, a tuple -/
def LenV (K : PySem.W.Frag) (x : V) (H : Hp) (n : Nat) : Prop :=
  match x with
  | .str y => y.length ≤ sizeLine ∧ n = y.length
  | .byt y => y.size ≤ sizeLine ∧ n = y.size
  | .ref p => (∃ xs, SqL K H p xs ∧ n = xs.length) ∨ ∃ xs, SqT K H p xs ∧ n = xs.length
  | _ => False
end
end L2
namespace L2
open PySem PySem.Spec PyProof.Rows
/-! ### an instance, its attributes a map -/
structure ObjM (h : Heap) (x dx C : Addr) (mA : Str → Option Value) : Prop where
  obj : h.get? x = some (PySem.W.instObj C dx)
  ns : h.Ns1 dx mA
  ne : dx ≠ x
theorem lookIn_ns {h : Heap} {dx : Addr} {mA : Str → Option Value} (n : h.Ns1 dx mA) : ∃ od, h.get? dx = some od ∧ ∀ name, PySem.W.lookIn name od = some (mA name) := by
  obtain ⟨o, es, ep, ho, hd, hk, _, hm⟩ := n
  refine ⟨o, ho, fun name => ?_⟩
  have e := hm name
  unfold nsFind findBy at e
  rw [← Array.find?_toList] at e
  unfold PySem.W.lookIn
  rw [hd]
  dsimp only
  split
  · rename_i y q
    rw [q] at e
    exact congrArg some e
  · rename_i q
    rw [q] at e
    have a : es.toList.any (·.refKey) = false := by
      rw [List.any_eq_false]
      intro y hy
      obtain ⟨z, t, hkey⟩ := hk y (Array.mem_toList_iff.mp hy)
      simp [DictEntry.refKey, hkey]
    have a' : ¬ es.toList.any (·.refKey) = true := by rw [a]; exact Bool.false_ne_true
    rw [if_neg a']
    exact congrArg some e
theorem ObjM.look {h : Heap} {x dx C : Addr} {mA : Str → Option Value} (I : ObjM h x dx C mA) : ∃ od, PySem.W.InstAt h x (PySem.W.instObj C dx) C (some od) ∧ ∀ name, PySem.W.lookIn name od = some (mA name) :=
  let ⟨od, ho, hl⟩ := lookIn_ns I.ns
  ⟨od, ⟨I.obj, rfl, rfl, ho⟩, hl⟩
section
variable {prog : Program} {w : World} {A : Around} {E : Value → Shared → Prop} {s : Shared} {K : PySem.W.Frag} {x dx C f : Addr} {mA : Str → Option Value} {name : Str} {v : Value}
end
/-! ### the attributes as a list of pairs -/
def putF (f : Str) (v : V) : List (Str × V) → List (Str × V)
  | [] => [(f, v)]
  | (g, x) :: r => if g = f then (g, v) :: r else (g, x) :: putF f v r
theorem RelO.some_of {v : V} {o : Option Value} (r : RelO (some v) o) : ∃ u, o = some u ∧ RelV v u := by
  cases o with
  | none => exact (show False from r).elim
  | some u => exact ⟨u, rfl, r⟩
theorem RelO.none_of {o : Option Value} (r : RelO none o) : o = none := by
  cases o with
  | none => rfl
  | some u => exact (show False from r).elim
section
variable {P : Program} {w : World} {H H' : Hp} {h h' : Heap} {a C dx : Addr} {fs fs' : List (Str × V)}
theorem ins_get (hok : HOk P w H h) (e : H a = some (.ins C dx fs)) : ∃ mA, ObjM h a dx C mA ∧ (∀ f, RelO (fs.lookup f) (mA f)) ∧ PySem.Within mA (fs.map (·.1)) ∧ fs.length ≤ 1000 ∧ H dx = some (.own a) := by
  obtain ⟨d, z, ne, ob, mA, n, r, q⟩ := (show ObjOk P w H h a (.ins C dx fs) from hok a _ e)
  exact ⟨mA, ⟨ob, n, ne⟩, r, q, z, d⟩
end
/-! ### what of the text a class must have -/
structure Cls (K : PySem.W.Frag) (C : Addr) : Prop where
  pg : PySem.W.plainGet K C Str.empty = true
  hd : PySem.W.hasDictIn K C = true
  po : PySem.W.plainOver K C = true
  sa : PySem.W.findIn K (.ref C) "__setattr__" = some (some (.builtin "object.__setattr__"))
theorem Cls.get {K : PySem.W.Frag} {C : Addr} (c : Cls K C) (f : Str) : PySem.W.plainGet K C f = true := c.pg
/-- no class of it has the name -/
def NoAttr (K : PySem.W.Frag) (C : Addr) (f : Str) : Prop := PySem.W.findIn K (.ref C) f = some none
/-- a constant of the class -/
structure Con (K : PySem.W.Frag) (C : Addr) (f : Str) (v : V) (u : Value) : Prop where
  at_ : PySem.W.findIn K (.ref C) f = some (some u)
  rel : RelV v u
  get : PySem.W.specialIn K u "__get__" = some none
  cp : PySem.W.copiedNames.contains f = false
/-- a method: a plain def of the class or of one above it -/
structure Meth (K : PySem.W.Frag) (C : Addr) (m : Str) (f : Addr) : Prop where
  at_ : PySem.W.findIn K (.ref C) m = some (some (.ref f))
  fn : PySem.W.isFn K (.ref f) = true
  kp : PySem.W.keepIn K (.ref f) = true
section
variable {X : Cx} {pins : List (Addr × Obj)} {σ : St} {H : Hp} {s : Shared} {a C dx : Addr} {fs : List (Str × V)} {f : Str} {v : V} {A : Around} {E : Value → Shared → Prop}
end
/-! ### readings and rules -/
/-- e.f, an attribute of the instance -/
def tFld (K : PySem.W.Frag) (ta : TE) (f : Str) : TE := fun σ H Q => ta σ H fun x H1 => ∃ a C dx fs v, x = .ref a ∧ H1 a = some (.ins C dx fs) ∧ Cls K C ∧ NoAttr K C f ∧ fs.lookup f = some v ∧ Q v H1
/-- e.f, a constant of the class -/
def tCon (K : PySem.W.Frag) (ta : TE) (f : Str) : TE := fun σ H Q => ta σ H fun x H1 => ∃ a C dx fs v u, x = .ref a ∧ H1 a = some (.ins C dx fs) ∧ Cls K C ∧ Con K C f v u ∧ fs.lookup f = none ∧ Q v H1
/-- e.f = value -/
def sFld (K : PySem.W.Frag) (ta tv : TE) (f : Str) : TS := fun D σ H => tv σ H fun y H1 => ta σ H1 fun x H2 => ∃ a C dx fs, x = .ref a ∧ H2 a = some (.ins C dx fs) ∧ Cls K C ∧ NoAttr K C f ∧ fs.length < 1000 ∧
  D.nx σ (upd H2 a (.ins C dx (putF f y fs)))
/-- an augmented operator on two values -/
def InOp (X : Cx) (op : Operator) (rd : V → V → Hp → VK → Prop) : Prop :=
  ∀ (pins : List (Addr × Obj)) (s : Shared) (σ : St) (H : Hp) (x y : V) (u v : Value) (Q : VK), Inv X pins σ H s → RelV x u → RelV y v → rd x y H Q → wpAny (model X.prog X.w) X.A (inplaceOp op u v) (EP X pins σ Q) X.xe s
/-- e.f op= value -/
def sFldAug (K : PySem.W.Frag) (ta tv : TE) (rd : V → V → Hp → VK → Prop) (f : Str) : TS := fun D σ H => ta σ H fun x H1 => ∃ a C dx fs v, x = .ref a ∧ H1 a = some (.ins C dx fs) ∧ Cls K C ∧ NoAttr K C f ∧ fs.lookup f = some v ∧
  tv σ H1 fun y H2 => rd v y H2 fun z H3 => ∃ dx' fs', H3 a = some (.ins C dx' fs') ∧ fs'.length < 1000 ∧ D.nx σ (upd H3 a (.ins C dx' (putF f z fs')))
section
variable {X : Cx} {o e value : Expr} {f : Str} {pos pos' tpos : Pos} {ta tv : TE}
def rAdd : V → V → Hp → VK → Prop := fun x y H Q => ∃ i j, x = .int i ∧ y = .int j ∧ Q (.int (i + j)) H
def rSub : V → V → Hp → VK → Prop := fun x y H Q => ∃ i j, x = .int i ∧ y = .int j ∧ Q (.int (i - j)) H
end
/-! ### isinstance -/
section
variable {X : Cx} {pins : List (Addr × Obj)} {σ : St} {H : Hp} {s : Shared} {A : Around} {E : Value → Shared → Prop} {Q : Value → Shared → Prop} {c : Value} {b : Bool}
/-- the type of a value, as the fragment's deciders take it; for an instance its class -/
inductive TyOf (K : PySem.W.Frag) (H : Hp) : V → Value → Prop where
  | non : TyOf K H .non (.type "NoneType")
  | bl (x : Bool) : TyOf K H (.bl x) (.type "bool")
  | int (i : Int) : TyOf K H (.int i) (.type "int")
  | str (x : Str) : TyOf K H (.str x) (.type "str")
  | flt (x : UInt64) : TyOf K H (.flt x) (.type "float")
  | lst {a : Addr} {xs : List V} (e : H a = some (.lst xs)) : TyOf K H (.ref a) (.type "list")
  | frz {a : Addr} {o : Obj} {xs : List V} (e : H a = some (.frz o (.lst xs))) : TyOf K H (.ref a) (.type "list")
  | tup {a : Addr} {xs : List V} (e : H a = some (.tup xs)) : TyOf K H (.ref a) (.type "tuple")
  | dK {a : Addr} {kvs : List (Key × V)} (e : H a = some (.dK kvs)) : TyOf K H (.ref a) (.type "dict")
  | dT {a : Addr} {kvs : List (List Key × V)} (e : H a = some (.dT kvs)) : TyOf K H (.ref a) (.type "dict")
  | ins {a C dx : Addr} {fs : List (Str × V)} (e : H a = some (.ins C dx fs)) (cl : Cls K C) (ha : PySem.W.findIn K (.ref C) "__class__" = some (some (.builtin "object.__class__")))
      (hn : PySem.W.specialIn K (.builtin "object.__class__") "__get__" = some (some (.builtin "getset_descriptor.__get__"))) (htk : PySem.W.takesIn K (.builtin "object.__class__") = some true)
      (hm : PySem.W.mroIn K C (.type "object") = some true) : TyOf K H (.ref a) (.ref C)
/-- isinstance(x, c) for one class c, a built-in or an own one: kitOne's answer -/
theorem isinst_ok {x : V} {u t : Value} (I : Inv X pins σ H s) (rx : RelV x u) (ty : TyOf X.K H x t) (e : PySem.W.kitOne X.K t c = some b) (h : ∀ tk, Q (.bool b) { s with toks := tk }) :
    wpAny (model X.prog X.w) A (call (.builtin "isinstance") [u, c]) Q E s := by
  cases ty with
  | non => cases (show u = Value.none from rx); exact PySem.W.kia_one PySem.W.kitx_none I.kIn True.intro e (fun z => nomatch z) h
  | bl y => cases (show u = Value.bool y from rx); exact PySem.W.kia_one PySem.W.kitx_bool I.kIn True.intro e (fun z => nomatch z) h
  | int i => obtain ⟨t, q⟩ := (show ∃ t, u = Value.int i t from rx); cases q; exact PySem.W.kia_one PySem.W.kitx_int I.kIn True.intro e (fun z => nomatch z) h
  | str y => obtain ⟨t, q⟩ := (show ∃ t, u = Value.str y t from rx); cases q; exact PySem.W.kia_one PySem.W.kitx_str I.kIn True.intro e (fun z => nomatch z) h
  | flt y => obtain ⟨t, q⟩ := (show ∃ t, u = Value.float y t from rx); cases q; exact PySem.W.kia_one PySem.W.kitx_float I.kIn True.intro e (fun z => nomatch z) h
  | @lst a xs ea =>
    cases (show u = Value.ref a from rx)
    obtain ⟨_, _, n, _, h1⟩ := (show ObjOk X.prog X.w H s.heap a (.lst xs) from I.hok a _ ea)
    exact PySem.W.kia_one PySem.W.kitx_list I.kIn ⟨_, h1, rfl⟩ e (fun z => nomatch z) h
  | @frz a ob xs ea =>
    cases (show u = Value.ref a from rx)
    obtain ⟨_, _, _, n, _, h1⟩ := (show ObjOk X.prog X.w H s.heap a (.frz ob (.lst xs)) from I.hok a _ ea)
    exact PySem.W.kia_one PySem.W.kitx_list I.kIn ⟨_, h1, rfl⟩ e (fun z => nomatch z) h
  | @tup a xs ea =>
    cases (show u = Value.ref a from rx)
    obtain ⟨_, _, _, p⟩ := (show ObjOk X.prog X.w H s.heap a (.tup xs) from I.hok a _ ea)
    obtain ⟨o, h1, h2, _⟩ := p
    exact PySem.W.kia_one PySem.W.kitx_tuple I.kIn ⟨o, h1, h2⟩ e (fun z => nomatch z) h
  | @dK a kvs ea =>
    cases (show u = Value.ref a from rx)
    obtain ⟨_, _, vs, _, p⟩ := (show ObjOk X.prog X.w H s.heap a (.dK kvs) from I.hok a _ ea)
    obtain ⟨o, es, ep, h1, h2, _⟩ := p
    exact PySem.W.kia_one PySem.W.kitx_dict I.kIn ⟨o, h1, h2.1⟩ e (fun z => nomatch z) h
  | @dT a kvs ea =>
    cases (show u = Value.ref a from rx)
    obtain ⟨_, _, xs, _, o, es, ep, h1, h2, _⟩ := (show ObjOk X.prog X.w H s.heap a (.dT kvs) from I.hok a _ ea)
    exact PySem.W.kia_one PySem.W.kitx_dict I.kIn ⟨o, h1, h2.1⟩ e (fun z => nomatch z) h
  | @ins a C dx fs ea cl ha hn htk hm =>
    cases (show u = Value.ref a from rx)
    obtain ⟨mA, O, _⟩ := ins_get I.hok ea
    obtain ⟨od, J, _⟩ := O.look
    exact PySem.W.kia_one (PySem.W.kitx_own (cl.get _) cl.hd ha hn htk hm) I.kIn J e (fun z => nomatch z) h
end
end L2
namespace L2
open PySem PySem.Spec PyProof.Rows
/-! ### room -/
structure Room (k : Nat) (A : Around) : Prop where
  hd : A.handled = none
  dp : A.depth + 3 * k + 5 < recursionLimit
  un : A.units + 16 * k + 200 < cLine
theorem Room.deeper {k : Nat} {A : Around} (r : Room (k + 1) A) (env : Env) : Room k (A.deeper env) :=
  ⟨r.hd, by have := r.dp; show A.depth + 1 + 3 * k + 5 < _; omega, by have := r.un; show A.units + 3 + 16 * k + 200 < _; omega⟩
theorem Room.depth {k : Nat} {A : Around} (r : Room k A) : A.depth < recursionLimit := by have := r.dp; omega
/-! ### argument lists and displays -/
def tNil : TA := fun _ H Q => Q [] H
def tCons (ta : TE) (tr : TA) : TA := fun σ H Q => ta σ H fun x H1 => tr σ H1 fun xs H2 => Q (x :: xs) H2
section
variable {X : Cx} {e : Expr} {es : List Expr} {te : TE} {t : TA} {pos : Pos}
theorem pa_nil : PA X [] tNil := fun _ _ _ _ H Q I h => Calls.spliced_nil ⟨[], H, I, .nil, h⟩
theorem pa_cons (ha : PE X e te) (hr : PA X es t) (hs : starEach (e :: es) X.env = (false, eval e X.env) :: starEach es X.env := by rfl) : PA X (e :: es) (tCons te t) := by
  intro pos pins s σ H Q I h
  rw [hs]
  show wpAny _ _ (spliced ((false, eval e X.env) :: backTo pos (starEach es X.env))) _ _ s
  refine Calls.spliced_cons (thn (ha pins s σ H _ I h) fun u s1 ⟨x, H1, I1, r1, q1⟩ => ?_)
  exact thn (hr pos pins s1 σ H1 _ I1 q1) fun us s2 ⟨xs, H2, I2, r2, q2⟩ => ⟨x :: xs, H2, I2, .cons r1 r2, q2⟩
/-- a tuple, a list of written items -/
def tTup (t : TA) : TE := fun σ H Q => t σ H fun xs H1 => xs.length ≤ sizeLine ∧ ∀ p, H1 p = none → Q (.ref p) (upd H1 p (.tup xs))
def tLst (t : TA) : TE := fun σ H Q => t σ H fun xs H1 => xs.length ≤ sizeLine ∧ ∀ p, H1 p = none → Q (.ref p) (upd H1 p (.lst xs))
theorem pe_tup {x1} (h : PA X es t) : PE X (.Tuple es x1 pos) (tTup t) := by
  intro pins s σ H Q I hq
  refine wpAny_Tuple_spliced (thn (h pos pins s σ H _ I hq) fun us s1 ⟨xs, H1, I1, r, z, q⟩ => ⟨by rw [← r.length]; exact z, ?_⟩)
  have hf : H1 s1.heap.objs.size = none := I1.hok.fresh (Nat.le_refl _)
  refine ⟨.ref s1.heap.objs.size, upd H1 s1.heap.objs.size (.tup xs), I1.laid (t' := s1.toks) (fun b u e => Heap.get?_push_of_some _ e) (Nat.le_refl _) ?_, rfl, q _ hf⟩
  exact ⟨z, us, r, ⟨_, Heap.get?_push_size _ rfl, rfl, _, rfl⟩⟩
theorem pe_lst (h : PA X es t) : PE X (.List es pos) (tLst t) := by
  intro pins s σ H Q I hq
  refine wpAny_List_spliced (thn (h pos pins s σ H _ I hq) fun us s1 ⟨xs, H1, I1, r, z, q⟩ => ⟨by rw [← r.length]; exact z, ?_⟩)
  have hf : H1 s1.heap.objs.size = none := I1.hok.fresh (Nat.le_refl _)
  refine ⟨.ref s1.heap.objs.size, upd H1 s1.heap.objs.size (.lst xs), I1.laid (t' := s1.toks) (fun b u e => Heap.get?_push_of_some _ e) (Nat.le_refl _) ?_, rfl, q _ hf⟩
  exact ⟨z, us, 0, r, Heap.get?_push_size _ rfl⟩
end
/-! ### what a def promises -/
/-- a def's promise: the bound arguments in the parameters' order, the heap, the wanted end, the wanted exception -/
abbrev Sp := List V → Hp → VK → XK → Prop
/-- how an exception lies behind a call (file 08 gives it): the callers' frames, abstract heap and state ahead of the call, the wish, the exception, the state -/
abbrev CXT := List Env → Hp → Shared → XK → Value → Shared → Prop
/-- the state at a call -/
structure Env0 (P : Program) (w : World) (K : PySem.W.Frag) (mg : Str → Option Value) (base : Heap) (A : Around) (outer : List Env) (s : Shared) (H : Hp) : Prop where
  frames : A.frames = some outer
  mod : Mod K mg base
  bs : ∀ b o, base.get? b = some o → s.heap.get? b = some o ∧ H b = none
  bsz : base.objs.size ≤ s.heap.objs.size
  funs : s.heap.FunFrames base outer
  frf : ∀ b ∈ frs outer, H b = none
  hok : HOk P w H s.heap
  bare : AllBare s.gens
/-- a call's end -/
def CE (outer : List Env) (P : Program) (w : World) (H : Hp) (s : Shared) (Q : VK) (u : Value) (s' : Shared) : Prop :=
  ∃ v H', s'.os = s.os ∧ AllBare s'.gens ∧ Un (frs outer) [] H H' s.heap s'.heap ∧ HOk P w H' s'.heap ∧ RelV v u ∧ Q v H'
def CR (CX : CXT) (outer : List Env) (P : Program) (w : World) (H : Hp) (s : Shared) (Q : VK) (E : XK) (r : Result) (s' : Shared) : Prop :=
  match r with
  | .ok (.ret u) => CE outer P w H s Q u s'
  | .ok _ => False
  | .error e => CX outer H s E e s'
structure FnOk (P : Program) (w : World) (K : PySem.W.Frag) (mg : Str → Option Value) (base : Heap) (CX : CXT) (k : Nat) (f : Addr) (fd : FuncData) (ps : List Str) (sp : Sp) : Prop where
  len : ∀ vs H Q E, sp vs H Q E → vs.length = ps.length
  run : ∀ (A : Around) (outer : List Env) (s : Shared) (H : Hp) (args : Args) (us : List Value) (vs : List V) (Q : VK) (E : XK), Room k A → Env0 P w K mg base A outer s H → BindsTo s fd args (ps.zip us) → Vals vs us → sp vs H Q E →
    codeAny (model P w) A (.call (.ref f) args) (CR CX outer P w H s Q E) s
section
variable {X : Cx} {pins : List (Addr × Obj)} {σ : St} {H : Hp} {s s' : Shared}
/-- from a body: what a callee wants -/
theorem Inv.env0 (I : Inv X pins σ H s) : Env0 X.prog X.w X.K X.mg X.base X.A X.stack s H :=
  ⟨I.ok.frames, I.ok.mod, I.bs, Nat.le_trans I.ok.bsz I.sz, I.stack, I.stkFree, I.hok, I.bare⟩
/-- behind a call -/
theorem Inv.after {Q : VK} {u : Value} (I : Inv X pins σ H s) (h : CE X.stack X.prog X.w H s Q u s') : EP X pins σ Q u s' := by
  obtain ⟨v, H', os, bare, un, hok, r, q⟩ := h
  obtain ⟨hh, g, d, t, os'⟩ := s'
  obtain rfl : os' = s.os := os
  exact ⟨v, H', I.call (h' := hh) (g' := g) (d' := d) (t' := t) (ch := []) un hok bare (fun b z => absurd z (by simp)), r, q⟩
end
/-! ### calls -/
/-- f(..): the written arguments, then the defaults dvs; E: what is wanted of an exception -/
def tCall (sp : Sp) (dvs : List V) (E : XK) (t : TA) : TE := fun σ H Q => t σ H fun vs H1 => sp (vs ++ dvs) H1 Q E
/-- o.m(..) of an instance of the class at C -/
def tMeth (C : Addr) (m : Str) (sp : Sp) (dvs : List V) (E : XK) (ta : TE) (t : TA) : TE := fun σ H Q => ta σ H fun x H1 => ∃ a dx fs, x = .ref a ∧ H1 a = some (.ins C dx fs) ∧ fs.lookup m = none ∧
  t σ H1 fun vs H2 => sp (x :: (vs ++ dvs)) H2 Q E
/-- C(..): a new instance and its dict, then __init__ -/
def tMake (C : Addr) (sp : Sp) (dvs : List V) (E : XK) (t : TA) : TE := fun σ H Q => t σ H fun vs H1 => ∀ x dx, H1 x = none → H1 dx = none → dx ≠ x →
  sp (.ref x :: (vs ++ dvs)) (upd (upd H1 dx (.own x)) x (.ins C dx [])) (fun v H2 => v = .non ∧ Q (.ref x) H2) E
/-- how the parameters are bound: us the positional arguments, kw the keywords' values by name, ds the defaults that fill up -/
def Binds (K : PySem.W.Frag) (fd : FuncData) (ps : List Str) (ds : List Value) : Prop :=
  ∀ (s : Shared) (us : List Value), K.In s.heap → (us ++ ds).length = ps.length → BindsTo s fd ⟨us, []⟩ (ps.zip (us ++ ds))
/-- every parameter is given -/
theorem Binds.all {K : PySem.W.Frag} {fd : FuncData} {ps : List Str} (h : ∀ us : List Value, us.length = ps.length → bindArgs fd ⟨us, []⟩ = pure (ps.zip us)) : Binds K fd ps [] := fun s us _ hl => by
  rw [List.append_nil] at hl ⊢
  exact .of_eq (h us hl)
/-- an exception of a callee reaches what this body wants of exceptions -/
def Passes (CX : CXT) (X : Cx) (E : XK) : Prop := ∀ (pins : List (Addr × Obj)) (σ : St) (H : Hp) (s : Shared) (e : Value) (s' : Shared), Inv X pins σ H s → CX X.stack H s E e s' → X.xe e s'
section
variable {X : Cx} {CX : CXT} {k : Nat} {f C : Addr} {fd : FuncData} {ps : List Str} {sp : Sp} {dvs : List V} {ds : List Value} {E : XK} {x m : Str} {p pos apos : Pos} {e o : Expr} {es : List Expr} {ta : TE} {t : TA}
/-- the callee runs -/
theorem run_fn {pins : List (Addr × Obj)} {σ : St} {H : Hp} {s : Shared} {Q : VK} {us : List Value} {vs : List V} (F : FnOk X.prog X.w X.K X.mg X.base CX k f fd ps sp) (hr : Room k X.A) (hb : Binds X.K fd ps ds) (hd : Vals dvs ds) (hx : Passes CX X E)
    (I : Inv X pins σ H s) (r : Vals vs us) (h : sp (vs ++ dvs) H Q E) : wpAny (model X.prog X.w) X.A (call (.ref f) us) (EP X pins σ Q) X.xe s := by
  have r2 : Vals (vs ++ dvs) (us ++ ds) := r.append hd
  have hl : (us ++ ds).length = ps.length := by rw [← r2.length]; exact F.len _ _ _ _ h
  refine wpAny_call (codeAny_mono (F.run X.A X.stack s H ⟨us, []⟩ (us ++ ds) (vs ++ dvs) Q E hr I.env0 (hb s us I.kIn hl) r2 h) fun r s' hq => ?_)
  cases r with
  | error e => exact hx pins σ H s e s' I hq
  | ok fl =>
    cases fl with
    | ret u => exact I.after hq
    | next => exact False.elim hq
    | brk => exact False.elim hq
    | cont => exact False.elim hq
theorem pe_call (F : FnOk X.prog X.w X.K X.mg X.base CX k f fd ps sp) (hr : Room k X.A) (hg : Gl X x) (hm : X.mg x = some (.ref f)) (hk : PySem.W.keepIn X.K (.ref f) = true) (hb : Binds X.K fd ps ds) (hd : Vals dvs ds) (hx : Passes CX X E)
    (ha : PA X (e :: es) t) (hdb : (x == ("__debug__" : Str)) = false := by decide) (he : starEach (e :: es) X.env = (false, eval e X.env) :: starEach es X.env := by rfl) (hpl : (backTo pos (starEach es X.env)).any (·.1) = false := by rfl) :
    PE X (.Call (.Name x p) (e :: es) [] pos) (tCall sp dvs E t) := by
  intro pins s σ H Q I h
  refine wpAny_Call_Name_kw (ld_glob I hg hm ?_ hdb)
  refine PySem.W.callWith_K (h₀ := X.base) I.ok.mod.kin hk (thn (ha pos pins s σ H _ I h) fun us s1 ⟨vs, H1, I1, r, q⟩ => ⟨I1.kIn, ?_⟩) he hpl
  exact run_fn F hr hb hd hx I1 r q
/-- what a class must have to be made -/
structure Mk (K : PySem.W.Frag) (C f : Addr) : Prop where
  makes : PySem.W.makesIn K C = true
  init : PySem.W.findIn K (.ref C) "__init__" = some (some (.ref f))
  fn : PySem.W.isFn K (.ref f) = true
  kp : PySem.W.keepIn K (.ref C) = true
end
/-! ### keywords -/
/-- the values of the keywords, from the left -/
def PK (X : Cx) (kws : List Keyword) (t : TA) : Prop :=
  ∀ (pos : Pos) (pins : List (Addr × Obj)) (s : Shared) (σ : St) (H : Hp) (Q : List V → Hp → Prop), Inv X pins σ H s → t σ H Q → wpAny (model X.prog X.w) X.A (evalAll ((backToKw pos (keywordEach kws X.env)).map (·.2))) (AP X pins σ Q) X.xe s
section
variable {X : Cx} {CX : CXT} {k : Nat} {f C : Addr} {fd : FuncData} {ps ks : List Str} {sp : Sp} {E : XK} {x m : Str} {p pos apos kpos : Pos} {e o : Expr} {es : List Expr} {kws : List Keyword} {te ta : TE} {t tk : TA} {nm : Option Str}
/-- how a call with keywords binds: g puts the positional values us and the keywords' values ws (names ks) in the parameters' order, defaults among them -/
structure KBinds (K : PySem.W.Frag) (fd : FuncData) (ps ks : List Str) (g : List Value → List Value → List Value) (gV : List V → List V → List V) : Prop where
  to : ∀ (s : Shared) (us ws : List Value), K.In s.heap → (g us ws).length = ps.length → BindsTo s fd ⟨us, ks.zip ws⟩ (ps.zip (g us ws))
  rel : ∀ {vs : List V} {us : List Value} {zs : List V} {ws : List Value}, Vals vs us → Vals zs ws → Vals (gV vs zs) (g us ws)
def tCallK (sp : Sp) (gV : List V → List V → List V) (E : XK) (t tk : TA) : TE := fun σ H Q => t σ H fun vs H1 => tk σ H1 fun zs H2 => sp (gV vs zs) H2 Q E
variable {g : List Value → List Value → List Value} {gV : List V → List V → List V}
end
/-! ### a def's body keeps its promise -/
/-- names: the parameters first -/
structure FnScope (N P : List Str) (sc : Scope) : Prop where
  kind : sc.kind = .function
  co : sc.isCoroutine = false
  gen : sc.isGenerator = false
  nd : N.Nodup
  pre : N.take P.length = P
  par : ∀ x ∈ P, sc.names.lookup x = some .local ∨ sc.names.lookup x = some .cell
  nofree : ∀ y ∈ sc.names, y.2 ≠ .free
theorem bindL_out {kindOf : Str → Option NameKind} {x : Str} : ∀ {binds : List (Str × Value)} {m : Str → Option Value}, (∀ v, (x, v) ∉ binds) → bindL kindOf binds m x = m x
  | [], _, _ => rfl
  | (n, v) :: r, m, h => by
    unfold bindL
    rw [bindL_out fun w hw => h w (List.mem_cons_of_mem _ hw)]
    split
    · have : x ≠ n := by rintro rfl; exact h v List.mem_cons_self
      simp [this]
    · rfl
theorem bindC_out {kindOf : Str → Option NameKind} {x : Str} : ∀ {binds : List (Str × Value)} {m : Str → Option Value}, (∀ v, (x, v) ∉ binds) → bindC kindOf binds m x = m x
  | [], _, _ => rfl
  | (n, v) :: r, m, h => by
    unfold bindC
    rw [bindC_out fun w hw => h w (List.mem_cons_of_mem _ hw)]
    split
    · rfl
    · have : x ≠ n := by rintro rfl; exact h v List.mem_cons_self
      simp [this]
theorem bindL_get {kindOf : Str → Option NameKind} {x : Str} {v : Value} : ∀ {P : List Str} {vs : List Value} {i : Nat} {m : Str → Option Value}, P.Nodup → P[i]? = some x → vs[i]? = some v → kindOf x = some .local →
    bindL kindOf (P.zip vs) m x = some v
  | [], _, _, _, _, h, _, _ => by simp at h
  | _ :: _, [], _, _, _, _, h, _ => by simp at h
  | p :: P, w :: vs, 0, m, nd, h1, h2, hk => by
    simp at h1 h2; subst h1; subst h2
    show bindL kindOf ((p, w) :: P.zip vs) m p = _
    unfold bindL
    rw [bindL_out fun v hv => (List.nodup_cons.mp nd).1 (List.of_mem_zip hv).1, if_pos hk]
    simp
  | p :: P, w :: vs, i + 1, m, nd, h1, h2, hk => by
    show bindL kindOf ((p, w) :: P.zip vs) m x = _
    unfold bindL
    exact bindL_get (i := i) (List.nodup_cons.mp nd).2 (by simpa using h1) (by simpa using h2) hk
theorem bindC_get {kindOf : Str → Option NameKind} {x : Str} {v : Value} : ∀ {P : List Str} {vs : List Value} {i : Nat} {m : Str → Option Value}, P.Nodup → P[i]? = some x → vs[i]? = some v → kindOf x ≠ some .local →
    bindC kindOf (P.zip vs) m x = some v
  | [], _, _, _, _, h, _, _ => by simp at h
  | _ :: _, [], _, _, _, _, h, _ => by simp at h
  | p :: P, w :: vs, 0, m, nd, h1, h2, hk => by
    simp at h1 h2; subst h1; subst h2
    show bindC kindOf ((p, w) :: P.zip vs) m p = _
    unfold bindC
    rw [bindC_out fun v hv => (List.nodup_cons.mp nd).1 (List.of_mem_zip hv).1, if_neg hk]
    simp
  | p :: P, w :: vs, i + 1, m, nd, h1, h2, hk => by
    show bindC kindOf ((p, w) :: P.zip vs) m x = _
    unfold bindC
    exact bindC_get (i := i) (List.nodup_cons.mp nd).2 (by simpa using h1) (by simpa using h2) hk
/-- the names' values at the entry -/
def start (N : List Str) (vs : List V) : St := vs.map some ++ List.replicate (N.length - vs.length) none
/-- the context of a def's body, at its entry; an exception leaves the frame, then lies as CX says -/
def cxOf (CX : CXT) (P : Program) (w : World) (K : PySem.W.Frag) (mg : Str → Option Value) (base : Heap) (N : List Str) (qual : Str) (scope : Scope) (f : Addr) (cd : Value) (A : Around) (outer : List Env) (s : Shared) (H : Hp) (E : XK) : Cx where
  prog := P
  w := w
  K := K
  mg := mg
  base := base
  A := A.deeper (envOfC qual scope s.heap.objs.size f cd)
  N := N
  s₀ := s
  H₀ := H
  env := envOfC qual scope s.heap.objs.size f cd
  outer := outer
  stack := envOfC qual scope s.heap.objs.size f cd :: outer
  ex := []
  calm := true
  fn := fun _ => true
  pn := []
  xe := fun e s' => wpAny (model P w) (A.deeper (envOfC qual scope s.heap.objs.size f cd)) (leaving (envOfC qual scope s.heap.objs.size f cd) e) (fun _ s'' => CX outer H s E e s'') (fun e' s'' => CX outer H s E e' s'') s'
theorem cell_has {sc : Scope} {n : Nat} {x : Str} (h : sc.names.lookup x = some .cell) : ∃ c, (cellsFrom n sc.names []).lookup x = some c := by
  have q := PySem.W.cellsFrom_some sc.names n [] (.inl h)
  exact Option.isSome_iff_exists.mp q
theorem inv_start {CX : CXT} {P : Program} {w : World} {K : PySem.W.Frag} {mg : Str → Option Value} {base : Heap} {N ps : List Str} {qual : Str} {scope : Scope} {f : Addr} {cd : Value} {A : Around} {outer : List Env} {s s1 : Shared} {H : Hp} {E : XK} {us : List Value} {vs : List V}
    (S : FnScope N ps scope) (hd : A.handled = none) (e0 : Env0 P w K mg base A outer s H) (hl : vs.length = ps.length) (r : Vals vs us)
    (x : InCallC s s.heap.objs.size (bindL (envOfC qual scope s.heap.objs.size f cd).kindOf (ps.zip us) fun _ => none) (cellsFrom (s.heap.objs.size + 1) scope.names []) (bindC (envOfC qual scope s.heap.objs.size f cd).kindOf (ps.zip us) fun _ => none) s1) :
    Inv (cxOf CX P w K mg base N qual scope f cd A outer s H E) [] (start N vs) H s1 := by
  have hpl : ps.length ≤ N.length := by have := congrArg List.length S.pre; rw [List.length_take] at this; omega
  obtain ⟨h1, tk, rfl, hk⟩ := x.done
  have noA : ∀ b : Addr, b ∉ (cxOf CX P w K mg base N qual scope f cd A outer s H E).ex := fun b z => absurd (show b ∈ ([] : List Addr) from z) (by simp)
  refine ⟨⟨e0.mod, S.kind, rfl, rfl, Nat.le_refl _, fun y z c h1 h2 => ?_, fun y hy => ?_, fun y c _ h => ?_, fun _ => hd, Around.frames_deeper e0.frames, .inr ⟨rfl, rfl⟩, fun b z => absurd z (noA b), e0.bs, e0.bsz, fun b _ _ => noA b, fun b z => absurd z (noA b), e0.funs, e0.frf⟩,
    rfl, e0.bare, Un.kept hk, ⟨_, x.toInCall.ns, fun i y v h1 h2 h3 => ?_⟩, fun y c h => ⟨_, x.cell y c h⟩, e0.hok.fresh (Nat.le_refl _), fun y c h => ?_, fun p hp => absurd (show p ∈ ([] : List (Addr × Obj)) from hp) (by simp), e0.hok.kept hk, ?_⟩
  · exact name_of_addr x.apart (PySem.mem_of_lookup h1) (PySem.mem_of_lookup h2)
  · have hy : scope.names.lookup y = some .cell ∨ scope.names.lookup y = some .free := hy
    rcases hy with hy | hy
    · exact cell_has hy
    · exact absurd rfl (S.nofree _ (PySem.mem_of_lookup hy))
  · exact Nat.le_of_lt (x.above y c (PySem.mem_of_lookup h))
  · have hi : i < vs.length := by
      unfold start at h2
      by_cases hi : i < vs.length
      · exact hi
      · rw [List.getElem?_append_right (by simpa using hi)] at h2
        rw [List.getElem?_replicate] at h2
        split at h2 <;> cases h2
    have ha : vs[i]? = some v := by
      unfold start at h2
      rw [List.getElem?_append_left (by simpa using hi), List.getElem?_map] at h2
      cases e : vs[i]? with
      | none => rw [e] at h2; cases h2
      | some a => rw [e] at h2; cases h2; rfl
    obtain ⟨u, hu, rv⟩ := r.get ha
    have hp : ps[i]? = some y := by
      rw [← S.pre, List.getElem?_take_of_lt (by omega)]; exact h1
    have ndP : ps.Nodup := by rw [← S.pre]; exact S.nd.sublist (List.take_sublist _ _)
    refine ⟨u, rv, ?_⟩
    rcases S.par y (List.mem_of_getElem? hp) with k | k
    · exact .inl ⟨k, bindL_get ndP hp hu k⟩
    · obtain ⟨c, e⟩ := cell_has (n := s.heap.objs.size + 1) k
      refine .inr ⟨.inl k, c, e, ?_⟩
      have q := x.cell y c e
      rw [bindC_get ndP hp hu (by show scope.names.lookup y ≠ _; rw [k]; decide)] at q
      exact q
  · exact e0.hok.fresh (Nat.le_of_lt (x.above y c (PySem.mem_of_lookup h)))
  · unfold start
    show _ = N.length
    rw [List.length_append, List.length_map, List.length_replicate]
    omega
/-- THE RULE: a def (or a method) of the text, by its body. The body's reading t is chosen for each entry; it is run at the parameters' values -/
theorem fn_of {CX : CXT} {P : Program} {w : World} {K : PySem.W.Frag} {mg : Str → Option Value} {base : Heap} {k : Nat} {f : Addr} {name qual : Str} {params : Arguments} {body : List Stmt} {scope : Scope} {dV kV doc pm cdv ct oc : Value} {an od : Option Addr}
    {osl : Array (Option Value)} {N ps : List Str} {sp : Sp} (lk : K.lookup f = some ⟨oc, od, .func (PySem.W.fnOf name qual params body scope dV kV doc pm an cdv ct), osl⟩) (hcd : PySem.W.codeIn K cdv qual = true) (S : FnScope N ps scope)
    (len : ∀ vs H Q E, sp vs H Q E → vs.length = ps.length)
    (hbody : ∀ (A : Around) (outer : List Env) (s : Shared) (H : Hp) (vs : List V) (Q : VK) (E : XK), Room k (A.deeper (envOfC qual scope s.heap.objs.size f cdv)) → sp vs H Q E →
      ∃ t, PSs (cxOf CX P w K mg base N qual scope f cdv A outer s H E) body t ∧ t { nx := fun _ H' => Q .non H', rt := Q } (start N vs) H) :
    FnOk P w K mg base CX (k + 1) f (PySem.W.fnOf name qual params body scope dV kV doc pm an cdv ct) ps sp := by
  refine ⟨len, fun A outer s H args us vs Q E hr e0 hb r hsp => ?_⟩
  have hl := len _ _ _ _ hsp
  have KX : K.In s.heap := e0.mod.kin.keeps fun b o e => (e0.bs b o e).1
  have lim : s.heap.NoLimit := e0.mod.nolimit.keeps fun b o e => (e0.bs b o e).1
  have hkind : ∀ y ∈ ps.zip us, scope.names.lookup y.1 = some .local ∨ (scope.names.lookup y.1 = some .cell ∧ ((cellsFrom (s.heap.objs.size + 1) scope.names []).lookup y.1).isSome = true) := fun ⟨n, v⟩ hy => by
    rcases S.par n (List.of_mem_zip hy).1 with q | q
    · exact .inl q
    · exact .inr ⟨q, PySem.W.cellsFrom_some _ _ _ (.inl q)⟩
  refine codeAny_call_function hr.depth (KX _ _ lk) rfl S.co S.gen rfl (PySem.W.codeRec_of KX hcd) (hb _ _ _ _ ?_)
  refine wpAny_newFunctionEnv_cells S.kind hkind fun env he s1 x => ?_
  subst he
  refine ⟨lim.keeps x.toInCall.keep, codeAny_func ?_⟩
  obtain ⟨t, ht, hq⟩ := hbody A outer s H vs Q E (hr.deeper _) hsp
  have I : Inv (cxOf CX P w K mg base N qual scope f cdv A outer s H E) [] (start N vs) H s1 := inv_start S hr.hd e0 hl r x
  refine wpAny_mono (ht [] s1 (start N vs) H _ I hq) (fun fl s' hs => ?_) fun e s' hs => hs
  have fin : ∀ {σ' : St} {H' : Hp} {v : V} {u : Value}, Inv (cxOf CX P w K mg base N qual scope f cdv A outer s H E) [] σ' H' s' → RelV v u → Q v H' → CE outer P w H s Q u s' :=
    fun {σ' H' v u} J rv q => ⟨v, H', J.os, J.bare, J.base, J.hok, rv, q⟩
  cases fl with
  | ret u =>
    obtain ⟨v, σ', H', J, rv, q⟩ := hs
    exact fin J rv q
  | next =>
    obtain ⟨σ', H', J, q⟩ := hs
    exact fin (v := V.non) (u := Value.none) J rfl q
  | brk =>
    obtain ⟨_, _, _, q⟩ := hs
    exact False.elim q
  | cont =>
    obtain ⟨_, _, _, q⟩ := hs
    exact False.elim q
end L2
namespace L2
open PySem PySem.Spec PyProof.Rows
section
variable {X : Cx} {x : Str} {p pos : Pos} {e : Expr} {es : List Expr} {t : TA} {id T : String} {r : List V → Hp → VK → Prop}
def tCB (r : List V → Hp → VK → Prop) (t : TA) : TE := fun σ H Q => t σ H fun vs H1 => r vs H1 Q
/-- f(e, ..), f a built-in function -/
theorem pe_callB (hc : CallR X (.builtin id) r) (hg : Gl X x) (hm : X.mg x = none) (hv : bootBuiltins x = some (.builtin id)) (ha : PA X (e :: es) t) (hn : x ≠ "__name__" := by decide) (hdb : (x == ("__debug__" : Str)) = false := by decide)
    (he : starEach (e :: es) X.env = (false, eval e X.env) :: starEach es X.env := by rfl) (hpl : (backTo pos (starEach es X.env)).any (·.1) = false := by rfl) : PE X (.Call (.Name x p) (e :: es) [] pos) (tCB r t) := by
  intro pins s σ H Q I h
  refine wpAny_Call_Name_kw (ld_blt I hg hm hv ?_ hn hdb)
  exact PyProof.Rows.callWith_builtin1 (thn (ha pos pins s σ H _ I h) fun us s1 ⟨vs, H1, I1, r1, q1⟩ => hc pins s1 σ H1 vs us Q I1 r1 q1) he hpl
/-- T(e, ..), T a built-in type -/
theorem pe_callTy (hc : CallR X (.type T) r) (hg : Gl X x) (hm : X.mg x = none) (hv : bootBuiltins x = some (.type T)) (ha : PA X (e :: es) t) (hn : x ≠ "__name__" := by decide) (hdb : (x == ("__debug__" : Str)) = false := by decide)
    (he : starEach (e :: es) X.env = (false, eval e X.env) :: starEach es X.env := by rfl) (hpl : (backTo pos (starEach es X.env)).any (·.1) = false := by rfl) : PE X (.Call (.Name x p) (e :: es) [] pos) (tCB r t) := by
  intro pins s σ H Q I h
  refine wpAny_Call_Name_kw (ld_blt I hg hm hv ?_ hn hdb)
  exact PyProof.Rows.callWith_type1 (thn (ha pos pins s σ H _ I h) fun us s1 ⟨vs, H1, I1, r1, q1⟩ => hc pins s1 σ H1 vs us Q I1 r1 q1) he hpl
end
end L2
namespace HT
open PySem PyProof.Rows
/-- t < u of tuples of ints -/
def lexLt : List Int → List Int → Bool
  | [], [] => false
  | [], _ :: _ => true
  | _ :: _, [] => false
  | x :: xs, y :: ys => if x = y then lexLt xs ys else decide (x < y)
section
open PySem.SeqAt
open PySem.AutoSeq1 (wpAny_loadPart')
open PySem.MeetsSeq PySem.MeetsSeq2 PySem.MeetsSeq3
end
section
variable {prog : Program} {w : World} {A : Around} {E : Value → Shared → Prop} {s : Shared}
/-- t + u, t not empty -/
theorem cat_tup {t b : Addr} {vs ws : List Value} {Q : Value → Shared → Prop} (ht : IsTup s.heap t vs.toArray) (hb : IsTup s.heap b ws.toArray) (hv : vs ≠ [])
    (h1 : ws = [] → Q (.ref t) s) (h2 : ws ≠ [] → Q (.ref s.heap.objs.size) { s with heap := s.heap.push { cls := .type "tuple", data := .seq (vs ++ ws).toArray } })
    (hsz : vs.length + ws.length ≤ sizeLine) : wpAny (model prog w) A (binaryOp .Add (.ref t) (.ref b)) Q E s := by
  obtain ⟨⟨cls, dd, data, sl⟩, ho, hc, n, hd⟩ := id ht
  obtain ⟨⟨cls2, dd2, data2, sl2⟩, ho2, hc2, n2, hd2⟩ := id hb
  simp only at hc hd hc2 hd2
  subst hc hd hc2 hd2
  have e : vs.toArray ++ ws.toArray = (vs ++ ws).toArray := by simp
  by_cases hw : ws = []
  · exact concat_meets ⟨_, ho, rfl⟩ ⟨_, ho2, rfl⟩ noFill_tuple_add seq_tuple_add PySem.F.slot_tuple_add PySem.F.entry_tuple_add (PySem.F.args_tuple_add_2 _ _)
      (tuple_addW1 t b vs.toArray ws.toArray n n2 dd dd2 sl sl2 (by simpa using hv) (by simp [hw])) ⟨ho, ho2, h1 hw⟩
  · refine concat_meets ⟨_, ho, rfl⟩ ⟨_, ho2, rfl⟩ noFill_tuple_add seq_tuple_add PySem.F.slot_tuple_add PySem.F.entry_tuple_add (PySem.F.args_tuple_add_2 _ _)
      (tuple_addW2 t b vs.toArray ws.toArray n n2 dd dd2 sl sl2 (by simpa using hv) (by simpa using hw) (by rw [List.size_toArray, List.size_toArray]; exact hsz)) ⟨ho, ho2, ?_⟩
    rw [e]
    exact h2 hw
/-! ### t[a:b], not the whole -/
/-- a slice's bound as a place among n (d where it is left out) -/
def sIx (n d : Nat) : Option Int → Nat
  | none => d
  | some v => if v < 0 then (v + (n : Int)).toNat else min v.toNat n
theorem sIx_le (n d : Nat) (hd : d ≤ n) (o : Option Int) : sIx n d o ≤ n := by
  cases o with
  | none => exact hd
  | some v =>
    show (if v < 0 then (v + (n : Int)).toNat else min v.toNat n) ≤ n
    by_cases hv : v < 0
    · rw [if_pos hv]; omega
    · rw [if_neg hv]; exact Nat.min_le_right _ _
theorem clip_eq (v : Int) (n d : Nat) : (if v < 0 then max (v + (n : Int)) 0 else min v (n : Int)) = ((sIx n d (some v) : Nat) : Int) := by
  show (if v < 0 then max (v + (n : Int)) 0 else min v (n : Int)) = (((if v < 0 then (v + (n : Int)).toNat else min v.toNat n) : Nat) : Int)
  by_cases hv : v < 0
  · simp only [if_pos hv]; omega
  · simp only [if_neg hv]; omega
theorem adjust_gen (lo hi : Option Int) (n : Nat) : Builtin.Slice.sliceAdjust lo hi 1 (n : Int) = (((sIx n 0 lo : Nat) : Int), ((sIx n n hi : Nat) : Int)) := by
  have h1 : ¬ ((1 : Int) < 0) := by omega
  unfold Builtin.Slice.sliceAdjust
  simp only [h1, if_false]
  refine Prod.ext ?_ ?_
  · cases lo with
    | none => rfl
    | some v => exact clip_eq v n 0
  · cases hi with
    | none => rfl
    | some v => exact clip_eq v n n
theorem places_gen (i j : Nat) : Builtin.Slice.slicePlaces (i : Int) (j : Int) 1 = j - i := by
  unfold Builtin.Slice.slicePlaces
  have h1 : (1 : Int) > 0 := by omega
  simp only [h1, if_true, Int.ediv_one]
  split <;> omega
theorem slicePart_ {v : Value} {o : Option Int} {Q : Option Int → Shared → Prop} (p : IsPart v o) (h : Q o s) : wpAny (model prog w) A (Builtin.Slice.slicePartIndex v) Q E s := by
  cases p with
  | none => exact slicePart_none h
  | int i t => exact slicePart_int h
theorem sliceApplied_gen {sl : Addr} {vl vu : Value} {lo hi : Option Int} {n : Nat} {Q : Int × Int × Nat → Shared → Prop} (hs : s.heap.IsSliceOf sl vl vu .none) (pl : IsPart vl lo) (pu : IsPart vu hi)
    (h : Q (((sIx n 0 lo : Nat) : Int), 1, sIx n n hi - sIx n 0 lo) s) : wpAny (model prog w) A (Builtin.Slice.sliceApplied (.ref sl) (pure (n : Int))) Q E s := by
  obtain ⟨os, hos, hcs, hds⟩ := id hs
  unfold Builtin.Slice.sliceApplied Builtin.Slice.sliceFields
  refine wpAny_bind (wpAny_bind (wpAny_field hos hds (x := vl) rfl (wpAny_bind (wpAny_field hos hds (x := vu) rfl (wpAny_bind (wpAny_field hos hds (x := .none) rfl (wpAny_pure ?_)))))))
  refine wpAny_bind (slicePart_none ?_)
  show wpAny _ _ (if ((1 : Int) == 0) = true then _ else _) _ _ s
  rw [if_neg (by decide)]
  refine wpAny_bind (slicePart_ pl (wpAny_bind (slicePart_ pu (wpAny_bind (wpAny_pure ?_)))))
  show wpAny _ _ (match Builtin.Slice.sliceAdjust lo hi 1 (n : Int) with | (lo, hi) => pure (lo, (1 : Int), Builtin.Slice.slicePlaces lo hi 1)) _ _ s
  rw [adjust_gen lo hi n]
  show wpAny _ _ (pure (((sIx n 0 lo : Nat) : Int), (1 : Int), Builtin.Slice.slicePlaces ((sIx n 0 lo : Nat) : Int) ((sIx n n hi : Nat) : Int) 1)) _ _ s
  rw [places_gen]
  exact wpAny_pure h
theorem pick_gen (xs : Array Value) (i k : Nat) : ((List.range k).filterMap fun (m : Nat) => xs[((i : Int) + (m : Int) * 1).toNat]?).toArray = ((xs.toList.drop i).take k).toArray := by
  have e : (fun (m : Nat) => xs[((i : Int) + (m : Int) * 1).toNat]?) = fun m => xs[i + m]? := by
    funext m
    have : ((i : Int) + (m : Int) * 1).toNat = i + m := by omega
    rw [this]
  rw [e]
  have := pick_run xs i k
  rw [List.filterMap_map] at this
  have e2 : ((fun x => xs[x]?) ∘ fun x => i + x) = fun m => xs[i + m]? := rfl
  rw [e2] at this
  rw [this]
theorem getItem_tuple_cut {t sl : Addr} {items : Array Value} {vl vu : Value} {lo hi : Option Int} {Q : Value → Shared → Prop} (ht : IsTup s.heap t items) (hs : s.heap.IsSliceOf sl vl vu .none) (pl : IsPart vl lo) (pu : IsPart vu hi)
    (hw : ¬ (sIx items.size 0 lo = 0 ∧ sIx items.size items.size hi = items.size))
    (h : Q (.ref s.heap.objs.size) { s with heap := s.heap.push { cls := .type "tuple", data := .seq ((items.toList.drop (sIx items.size 0 lo)).take (sIx items.size items.size hi - sIx items.size 0 lo)).toArray } })
    (hsz : items.size ≤ sizeLine) : wpAny (model prog w) A (getItem (.ref t) (.ref sl)) Q E s := by
  have htake : sizeOk (.seq ((items.toList.drop (sIx items.size 0 lo)).take (sIx items.size items.size hi - sIx items.size 0 lo)).toArray) := by
    show ((items.toList.drop (sIx items.size 0 lo)).take (sIx items.size items.size hi - sIx items.size 0 lo)).toArray.size ≤ sizeLine
    rw [List.size_toArray, List.length_take, List.length_drop, Array.length_toList]
    omega
  have hj : sIx items.size items.size hi ≤ items.size := sIx_le _ _ (Nat.le_refl _) hi
  obtain ⟨os, hos, hcs, hds⟩ := id hs
  have hTs : s.TypeIs (.ref sl) "slice" := ⟨os, hos, hcs⟩
  unfold getItem
  try with_reducible refine wpAny_holding ?_
  first | refine wpAny_bind (wpAny_pure ?_) | skip
  refine wpAny_bind (wpAny_sequenceKey ht.typeIs (by decide) ?_)
  refine wpAny_bind (wpAny_callSpecial?_slot (name := Str.ofString "__getitem__") ht.typeIs PyProof.Rows.slot_tuple_getitem
    (wpAny_call_entry PyProof.Rows.slot_tuple_getitem ht.typeIs entry_tuple_getitem ?_ (args_tuple_getitem _ _)))
  show wpAny _ _ (Builtin.Tuple.tupleItemsOf (.ref t) >>= _) _ _ s
  refine wpAny_bind (tupleItemsOf_ ht ?_)
  refine wpAny_bind (wpAny_typeOf hTs ?_)
  rw [if_pos (by decide)]
  refine wpAny_bind (sliceApplied_gen hs pl pu ?_)
  have hno : ¬ ((((sIx items.size 0 lo : Nat) : Int) == 0 && (1 : Int) == 1 && (sIx items.size items.size hi - sIx items.size 0 lo) == items.size) = true) := by
    intro q
    rw [Bool.and_eq_true, Bool.and_eq_true] at q
    have q1 : ((sIx items.size 0 lo : Nat) : Int) = 0 := eq_of_beq q.1.1
    have q2 : sIx items.size items.size hi - sIx items.size 0 lo = items.size := eq_of_beq q.2
    exact hw ⟨by omega, by omega⟩
  show wpAny _ _ (if (((sIx items.size 0 lo : Nat) : Int) == 0 && (1 : Int) == 1 && (sIx items.size items.size hi - sIx items.size 0 lo) == items.size) = true then _ else _) _ _ s
  rw [if_neg hno, pick_gen]
  first
    | exact wpAny_bind (m := Builtin.Tuple.tupleExact _) (wpAny_newObj_type (wpAny_pure ⟨_, rfl, wpAny_pure h⟩) htake)
    | exact wpAny_bind (m := Builtin.Tuple.tupleExact _) (wpAny_newObj_type (wpAny_bind (wpAny_pure (wpAny_pure ⟨_, rfl, wpAny_pure h⟩))) htake)
    | exact wpAny_bind (wpAny_bind (m := Builtin.Tuple.tupleExact _) (wpAny_newObj_type (wpAny_pure (wpAny_pure ⟨_, rfl, wpAny_pure h⟩)) htake))
    | exact wpAny_bind (wpAny_bind (m := Builtin.Tuple.tupleExact _) (wpAny_newObj_type (wpAny_pure ⟨_, rfl, wpAny_pure h⟩) htake))
end
end HT
namespace L2
open PySem PySem.Spec PyProof.Rows
/-! ### the parts of a slice -/
abbrev TO := St → Hp → (Option Int → Hp → Prop) → Prop
/-- a slice's part (left out, or an int) -/
def PO (X : Cx) (e : Option Expr) (t : TO) : Prop :=
  ∀ (pins : List (Addr × Obj)) (s : Shared) (σ : St) (H : Hp) (Q : Option Int → Hp → Prop), Inv X pins σ H s → t σ H Q →
    wpAny (model X.prog X.w) X.A (evalPart e X.env) (fun u s' => ∃ o H', Inv X pins σ H' s' ∧ IsPart u o ∧ Q o H') X.xe s
def tNoPart : TO := fun _ H Q => Q none H
def tPart (t : TE) : TO := fun σ H Q => t σ H fun x H1 => ∃ i, x = .int i ∧ Q (some i) H1
section
variable {X : Cx} {e : Expr} {te : TE} {lo hi : Option Expr} {tl th : TO} {pos p2 : Pos}
theorem po_none : PO X none tNoPart := by
  intro pins s σ H Q I h
  rw [evalPart_none]
  exact wpAny_pure ⟨none, H, I, .none, h⟩
theorem po_some (h : PE X e te) : PO X (some e) (tPart te) := by
  intro pins s σ H Q I hw
  rw [evalPart_some]
  refine thn (h pins s σ H _ I hw) fun u s1 ⟨x, H1, I1, r1, q1⟩ => ?_
  obtain ⟨i, rfl, q⟩ := q1
  obtain ⟨t, rfl⟩ := r1
  exact ⟨some i, H1, I1, .int i t, q⟩
/-- what a slice of a value is, by values: the slice object stands at sl -/
def SlR (X : Cx) (r : V → Option Int → Option Int → Hp → VK → Prop) : Prop :=
  ∀ (pins : List (Addr × Obj)) (s : Shared) (σ : St) (H : Hp) (x : V) (v vl vu : Value) (lo hi : Option Int) (sl : Addr) (Q : VK), Inv X pins σ H s → RelV x v → s.heap.IsSliceOf sl vl vu .none → IsPart vl lo → IsPart vu hi → r x lo hi H Q →
    ∃ T id, typeLookup (.type T) "__getitem__" = pure (some (.builtin id)) ∧ s.TypeIs v T ∧ wpAny (model X.prog X.w) X.A (getItem v (.ref sl)) (EP X pins σ Q) X.xe s
theorem SlR.or {r r' : V → Option Int → Option Int → Hp → VK → Prop} (h : SlR X r) (h' : SlR X r') : SlR X (fun x lo hi H Q => r x lo hi H Q ∨ r' x lo hi H Q) := by
  intro pins s σ H x v vl vu lo hi sl Q I rx hs pl pu q
  rcases q with q | q
  · exact h pins s σ H x v vl vu lo hi sl Q I rx hs pl pu q
  · exact h' pins s σ H x v vl vu lo hi sl Q I rx hs pl pu q
def tSl (r : V → Option Int → Option Int → Hp → VK → Prop) (te : TE) (tl th : TO) : TE := fun σ H Q => te σ H fun x H1 => tl σ H1 fun l H2 => th σ H2 fun u H3 => r x l u H3 Q
/-- a[lo:hi], any a -/
theorem pe_slice {r : V → Option Int → Option Int → Hp → VK → Prop} (hr : SlR X r) (he : PE X e te) (hl : PO X lo tl) (hu : PO X hi th) : PE X (.Subscript e (.Slice lo hi none p2) pos) (tSl r te tl th) := by
  intro pins s σ H Q I h
  refine Subscript_ (thn (he pins s σ H _ I h) fun v s1 ⟨x, H1, I1, r1, q1⟩ => ?_)
  refine wpAny_Slice (thn (hl pins s1 σ H1 _ I1 q1) fun vl s2 ⟨l, H2, I2, pl, q2⟩ => thn (hu pins s2 σ H2 _ I2 q2) fun vu s3 ⟨u, H3, I3, pu, q3⟩ => ?_)
  rw [evalPart_none]
  refine wpAny_pure ?_
  have I4 : Inv X pins σ H3 { s3 with heap := s3.heap.push { cls := .type "slice", data := .fields #[vl, vu, .none] } } := I3.kept (t' := s3.toks) fun b ob q => Heap.get?_push_of_some _ q
  obtain ⟨T, id, hT, ht, hg⟩ := hr pins { s3 with heap := s3.heap.push { cls := .type "slice", data := .fields #[vl, vu, .none] } } σ H3 x v vl vu l u s3.heap.objs.size Q I4 r1 (Heap.IsSliceOf.new ..) pl pu q3
  show wpAny (model X.prog X.w) X.A (subscriptTail e (.Slice lo hi none p2) v (.ref s3.heap.objs.size)) (EP X pins σ Q) X.xe { s3 with heap := s3.heap.push { cls := .type "slice", data := .fields #[vl, vu, .none] } }
  exact tail_any (ops := [.ref s3.heap.objs.size, v]) ht hT hg (by with_unfolding_all rfl)
/-- the items of xs[lo:hi] -/
def cutV (xs : List V) (lo hi : Option Int) : List V := (xs.drop (HT.sIx xs.length 0 lo)).take (HT.sIx xs.length xs.length hi - HT.sIx xs.length 0 lo)
theorem cutV_length (xs : List V) (lo hi : Option Int) : (cutV xs lo hi).length ≤ xs.length := by
  unfold cutV
  rw [List.length_take, List.length_drop]
  omega
/-- t[lo:hi], not the whole of it (the whole would be t itself) -/
def rSlT (K : PySem.W.Frag) : V → Option Int → Option Int → Hp → VK → Prop := fun x lo hi H Q => ∃ a xs, x = .ref a ∧ SqT K H a xs ∧
  ¬ (HT.sIx xs.length 0 lo = 0 ∧ HT.sIx xs.length xs.length hi = xs.length) ∧ ∀ p, H p = none → Q (.ref p) (upd H p (.tup (cutV xs lo hi)))
theorem sl_tup : SlR X (rSlT X.K) := by
  intro pins s σ H x v vl vu lo hi sl Q I rx hs pl pu h
  obtain ⟨a, xs, rfl, hx, hw, q⟩ := h
  cases rx
  obtain ⟨its, r, ht, hz⟩ := I.tuple hx
  have hlen : its.toArray.size = xs.length := by rw [List.size_toArray]; exact r.length.symm
  refine ⟨"tuple", _, PyProof.Rows.slot_tuple_getitem.lookup, ht.typeIs, ?_⟩
  refine HT.getItem_tuple_cut ht hs pl pu (by rw [hlen]; exact hw) ?_ (by rw [hlen]; exact hz)
  rw [hlen]
  refine ⟨.ref s.heap.objs.size, _, I.laid (t' := s.toks) (o := .tup (cutV xs lo hi)) (fun b ob q => Heap.get?_push_of_some _ q) (Nat.le_refl _) ?_, rfl, q _ (I.hok.fresh (Nat.le_refl _))⟩
  exact ⟨Nat.le_trans (cutV_length xs lo hi) hz, _, (r.drop (HT.sIx xs.length 0 lo)).take (HT.sIx xs.length xs.length hi - HT.sIx xs.length 0 lo), IsTup.new _ _⟩
/-! ### t < u, t + u -/
def rLtT (K : PySem.W.Frag) : R2 := fun x y H Q => ∃ a b ns ms, x = .ref a ∧ y = .ref b ∧ SqT K H a (ns.map V.int) ∧ SqT K H b (ms.map V.int) ∧ Q (.bl (HT.lexLt ns ms)) H
/-- t + u, t not empty: u empty gives t itself -/
def rCatT (K : PySem.W.Frag) : R2 := fun x y H Q => ∃ a b xs ys, x = .ref a ∧ y = .ref b ∧ SqT K H a xs ∧ SqT K H b ys ∧ xs ≠ [] ∧ xs.length + ys.length ≤ sizeLine ∧
  (ys = [] → Q (.ref a) H) ∧ (ys ≠ [] → ∀ p, H p = none → Q (.ref p) (upd H p (.tup (xs ++ ys))))
theorem Vals.nil_iff {xs : List V} {us : List Value} (r : Vals xs us) : us = [] ↔ xs = [] := by
  cases r with
  | nil => simp
  | cons _ _ => simp
theorem op_catT : OpR X (binaryOp .Add) (rCatT X.K) := by
  intro pins s σ H x y v u Q I rx ry h
  obtain ⟨a, b, xs, ys, rfl, rfl, ha, hb, hx, hz, q1, q2⟩ := h
  cases rx
  cases ry
  obtain ⟨its, r1, p1, _⟩ := I.tuple ha
  obtain ⟨its2, r2, p2, _⟩ := I.tuple hb
  refine HT.cat_tup p1 p2 (fun z => hx (r1.nil_iff.mp z)) (fun z => ⟨.ref a, H, I, rfl, q1 (r2.nil_iff.mp z)⟩) (fun z => ?_) (by rw [← r1.length, ← r2.length]; exact hz)
  refine ⟨.ref s.heap.objs.size, _, I.laid (t' := s.toks) (o := .tup (xs ++ ys)) (fun b ob q => Heap.get?_push_of_some _ q) (Nat.le_refl _) ?_, rfl, q2 (fun w => z (r2.nil_iff.mpr w)) _ (I.hok.fresh (Nat.le_refl _))⟩
  exact ⟨by rw [List.length_append]; exact hz, _, r1.append r2, IsTup.new _ _⟩
end
end L2
namespace L2
open PySem PySem.Spec PyProof.Rows
/-! ### places -/
/-- the place that an index of any sign means -/
def ixN (n : Nat) (i : Int) : Option Nat := if 0 ≤ i then (if i < n then some i.toNat else none) else if -(n : Int) ≤ i then some (i + n).toNat else none
def atI {α : Type} (xs : List α) (i : Int) : Option α := (ixN xs.length i).bind fun j => xs[j]?
theorem ixN_seq {n : Nat} {i : Int} {j : Nat} (h : ixN n i = some j) : seqIndex? i n = some j ∧ j < n ∧ -(n : Int) ≤ i ∧ i < n := by
  unfold ixN at h
  by_cases h0 : 0 ≤ i
  · rw [if_pos h0] at h
    by_cases h1 : i < n
    · rw [if_pos h1] at h
      have e : i.toNat = j := Option.some.inj h
      exact ⟨by rw [seqIndex_of h0 h1, e], by omega, by omega, h1⟩
    · rw [if_neg h1] at h; cases h
  · rw [if_neg h0] at h
    by_cases h1 : -(n : Int) ≤ i
    · rw [if_pos h1] at h
      have e : (i + n).toNat = j := Option.some.inj h
      exact ⟨by rw [seqIndex_neg (by omega) h1, e], by omega, h1, by omega⟩
    · rw [if_neg h1] at h; cases h
theorem atI_get {α : Type} {xs : List α} {i : Int} {v : α} (h : atI xs i = some v) : ∃ j, seqIndex? i xs.length = some j ∧ xs[j]? = some v ∧ j < xs.length ∧ -(xs.length : Int) ≤ i ∧ i < xs.length := by
  unfold atI at h
  cases e : ixN xs.length i with
  | none => rw [e] at h; cases h
  | some j =>
    rw [e] at h
    obtain ⟨h1, h2, h3, h4⟩ := ixN_seq e
    exact ⟨j, h1, h, h2, h3, h4⟩
theorem atI_nat {α : Type} {xs : List α} {j : Nat} {v : α} (h : xs[j]? = some v) : atI xs (j : Int) = some v := by
  have hj : j < xs.length := (List.getElem?_eq_some_iff.mp h).1
  have e : ixN xs.length (j : Int) = some j := by
    unfold ixN
    rw [if_pos (by omega), if_pos (by omega)]; simp
  unfold atI; rw [e]; exact h
theorem atI_last {α : Type} (xs : List α) (v : α) : atI (xs ++ [v]) (-1) = some v := by
  have hl : (xs ++ [v]).length = xs.length + 1 := by simp
  have e : ixN (xs ++ [v]).length (-1) = some xs.length := by
    unfold ixN
    rw [hl, if_neg (by decide), if_pos (by omega)]
    congr 1
    omega
  unfold atI
  rw [e]
  show (xs ++ [v])[xs.length]? = some v
  simp
/-! ### what may be subscripted -/
/-- what stands as an index of a plain subscript -/
def PlainIx (b : Expr) : Prop := ∀ o i, subscripted b false o i = operate [o, i] (getItem o i)
/-- a subscript by values -/
def IxR (X : Cx) (r : R2) : Prop :=
  ∀ (value slice : Expr) (pins : List (Addr × Obj)) (s : Shared) (σ : St) (H : Hp) (x y : V) (v u : Value) (Q : VK), Inv X pins σ H s → RelV x v → RelV y u → r x y H Q →
    subscripted slice false v u = operate [v, u] (getItem v u) → wpAny (model X.prog X.w) X.A (subscriptTail value slice v u) (EP X pins σ Q) X.xe s
/-- a call of a builtin's method by values: the receiver, the arguments -/
def MtR (X : Cx) (id : String) (r : V → List V → Hp → VK → Prop) : Prop :=
  ∀ (pins : List (Addr × Obj)) (s : Shared) (σ : St) (H : Hp) (x : V) (xs : List V) (v : Value) (us : List Value) (Q : VK), Inv X pins σ H s → RelV x v → Vals xs us → r x xs H Q →
    wpAny (model X.prog X.w) X.A (call (.builtin id) (v :: us)) (EP X pins σ Q) X.xe s
section
variable {X : Cx} {a b : Expr} {ta tb : TE} {pos : Pos}
theorem IxR.or {r r' : R2} (h : IxR X r) (h' : IxR X r') : IxR X (fun x y H Q => r x y H Q ∨ r' x y H Q) := by
  intro value slice pins s σ H x y v u Q I rx ry q hs
  rcases q with q | q
  · exact h value slice pins s σ H x y v u Q I rx ry q hs
  · exact h' value slice pins s σ H x y v u Q I rx ry q hs
/-- a[b] -/
theorem pe_ix {r : R2} (hr : IxR X r) (ha : PE X a ta) (hb : PE X b tb) (hs : PlainIx b) : PE X (.Subscript a b pos) (tOp r ta tb) := by
  intro pins s σ H Q I h
  exact Subscript_ (binT ha hb I h fun v u s2 x y H2 I2 rx ry q => hr a b pins s2 σ H2 x y v u Q I2 rx ry q (hs _ _))
def rIxL (K : PySem.W.Frag) : R2 := fun x y H Q => ∃ p xs i v, x = .ref p ∧ y = .int i ∧ SqL K H p xs ∧ atI xs i = some v ∧ Q v H
def rIxT (K : PySem.W.Frag) : R2 := fun x y H Q => ∃ p xs i v, x = .ref p ∧ y = .int i ∧ SqT K H p xs ∧ atI xs i = some v ∧ Q v H
def rIxS : R2 := fun x y H Q => ∃ z i c, x = .str z ∧ y = .int i ∧ z.length ≤ sizeLine ∧ atI z.cps.toList i = some c ∧ Q (.str ⟨#[c]⟩) H
theorem ix_list : IxR X (rIxL X.K) := by
  intro value slice pins s σ H x y v u Q I rx ry h hs
  obtain ⟨p, xs, i, z, rfl, rfl, hq, he, q⟩ := h
  cases rx
  obtain ⟨t, rfl⟩ := ry
  obtain ⟨its, r, pl, hz⟩ := I.list hq
  obtain ⟨j, h1, h2, h3, h4, h5⟩ := atI_get he
  obtain ⟨w, ew, rw'⟩ := r.get h2
  have hl := r.length
  have hn := line63
  have fin : EP X pins σ Q w s := ⟨z, H, I, rw', q⟩
  by_cases h0 : 0 ≤ i
  · have hj : i.toNat = j := by
      rw [seqIndex_of h0 h5] at h1
      exact Option.some.inj h1
    exact item_listR pl.isList h0 (by omega) (by rw [hj]; simpa using ew) fin hs
  · have hj : (i + (its.toArray.size : Int)).toNat = j := by
      rw [seqIndex_neg (by omega) h4] at h1
      rw [List.size_toArray, ← hl]
      exact Option.some.inj h1
    exact subscriptTail_builtinR (x := w) pl.isList.typeIs slot_list_getitem.lookup
      (wpAny_getItem_list_neg (Q := fun r s' => r = w ∧ EP X pins σ Q r s') pl.isList (by omega) (by rw [List.size_toArray] <;> omega) (by omega) (by rw [hj]; simpa using ew) ⟨rfl, fin⟩) hs
theorem ix_tup : IxR X (rIxT X.K) := by
  intro value slice pins s σ H x y v u Q I rx ry h hs
  obtain ⟨p, xs, i, z, rfl, rfl, hq, he, q⟩ := h
  cases rx
  obtain ⟨t, rfl⟩ := ry
  obtain ⟨its, r, pl, hz⟩ := I.tuple hq
  obtain ⟨j, h1, h2, h3, h4, h5⟩ := atI_get he
  obtain ⟨w, ew, rw'⟩ := r.get h2
  have hl := r.length
  have hn := line63
  have fin : EP X pins σ Q w s := ⟨z, H, I, rw', q⟩
  exact subscriptTail_builtinR (x := w) pl.typeIs slot_tuple_getitem.lookup
    (getItem_tuple (j := j) (Q := fun r s' => r = w ∧ EP X pins σ Q r s') pl (by omega) (by omega) (by rw [List.size_toArray, ← hl]; exact h1) (by simpa using ew) ⟨rfl, fin⟩) hs
theorem ix_str : IxR X rIxS := by
  intro value slice pins s σ H x y v u Q I rx ry h hs
  obtain ⟨z, i, c, rfl, rfl, hz, he, q⟩ := h
  obtain ⟨t, rfl⟩ := rx
  obtain ⟨t', rfl⟩ := ry
  obtain ⟨j, h1, h2, h3, h4, h5⟩ := atI_get he
  have hl : z.cps.toList.length = z.length := by simp [Str.length]
  rw [hl] at h1 h4 h5
  have hn := line63
  exact tail_any (typeIs_str s z t) slot_str_getitem.lookup (getItem_str (c := c) (by
    have e1 : decide (i < -(2 ^ 63 : Int)) = false := decide_eq_false (by omega)
    have e2 : decide (i ≥ 2 ^ 63) = false := decide_eq_false (by omega)
    rw [e1, e2, Bool.or_false]) (by rw [h1]; simpa using h2) ⟨.str ⟨#[c]⟩, H, I.tok _, ⟨_, rfl⟩, q⟩) hs
/-- list, tuple or str -/
def rIx (K : PySem.W.Frag) : R2 := fun x y H Q => rIxL K x y H Q ∨ rIxT K x y H Q ∨ rIxS x y H Q
theorem ix_seq : IxR X (rIx X.K) := ix_list.or (ix_tup.or ix_str)
/-! ### xs[i] = v, any sign -/
theorem Inv.lst {pins : List (Addr × Obj)} {σ : St} {H : Hp} {s : Shared} {p : Addr} {xs : List V} (I : Inv X pins σ H s) (h : H p = some (.lst xs)) :
    ∃ (its : List Value) (n : Nat), Vals xs its ∧ s.heap.get? p = some { cls := .type "list", data := .seq its.toArray n } ∧ xs.length ≤ sizeLine := by
  obtain ⟨z, its, n, r, e⟩ := I.hok p _ h
  exact ⟨its, n, r, e, z⟩
def rSetL : V → V → V → Hp → (Hp → Prop) → Prop := fun o i v H Q => ∃ p xs k j, o = .ref p ∧ i = .int k ∧ H p = some (.lst xs) ∧ ixN xs.length k = some j ∧ Q (upd H p (.lst (xs.set j v)))
/-! ### slices -/
theorem slice_bounds (lo hi : Option Int) (n : Nat) : (sliceBounds lo hi none n).1 = ((HT.sIx n 0 lo : Nat) : Int) ∧ (sliceBounds lo hi none n).2.1 = ((HT.sIx n n hi : Nat) : Int) ∧ (sliceBounds lo hi none n).2.2 = 1 := by
  refine ⟨?_, ?_, rfl⟩
  · cases lo with
    | none => simp [sliceBounds, HT.sIx]
    | some i =>
      simp only [sliceBounds, HT.sIx, Option.getD_none, show (1 : Int) > 0 by decide, if_true]
      by_cases h : i < 0
      · simp only [h, if_true] <;> omega
      · simp only [h, if_false] <;> omega
  · cases hi with
    | none => simp [sliceBounds, HT.sIx]
    | some i =>
      simp only [sliceBounds, HT.sIx, Option.getD_none, show (1 : Int) > 0 by decide, if_true]
      by_cases h : i < 0
      · simp only [h, if_true] <;> omega
      · simp only [h, if_false] <;> omega
theorem slicePick_cut (its : List Value) (lo hi : Option Int) : slicePick its.toArray lo hi none = ((its.drop (HT.sIx its.length 0 lo)).take (HT.sIx its.length its.length hi - HT.sIx its.length 0 lo)).toArray := by
  obtain ⟨h1, h2, h3⟩ := slice_bounds lo hi its.toArray.size
  unfold slicePick
  rw [h1, h2, h3]
  simp only [sliceRange_one, pick_run, List.size_toArray] <;> rfl
/-- xs[lo:hi] of a list: a new list -/
def rSlL (K : PySem.W.Frag) : V → Option Int → Option Int → Hp → VK → Prop := fun x lo hi H Q => ∃ a xs, x = .ref a ∧ SqL K H a xs ∧ ∀ p, H p = none → Q (.ref p) (upd H p (.lst (cutV xs lo hi)))
theorem sl_list : SlR X (rSlL X.K) := by
  intro pins s σ H x v vl vu lo hi sl Q I rx hs pl pu h
  obtain ⟨a, xs, rfl, hx, q⟩ := h
  cases rx
  obtain ⟨its, r, ht, hz⟩ := I.list hx
  have hlen := r.length
  refine ⟨"list", _, slot_list_getitem.lookup, ht.isList.typeIs, ?_⟩
  refine wpAny_getItem_list_slice ht.isList hs pl pu .none (by simp) ?_ (by rw [List.size_toArray] <;> omega)
  rw [slicePick_cut, ← hlen]
  refine ⟨.ref s.heap.objs.size, _, I.laid (t' := s.toks) (o := .lst (cutV xs lo hi)) (fun b ob q => Heap.get?_push_of_some _ q) (Nat.le_refl _) ?_, rfl, q _ (I.hok.fresh (Nat.le_refl _))⟩
  exact ⟨Nat.le_trans (cutV_length xs lo hi) hz, _, 0, (r.drop (HT.sIx xs.length 0 lo)).take (HT.sIx xs.length xs.length hi - HT.sIx xs.length 0 lo), Heap.get?_push_size _ rfl⟩
/-! ### in, not in: flat items -/
def flatV : V → Bool
  | .non => true
  | .bl _ => true
  | .int _ => true
  | .str _ => true
  | _ => false
/-- == of flat values -/
def eqV : V → V → Bool
  | .non, .non => true
  | .bl a, .bl b => a == b
  | .bl a, .int b => (if a then 1 else 0) == b
  | .int a, .bl b => a == (if b then 1 else 0)
  | .int a, .int b => a == b
  | .str a, .str b => a == b
  | _, _ => false
theorem eqAt_V {A : Around} {s : Shared} {y x : V} {u v : Value} (ry : RelV y u) (rx : RelV x v) (fy : flatV y = true) (fx : flatV x = true) : SeqAt.EqAt A s u v (eqV y x) := by
  cases y with
  | non =>
    cases ry
    cases x with
    | non => cases rx; exact SeqAt.EqAt.same _
    | bl b => cases rx; exact SeqAt.EqAt.none_bool b
    | int b => obtain ⟨t, rfl⟩ := rx; exact SeqAt.EqAt.none_int b t
    | str b => obtain ⟨t, rfl⟩ := rx; exact SeqAt.EqAt.none_str b t
    | _ => exact absurd (show false = true from fx) Bool.false_ne_true
  | bl a =>
    cases ry
    cases x with
    | non => cases rx; exact SeqAt.EqAt.bool_none a
    | bl b => cases rx; exact SeqAt.EqAt.bool_bool a b
    | int b => obtain ⟨t, rfl⟩ := rx; exact SeqAt.EqAt.bool_int a b t
    | str b => obtain ⟨t, rfl⟩ := rx; exact SeqAt.EqAt.bool_str a b t
    | _ => exact absurd (show false = true from fx) Bool.false_ne_true
  | int a =>
    obtain ⟨t', rfl⟩ := ry
    cases x with
    | non => cases rx; exact SeqAt.EqAt.int_none a t'
    | bl b => cases rx; exact SeqAt.EqAt.int_bool a t' b
    | int b => obtain ⟨t, rfl⟩ := rx; exact SeqAt.EqAt.int_int a t' b t
    | str b => obtain ⟨t, rfl⟩ := rx; exact SeqAt.EqAt.int_str a t' b t
    | _ => exact absurd (show false = true from fx) Bool.false_ne_true
  | str a =>
    obtain ⟨t', rfl⟩ := ry
    cases x with
    | non => cases rx; exact SeqAt.EqAt.str_none a t'
    | bl b => cases rx; exact SeqAt.EqAt.str_bool a t' b
    | int b => obtain ⟨t, rfl⟩ := rx; exact SeqAt.EqAt.str_int a t' b t
    | str b => obtain ⟨t, rfl⟩ := rx; exact SeqAt.EqAt.str_str a t' b t
    | _ => exact absurd (show false = true from fx) Bool.false_ne_true
  | _ => exact absurd (show false = true from fy) Bool.false_ne_true
/-- the items' answers, read off the values (a value's own answer does not lean on its token) -/
def eqU (x : V) (u : Value) : Bool := match u with
  | .none => eqV .non x
  | .bool b => eqV (.bl b) x
  | .int i _ => eqV (.int i) x
  | .str z _ => eqV (.str z) x
  | _ => false
def inV (x : V) (xs : List V) : Bool := xs.any fun y => eqV y x
/-- x in a list or tuple of flat items -/
def rIn (K : PySem.W.Frag) (neg : Bool) : R2 := fun x y H Q => ∃ p xs, y = .ref p ∧ (SqL K H p xs ∨ SqT K H p xs) ∧ flatV x = true ∧ xs.all flatV = true ∧ Q (.bl (if neg then !inV x xs else inV x xs)) H
/-! ### len, list(x), tuple(x) of any list or tuple that is read -/
theorem call_len_seq : CallR X (.builtin "len") (fun xs H Q => ∃ p ys, xs = [.ref p] ∧ (SqL X.K H p ys ∨ SqT X.K H p ys) ∧ Q (.int ys.length) H) := by
  intro pins s σ H xs us Q I r h
  obtain ⟨p, ys, rfl, hq, q⟩ := h
  obtain ⟨u, rfl, rx⟩ := vals1 r
  cases rx
  have hn := line63
  rcases hq with hq | hq
  · obtain ⟨its, r', pl, hz⟩ := I.list hq
    have hlen := r'.length
    exact Calls.call_len_list pl.isList (by simp only [List.size_toArray] <;> omega) ⟨.int ys.length, H, I.tok _, ⟨s.toks + 1, by rw [List.size_toArray, hlen]⟩, q⟩
  · obtain ⟨its, r', pl, hz⟩ := I.tuple hq
    have hlen := r'.length
    exact len_tuple pl (by simp only [List.size_toArray] <;> omega) ⟨.int ys.length, H, I.tok _, ⟨s.toks + 1, by rw [List.size_toArray, hlen]⟩, q⟩
theorem call_len_str : CallR X (.builtin "len") (fun xs H Q => ∃ z, xs = [.str z] ∧ z.length ≤ sizeLine ∧ Q (.int z.length) H) := by
  intro pins s σ H xs us Q I r h
  obtain ⟨z, rfl, hz, q⟩ := h
  obtain ⟨u, rfl, t, rfl⟩ := vals1 r
  have hn := line63
  exact len_str (by omega) ⟨.int z.length, H, I.tok _, ⟨_, rfl⟩, q⟩
theorem CallR.or {f : Value} {r r' : List V → Hp → VK → Prop} (h : CallR X f r) (h' : CallR X f r') : CallR X f (fun xs H Q => r xs H Q ∨ r' xs H Q) := by
  intro pins s σ H xs us Q I rs q
  rcases q with q | q
  · exact h pins s σ H xs us Q I rs q
  · exact h' pins s σ H xs us Q I rs q
theorem call_tuple_of : CallR X (.type "tuple") (fun xs H Q => ∃ p ys, xs = [.ref p] ∧ ((SqL X.K H p ys ∧ ∀ l, H l = none → Q (.ref l) (upd H l (.tup ys))) ∨ (SqT X.K H p ys ∧ Q (.ref p) H))) := by
  intro pins s σ H xs us Q I r h
  obtain ⟨p, ys, rfl, h⟩ := h
  obtain ⟨u, rfl, rx⟩ := vals1 r
  cases rx
  rcases h with ⟨hq, q⟩ | ⟨hq, q⟩
  · obtain ⟨its, r', pl, hz⟩ := I.list hq
    have hlen := r'.length
    refine call_tuple_list pl.isList (fun h' kp => ?_) (by simp only [List.size_toArray] <;> omega)
    have I1 : Inv X pins σ H { s with heap := h' } := I.kept (t' := s.toks) kp
    have I2 : Inv X pins σ (upd H h'.objs.size (.tup ys)) { s with heap := h'.push { cls := .type "tuple", data := .seq its.toArray } } :=
      I1.laid (t' := s.toks) (fun b o e => Heap.get?_push_of_some _ e) (Nat.le_refl _) (show ObjOk X.prog X.w _ _ _ (.tup ys) from ⟨hz, its, r', IsTup.new _ _⟩)
    exact ⟨.ref h'.objs.size, _, I2, rfl, q _ (I1.hok.fresh (Nat.le_refl _))⟩
  · obtain ⟨its, r', pl, hz⟩ := I.tuple hq
    exact call_tuple_same pl ⟨.ref p, H, I, rfl, q⟩
/-! ### the call of a builtin's method: o.m(..) -/
/-- the value is of that builtin type -/
def tyV (K : PySem.W.Frag) (T : String) (x : V) (H : Hp) : Prop := match x with
  | .str _ => T = "str"
  | .int _ => T = "int"
  | .ref p => (T = "list" ∧ ∃ xs, SqL K H p xs) ∨ (T = "tuple" ∧ ∃ o, K.lookup p = some o ∧ o.cls = .type "tuple" ∧ o.dict = none) ∨
      (T = "dict" ∧ ((∃ kvs, H p = some (.dK kvs)) ∨ ∃ kvs, H p = some (.dT kvs))) ∨ (T = "set" ∧ ∃ S n, H p = some (.set S n))
  | _ => False
theorem tyV_is {pins : List (Addr × Obj)} {σ : St} {H : Hp} {s : Shared} {T : String} {x : V} {v : Value} (I : Inv X pins σ H s) (r : RelV x v) (ty : tyV X.K T x H) :
    s.TypeIs v T ∧ ∀ a, v = .ref a → ∃ ob, s.heap.get? a = some ob ∧ ob.dict = none := by
  cases x with
  | str z =>
    obtain ⟨t, rfl⟩ := r
    cases (show T = "str" from ty)
    exact ⟨typeIs_str s z t, fun _ e => nomatch e⟩
  | int i =>
    obtain ⟨t, rfl⟩ := r
    cases (show T = "int" from ty)
    exact ⟨typeIs_int s i t, fun _ e => nomatch e⟩
  | ref p =>
    cases r
    rcases ty with ⟨rfl, xs, hq⟩ | ⟨rfl, o, hk, hc, hd⟩ | ⟨rfl, hk⟩ | ⟨rfl, S, n, hk⟩
    · obtain ⟨its, _, pl, _⟩ := I.list hq
      refine ⟨pl.isList.typeIs, fun a e => ?_⟩
      cases e
      obtain ⟨o, n, e, c, hd, _⟩ := pl
      exact ⟨o, e, hd⟩
    · refine ⟨⟨o, I.kIn p o hk, hc⟩, fun a e => ?_⟩
      cases e
      exact ⟨o, I.kIn _ o hk, hd⟩
    · have z : ∃ o, s.heap.get? p = some o ∧ o.ExactDict := by
        rcases hk with ⟨kvs, hk⟩ | ⟨kvs, hk⟩
        · obtain ⟨_, _, _, _, o, _, _, e, ex, _⟩ := I.hok p _ hk
          exact ⟨o, e, ex⟩
        · obtain ⟨_, _, _, _, o, _, _, e, ex, _⟩ := I.hok p _ hk
          exact ⟨o, e, ex⟩
      obtain ⟨o, e, ex⟩ := z
      refine ⟨⟨o, e, ex.1⟩, fun a e2 => ?_⟩
      cases e2
      exact ⟨o, e, ex.2.1⟩
    · obtain ⟨o, _, _, _, e, ex, _⟩ := I.hok p _ hk
      refine ⟨⟨o, e, ex.1⟩, fun a e2 => ?_⟩
      cases e2
      exact ⟨o, e, ex.2.1⟩
  | _ => exact False.elim ty
def tBM0 (K : PySem.W.Frag) (T : String) (r : V → List V → Hp → VK → Prop) (to : TE) : TE := fun σ H Q => to σ H fun x H1 => tyV K T x H1 ∧ r x [] H1 Q
def tBM (K : PySem.W.Frag) (T : String) (r : V → List V → Hp → VK → Prop) (to : TE) (t : TA) : TE := fun σ H Q => to σ H fun x H1 => tyV K T x H1 ∧ t σ H1 fun xs H2 => r x xs H2 Q
variable {o e : Expr} {es : List Expr} {to : TE} {t : TA} {name : Str} {apos cpos : Pos} {T id : String} {r : V → List V → Hp → VK → Prop}
theorem pe_bm0 (pa : PlainAttrs T) (slot : Slot T name id) (hty : typeOf (.builtin id) = pure (.type "method_descriptor")) (hm : MtR X id r) (ho : PE X o to)
    (hbase : attributeBase o name X.env (eval o X.env) = eval o X.env := by rfl) (hline : (apos.endLine == cpos.line) = true := by rfl) : PE X (.Call (.Attribute o name apos) [] [] cpos) (tBM0 X.K T r to) := by
  intro pins s σ H Q I h
  refine wpAny_Call_method0_late hbase hline (thn (ho pins s σ H _ I h) fun v s1 ⟨x, H1, I1, r1, ty, q1⟩ => ?_)
  obtain ⟨h1, h2⟩ := tyV_is I1 r1 ty
  exact ⟨T, id, pa, slot, hty, h1, h2, Calls.callWith_builtin rfl (PySem.evalArgs_none (hm pins s1 σ H1 x [] v [] Q I1 r1 .nil q1))⟩
theorem pe_bm (pa : PlainAttrs T) (slot : Slot T name id) (hty : typeOf (.builtin id) = pure (.type "method_descriptor")) (hm : MtR X id r) (ho : PE X o to) (ha : PA X (e :: es) t)
    (hbase : attributeBase o name X.env (eval o X.env) = eval o X.env := by rfl)
    (hfew : ((backTo cpos (starEach (e :: es) X.env)).all (fun x => !x.1) && (backToKw cpos (keywordEach [] X.env)).all (fun x => x.1.isSome)
      && decide ((e :: es).length + ([] : List Keyword).length + (if ([] : List Keyword).isEmpty then 0 else 1) < 30)) = true := by rfl)
    (hline : (apos.endLine == cpos.line) = true := by rfl) (hs : starEach (e :: es) X.env = (false, eval e X.env) :: starEach es X.env := by rfl) (hplain : (backTo cpos (starEach es X.env)).any (·.1) = false := by rfl) :
    PE X (.Call (.Attribute o name apos) (e :: es) [] cpos) (tBM X.K T r to t) := by
  intro pins s σ H Q I h
  refine wpAny_Call_method_late hbase hfew hline rfl (thn (ho pins s σ H _ I h) fun v s1 ⟨x, H1, I1, r1, ty, q1⟩ => ?_)
  obtain ⟨h1, h2⟩ := tyV_is I1 r1 ty
  refine ⟨T, id, pa, slot, hty, h1, h2, ?_⟩
  have hA := ha cpos pins s1 σ H1 _ I1 q1
  rw [hs] at hA ⊢
  refine Calls.callWith_builtin (by show (false || (backTo cpos (starEach es X.env)).any (·.1)) = false; rw [hplain] <;> rfl) (Calls.evalArgs_plain ?_)
  exact thn hA fun us s2 ⟨vs, H2, I2, r2, q2⟩ => hm pins s2 σ H2 x vs v us Q I2 r1 r2 q2
/- xs.append(e), list.index on a module's tuple .. are MtR facts of 06m -/
end
end L2
namespace L2
open PySem PySem.Spec PyProof.Rows
def MtM (X : Cx) (id : String) (r : V → List V → Hp → VK → Prop) : Prop :=
  ∀ (pins : List (Addr × Obj)) (s : Shared) (σ : St) (H : Hp) (x : V) (xs : List V) (v : Value) (us : List Value) (Q : VK), Inv X pins σ H s → RelV x v → Vals xs us → r x xs H Q →
    wpAny (model X.prog X.w) X.A (call (.builtin id) (v :: us)) (EP X pins σ Q) X.xe s
/-! ### lists of values -/
theorem Vals.one : ∀ {x : V} {us : List Value}, Vals [x] us → ∃ u, us = [u] ∧ RelV x u
  | _, _, .cons r .nil => ⟨_, rfl, r⟩
theorem Vals.two : ∀ {x y : V} {us : List Value}, Vals [x, y] us → ∃ u v, us = [u, v] ∧ RelV x u ∧ RelV y v
  | _, _, _, .cons r (.cons q .nil) => ⟨_, _, rfl, r, q⟩
theorem Vals.zero : ∀ {us : List Value}, Vals [] us → us = []
  | _, .nil => rfl
theorem Vals.dropLast {xs : List V} {us : List Value} (h : Vals xs us) : Vals xs.dropLast us.dropLast := by
  induction h with
  | nil => exact .nil
  | cons r t ih =>
    cases t with
    | nil => exact .nil
    | cons q t' => exact .cons r ih
theorem Vals.eraseIdx : ∀ {xs : List V} {us : List Value} (i : Nat), Vals xs us → Vals (xs.eraseIdx i) (us.eraseIdx i)
  | _, _, _, .nil => .nil
  | _, _, 0, .cons _ t => t
  | _, _, i + 1, .cons r t => .cons r (Vals.eraseIdx i t)
theorem erase_last {α : Type} (l : List α) : l.eraseIdx (l.length - 1) = l.dropLast := by
  induction l with
  | nil => rfl
  | cons a r ih =>
    cases r with
    | nil => rfl
    | cons b r =>
      have e : (a :: b :: r).length - 1 = ((b :: r).length - 1) + 1 := by
        have h1 : (a :: b :: r).length = r.length + 2 := rfl
        have h2 : (b :: r).length = r.length + 1 := rfl
        omega
      rw [e, List.eraseIdx_cons_succ, ih]
      all_goals rfl
theorem len_erase {α : Type} : ∀ (l : List α) (i : Nat), (l.eraseIdx i).length ≤ l.length
  | [], _ => Nat.le_refl _
  | _ :: _, 0 => Nat.le_succ _
  | _ :: r, i + 1 => Nat.succ_le_succ (len_erase r i)
section
variable {X : Cx} {pins : List (Addr × Obj)} {σ : St} {H : Hp} {s : Shared} {l b : Addr} {xs ys zs : List V}
/-! ### the two steps: a tracked list is rewritten, a new list is laid -/
theorem Inv.lset {its its' : List Value} {n : Nat} {f : Array Value → Array Value} {t' : Nat} (I : Inv X pins σ H s) (hH : H l = some (.lst xs))
    (e : s.heap.get? l = some { cls := .type "list", data := .seq its.toArray n }) (hf : f its.toArray = its'.toArray) (hv : Vals ys its') (hz : ys.length ≤ sizeLine) :
    Inv X pins σ (upd H l (.lst ys)) { s with heap := s.heap.update l (Obj.mapSeq f), toks := t' } := by
  have q := PySem.IsL.update e f
  rw [hf] at q
  refine I.write (x := l) (e := l) (by rw [hH]; exact trivial) (.inl rfl) (fun b' u hb hu => (Heap.get?_update_other s.heap (Obj.mapSeq f) (Ne.symm hb)).trans hu) ⟨_, q⟩ ?_
  exact ⟨hz, its', _, hv, q⟩
theorem Inv.lnew {its : List Value} {t' : Nat} (I : Inv X pins σ H s) (hv : Vals ys its) (hz : ys.length ≤ sizeLine) :
    Inv X pins σ (upd H s.heap.objs.size (.lst ys)) { s with heap := s.heap.push { cls := .type "list", data := .seq its.toArray }, toks := t' } :=
  I.laid (fun _ _ q => Heap.get?_push_of_some _ q) (Nat.le_refl _) ⟨hz, its, 0, hv, Heap.get?_push_size _ rfl⟩
theorem Inv.fresh (I : Inv X pins σ H s) : H s.heap.objs.size = none := I.hok.fresh (Nat.le_refl _)
theorem Inv.lstM (I : Inv X pins σ H s) (hH : H l = some (.lst xs)) : xs.length ≤ sizeLine ∧ ∃ (its : List Value) (n : Nat), Vals xs its ∧ xs.length = its.length ∧ s.heap.get? l = some { cls := .type "list", data := .seq its.toArray n } := by
  obtain ⟨z, its, n, r, e⟩ := I.hok l _ hH
  exact ⟨z, its, n, r, r.length, e⟩
end
section
variable {X : Cx}
/-! ### methods -/
def rAppend : V → List V → Hp → VK → Prop := fun x vs H Q => ∃ l xs y, x = .ref l ∧ vs = [y] ∧ H l = some (.lst xs) ∧ xs.length < sizeLine ∧ Q .non (upd H l (.lst (xs ++ [y])))
theorem mt_append : MtM X "list.append" rAppend := by
  intro pins s σ H x vs v us Q I rx rv h
  obtain ⟨l, xs, y, rfl, rfl, hH, hz, q⟩ := h
  cases rx
  obtain ⟨u, rfl, ru⟩ := rv.one
  obtain ⟨z, its, n, r, hl, e⟩ := I.lstM hH
  refine call_meets F.slot_list_append ⟨_, e, rfl⟩ F.entry_list_append (F.args_list_append_2 _ _) (PySem.list_append l its.toArray n u (by rw [List.size_toArray]; omega)) ⟨e, ?_⟩
  refine ⟨.non, _, I.lset (its' := its ++ [u]) hH e (by simp) (r.append (.cons ru .nil)) ?_, rfl, q⟩
  rw [List.length_append, List.length_singleton]
  omega
def rExtend : V → List V → Hp → VK → Prop := fun x vs H Q => ∃ l b xs zs, x = .ref l ∧ vs = [.ref b] ∧ H l = some (.lst xs) ∧ H b = some (.lst zs) ∧ xs.length + zs.length ≤ sizeLine ∧ Q .non (upd H l (.lst (xs ++ zs)))
def rPop : V → List V → Hp → VK → Prop := fun x vs H Q => ∃ l xs y, x = .ref l ∧ vs = [] ∧ H l = some (.lst xs) ∧ xs[xs.length - 1]? = some y ∧ Q y (upd H l (.lst xs.dropLast))
theorem mt_pop : MtM X "list.pop" rPop := by
  intro pins s σ H x vs v us Q I rx rv h
  obtain ⟨l, xs, y, rfl, rfl, hH, hy, q⟩ := h
  cases rx
  have hus := rv.zero
  subst hus
  obtain ⟨z, its, n, r, hl, e⟩ := I.lstM hH
  obtain ⟨u, hu, ru⟩ := r.get hy
  have hy' : its.toArray[its.toArray.size - 1]? = some u := by
    show its.toArray[its.length - 1]? = some u
    rw [← Array.getElem?_toList, ← hl]
    exact hu
  refine call_meets F.slot_list_pop ⟨_, e, rfl⟩ F.entry_list_pop (F.args_list_pop_1 _) (MeetsSeq.list_pop_last l its.toArray n u hy' (by rw [List.size_toArray]; omega)) ⟨e, ?_⟩
  refine ⟨y, _, I.lset (its' := its.dropLast) hH e ?_ r.dropLast ?_, ru, q⟩
  · show its.toArray.eraseIdxIfInBounds (its.toArray.size - 1) = its.dropLast.toArray
    rw [List.size_toArray, List.eraseIdxIfInBounds_toArray, erase_last]
  · rw [List.length_dropLast]
    omega
def rPopAt : V → List V → Hp → VK → Prop := fun x vs H Q => ∃ l xs i k y, x = .ref l ∧ vs = [.int i] ∧ H l = some (.lst xs) ∧ -(2 ^ 63) ≤ i ∧ i < 2 ^ 63 ∧ seqIndex? i xs.length = some k ∧ xs[k]? = some y ∧ Q y (upd H l (.lst (xs.eraseIdx k)))
theorem mt_popAt : MtM X "list.pop" rPopAt := by
  intro pins s σ H x vs v us Q I rx rv h
  obtain ⟨l, xs, i, k, y, rfl, rfl, hH, h1, h2, hk, hy, q⟩ := h
  cases rx
  obtain ⟨u, rfl, ru⟩ := rv.one
  obtain ⟨t, rfl⟩ := ru
  obtain ⟨z, its, n, r, hl, e⟩ := I.lstM hH
  obtain ⟨w, hw, rw'⟩ := r.get hy
  refine call_meets F.slot_list_pop ⟨_, e, rfl⟩ F.entry_list_pop (F.args_list_pop_2 _ _)
    (MeetsSeq.list_pop_at l its.toArray n i t k w (fitsIndex_both h1 h2) (by rw [List.size_toArray, ← hl]; exact hk) (by rw [← Array.getElem?_toList]; exact hw) (by rw [List.size_toArray]; omega)) ⟨e, ?_⟩
  refine ⟨y, _, I.lset (its' := its.eraseIdx k) hH e ?_ (r.eraseIdx k) ?_, rw', q⟩
  · show its.toArray.eraseIdxIfInBounds k = (its.eraseIdx k).toArray
    rw [List.eraseIdxIfInBounds_toArray]
  · have := len_erase xs k
    omega
def rReverse : V → List V → Hp → VK → Prop := fun x vs H Q => ∃ l xs, x = .ref l ∧ vs = [] ∧ H l = some (.lst xs) ∧ Q .non (upd H l (.lst xs.reverse))
def rClear : V → List V → Hp → VK → Prop := fun x vs H Q => ∃ l xs, x = .ref l ∧ vs = [] ∧ H l = some (.lst xs) ∧ Q .non (upd H l (.lst []))
/-! ### list + list, list += list, list * int -/
def rCat : R2 := fun x y H Q => ∃ l b xs zs, x = .ref l ∧ y = .ref b ∧ H l = some (.lst xs) ∧ H b = some (.lst zs) ∧ xs.length + zs.length ≤ sizeLine ∧ ∀ p, H p = none → Q (.ref p) (upd H p (.lst (xs ++ zs)))
theorem op_cat : OpR X (binaryOp .Add) rCat := by
  intro pins s σ H x y v u Q I rx ry h
  obtain ⟨l, b, xs, zs, rfl, rfl, hH, hB, hz, q⟩ := h
  cases rx
  cases ry
  obtain ⟨z, its, n, r, hl, e⟩ := I.lstM hH
  obtain ⟨z2, its2, n2, r2, hl2, e2⟩ := I.lstM hB
  refine PySem.P.add_list e e2 ?_ (by rw [List.size_toArray, List.size_toArray]; omega)
  have ea : its.toArray ++ its2.toArray = (its ++ its2).toArray := by simp
  rw [ea]
  exact ⟨.ref _, _, I.lnew (t' := s.toks) (r.append r2) (by rw [List.length_append]; omega), rfl, q _ I.fresh⟩
/-- a list times an int (a negative one is nothing) -/
def rRep : R2 := fun x y H Q => ∃ l k xs, x = .ref l ∧ y = .int k ∧ H l = some (.lst xs) ∧ -(2 ^ 63) ≤ k ∧ k < 2 ^ 63 ∧ xs.length * k.toNat ≤ sizeLine ∧
  ∀ p, H p = none → Q (.ref p) (upd H p (.lst (List.replicate k.toNat xs).flatten))
/-! ### del xs[i] -/
end
/-! ### xs[a:b] = ys -/
section
variable {prog : Program} {w : World} {A : Around} {E : Value → Shared → Prop} {s : Shared}
end
section
variable {X : Cx}
end
end L2
namespace Att
open PySem PySem.W PySem.Calls PyProof.Rows
/-! ### the script -/
theorem ints_of_wellAll {P : Params} {h : Heap} : ∀ (ns : List Int) (vs : List Value), WellAll P h vs (ns.map WData.int) → IntsAre vs ns := by
  intro ns
  induction ns with
  | nil =>
    intro vs w
    rw [List.map_nil] at w
    cases w
    exact .nil
  | cons n ns ih =>
    intro vs w
    rw [List.map_cons] at w
    cases w with
    | cons a b =>
      cases a
      exact .cons _ _ (ih _ b)
theorem script_of {l : OpenLaw} {n : Nat} (hn : l.most = some n) {P : Params} {h : Heap} {args : List WData} {vals : List Value}
    (hpre : l.row.toRowW.claim.pre args = true) (hwl : WellAll P h vals args) :
    ∃ a vs ns, vals = [Value.ref a] ∧ args = [WData.list (ns.map WData.int)] ∧ h.get? a = some { cls := .type "list", data := .seq vs.toArray } ∧ IntsAre vs ns ∧ ns.length ≤ n := by
  have hsh : WShape.hasAll [] args [.list .int] = true := (pre_splitW hpre).1
  have hc : l.pre.holds [] { args := args } = true := (pre_splitW hpre).2
  obtain ⟨d, r, rfl, h1, h2⟩ := hasAllW_cons hsh
  obtain rfl := hasAllW_nil h2
  obtain ⟨xs, rfl, h3⟩ := hasW_list h1
  obtain ⟨ns, rfl⟩ := items_int h3
  have hlen : ns.length ≤ n := by
    unfold OpenLaw.pre at hc
    have h4 : (WTm.not (.lt (.lit (.int (n : Int))) (.len (.arg 0)))).holds [] { args := [.list (ns.map .int)] } = true := by
      have h4 := (holds_andW hc).1
      rw [hn] at h4
      exact h4
    have h5 := condW_of h4 (w_not (w_lt w_lit (w_len_list (w_arg rfl))))
    rw [List.length_map] at h5
    refine Nat.le_of_not_lt fun q => ?_
    have q' : (n : Int) < ((ns.length : Nat) : Int) := by omega
    first
      | (rw [decide_eq_true q'] at h5; exact absurd h5 (by decide))
      | (simp at h5; omega)
  cases hwl with
  | cons w1 w2 =>
    cases w2
    cases w1 with
    | list ho hall => exact ⟨_, _, ns, rfl, rfl, ho, ints_of_wellAll ns _ hall, hlen⟩
theorem post_true (l : OpenLaw) (args : List WData) : l.row.toRowW.claim.post args (.bool true) args = true :=
  postW_of (r := l.row.toRowW) (X := (true == true))
    (show WShape.has [] (.bool true) .bool = true by first | rfl | decide | simp [WShape.has, WShape.arms, WShape.armsAll])
    (show (WTm.eq .res (.lit (.bool true))).value [] { args := args, res := some (.bool true), after := args } = some (.bool (true == true)) from w_eq_bool (w_res rfl) w_lit) rfl
/-! ### the attachment: holds_open's last premise (the goal 'hc' behind k_head) from a wpAny of the law's body -/
/-- the same from a codeAny of the CALL (for a layer whose function contracts speak of calls) -/
theorem attach_call {l : OpenLaw} {n : Nat} {q : Program} {loose : List Str} {XP : (Str → Option Value) → Heap → Prop} {YP : World → Heap → Prop} {d : DefRec}
    (hn : l.most = some n) (hdf : d.params.defaults = [])
    (call : ∀ (w : World) (s₀ s₁ : Shared) (mg mb : Str → Option Value) (fa : Addr) (o : Obj) (pm cd doc : Value) (a : Addr) (vs : List Value) (ns : List Int),
      Ground q loose [] XP w s₀ mg mb s₁.heap → YP w s₁.heap →
      s₁.heap.get? fa = some o → o.data = .func (docDef d.name d.params d.body d.scope pm cd doc) → s₁.heap.CodeRec cd d.name → mg d.name = some (.ref fa) →
      s₁.heap.get? a = some { cls := .type "list", data := .seq vs.toArray } → IntsAre vs ns → ns.length ≤ n → s₁.gens = #[] →
      codeAny (model l.prog w) callerA (.call (.ref fa) ⟨[.ref a], []⟩) (fun r s' => r = .ok (.ret (.bool true)) ∧ OldK s₁.heap s'.heap ∧ s'.os = s₁.os ∧ AllBare s'.gens) s₁) :
    WalkO q loose XP YP l.row.toRowW d [] (fun f vs => PySem.call f vs) := by
  intro w s₀ s₁ mg mb G Y fa o pm cd doc dV kV ho hd hcd hD hmg hg args vals as hpre hlay hrd hwl hlo
  obtain rfl : dV = .none := Dflts.none hD hdf
  obtain rfl : kV = .none := Dflts.noKw hD
  obtain ⟨a, vs, ns, rfl, rfl, hobj, hints, hlen⟩ := script_of hn hpre hwl
  refine enter_call (codeAny_mono (call w s₀ s₁ mg mb fa o pm cd doc a vs ns G Y ho (fd_plain hd) hcd hmg hobj hints hlen hg) fun r s' hq => ?_)
  obtain ⟨rfl, h2, h3, h4⟩ := hq
  exact ⟨.inl ⟨.bool true, .bool true, [], rfl, fun _ => rfl, .bool true, post_true l _, fun _ => ⟨List.Pairwise.nil, fun _ hm => (nomatch hm)⟩⟩, h2, h3, h4⟩
/-! ### rules over ANY heap (no ledger) from facts about the written part K: the library's own take a ledger (News) for what they write -/
section
variable {prog : Program} {w : World} {A : Around} {E : Value → Shared → Prop} {s : Shared} {K : Frag}
/-! the whole heap as the ledger: makes every rule that writes through a ledger a rule over any heap -/
def noObjs (h : Heap) : Heap := { h with objs := #[] }
def ledger (h : Heap) (L d : Addr) : List (Addr × Obj) := (List.range h.objs.size).filterMap fun a => if a = L ∨ a = d then none else (h.get? a).map fun o => (a, o)
end
end Att
namespace L2
open PySem PySem.Spec PyProof.Rows
theorem vals_ints : ∀ {vs : List Value} {ns : List Int}, IntsAre vs ns → Vals (ns.map V.int) vs
  | _, _, .nil => .nil
  | _, _, .cons n t h => .cons ⟨t, rfl⟩ (vals_ints h)
/-- nothing is tracked but the script, known to the object (or it is an object of the module) -/
def Only (H : Hp) : Prop := ∀ b, H b = none ∨ ∃ o xs, H b = some (.frz o (.lst xs))
/-- THE HEAD: the law's promise, at the heap behind the top. F, the promise of the law's def, may use that base is part of the heap (so K.In base, base.Ns mainGlobals mg stand in Mod) -/
theorem law_call {P : Program} {w : World} {K : PySem.W.Frag} {mg mb : Str → Option Value} {CX : CXT} {k : Nat} {fa a : Addr} {fd : FuncData} {x : Str} {sp : Sp} {s₁ : Shared} {vs : List Value} {ns : List Int}
    (KX : K.In s₁.heap) (hns : s₁.heap.Ns mainGlobals mg) (hb : s₁.heap.Ns builtinsNs mb) (hbb : ∀ x : Str, x ≠ "__name__" → mb x = bootBuiltins x) (hlim : s₁.heap.NoLimit) (hg : s₁.gens = #[])
    (ha : s₁.heap.get? a = some { cls := .type "list", data := .seq vs.toArray }) (hi : IntsAre vs ns) (hl : ns.length ≤ sizeLine) (hr : Room k callerA)
    (F : ∀ base : Heap, K.In base → base.Ns mainGlobals mg → FnOk P w K mg base CX k fa fd [x] sp) (hbind : ∀ (s : Shared) (u : Value), BindsTo s fd ⟨[u], []⟩ [(x, u)])
    (hsp : ∀ H : Hp, Only H → SqL K H a (ns.map V.int) → sp [.ref a] H (fun v _ => v = .bl true) fun _ _ _ => False)
    (hCX : ∀ H e s', CX [] H s₁ (fun _ _ _ => False) e s' → False) :
    codeAny (model P w) callerA (.call (.ref fa) ⟨[.ref a], []⟩) (fun r s' => r = .ok (.ret (.bool true)) ∧ OldK s₁.heap s'.heap ∧ s'.os = s₁.os ∧ AllBare s'.gens) s₁ := by
  have rv := vals_ints hi
  have lenV := hi.length
  -- from an abstract heap in which nothing but the script may be tracked
  have core : ∀ H : Hp, Only H → SqL K H a (ns.map V.int) → HOk P w H s₁.heap → (∀ b, H b ≠ none → b = a) → (H a ≠ none → K.lookup a = none) →
      codeAny (model P w) callerA (.call (.ref fa) ⟨[.ref a], []⟩) (fun r s' => r = .ok (.ret (.bool true)) ∧ OldK s₁.heap s'.heap ∧ s'.os = s₁.os ∧ AllBare s'.gens) s₁ := by
    intro H hO hS hok hA hK
    have base_of : ∀ {b : Addr} {o : Obj}, s₁.heap.get? b = some o → H b = none → (hidT s₁.heap H).get? b = some o := fun e n => hidT_get e n
    have noA : ∀ {b : Addr} {o : Obj} {es : Array DictEntry} {ep : Nat}, s₁.heap.get? b = some o → o.data = .dict es ep → H b = none := fun {b o es ep} e d => by
      cases q : H b with
      | none => rfl
      | some u =>
        have e' : b = a := hA b (by rw [q]; simp)
        subst e'
        rw [ha] at e; cases e
        have d' : Data.seq vs.toArray _ = Data.dict es ep := d
        cases d'
    have nsK : ∀ {b : Addr} {m : Str → Option Value}, s₁.heap.Ns b m → (hidT s₁.heap H).Ns b m := fun {b m} ⟨o, es, ep, e, d, r⟩ => ⟨o, es, ep, base_of e (noA e d), d, r⟩
    have hKb : K.In (hidT s₁.heap H) := fun b o e => base_of (KX b o e) (by
      cases q : H b with
      | none => rfl
      | some u =>
        have e' : b = a := hA b (by rw [q]; simp)
        subst e'
        rw [hK (by rw [q]; simp)] at e; cases e)
    have hM : Mod K mg (hidT s₁.heap H) := ⟨hKb, nsK hns, ⟨mb, nsK hb, hbb⟩, let ⟨mc, h1, h2⟩ := hlim; ⟨mc, nsK h1, h2⟩⟩
    have e0 : Env0 P w K mg (hidT s₁.heap H) callerA [] s₁ H := ⟨rfl, hM, fun b o e => of_hidT e, Nat.le_of_eq (hidT_size _ _), trivial, fun b hb => absurd (show b ∈ ([] : List Addr) from hb) (by simp), hok, .of_eq hg⟩
    refine codeAny_mono ((F _ hKb (nsK hns)).run callerA [] s₁ H ⟨[.ref a], []⟩ [.ref a] [.ref a] _ _ hr e0 (hbind s₁ (.ref a)) (.cons rfl .nil) (hsp H hO hS)) fun r s' h => ?_
    cases r with
    | error e => exact (hCX H e s' h).elim
    | ok fl =>
      cases fl with
      | next => exact False.elim h
      | brk => exact False.elim h
      | cont => exact False.elim h
      | ret u =>
        obtain ⟨v, H', os, bare, un, hok', r', q⟩ := h
        have q' : v = .bl true := q
        subst q'
        obtain rfl : u = Value.bool true := r'
        refine ⟨rfl, OldK.of_keep fun b o e => ?_, os, bare⟩
        cases q : H b with
        | none => exact un.keep b o e q (by intro z; exact absurd (show b ∈ ([] : List Addr) from z) (by simp)) (by simp)
        | some u =>
          rcases hO b with z | ⟨ob, xs, z⟩
          · rw [q] at z; cases z
          · have z2 := un.frzs b ob _ z
            obtain ⟨e1, _⟩ := hok b _ z
            obtain ⟨e2, _⟩ := hok' b _ z2
            rw [e] at e1; cases e1
            exact e2
  cases hk : K.lookup a with
  | some o =>
    -- the script is one of the module's own objects
    have e := KX a o hk
    rw [ha] at e
    cases e
    refine core (fun _ => none) (fun _ => .inl rfl) (.inr ⟨_, vs.toArray, _, hk, rfl, rfl, rfl, by rw [List.size_toArray, lenV]; exact hl, by simpa using rv⟩) (fun b u z => by have z' : (none : Option HO) = some u := z; cases z') (fun b z => absurd rfl z) fun z => absurd rfl z
  | none =>
    refine core (fun b => if b = a then some (.frz { cls := .type "list", data := .seq vs.toArray } (.lst (ns.map V.int))) else none) (fun b => ?_) (.inl (.inr ⟨{ cls := .type "list", data := .seq vs.toArray }, if_pos rfl⟩)) (fun b u z => ?_) (fun b z => ?_) fun _ => hk
    · by_cases hb : b = a
      · exact .inr ⟨_, _, if_pos hb⟩
      · exact .inl (if_neg hb)
    · by_cases hb : b = a
      · have z' := (if_pos hb).symm.trans z
        cases z'
        subst hb
        exact ⟨ha, by rw [List.length_map]; exact hl, vs, _, rv, ha⟩
      · have z' := (if_neg hb).symm.trans z
        cases z'
    · by_cases hb : b = a
      · exact hb
      · exact absurd (if_neg hb) z
end L2
namespace L2
open PySem PySem.Spec PyProof.Rows
abbrev KOf {K : PySem.W.Frag} {h : Heap} (_ : K.In h) : PySem.W.Frag := K
/-- the goal that k_head leaves (case hc), from the law's promise. F gives the function object fd (K's own) once, then the promise over every base -/
theorem walk_of {l : PySem.W.OpenLaw} {n k : Nat} {q : Program} {loose : List Str} {XP : (Str → Option Value) → Heap → Prop} {YP : World → Heap → Prop} {d : DefRec} {K : Params → PySem.W.Frag} {CX : World → CXT} {sp : World → Sp} {x : Str}
    (hn : l.most = some n) (hn2 : n ≤ sizeLine) (hdf : d.params.defaults = []) (hr : Room k callerA)
    (hY : ∀ (w : World) (h : Heap), YP w h → (K w.params).In h)
    (F : ∀ (w : World) (mg : Str → Option Value) (fa : Addr) (h : Heap), (K w.params).In h → h.Ns mainGlobals mg → mg d.name = some (.ref fa) →
      ∃ fd : FuncData, (∀ (s : Shared) (u : Value), BindsTo s fd ⟨[u], []⟩ [(x, u)]) ∧
        ∀ base : Heap, (K w.params).In base → base.Ns mainGlobals mg → FnOk l.prog w (K w.params) mg base (CX w) k fa fd [x] (sp w))
    (hsp : ∀ (w : World) (H : Hp) (a : Addr) (ns : List Int), ns.length ≤ n → Only H → SqL (K w.params) H a (ns.map V.int) → sp w [.ref a] H (fun v _ => v = .bl true) fun _ _ _ => False)
    (hCX : ∀ (w : World) (H : Hp) (s : Shared) (e : Value) (s' : Shared), CX w [] H s (fun _ _ _ => False) e s' → False) :
    PySem.W.WalkO q loose XP YP l.row.toRowW d [] (fun f vs => PySem.call f vs) := by
  refine Att.attach_call hn hdf fun w s₀ s₁ mg mb fa o pm cd doc a vs ns G Y ho hd hcd hmg hobj hints hlen hg => ?_
  have KX := hY w _ Y
  obtain ⟨fd, hb, hF⟩ := F w mg fa _ KX G.T.g hmg
  exact law_call KX G.T.g G.T.b G.T.builtins G.T.nolimit hg hobj hints (Nat.le_trans hlen hn2) hr hF hb (fun H hO hS => hsp w H a ns hlen hO hS) fun H e s' => hCX w H s₁ e s'
/-- the same where the promise hangs on the written part alone: (sp := My.sp_law), no hole under a binder -/
theorem walk_ofK {l : PySem.W.OpenLaw} {n k : Nat} {q : Program} {loose : List Str} {XP : (Str → Option Value) → Heap → Prop} {YP : World → Heap → Prop} {d : DefRec} {K : Params → PySem.W.Frag} {CX : CXT} {sp : PySem.W.Frag → Sp} {x : Str}
    (hn : l.most = some n) (hn2 : n ≤ sizeLine) (hdf : d.params.defaults = []) (hr : Room k callerA)
    (hY : ∀ (w : World) (h : Heap), YP w h → (K w.params).In h)
    (F : ∀ (w : World) (mg : Str → Option Value) (fa : Addr) (h : Heap), (K w.params).In h → h.Ns mainGlobals mg → mg d.name = some (.ref fa) →
      ∃ fd : FuncData, (∀ (s : Shared) (u : Value), BindsTo s fd ⟨[u], []⟩ [(x, u)]) ∧
        ∀ base : Heap, (K w.params).In base → base.Ns mainGlobals mg → FnOk l.prog w (K w.params) mg base CX k fa fd [x] (sp (K w.params)))
    (hsp : ∀ (K : PySem.W.Frag) (H : Hp) (a : Addr) (ns : List Int), ns.length ≤ n → Only H → SqL K H a (ns.map V.int) → sp K [.ref a] H (fun v _ => v = .bl true) fun _ _ _ => False)
    (hCX : ∀ (H : Hp) (s : Shared) (e : Value) (s' : Shared), CX [] H s (fun _ _ _ => False) e s' → False) :
    PySem.W.WalkO q loose XP YP l.row.toRowW d [] (fun f vs => PySem.call f vs) :=
  walk_of (K := K) (CX := fun _ => CX) (sp := fun w => sp (K w.params)) hn hn2 hdf hr hY F (fun w H a ns h1 h2 h3 => hsp (K w.params) H a ns h1 h2 h3) fun _ H s e s' => hCX H s e s'
end L2
/- THE LAST THEOREM (shape; LID, My.* are yours):
   My.Adr: a structure of the addresses that your layer names (classes, functions); My.Txt K t: a structure (Prop) of the equations over K;
   My.txt_mk : {K} {implicit addresses ..} (e1 : nsIn K mainGlobals "law" = some (some (.ref f))) (e2 : K.lookup f = some ⟨oc, od, .func (fnOf "law" "law" params body scope dV kV doc pm an cdv ct), sl⟩) (e3 : codeIn K cdv "law" = true) .. : ∃ t, My.Txt K t
set_option maxRecDepth 100000 in
set_option maxHeartbeats 0 in
theorem PySem.Challenge.cw_LID_holds : PySem.Challenge.rw_LID.Holds := by
  w_on; o_law; k_head; (case hw => w_witness2)
  k_fill
  refine L2.walk_of (l := PySem.Challenge.rw_LID) (n := 63) (k := 40) (x := "script") (CX := fun w => ..) (sp := fun _ => My.sp_law) rfl (by decide) rfl ⟨rfl, by decide, by decide⟩ (fun w h Y => PySem.W.kIn_of Y) ?F ?S ?C
  case F =>
    intro w mg fa h KX G hmg
    have T : ∃ t, My.Txt (L2.KOf KX) t := by
      dsimp only [L2.KOf]                          -- K must stand as «<heap const> w.params» for k_is
      refine' My.txt_mk ?e1 ?e2 ?e3 ..
      (case e1 => PySem.W.k_is)                    -- in the order: a name -> its address -> its object -> its parts
      (case e2 => PySem.W.k_is)
      ..
    obtain ⟨t, T⟩ := T
    have e0 := hmg.symm.trans (PySem.W.mg_of KX G T.law)
    cases e0                                       -- fa is the law's own address
    exact ⟨_, fun s u => .of_eq rfl, fun base kb nb => My.law_fn T kb nb⟩     -- if «.of_eq rfl» comes too early: refine' ⟨_, ?b, fun base kb nb => My.law_fn T kb nb⟩; exact fun s u => .of_eq rfl
  case S => exact fun w H a ns hl hO hS => ..
  case C => exact ..
(the tactic k_is has no namespace: write k_is) -/
/-! SHORT WORDS over the layer: a def of the text, its body, what a loop and a test want. -/
namespace L2
open PySem PySem.Spec PyProof.Rows
/-! ### the text by places -/
/-- the j-th statement of a class's body -/
def inClass (s : Stmt) (j : Nat) : Stmt := match s with
  | .ClassDef _ _ _ body _ _ _ _ _ _ _ => body.getD j (.Pass ⟨0, 0, 0, 0⟩)
  | _ => .Pass ⟨0, 0, 0, 0⟩
def defArgs (s : Stmt) : Arguments := match s with
  | .FunctionDef _ a _ _ _ _ _ _ _ _ => a
  | _ => { posonlyargs := [], args := [], vararg := none, kwonlyargs := [], kw_defaults := [], kwarg := none, defaults := [] }
def defBody (s : Stmt) : List Stmt := match s with
  | .FunctionDef _ _ b _ _ _ _ _ _ _ => b
  | _ => []
def defScope (s : Stmt) : Scope := match s with
  | .FunctionDef _ _ _ _ _ _ sc _ _ _ => sc
  | _ => { kind := .function, names := [], isGenerator := false, isCoroutine := false }
/-! ### no exception leaves a def -/
abbrev CX0 : CXT := fun _ _ _ _ _ _ => False
abbrev E0 : XK := fun _ _ _ => False
theorem pass0 {X : Cx} : Passes CX0 X E0 := fun _ _ _ _ _ _ _ h => h.elim
/-! ### a def (or method) of the text as it stands behind the top -/
structure Fun (K : PySem.W.Frag) (x qual : Str) (st : Stmt) (f : Addr) (fd : FuncData) : Prop where
  ex : ∃ (oc : Value) (od : Option Addr) (kV doc pm : Value) (an : Option Addr) (cdv ct : Value) (osl : Array (Option Value)),
    fd = PySem.W.fnOf x qual (defArgs st) (defBody st) (defScope st) .none kV doc pm an cdv ct ∧ K.lookup f = some ⟨oc, od, .func fd, osl⟩ ∧ PySem.W.codeIn K cdv qual = true
  kp : PySem.W.keepIn K (.ref f) = true
section
variable {P : Program} {w : World} {K : PySem.W.Frag} {mg : Str → Option Value} {base : Heap}
/-- THE RULE for a def: its body as a term of rules, and the reading of that term -/
theorem Fun.ok {x qual : Str} {st : Stmt} {f : Addr} {fd : FuncData} {N ps : List Str} {k : Nat} {sp : Sp} (F : Fun K x qual st f fd) (S : FnScope N ps (defScope st)) (len : ∀ vs H Q E, sp vs H Q E → vs.length = ps.length)
    (hbody : ∀ (cdv : Value) (A : Around) (outer : List Env) (s : Shared) (H : Hp) (vs : List V) (Q : VK) (E : XK), Room k (A.deeper (envOfC qual (defScope st) s.heap.objs.size f cdv)) → sp vs H Q E →
      ∃ t, PSs (cxOf CX0 P w K mg base N qual (defScope st) f cdv A outer s H E).nox (defBody st) t ∧ t { nx := fun _ H' => Q .non H', rt := Q } (start N vs) H) : FnOk P w K mg base CX0 (k + 1) f fd ps sp := by
  obtain ⟨oc, od, kV, doc, pm, an, cdv, ct, osl, rfl, lk, hcd⟩ := F.ex
  refine fn_of lk hcd S len fun A outer s H vs Q E hr hsp => ?_
  obtain ⟨t, h, q⟩ := hbody cdv A outer s H vs Q E hr hsp
  exact ⟨t, h.nox, q⟩
/-- how its arguments bind (no defaults): h is «fun _ _ _ _ _ _ us hl => match us, hl with | [_, _], _ => rfl», one _ a parameter -/
theorem Fun.binds {x qual : Str} {st : Stmt} {f : Addr} {fd : FuncData} {ps : List Str} (F : Fun K x qual st f fd)
    (h : ∀ (kV doc pm : Value) (an : Option Addr) (cdv ct : Value) (us : List Value), us.length = ps.length → bindArgs (PySem.W.fnOf x qual (defArgs st) (defBody st) (defScope st) .none kV doc pm an cdv ct) ⟨us, []⟩ = pure (ps.zip us)) : Binds K fd ps [] := by
  obtain ⟨oc, od, kV, doc, pm, an, cdv, ct, osl, rfl, lk, hcd⟩ := F.ex
  exact .all (h kV doc pm an cdv ct)
theorem fun_mk {x qual : Str} {st : Stmt} {f : Addr} {oc : Value} {od an : Option Addr} {osl : Array (Option Value)} {kV doc pm cdv ct : Value} (l : K.lookup f = some ⟨oc, od, .func (PySem.W.fnOf x qual (defArgs st) (defBody st) (defScope st) .none kV doc pm an cdv ct), osl⟩)
    (c : PySem.W.codeIn K cdv qual = true) (k : PySem.W.keepIn K (.ref f) = true) : Fun K x qual st f (PySem.W.fnOf x qual (defArgs st) (defBody st) (defScope st) .none kV doc pm an cdv ct) := ⟨⟨oc, od, kV, doc, pm, an, cdv, ct, osl, rfl, l, c⟩, k⟩
end
theorem small1000 {n : Nat} (h : n ≤ 1000) : n < sizeLine := Nat.lt_of_le_of_lt h (by decide)
/-! ### expressions in short: the name that stands in the i-th slot -/
section
variable {X : Cx}
end
/-! ### tests -/
theorem ite2 {c A B : Prop} [Decidable c] (h1 : c → A) (h2 : ¬ c → B) : if c then A else B := by
  by_cases h : c
  · rw [if_pos h]
    exact h1 h
  · rw [if_neg h]
    exact h2 h
/-! ### heaps -/
/-- all that was tracked is as it was -/
def Same (H H' : Hp) : Prop := ∀ b o, H b = some o → H' b = some o
end L2
set_option Elab.async false
set_option linter.all false
set_option maxRecDepth 100000
set_option maxHeartbeats 4000000
/-! list comprehensions over the layer -/
namespace L2
open PySem PySem.Spec PyProof.Rows
section
variable {X : Cx}
/-- the block's slots: those that stand in the frame around, by their places there -/
def capS (cap : List (Option Nat)) (σ : St) : St := cap.map fun o => o.bind fun i => (σ[i]?).join
/-- the block's context -/
def cxComp (X : Cx) (cN : List Str) (scope : Scope) (cl : List (Str × Addr)) (fp : List Addr) (s : Shared) (H : Hp) : Cx :=
  { X with N := cN, s₀ := s, H₀ := H, env := compEnvC scope cl s.heap.objs.size X.env, outer := X.stack, ex := fp, fn := fun _ => false, pn := [], xe := fun _ _ => False }
/-- the tests of a clause -/
def PIfs (X : Cx) (ifs : List Expr) (c : TT) : Prop :=
  ∀ (pins : List (Addr × Obj)) (s : Shared) (σ : St) (H : Hp) (Q : Bool → Hp → Prop), Inv X pins σ H s → c σ H Q →
    wpAny (model X.prog X.w) X.A (forIn ifs true fun c r => if r = true then do let ok ← isTrue c X.env (eval c X.env); pure (ForInStep.yield ok) else pure (ForInStep.yield r)) (TP X pins σ Q) X.xe s
def tNoIf : TT := fun _ H Q => Q true H
theorem pif_nil : PIfs X [] tNoIf := fun _ _ _ H _ I h => wpAny_tests_nil ⟨H, I, h⟩
theorem pif_one {e : Expr} {t : TT} (h : PT X e t) : PIfs X [e] t := fun pins s σ H Q I q => wpAny_tests_one (h pins s σ H Q I q)
/-- a target stores nowhere but at js -/
def GKeep (js : List Nat) (g : TG) : Prop := ∀ x σ H Q, g x σ H Q → g x σ H fun σ' H' => Q σ' H' ∧ σ'.length = σ.length ∧ ∀ i, i ∉ js → σ'[i]? = σ[i]?
def GsKeep (js : List Nat) (g : TGs) : Prop := ∀ x σ H Q, g x σ H Q → g x σ H fun σ' H' => Q σ' H' ∧ σ'.length = σ.length ∧ ∀ i, i ∉ js → σ'[i]? = σ[i]?
theorem gk_name {i : Nat} : GKeep [i] (gName i) := fun x σ H Q h => ⟨h, by simp, fun j hj => by
  rw [List.getElem?_set_ne]
  intro e; exact hj (by simp [e])⟩
theorem gk_nil : GsKeep [] gNil := fun x σ H Q h => ⟨h.1, h.2, rfl, fun _ _ => rfl⟩
def TGmono (g : TG) : Prop := ∀ x σ H (Q Q' : St → Hp → Prop), (∀ σ' H', Q σ' H' → Q' σ' H') → g x σ H Q → g x σ H Q'
def TGsmono (g : TGs) : Prop := ∀ x σ H (Q Q' : St → Hp → Prop), (∀ σ' H', Q σ' H' → Q' σ' H') → g x σ H Q → g x σ H Q'
theorem gm_name {i : Nat} : TGmono (gName i) := fun x σ H Q Q' h q => h _ _ q
theorem gm_nil : TGsmono gNil := fun x σ H Q Q' h q => ⟨q.1, h _ _ q.2⟩
theorem gm_cons {g : TG} {u : TGs} (a : TGmono g) (b : TGsmono u) : TGsmono (gCons g u) := fun x σ H Q Q' h q => by
  obtain ⟨v, r, e, q⟩ := q
  exact ⟨v, r, e, a _ _ _ _ _ (fun σ' H' z => b _ _ _ _ _ h z) q⟩
theorem gk_cons {g : TG} {u : TGs} {js ks : List Nat} (a : GKeep js g) (am : TGmono g) (b : GsKeep ks u) (bm : TGsmono u) : GsKeep (js ++ ks) (gCons g u) := fun x σ H Q q => by
  obtain ⟨v, r, e, q⟩ := q
  refine ⟨v, r, e, am _ _ _ _ _ (fun σ' H' z => ?_) (a _ _ _ _ q)⟩
  obtain ⟨z, l1, k1⟩ := z
  refine bm _ _ _ _ _ (fun σ2 H2 z2 => ?_) (b _ _ _ _ z)
  obtain ⟨z2, l2, k2⟩ := z2
  exact ⟨z2, l2.trans l1, fun i hi => (k2 i fun z => hi (List.mem_append_right _ z)).trans (k1 i fun z => hi (List.mem_append_left _ z))⟩
theorem gk_tup {K : PySem.W.Frag} {n : Nat} {u : TGs} {js : List Nat} (b : GsKeep js u) : GKeep js (gTup K n u) := fun x σ H Q q => by
  obtain ⟨a, xs, e, hq, hl, q⟩ := q
  exact ⟨a, xs, e, hq, hl, b _ _ _ _ q⟩
/-- a comprehension's turns: p is the new list -/
def tGo (cap : List (Option Nat)) (g : TG) (c : TT) (te : TE) (σ : St) (Q : Addr → Hp → Prop) (J : It) (H1 : Hp) : Prop := ∀ p, H1 p = none → ∃ W : Nat → Nat → Hp → Prop, (∃ m, W 0 m (upd H1 p (.lst []))) ∧ ∀ i m H, W i m H →
  (J.stop i H ∧ Q p H) ∨ (J.go i H ∧ ∃ N : Hp → Prop, (∀ H', N H' → ∃ m', m' < m ∧ W (i + 1) m' H') ∧ ∀ x H', J.yld i H x H' → g x (capS cap σ) H' fun σ2 H2 => c σ2 H2 fun b H3 =>
    if b = true then te σ2 H3 fun v H4 => ∃ xs, H4 p = some (.lst xs) ∧ xs.length < sizeLine ∧ N (upd H4 p (.lst (xs ++ [v]))) else N H3)
/-- a comprehension's reading -/
def tCompL (cap : List (Option Nat)) (wi : TI) (g : TG) (c : TT) (te : TE) : St → Hp → (Addr → Hp → Prop) → Prop := fun σ H Q => wi σ H fun J H1 => tGo cap g c te σ Q J H1
structure CompOk (X : Cx) (cN : List Str) (cap : List (Option Nat)) (scope : Scope) (cl : List (Str × Addr)) : Prop where
  clos : closureFor scope X.env = pure cl
  sub : ∀ n a, cl.lookup n = some a → X.env.cells.lookup n = some a
  cell : ∀ y ∈ scope.names, y.2 ≠ .cell
  kind : scope.kind = .function
  names : ∀ x ∈ scope.names, x.2 = .local → scope.names.lookup x.1 = some .local
  len : cap.length = cN.length
  has : ∀ x, ((relabel scope X.env).names.lookup x = some .cell ∨ (relabel scope X.env).names.lookup x = some .free) → ∃ a, cl.lookup x = some a
  capd : ∀ (i j : Nat) (x : Str), cap[i]? = some (some j) → cN[i]? = some x → X.N[j]? = some x ∧ Vis X.env.scope x ∧ X.env.scope.names.lookup x ≠ some .local ∧ ((relabel scope X.env).names.lookup x = some .cell ∨ (relabel scope X.env).names.lookup x = some .free)
theorem capS_len {cap : List (Option Nat)} {σ : St} : (capS cap σ).length = cap.length := List.length_map _
theorem capS_get {cap : List (Option Nat)} {σ : St} {i : Nat} {v : V} (h : (capS cap σ)[i]? = some (some v)) : ∃ j, cap[i]? = some (some j) ∧ σ[j]? = some (some v) := by
  unfold capS at h
  rw [List.getElem?_map] at h
  cases e : cap[i]? with
  | none => rw [e] at h; cases h
  | some o =>
    rw [e] at h
    cases o with
    | none => cases h
    | some j =>
      refine ⟨j, rfl, ?_⟩
      simp only [Option.map_some, Option.bind_some, Option.some.injEq] at h
      cases q : σ[j]? with
      | none => rw [q] at h; cases h
      | some u => rw [q] at h; simp only [Option.join_some] at h; rw [h]
/-- the block begins -/
theorem comp_start {cN : List Str} {cap : List (Option Nat)} {scope : Scope} {cl : List (Str × Addr)} {fp : List Addr} {pins : List (Addr × Obj)} {σ : St} {H : Hp} {s : Shared} {h' : Heap} {m : Str → Option Value} {tk : Nat}
    (C : CompOk X cN cap scope cl) (I : Inv X pins σ H s) (f : ∀ b ∈ fp, FpOk X pins H b) (fl : ∀ b ∈ fp, b < s.heap.objs.size) (hn : h'.Ns s.heap.objs.size m) (k : ∀ b o, s.heap.get? b = some o → h'.get? b = some o) :
    Inv (cxComp X cN scope cl fp s H) [] (capS cap σ) H { s with heap := h', toks := tk } := by
  have hfs : ∀ b ∈ fp, b ∉ frs X.stack := fun b hb z => by
    rcases List.mem_cons.mp (I.stkSub b z) with e | z
    · exact (f b hb).2.1 e
    · exact (f b hb).2.2.1 z
  have hcl : ∀ x c, cl.lookup x = some c → ∃ v, s.heap.IsCell c v := fun x c e => I.cell x c (C.sub x c e)
  refine ⟨⟨I.ok.mod, ?_, I.ok.glob, I.ok.blt, Nat.le_refl _, fun x y c e1 e2 => I.ok.inj x y c (C.sub x c e1) (C.sub y c e2), C.has, fun _ _ z => (nomatch z), I.ok.hd, I.ok.frames, .inl rfl, fun b hb => ⟨Nat.ne_of_lt (fl b hb), fun x c e => (f b hb).2.2.2.2.1 x c (C.sub x c e)⟩,
      I.bs, Nat.le_trans I.ok.bsz I.sz, fun b o e z => ?_, hfs, I.stack, I.stkFree⟩, rfl, I.bare, Un.kept k, ⟨m, hn, fun i x v h1 h2 h3 => ?_⟩, fun x c e => ?_, I.fresh, fun x c e => I.freeC x c (C.sub x c e), fun p hp => absurd hp (by simp [cxComp]), I.hok.kept k, ?_⟩
  · exact C.kind
  · rcases (f b z).2.2.2.1 with q | q
    · exact I.ok.noex b o e q
    · exact absurd (Nat.lt_of_lt_of_le (Heap.lt_size (I.ok.bs b o e).1) q) (Nat.lt_irrefl _)
  · obtain ⟨j, hj, hσ⟩ := capS_get h2
    obtain ⟨n1, n2, n3, n4⟩ := C.capd i j x hj h1
    obtain ⟨mo, hno, hlo⟩ := I.loc
    obtain ⟨u, ru, lk⟩ := hlo j x v n1 hσ n2
    refine ⟨u, ru, ?_⟩
    rcases lk with ⟨k1, _⟩ | ⟨_, c, e, z⟩
    · exact absurd k1 n3
    · obtain ⟨a, ha⟩ := C.has x n4
      have ea := C.sub x a ha
      rw [e] at ea; cases ea
      obtain ⟨o, ho, hd⟩ := z
      exact .inr ⟨n4, c, ha, ⟨o, k _ _ ho, hd⟩⟩
  · obtain ⟨v, o, ho, hd⟩ := hcl x c e
    exact ⟨v, o, k _ _ ho, hd⟩
  · show (capS cap σ).length = cN.length
    rw [capS_len, C.len]
/-- the block is left -/
theorem comp_end {cN : List Str} {scope : Scope} {cl : List (Str × Addr)} {fp : List Addr} {pins pins' : List (Addr × Obj)} {σ σ' : St} {H H' : Hp} {s s' : Shared} {h' : Heap}
    (I : Inv X pins σ H s) (f : ∀ b ∈ fp, FpOk X pins H b) (J : Inv (cxComp X cN scope cl fp s H) pins' σ' H' s') (sb : Heap.SameBut s.heap.objs.size s'.heap h') : Inv X pins σ H' { s' with heap := h' } := by
  have ne : ∀ b o, s.heap.get? b = some o → b ≠ s.heap.objs.size := fun b o e => Nat.ne_of_lt (Heap.lt_size e)
  have B : Un (frs X.stack) fp H H' s.heap s'.heap := J.base
  refine I.call' (s' := { s' with heap := h' }) (ch := fp) J.os ⟨fun b o e n hb hx => ?_, fun b o e n hb hx => ?_, B.free, fun b o e hx => ?_, B.tups, B.frzs, B.tbls⟩ (fun b o e => ?_) J.bare fun b hb => ?_
  · exact (sb.2 b (ne b o e)).trans (B.keep b o e n hb hx)
  · obtain ⟨sl, q⟩ := B.slot b o e n hb hx
    exact ⟨sl, (sb.2 b (ne b o e)).trans q⟩
  · obtain ⟨o', q⟩ := B.there b o e hx
    exact ⟨o', (sb.2 b (ne b o e)).trans q⟩
  · have hf : H' s.heap.objs.size = none := J.free
    refine (J.hok b o e).stay (fun c w' hc q => (sb.2 c ?_).trans q) (fun _ q => q) fun _ _ q => q
    rintro rfl
    rcases hc with rfl | hc
    · rw [hf] at e; cases e
    · rw [hf] at hc; cases hc
  · obtain ⟨f0, f1, f2, f3, f4, f5⟩ := f b hb
    exact ⟨f3, f1, f4, f5⟩
theorem wpAny_falseE {α : Type} {t : Sem α} {Q : α → Shared → Prop} {M : Model} {A : Around} {E : Value → Shared → Prop} {s : Shared} (h : wpAny M A t Q (fun _ _ => False) s) : wpAny M A t Q E s := wpAny_mono h (fun _ _ q => q) fun _ _ f => f.elim
/-- the loop of the block -/
theorem comp_loop {tg iter elt : Expr} {ifs : List Expr} {scope : Scope} {pos : Pos} {cN : List Str} {cap : List (Option Nat)} {cl : List (Str × Addr)} {js : List Nat} {g : TG} {c : TT} {te : TE} {fp : List Addr} {it D : Addr} {tn : Nat → Heap → Prop} {J : It}
    {σ : St} {H : Hp} {s s' : Shared} {Q : Addr → Hp → Prop} {R : Result → Shared → Prop} {H₀ : Hp} (X : Cx)
    (hc : X.calm = true) (hg : PG (cxComp X cN scope cl fp s H₀) tg g) (gm : TGmono g) (gk : GKeep js g) (hjs : ∀ j ∈ js, (cap[j]?).join = none) (ht : PIfs (cxComp X cN scope cl fp s H₀) ifs c) (tm : ∀ σ H (Q Q' : Bool → Hp → Prop), (∀ b H', Q b H' → Q' b H') → c σ H Q → c σ H Q') (he : PE (cxComp X cN scope cl fp s H₀) elt te)
    (T : Turn X.prog X.w X.K tg J fp it tn) (W : Nat → Nat → Hp → Prop)
    (turn : ∀ i m H, W i m H → (J.stop i H ∧ Q D H) ∨ (J.go i H ∧ ∃ N : Hp → Prop, (∀ H', N H' → ∃ m', m' < m ∧ W (i + 1) m' H') ∧ ∀ x H', J.yld i H x H' → g x (capS cap σ) H' fun σ2 H2 => c σ2 H2 fun b H3 =>
      if b = true then te σ2 H3 fun v H4 => ∃ xs, H4 D = some (.lst xs) ∧ xs.length < sizeLine ∧ N (upd H4 D (.lst (xs ++ [v]))) else N H3))
    (m : Nat) (w0 : W 0 m H) (I : Inv (cxComp X cN scope cl fp s H₀) [] (capS cap σ) H s') (st : tn 0 s'.heap) (f : ∀ b ∈ fp, FpOk (cxComp X cN scope cl fp s H₀) [] H b)
    (hR : ∀ σ' H' s', Inv (cxComp X cN scope cl fp s H₀) [] σ' H' s' → Q D H' → R (.ok .next) s') :
    codeAny (model X.prog X.w) X.A (.compLoop (.ListComp elt [⟨tg, iter, ifs, 0⟩] scope pos) 0 (.ref it) (.ref D) (cxComp X cN scope cl fp s H₀).env) R s' := by
  have stat : ∀ {H' : Hp}, (∀ b ∈ fp, H' b = none) → ∀ b ∈ fp, FpOk (cxComp X cN scope cl fp s H₀) [] H' b := fun hn b hb => ⟨hn b hb, (f b hb).2⟩
  refine codeAny_loop rfl (fun n s' => ∃ i H', Inv (cxComp X cN scope cl fp s H₀) [] (capS cap σ) H' s' ∧ tn i s'.heap ∧ (∀ b ∈ fp, H' b = none) ∧ W i n H') ?_ m ⟨0, H, I, st, fun b hb => (f b hb).1, w0⟩
  rintro n s3 ⟨i, H3, I3, st3, fr3, w3⟩
  show wpAny _ X.A ((compTurn (.ListComp elt [⟨tg, iter, ifs, 0⟩] scope pos) 0 (.ref it) (.ref D) (cxComp X cN scope cl fp s H₀).env).onRaise (fun x => do noteFrame x (cxComp X cN scope cl fp s H₀).env; theTreesLotGoes x)) _ _ s3
  refine wpAny_noted (wpAny_falseE ?_)
  rw [compTurn_list]
  refine wpAny_bind (wpAny_standAt (wpAny_bind ?_))
  rcases turn i n H3 w3 with ⟨stop, qn⟩ | ⟨go, N, hN, step⟩
  · refine thn (T.done (cxComp X cN scope cl fp s H₀) rfl rfl rfl hc i [] s3 _ H3 _ I3 (stat fr3) st3 stop) fun r s4 ⟨hr, I4⟩ => ?_
    subst hr
    exact wpAny_pure (hR _ _ _ I4 qn)
  · refine thn (T.item (cxComp X cN scope cl fp s H₀) rfl rfl rfl hc i [] s3 _ H3 _ I3 (stat fr3) st3 go) fun r s4 ⟨u, hr, h4⟩ => ?_
    subst hr
    refine wpAny_bind (thn h4 fun _ s5 ⟨x, H5, I5, r5, y5, st5, fr5⟩ => ?_)
    have I5' := I5.pinned (stat fr5) (T.obj _ _ st5)
    refine wpAny_bind (thn (hg _ s5 _ H5 x u _ I5' r5 (gk _ _ _ _ (step x H5 y5))) fun _ s6 ⟨σ6, H6, I6, q6, l6, k6⟩ => ?_)
    have back : ∀ {H7 : Hp} {s7 : Shared}, Inv (cxComp X cN scope cl fp s H₀) ([] ++ pinsAt fp s5.heap) σ6 H7 s7 → N H7 → ∃ m, m < n ∧ ∃ i H', Inv (cxComp X cN scope cl fp s H₀) [] (capS cap σ) H' s7 ∧ tn i s7.heap ∧ (∀ b ∈ fp, H' b = none) ∧ W i m H' := fun {H7 s7} I7 n7 => by
      obtain ⟨m', hm, w7⟩ := hN H7 n7
      refine ⟨m', hm, i + 1, H7, I7.unpinned.weak l6.symm fun j v hj => ?_, T.keep _ _ _ st5 fun b hb o e => (I7.pin (b, o) (List.mem_append_right _ (List.mem_append_right _ (mem_pinsAt hb e)))).1, fun b hb => ?_, w7⟩
      · by_cases hjj : j ∈ js
        · obtain ⟨z, hz, _⟩ := capS_get hj
          have := hjs j hjj
          rw [hz] at this; cases this
        · rw [k6 j hjj]; exact hj
      · obtain ⟨o, e, d⟩ := T.obj _ _ st5 b hb
        exact (I7.pin (b, o) (List.mem_append_right _ (List.mem_append_right _ (mem_pinsAt hb e)))).2.1
    refine wpAny_bind (thn (ht _ s6 σ6 H6 _ I6 q6) fun b s7 ⟨H7, I7, q7⟩ => ?_)
    cases b with
    | false =>
      rw [if_neg Bool.false_ne_true] at q7
      exact wpAny_pure ⟨rfl, back I7 q7⟩
    | true =>
      rw [if_pos rfl] at q7
      refine wpAny_bind (wpAny_bind (thn (he _ s7 σ6 H7 _ I7 q7) fun y s8 ⟨v, H8, I8, r8, xs, e8, z8, n8⟩ => ?_))
      refine wpAny_bind (thn (mt_append _ s8 σ6 H8 (.ref D) [v] (.ref D) [y] (fun _ H9 => N H9) I8 rfl (.cons r8 .nil) ⟨D, xs, v, rfl, rfl, e8, z8, n8⟩) fun _ s9 ⟨_, H9, I9, _, q9⟩ => ?_)
      exact wpAny_pure (wpAny_pure ⟨rfl, back I9 q9⟩)
section
variable {X : Cx} {tg iter elt : Expr} {ifs : List Expr} {scope : Scope} {pos : Pos} {cN : List Str} {cap : List (Option Nat)} {cl : List (Str × Addr)} {js : List Nat} {wi : TI} {g : TG} {c : TT} {te : TE}
/-- what a comprehension's parts must be -/
structure CompP (X : Cx) (tg iter elt : Expr) (ifs : List Expr) (scope : Scope) (cN : List Str) (cap : List (Option Nat)) (cl : List (Str × Addr)) (js : List Nat) (wi : TI) (g : TG) (c : TT) (te : TE) : Prop where
  calm : X.calm = true
  ok : X.Ok → CompOk X cN cap scope cl
  it : PI X tg iter wi
  tgt : ∀ fp s H, PG (cxComp X cN scope cl fp s H) tg g
  gm : TGmono g
  gk : GKeep js g
  js0 : ∀ j ∈ js, (cap[j]?).join = none
  ts : ∀ fp s H, PIfs (cxComp X cN scope cl fp s H) ifs c
  tm : ∀ σ H (Q Q' : Bool → Hp → Prop), (∀ b H', Q b H' → Q' b H') → c σ H Q → c σ H Q'
  el : ∀ fp s H, PE (cxComp X cN scope cl fp s H) elt te
  fold : ∀ x, foldedSetIterable iter X.env x = pure x
theorem comp_block {pins : List (Addr × Obj)} {σ : St} {H : Hp} {s : Shared} {Q : Addr → Hp → Prop} {RR : Value → Addr → Result → Shared → Prop} (C : CompP X tg iter elt ifs scope cN cap cl js wi g c te) (I : Inv X pins σ H s) (h : tCompL cap wi g c te σ H Q)
    (hRR : ∀ (D : Addr) (fp : List Addr) (s3 : Shared) (H3 : Hp) (σ' : St) (H' : Hp) (s' : Shared), Inv X pins σ H3 s3 → (∀ b ∈ fp, FpOk X pins H3 b) → Inv (cxComp X cN scope cl fp s3 H3) [] σ' H' s' → Q D H' → RR (.ref D) s3.heap.objs.size (.ok .next) s') :
    wpAny (model X.prog X.w) X.A (eval iter X.env) (fun x s₁ => wpAny (model X.prog X.w) X.A (pyIter x) (fun it s₂ => wpAny (model X.prog X.w) X.A (newList []) (fun acc s₃ =>
      wpAny (model X.prog X.w) X.A (newFunctionEnv scope X.env.globals cl [] X.env.qual none .none (some X.env)) (fun cenv s₄ =>
        codeAny (model X.prog X.w) X.A (.compStart (.ListComp elt [⟨tg, iter, ifs, 0⟩] scope pos) 0 it acc { cenv with scope := relabel scope X.env }) (RR acc cenv.locals) s₄) X.xe s₃) X.xe s₂) X.xe s₁) X.xe s := by
  refine thn (C.it pins s σ H _ I h) fun v s1 h1 => thn h1 fun itv s2 h2 => ?_
  obtain ⟨it, fp, tn, J, H2, e, I2, T, st2, f2, R2⟩ := h2
  subst e
  obtain ⟨W, ⟨m, w0⟩, turn⟩ := R2 s2.heap.objs.size I2.fresh
  have I3 : Inv X pins σ (upd H2 s2.heap.objs.size (.lst [])) { s2 with heap := s2.heap.push { cls := .type "list", data := .seq ([] : List Value).toArray }, toks := s2.toks } := I2.lnew (ys := []) (its := []) .nil (Nat.zero_le _)
  have fl : ∀ b ∈ fp, b < s2.heap.objs.size := fun b hb => by
    obtain ⟨o, e, _⟩ := T.obj _ _ st2 b hb
    exact Heap.lt_size e
  have f3 : ∀ b ∈ fp, FpOk X pins (upd H2 s2.heap.objs.size (.lst [])) b := fun b hb => ⟨by rw [upd_ne (Nat.ne_of_lt (fl b hb))]; exact (f2 b hb).1, (f2 b hb).2⟩
  refine wpAny_newObj_type (wpAny_newFunctionEnv (C.ok I.ok).cell (by intro y hy; simp at hy) (fun h₁ hns₁ hsb₁ => ?_) (C.ok I.ok).kind)
  dsimp only at hns₁ hsb₁ ⊢
  generalize hs3 : ({ s2 with heap := s2.heap.push { cls := .type "list", data := .seq ([] : List Value).toArray }, toks := s2.toks } : Shared) = s3 at I3
  have hh3 : s3.heap = s2.heap.push { cls := .type "list", data := .seq ([] : List Value).toArray } := by rw [← hs3]
  rw [← hh3] at hns₁ hsb₁ ⊢
  have fl3 : ∀ b ∈ fp, b < s3.heap.objs.size := fun b hb => by rw [hh3, Heap.size_push]; exact Nat.lt_succ_of_lt (fl b hb)
  have k1 : ∀ b o, s3.heap.get? b = some o → h₁.get? b = some o := fun b o e => (hsb₁.2 b (Nat.ne_of_lt (Heap.lt_size e))).trans (Heap.get?_push_of_some _ e)
  have I4 := comp_start (tk := s2.toks + ([] : List (Str × Value)).length) (C.ok I.ok) I3 f3 fl3 hns₁ k1
  have e4 : ({ s3 with heap := h₁, toks := s2.toks + ([] : List (Str × Value)).length } : Shared) = { s2 with heap := h₁, toks := s2.toks + ([] : List (Str × Value)).length } := by rw [← hs3]
  rw [e4] at I4
  have st4 : tn 0 h₁ := T.keep _ _ _ st2 fun b hb o e => k1 b o (by rw [hh3]; exact Heap.get?_push_of_some _ e)
  have f4 : ∀ b ∈ fp, FpOk (cxComp X cN scope cl fp s3 (upd H2 s2.heap.objs.size (.lst []))) [] (upd H2 s2.heap.objs.size (.lst [])) b := fun b hb => by
    obtain ⟨g0, g1, g2, g3, g4, g5⟩ := f3 b hb
    refine ⟨g0, Nat.ne_of_lt (fl3 b hb), fun z => ?_, .inl hb, fun x c e => g4 x c ((C.ok I.ok).sub x c e), fun p hp => absurd hp (by simp [cxComp])⟩
    rcases List.mem_cons.mp (I3.stkSub b z) with e | z
    · exact g1 e
    · exact g2 z
  have loop : codeAny (model X.prog X.w) X.A (.compLoop (.ListComp elt [⟨tg, iter, ifs, 0⟩] scope pos) 0 (.ref it) (.ref s2.heap.objs.size) (cxComp X cN scope cl fp s3 (upd H2 s2.heap.objs.size (.lst []))).env) (RR (.ref s2.heap.objs.size) s3.heap.objs.size)
      { s2 with heap := h₁, toks := s2.toks + ([] : List (Str × Value)).length } :=
    comp_loop X C.calm (C.tgt _ _ _) C.gm C.gk C.js0 (C.ts _ _ _) C.tm (C.el _ _ _) T W turn m w0 I4 st4 f4 fun σ' H' s' I' q => hRR _ fp s3 _ σ' H' s' I3 f3 I' q
  exact codeAny_compStart_list loop (T.self _ 0 _ _ _ st4 loop)
def tComp (cap : List (Option Nat)) (wi : TI) (g : TG) (c : TT) (te : TE) : TE := fun σ H Q => tCompL cap wi g c te σ H fun p H' => Q (.ref p) H'
theorem pe_comp (C : CompP X tg iter elt ifs scope cN cap cl js wi g c te) : PE X (.ListComp elt [⟨tg, iter, ifs, 0⟩] scope pos) (tComp cap wi g c te) := by
  intro pins s σ H Q I h
  rw [eval_ListComp]
  refine wpAny_comprehension_free (use := none) rfl C.fold (C.ok I.ok).clos (C.ok I.ok).kind (C.ok I.ok).names (comp_block (RR := fun acc C' => compPost (model X.prog X.w) X.A X.xe none (EP X pins σ Q) acc C') C I h ?_)
  intro D fp s3 H3 σ' H' s' I3 f3 J q
  obtain ⟨m, hn, _⟩ := J.loc
  exact ⟨m, hn, fun h' sb => ⟨.ref D, H', comp_end I3 f3 J sb, rfl, q⟩⟩
/-- x = [.. for ..], x a plain local: stored ahead of the block's end -/
def tSetComp (i : Nat) (cap : List (Option Nat)) (wi : TI) (g : TG) (c : TT) (te : TE) : TS := fun D σ H => tCompL cap wi g c te σ H fun p H' => D.nx (σ.set i (some (.ref p))) H'
end
end
end L2
set_option Elab.async false
set_option linter.all false
set_option maxRecDepth 100000
set_option maxHeartbeats 4000000
/-! more rules over the layer: texts walked, enumerate, all, isinstance, lists compared, slices of texts, () + t -/
namespace L2
open PySem PySem.Spec PyProof.Rows
/-! ### for c in a text -/
def Its (z : Str) : It := ⟨fun i _ => i < z.cps.size, fun i H x H' => H' = H ∧ ∃ c, z.cps[i]? = some c ∧ x = .str ⟨#[c]⟩, fun i _ => i = z.cps.size⟩
theorem turn_walks {P : Program} {w : World} {K : PySem.W.Frag} {tg : Expr} {ty : String} {it : Addr} {z : Str} {t : Tok} (hty : ["enumerate", "zip", "dict_itemiterator", "dict_reverseitemiterator", "odict_iterator", "itertools.zip_longest", "itertools.pairwise"].contains ty = false)
    (W : ∀ A : Around, A.handled = none → Walks P w A it [it] [it] z.cps.size (SignAt z) (fun i h => h.IsStrIter it ty z t i))
    (self : ∀ (A : Around) (i : Nat) (s : Shared) (Q : Value → Shared → Prop) (E : Value → Shared → Prop), s.heap.IsStrIter it ty z t i → Q (.ref it) s → wpAny (model P w) A (pyIter (.ref it)) Q E s) :
    Turn P w K tg (Its z) [it] it (fun i h => h.IsStrIter it ty z t i) where
  mem := by simp
  obj := fun i h st b hb => by
    have e : b = it := by simpa using hb
    subst e
    obtain ⟨o, e, c, d⟩ := st
    exact ⟨o, e, fun v z => by rw [d] at z; cases z⟩
  keep := fun i h h' st k => let ⟨o, e, r⟩ := st; ⟨o, k it (by simp) o e, r⟩
  item := by
    intro X hP hw hK hc i pins s σ H E I hf st hg
    subst hP hw hK
    obtain ⟨f0, f1, f2, f3, f4, f5⟩ := hf it (by simp)
    refine (W X.A (I.ok.hd hc)).item i s _ _ hg st fun v h' tk hv st' kk => ?_
    obtain ⟨c, u, hcp, rfl⟩ := hv
    have I1 : Inv X pins σ H { s with heap := h', toks := tk } := I.turned (fun b o hb e => kk b o (by simpa using hb) e) f0 f1 f3 f4 f5
    obtain ⟨o, e, c', d⟩ := id st'
    exact ⟨_, rfl, go_of (s := { s with heap := h', toks := tk }) e c' d hty ⟨.str ⟨#[c]⟩, H, I1, ⟨u, rfl⟩, ⟨rfl, c, hcp, rfl⟩, st', fun b hb => (hf b hb).1⟩⟩
  done := by
    intro X hP hw hK hc i pins s σ H E I hf st hg
    subst hP hw hK
    obtain ⟨f0, f1, f2, f3, f4, f5⟩ := hf it (by simp)
    have e : i = z.cps.size := hg
    subst e
    exact (W X.A (I.ok.hd hc)).done s _ _ st fun h' tk kk => ⟨rfl, I.turned (fun b o hb e => kk b o (by simpa using hb) e) f0 f1 f3 f4 f5⟩
  self := self
section
variable {X : Cx} {tg : Expr}
def iStr (tl : TE) : TI := fun σ H R => tl σ H fun x H1 => ∃ z, x = .str z ∧ R (Its z) H1
end
/-! ### for k, c in enumerate(a text) -/
def Ite (z : Str) : It := ⟨fun i _ => i < z.cps.size, fun i H x H' => ∃ c T, z.cps[i]? = some c ∧ x = .ref T ∧ H T = none ∧ H' = upd H T (.tup [.int i, .str ⟨#[c]⟩]), fun i _ => i = z.cps.size⟩
section
variable {X : Cx} {elts : List Expr} {ek : Nat} {epos : Pos}
def iEnum (ta : TA) : TI := fun σ H R => ta σ H fun vs H1 => ∃ z, vs = [.str z] ∧ R (Ite z) H1
end
section
variable {X : Cx}
/-! ### all of a list of truths -/
/-! ### isinstance of a built-in class -/
/-! ### two lists of the very same items -/
def okV : V → Bool
  | .flt _ => false
  | .byt _ => false
  | _ => true
def rEqL (K : PySem.W.Frag) (k : Bool) : R2 := fun x y H Q => ∃ p q xs, x = .ref p ∧ y = .ref q ∧ SqL K H p xs ∧ SqL K H q xs ∧ xs.all okV = true ∧ Q (.bl k) H
/-! ### () + t -/
def rCatT0 (K : PySem.W.Frag) : R2 := fun x y H Q => ∃ a b ys, x = .ref a ∧ y = .ref b ∧ SqT K H a [] ∧ SqT K H b ys ∧ Q (.ref b) H
theorem op_catT0 : OpR X (binaryOp .Add) (rCatT0 X.K) := by
  intro pins s σ H x y v u Q I rx ry h
  obtain ⟨a, b, ys, rfl, rfl, ha, hb, q⟩ := h
  cases rx
  cases ry
  obtain ⟨its, r1, p1, _⟩ := I.tuple ha
  obtain ⟨its2, r2, p2, _⟩ := I.tuple hb
  cases r1
  obtain ⟨⟨cls, dd, data, sl⟩, ho, hc, n, hd⟩ := id p1
  obtain ⟨⟨cls2, dd2, data2, sl2⟩, ho2, hc2, n2, hd2⟩ := id p2
  simp only at hc hd hc2 hd2
  subst hc hd hc2 hd2
  exact concat_meets ⟨_, ho, rfl⟩ ⟨_, ho2, rfl⟩ noFill_tuple_add seq_tuple_add PySem.F.slot_tuple_add PySem.F.entry_tuple_add (PySem.F.args_tuple_add_2 _ _)
    (tuple_addW0 a b _ _ n n2 dd dd2 sl sl2 (by simp)) ⟨ho, ho2, ⟨.ref b, H, I, rfl, q⟩⟩
/-! ### a text's slice -/
theorem part_of {v : Value} {o : Option Int} (h : IsPart v o) : ∃ l : Option (Int × Tok), v = partValue l ∧ l.map (·.1) = o := by
  cases h with
  | none => exact ⟨none, rfl, rfl⟩
  | int i t => exact ⟨some (i, t), rfl, rfl⟩
def rSlS : V → Option Int → Option Int → Hp → VK → Prop := fun x lo hi H Q => ∃ z, x = .str z ∧ z.length ≤ sizeLine ∧ Q (.str (Txt.slice z lo hi)) H
theorem sl_str : SlR X rSlS := by
  intro pins s σ H x v vl vu lo hi sl Q I rx hs pl pu h
  obtain ⟨z, rfl, hz, q⟩ := h
  obtain ⟨t, rfl⟩ := rx
  obtain ⟨l, rfl, rfl⟩ := part_of pl
  obtain ⟨u, rfl, rfl⟩ := part_of pu
  refine ⟨"str", _, PySem.F.slot_str_getitem.lookup, typeIs_str _ _ _, ?_⟩
  obtain ⟨o, ho, hc, hd⟩ := hs
  refine wpAny_getItem_str_slice (l := l) (u := u) (st := none) ⟨o, ho, hc, hd⟩ rfl ?_
  have hle := Txt.slice_le z (l.map (·.1)) (u.map (·.1))
  unfold sliceMade
  unfold Txt.slice at q hle
  show Made.post (if ((1 : Int) == 1 && (PySem.Builtin.Str.strSliceIndices (l.map (·.1)) (u.map (·.1)) 1 z.length).length == z.length) = true then _ else Made.str ⟨((PySem.Builtin.Str.strSliceIndices (l.map (·.1)) (u.map (·.1)) 1 z.length).filterMap (z.cps[·]?)).toArray⟩) _ s
  split
  · rename_i hif
    rw [if_pos hif] at q
    exact ⟨.str z, H, I, ⟨t, rfl⟩, q⟩
  · rename_i hif
    rw [if_neg hif] at q
    rw [if_neg hif] at hle
    exact ⟨Nat.le_trans hle hz, .str _, H, I.tok _, ⟨_, rfl⟩, q⟩
end
end L2
set_option Elab.async false
set_option linter.all false
set_option maxRecDepth 100000
set_option maxHeartbeats 4000000
namespace L2
open PySem PySem.Spec PyProof.Rows
theorem bt_max : bootBuiltins "max" = some (.builtin "max") := by decide +kernel
theorem bt_isinstance : bootBuiltins "isinstance" = some (.builtin "isinstance") := by decide +kernel
theorem bt_tuple : bootBuiltins "tuple" = some (.type "tuple") := by decide +kernel
section
variable {X : Cx}
/-- a def that keeps its promise, whatever its address -/
structure Ca (P : Program) (w : World) (K : PySem.W.Frag) (mg : Str → Option Value) (base : Heap) (k : Nat) (x : Str) (ps : List Str) (sp : Sp) : Prop where
  ex : ∃ (f : Addr) (fd : FuncData), FnOk P w K mg base CX0 k f fd ps sp ∧ Binds K fd ps [] ∧ PySem.W.keepIn K (.ref f) = true ∧ mg x = some (.ref f)
theorem pe_ca {k : Nat} {x : Str} {ps : List Str} {sp : Sp} {p pos : Pos} {e : Expr} {es : List Expr} {t : TA} (C : Ca X.prog X.w X.K X.mg X.base k x ps sp) (hr : Room k X.A) (hg : Gl X x) (ha : PA X (e :: es) t)
    (hdb : (x == ("__debug__" : Str)) = false := by decide) (he : starEach (e :: es) X.env = (false, eval e X.env) :: starEach es X.env := by rfl) (hpl : (backTo pos (starEach es X.env)).any (·.1) = false := by rfl) :
    PE X (.Call (.Name x p) (e :: es) [] pos) (tCall sp [] E0 t) := by
  obtain ⟨f, fd, F, B, kp, m⟩ := C.ex
  exact pe_call F hr hg m kp B .nil pass0 ha hdb he hpl
theorem gm_tup {K : PySem.W.Frag} {n : Nat} {u : TGs} (b : TGsmono u) : TGmono (gTup K n u) := fun x σ H Q Q' h q => by
  obtain ⟨a, xs, e, hq, hl, q⟩ := q
  exact ⟨a, xs, e, hq, hl, b _ _ _ _ _ h q⟩
/-! the names of a block -/
theorem mem_relabel {scope : Scope} {env : Env} {x : Str} {k : NameKind} (h : (relabel scope env).names.lookup x = some k) : ∃ k', (x, k') ∈ scope.names ∧ (k' = k ∨ k' = .free) := by
  have m := PySem.mem_of_lookup h
  unfold relabel at m
  obtain ⟨⟨n, k'⟩, hm, e⟩ := List.mem_map.mp m
  dsimp only at e
  split at e
  · rename_i hc
    cases e
    refine ⟨k', hm, .inr ?_⟩
    simp only [Bool.and_eq_true, beq_iff_eq] at hc
    exact hc.1.1
  · cases e
    exact ⟨_, hm, .inl rfl⟩
theorem compOk0 {cN : List Str} {cap : List (Option Nat)} {scope : Scope} (hk : scope.kind = .function) (h1 : scope.names.all (fun y => y.2 != .free && y.2 != .cell) = true) (h2 : scope.names.all (fun y => y.2 != .local || scope.names.lookup y.1 == some .local) = true)
    (hl : cap.length = cN.length) (hc : cap.all (fun o => o.isNone) = true) : CompOk X cN cap scope [] where
  clos := closureFor_none fun y hy => by
    have := List.all_eq_true.mp h1 y hy
    simp only [Bool.and_eq_true, bne_iff_ne, ne_eq] at this
    exact this.1
  sub := fun n a h => by cases h
  cell := fun y hy => by
    have := List.all_eq_true.mp h1 y hy
    simp only [Bool.and_eq_true, bne_iff_ne, ne_eq] at this
    exact this.2
  kind := hk
  names := fun y hy e => by
    have := List.all_eq_true.mp h2 y hy
    simp only [Bool.or_eq_true, bne_iff_ne, ne_eq, beq_iff_eq] at this
    rcases this with q | q
    · exact absurd e q
    · exact q
  len := hl
  has := fun x h => by
    exfalso
    have no : ∀ k', (x, k') ∈ scope.names → k' ≠ .free ∧ k' ≠ .cell := fun k' hy => by
      have := List.all_eq_true.mp h1 _ hy
      simpa only [Bool.and_eq_true, bne_iff_ne, ne_eq] using this
    rcases h with h | h
    · obtain ⟨k', hm, e⟩ := mem_relabel h
      rcases e with e | e
      · exact (no k' hm).2 e
      · exact (no k' hm).1 e
    · obtain ⟨k', hm, e⟩ := mem_relabel h
      rcases e with e | e
      · exact (no k' hm).1 e
      · exact (no k' hm).1 e
  capd := fun i j x h _ => by
    have := List.all_eq_true.mp hc _ (List.mem_of_getElem? h)
    cases this
/-- the cells that a block takes -/
def closOf (cells : List (Str × Addr)) : List (Str × NameKind) → List (Str × Addr) → List (Str × Addr)
  | [], cs => cs
  | (n, k) :: r, cs => closOf cells r (if k == .free then (n, (cells.lookup n).getD 0) :: cs else cs)
theorem closOf_mem {cells : List (Str × Addr)} : ∀ {names : List (Str × NameKind)} {cs : List (Str × Addr)} {p : Str × Addr}, p ∈ closOf cells names cs ↔ p ∈ cs ∨ ((p.1, NameKind.free) ∈ names ∧ p.2 = (cells.lookup p.1).getD 0)
  | [], cs, p => by simp [closOf]
  | (n, k) :: r, cs, p => by
    unfold closOf
    rw [closOf_mem]
    by_cases hk : k = .free
    · subst hk
      simp only [beq_self_eq_true, if_true, List.mem_cons, Prod.mk.injEq, and_true]
      constructor
      · rintro ((h | h) | h)
        · subst h; exact .inr ⟨.inl rfl, rfl⟩
        · exact .inl h
        · exact .inr ⟨.inr h.1, h.2⟩
      · rintro (h | ⟨h | h, e⟩)
        · exact .inl (.inr h)
        · refine .inl (.inl ?_)
          obtain ⟨a, b⟩ := p
          simp only at h e
          subst h; subst e; rfl
        · exact .inr ⟨h, e⟩
    · have hb : (k == NameKind.free) = false := by simpa using hk
      simp only [hb, Bool.false_eq_true, if_false, List.mem_cons, Prod.mk.injEq]
      constructor
      · rintro (h | h)
        · exact .inl h
        · exact .inr ⟨.inr h.1, h.2⟩
      · rintro (h | ⟨h | h, e⟩)
        · exact .inl h
        · exact absurd h.2.symm hk
        · exact .inr ⟨h, e⟩
theorem closureFor_of {scope : Scope} {env : Env} (h : ∀ n, (n, NameKind.free) ∈ scope.names → ∃ c, env.cells.lookup n = some c) : closureFor scope env = pure (closOf env.cells scope.names []) := by
  have key : ∀ (names : List (Str × NameKind)) (cs : List (Str × Addr)), (∀ n, (n, NameKind.free) ∈ names → ∃ c, env.cells.lookup n = some c) →
      (forIn names cs fun x r => (match x with | (name, kind) => if (kind == NameKind.free) = true then (do let y ← cellOf env name; pure (ForInStep.yield ((name, y) :: r))) else pure (ForInStep.yield r) : Sem (ForInStep (List (Str × Addr))))) = pure (closOf env.cells names cs) := by
    intro names
    induction names with
    | nil => intro cs _; rfl
    | cons y r ih =>
      obtain ⟨n, k⟩ := y
      intro cs hn
      rw [List.forIn_cons]
      unfold closOf
      by_cases hk : k = .free
      · subst hk
        obtain ⟨c, hc⟩ := hn n (List.mem_cons_self)
        simp only [beq_self_eq_true, if_true, cellOf, hc, Option.getD_some]
        exact ih _ fun m hm => hn m (List.mem_cons_of_mem _ hm)
      · have hb : (k == NameKind.free) = false := by simpa using hk
        simp only [hb, Bool.false_eq_true, if_false]
        exact ih _ fun m hm => hn m (List.mem_cons_of_mem _ hm)
  unfold closureFor
  have := key scope.names [] h
  first
    | exact this
    | (simp only [bind_pure]; exact this)
    | (show (forIn scope.names [] _ >>= fun r => pure r) = _; rw [bind_pure]; exact this)
theorem lookup_snd {f : Str → NameKind → NameKind} : ∀ {names : List (Str × NameKind)} {x : Str}, (names.map fun y => (y.1, f y.1 y.2)).lookup x = (names.lookup x).map (f x)
  | [], x => rfl
  | (n, k) :: r, x => by
    have ih := @lookup_snd f r x
    rw [List.map_cons, List.lookup_cons, List.lookup_cons]
    by_cases hx : x = n
    · subst hx; simp
    · have hb : (x == n) = false := beq_eq_false_iff_ne.mpr hx
      simp only [hb]; exact ih
theorem lookup_relabel {scope : Scope} {env : Env} {x : Str} : (relabel scope env).names.lookup x =
      (scope.names.lookup x).map fun k => if (k == NameKind.free && env.scope.kind == .function && env.kindOf x == some .cell) then NameKind.cell else k := by
  rw [← lookup_snd (f := fun n k => if (k == NameKind.free && env.scope.kind == .function && env.kindOf n == some .cell) then NameKind.cell else k)]
  unfold relabel
  congr 1
  refine List.map_congr_left fun y _ => ?_
  obtain ⟨n, k⟩ := y
  dsimp only
  split <;> rfl
/-- the block's names stand at these places of the frame around, as cells -/
def capOk (N : List Str) (outer inner : List (Str × NameKind)) : List (Option Nat) → List Str → Bool
  | [], _ => true
  | _, [] => true
  | none :: r, _ :: xs => capOk N outer inner r xs
  | some j :: r, x :: xs => N[j]? == some x && outer.lookup x == some .cell && inner.lookup x == some .free && capOk N outer inner r xs
theorem capOk_get {N : List Str} {outer inner : List (Str × NameKind)} : ∀ {cap : List (Option Nat)} {cN : List Str}, capOk N outer inner cap cN = true → ∀ (i j : Nat) (x : Str), cap[i]? = some (some j) → cN[i]? = some x → N[j]? = some x ∧ outer.lookup x = some .cell ∧ inner.lookup x = some .free
  | [], _, _, i, j, x, h1, _ => by simp at h1
  | _ :: _, [], _, i, j, x, _, h2 => by simp at h2
  | none :: r, y :: xs, h, 0, j, x, h1, _ => by simp at h1
  | none :: r, y :: xs, h, i + 1, j, x, h1, h2 => capOk_get (cap := r) (cN := xs) (by simpa [capOk] using h) i j x (by simpa using h1) (by simpa using h2)
  | some k :: r, y :: xs, h, 0, j, x, h1, h2 => by
    simp only [capOk, Bool.and_eq_true, beq_iff_eq] at h
    simp at h1 h2
    subst h1 h2
    exact ⟨h.1.1.1, h.1.1.2, h.1.2⟩
  | some k :: r, y :: xs, h, i + 1, j, x, h1, h2 => by
    simp only [capOk, Bool.and_eq_true, beq_iff_eq] at h
    exact capOk_get (cap := r) (cN := xs) h.2 i j x (by simpa using h1) (by simpa using h2)
theorem lookup_of_mem {α β : Type} [BEq α] [LawfulBEq α] {x : α} : ∀ {l : List (α × β)} {b : β}, (x, b) ∈ l → ∃ c, l.lookup x = some c
  | [], _, h => by cases h
  | (y, c) :: r, b, h => by
    rw [List.lookup_cons]
    by_cases hx : x = y
    · subst hx; simp
    · have hb : (x == y) = false := beq_eq_false_iff_ne.mpr hx
      rw [hb]
      rcases List.mem_cons.mp h with e | h
      · cases e; exact absurd rfl hx
      · exact lookup_of_mem h
/-- a block that takes names of the frame around: in the frame they are cells -/
theorem compOkN {cN : List Str} {cap : List (Option Nat)} {scope : Scope} (ok : X.Ok) (hk : scope.kind = .function) (h1 : scope.names.all (fun y => y.2 != .cell) = true) (h2 : scope.names.all (fun y => y.2 != .local || scope.names.lookup y.1 == some .local) = true)
    (hl : cap.length = cN.length) (hf : (scope.names.all fun y => y.2 != .free || X.env.scope.names.lookup y.1 == some .cell) = true) (hc : capOk X.N X.env.scope.names scope.names cap cN = true) : CompOk X cN cap scope (closOf X.env.cells scope.names []) := by
  have hfr : ∀ n, (n, NameKind.free) ∈ scope.names → ∃ c, X.env.cells.lookup n = some c := fun n hn => by
    have := List.all_eq_true.mp hf _ hn
    simp only [bne_self_eq_false, Bool.false_or, beq_iff_eq] at this
    exact ok.has n (.inl this)
  refine ⟨closureFor_of hfr, fun n a h => ?_, fun y hy => ?_, hk, fun y hy e => ?_, hl, fun x h => ?_, fun i j x h1' h2' => ?_⟩
  · have m := PySem.mem_of_lookup h
    rw [closOf_mem] at m
    rcases m with m | ⟨m, e⟩
    · cases m
    · obtain ⟨c, hc⟩ := hfr n m
      simp only [hc, Option.getD_some] at e
      rw [hc, e]
  · have := List.all_eq_true.mp h1 y hy
    simpa using this
  · have := List.all_eq_true.mp h2 y hy
    simp only [Bool.or_eq_true, bne_iff_ne, ne_eq, beq_iff_eq] at this
    rcases this with q | q
    · exact absurd e q
    · exact q
  · have nc : ∀ k', (x, k') ∈ scope.names → k' ≠ .cell := fun k' hy => by
      have := List.all_eq_true.mp h1 _ hy
      simpa using this
    have m : (x, NameKind.free) ∈ scope.names := by
      rcases h with h | h
      · obtain ⟨k', hm, e⟩ := mem_relabel h
        rcases e with e | e
        · exact absurd e (nc k' hm)
        · subst e; exact hm
      · obtain ⟨k', hm, e⟩ := mem_relabel h
        rcases e with e | e <;> (subst e; exact hm)
    exact lookup_of_mem (b := (X.env.cells.lookup x).getD 0) (closOf_mem.mpr (.inr ⟨m, rfl⟩))
  · obtain ⟨q1, q2, q3⟩ := capOk_get hc i j x h1' h2'
    refine ⟨q1, .inr (.inl q2), (by rw [q2]; simp), ?_⟩
    rw [lookup_relabel, q3]
    simp only [Option.map_some, beq_self_eq_true, Bool.true_and]
    split
    · exact .inl rfl
    · exact .inr rfl
end
end L2
set_option Elab.async false
set_option linter.all false
set_option maxRecDepth 100000
set_option maxHeartbeats 4000000
namespace L2
open PySem PySem.Spec PyProof.Rows
/-- the list grown so far, and what holds of it -/
def CN (p : Addr) (Pv : Nat → List V → Hp → Prop) (i : Nat) (H : Hp) : Prop := ∃ ys, H p = some (.lst ys) ∧ ys.length ≤ i ∧ Pv i ys H
section
variable {K : PySem.W.Frag} {cap : List (Option Nat)} {g : TG} {c : TT} {te : TE} {σ : St} {Q : Addr → Hp → Prop} {H : Hp}
end
/-- a for's turns -/
def tForGo (g : TG) (tb : TS) (D : Ends) (σ : St) (J : It) (H1 : Hp) : Prop := ∃ W : Nat → Nat → St → Hp → Prop, (∃ m, W 0 m σ H1) ∧ ∀ i m σ H, W i m σ H →
  (J.stop i H ∧ D.nx σ H) ∨ (J.go i H ∧ ∃ N : St → Hp → Prop, (∀ σ' H', N σ' H' → ∃ m', m' < m ∧ W (i + 1) m' σ' H') ∧ ∀ x H', J.yld i H x H' → g x σ H' fun σ2 H2 => tb { D with nx := N, ct := N, bk := D.nx } σ2 H2)
section
variable {K : PySem.W.Frag} {a : Addr} {xs : List V} {g : TG} {tb : TS} {D : Ends} {σ : St} {H : Hp} {z : Str}
end
theorem tyL {K : PySem.W.Frag} {H : Hp} {r : Addr} {xs : List V} (h : H r = some (.lst xs)) : tyV K "list" (.ref r) H := by
  unfold tyV
  exact .inl ⟨rfl, xs, SqL.of h⟩
theorem atI_in {α : Type} {xs : List α} {i : Int} (h0 : 0 ≤ i) (h1 : i < (xs.length : Int)) : ∃ v, atI xs i = some v ∧ v ∈ xs := by
  have hk : i.toNat < xs.length := by omega
  have ek : ((i.toNat : Nat) : Int) = i := by omega
  have q : atI xs ((i.toNat : Nat) : Int) = some xs[i.toNat] := atI_nat (by simp [hk])
  rw [ek] at q
  exact ⟨xs[i.toNat], q, List.getElem_mem hk⟩
end L2
set_option Elab.async false
set_option linter.all false
set_option maxRecDepth 100000
set_option maxHeartbeats 4000000
namespace L2
open PySem PySem.Spec PyProof.Rows
/-! ### lists of pairs as tables -/
section
variable {κ : Type} [DecidableEq κ]
def valV (kvs : List (κ × V)) (k : κ) : Option V := (kvs.find? fun kv => decide (kv.1 = k)).map (·.2)
/-- in its place, or at the end -/
def putK (kvs : List (κ × V)) (k : κ) (v : V) : List (κ × V) :=
  if (kvs.any fun kv => decide (kv.1 = k)) = true then kvs.map (fun kv => if kv.1 = k then (kv.1, v) else kv) else kvs ++ [(k, v)]
def dropK (kvs : List (κ × V)) (k : κ) : List (κ × V) := kvs.filter fun kv => decide (kv.1 ≠ k)
theorem valV_pos {p : κ × V} {r : List (κ × V)} {k : κ} (e : p.1 = k) : valV (p :: r) k = some p.2 := by simp [valV, List.find?_cons, e]
theorem valV_neg {p : κ × V} {r : List (κ × V)} {k : κ} (e : ¬ p.1 = k) : valV (p :: r) k = valV r k := by simp [valV, List.find?_cons, e]
theorem valV_any (k : κ) : ∀ kvs : List (κ × V), (kvs.any fun kv => decide (kv.1 = k)) = (valV kvs k).isSome
  | [] => rfl
  | p :: r => by
    rw [List.any_cons]
    by_cases e : p.1 = k
    · simp only [valV_pos e, decide_eq_true e, Bool.true_or, Option.isSome_some]
    · rw [valV_neg e, decide_eq_false e, Bool.false_or]; exact valV_any k r
theorem length_putK (kvs : List (κ × V)) (k : κ) (v : V) : (putK kvs k v).length ≤ kvs.length + 1 := by
  unfold putK
  split
  · rw [List.length_map]; omega
  · rw [List.length_append, List.length_cons, List.length_nil]; omega
theorem RelO.isSome_eq {o : Option V} {u : Option Value} (r : RelO o u) : o.isSome = u.isSome := by
  cases o with
  | none => cases u with
    | none => rfl
    | some _ => exact (show False from r).elim
  | some _ => cases u with
    | none => exact (show False from r).elim
    | some _ => rfl
theorem RelO.getD {o : Option V} {u : Option Value} {d : V} {d' : Value} (r : RelO o u) (rd : RelV d d') : RelV (o.getD d) (u.getD d') := by
  cases o with
  | none => cases u with
    | none => exact rd
    | some _ => exact (show False from r).elim
  | some _ => cases u with
    | none => exact (show False from r).elim
    | some _ => exact r
/-- raw tables of the same keys -/
theorem KV.val {kvs : List (κ × V)} {vs : List (κ × Value)} (r : KV kvs vs) (k : κ) : RelO (valV kvs k) (valueAt vs k) := by
  unfold KV at r
  induction r with
  | nil => exact True.intro
  | @cons p q ps qs h t ih =>
    obtain ⟨h1, h2⟩ := h
    by_cases e : p.1 = k
    · have e' : q.1 = k := h1.symm.trans e
      have b : valueAt (q :: qs) k = some q.2 := by simp [valueAt, List.find?_cons, e']
      rw [valV_pos e, b]; exact h2
    · have e' : ¬ q.1 = k := fun z => e (h1.trans z)
      have b : valueAt (q :: qs) k = valueAt qs k := by simp [valueAt, List.find?_cons, e']
      rw [valV_neg e, b]; exact ih
theorem KV.any {kvs : List (κ × V)} {vs : List (κ × Value)} (r : KV kvs vs) (k : κ) : (kvs.any fun kv => decide (kv.1 = k)) = vs.any fun kv => decide (kv.1 = k) := by
  unfold KV at r
  induction r with
  | nil => rfl
  | cons h t ih => rw [List.any_cons, List.any_cons, ih, h.1]
theorem KV.repl {kvs : List (κ × V)} {vs : List (κ × Value)} (r : KV kvs vs) (k : κ) {y : V} {u : Value} (ry : RelV y u) :
    KV (kvs.map fun kv => if kv.1 = k then (kv.1, y) else kv) (vs.map fun kv => if kv.1 = k then (kv.1, u) else kv) := by
  unfold KV at r ⊢
  induction r with
  | nil => exact .nil
  | @cons p q ps qs h t ih =>
    rw [List.map_cons, List.map_cons]
    refine .cons ?_ ih
    obtain ⟨h1, h2⟩ := h
    by_cases e : p.1 = k
    · rw [if_pos e, if_pos (h1.symm.trans e)]; exact ⟨h1, ry⟩
    · rw [if_neg e, if_neg (fun z => e (h1.trans z))]; exact ⟨h1, h2⟩
theorem KV.put {kvs : List (κ × V)} {vs : List (κ × Value)} (r : KV kvs vs) (k : κ) {y : V} {u : Value} (ry : RelV y u) : KV (putK kvs k y) (stored vs k u) := by
  unfold putK stored
  rw [r.any k]
  by_cases e : (vs.any fun kv => decide (kv.1 = k)) = true
  · rw [if_pos e, if_pos e]; exact r.repl k ry
  · rw [if_neg e, if_neg e]; exact Paired.snoc r ⟨rfl, ry⟩
theorem KV.drop {kvs : List (κ × V)} {vs : List (κ × Value)} (r : KV kvs vs) (k : κ) : KV (dropK kvs k) (without vs k) := by
  unfold KV at r ⊢
  unfold dropK without
  induction r with
  | nil => exact .nil
  | @cons p q ps qs h t ih =>
    obtain ⟨h1, h2⟩ := h
    rw [List.filter_cons, List.filter_cons]
    by_cases e : p.1 = k
    · have a : ¬ decide (p.1 ≠ k) = true := by simp [e]
      have b : ¬ decide (q.1 ≠ k) = true := by simp [h1.symm.trans e]
      rw [if_neg a, if_neg b]; exact ih
    · have e' : ¬ q.1 = k := fun z => e (h1.trans z)
      have a : decide (p.1 ≠ k) = true := by simp [e]
      have b : decide (q.1 ≠ k) = true := by simp [e']
      rw [if_pos a, if_pos b]; exact .cons ⟨h1, h2⟩ ih
theorem KV.keys {kvs : List (κ × V)} {vs : List (κ × Value)} (r : KV kvs vs) : kvs.map (·.1) = vs.map (·.1) := by
  unfold KV at r
  induction r with
  | nil => rfl
  | cons h t ih => rw [List.map_cons, List.map_cons, ih, h.1]
theorem KV.length {kvs : List (κ × V)} {vs : List (κ × Value)} (r : KV kvs vs) : kvs.length = vs.length := Paired.length r
theorem dropK_le (kvs : List (κ × V)) (k : κ) : (dropK kvs k).length ≤ kvs.length := List.length_filter_le _ _
end
/-! ### a tracked dict, its keys ints and texts or tuples of these -/
theorem kV_is {P : Program} {w : World} {k : Key} {u : Value} (r : RelV (kV k) u) : (mixKind P w).is k u = true := by
  cases k with
  | inl i => obtain ⟨t, e⟩ := (show ∃ t, u = Value.int i t from r); subst e; exact mixKind_int P w i t
  | inr x => obtain ⟨t, e⟩ := (show ∃ t, u = Value.str x t from r); subst e; exact mixKind_str P w x t
theorem items_are {P : Program} {w : World} : ∀ {ks : List Key} {us : List Value}, Vals (ks.map kV) us → ItemsAre (mixKind P w) ks us
  | [], _, r => by rw [List.map_nil] at r; cases r; exact .nil
  | k :: ks, _, r => by
    rw [List.map_cons] at r
    cases r with
    | cons h t => exact .cons (kV_is h) (items_are t)
/-- raw entries of a dict with tuple keys -/
abbrev KT (H : Hp) : List (List Key × V) → List (List Key × Addr × Value) → Prop := Paired fun p q => p.1 = q.1 ∧ H q.2.1 = some (.tup (p.1.map kV)) ∧ RelV p.2 q.2.2
theorem KT.val {H : Hp} {kvs : List (List Key × V)} {xs : List (List Key × Addr × Value)} (r : KT H kvs xs) (k : List Key) : RelO (valV kvs k) ((atKey xs k).map (·.2)) := by
  induction r with
  | nil => exact True.intro
  | @cons p q ps qs h t ih =>
    obtain ⟨h1, _, h2⟩ := h
    by_cases e : p.1 = k
    · have e' : q.1 = k := h1.symm.trans e
      have b : atKey (q :: qs) k = some q.2 := by simp [atKey, List.find?_cons, e']
      rw [valV_pos e, b]; exact h2
    · have e' : ¬ q.1 = k := fun z => e (h1.trans z)
      have b : atKey (q :: qs) k = atKey qs k := by simp [atKey, List.find?_cons, e']
      rw [valV_neg e, b]; exact ih
theorem KT.repl {H : Hp} {kvs : List (List Key × V)} {xs : List (List Key × Addr × Value)} (r : KT H kvs xs) (k : List Key) {y : V} {u : Value} (ry : RelV y u) :
    KT H (kvs.map fun kv => if kv.1 = k then (kv.1, y) else kv) (xs.map (putAt k u)) := by
  induction r with
  | nil => exact .nil
  | @cons p q ps qs h t ih =>
    rw [List.map_cons, List.map_cons]
    refine .cons ?_ ih
    obtain ⟨h1, h2, h3⟩ := h
    unfold putAt
    by_cases e : p.1 = k
    · rw [if_pos e, if_pos (h1.symm.trans e)]; exact ⟨h1, h2, ry⟩
    · rw [if_neg e, if_neg (fun z => e (h1.trans z))]; exact ⟨h1, h2, h3⟩
theorem KT.put {H : Hp} {kvs : List (List Key × V)} {xs : List (List Key × Addr × Value)} (r : KT H kvs xs) (k : List Key) {b : Addr} {y : V} {u : Value} (hb : H b = some (.tup (k.map kV))) (ry : RelV y u) :
    KT H (putK kvs k y) (storedH xs k b u) := by
  have e : (kvs.any fun kv => decide (kv.1 = k)) = (atKey xs k).isSome := by
    rw [valV_any, (r.val k).isSome_eq, Option.isSome_map]
  unfold putK storedH
  rw [e]
  by_cases q : (atKey xs k).isSome = true
  · rw [if_pos q, if_pos q]; exact r.repl k ry
  · rw [if_neg q, if_neg q]; exact Paired.snoc r ⟨rfl, hb, ry⟩
theorem KT.keeps {H H' : Hp} {kvs : List (List Key × V)} {xs : List (List Key × Addr × Value)} (r : KT H kvs xs) (ht : ∀ b ys, H b = some (.tup ys) → H' b = some (.tup ys)) : KT H' kvs xs :=
  Paired.mapP r fun _ _ z => ⟨z.1, ht _ _ z.2.1, z.2.2⟩
section
variable {P : Program} {w : World} {H : Hp} {h : Heap} {a : Addr}
theorem rd_of {u : HO} (ok : HOk P w H h) (e : Rd H a u) : ObjOk P w H h a u := e.ok ok
theorem dk_rd {kvs : List (Key × V)} (ok : HOk P w H h) (e : Rd H a (.dK kvs)) : kvs.length ≤ sizeLine ∧ (a == sysModules) = false ∧ ∃ vs, KV kvs vs ∧ h.DictOf (mixKind P w) a vs :=
  show ObjOk P w H h a (.dK kvs) from rd_of ok e
theorem dk_of {kvs : List (Key × V)} (ok : HOk P w H h) (e : H a = some (.dK kvs)) : kvs.length ≤ sizeLine ∧ (a == sysModules) = false ∧ ∃ vs, KV kvs vs ∧ h.DictOf (mixKind P w) a vs := dk_rd ok (.inl e)
/-- a tracked tuple of ints and texts is a key -/
theorem key_of {ks : List Key} (ok : HOk P w H h) (e : H a = some (.tup (ks.map kV))) : (tupleKind (mixKind P w)).is h ks a := by
  obtain ⟨_, its, r, o, h1, h2, n, h3⟩ := (show ObjOk P w H h a (.tup (ks.map kV)) from ok a _ e)
  exact ⟨o, its.toArray, n, h1, h2, h3, by simpa using items_are r⟩
theorem dt_rd {kvs : List (List Key × V)} (ok : HOk P w H h) (e : Rd H a (.dT kvs)) : kvs.length ≤ sizeLine ∧ (a == sysModules) = false ∧
    ∃ xs, KT H kvs xs ∧ h.DictOfH (tupleKind (mixKind P w)) a xs := by
  obtain ⟨z, y, xs, r, o, es, ep, h1, h2, h3, h4, h5⟩ := (show ObjOk P w H h a (.dT kvs) from rd_of ok e)
  refine ⟨z, y, xs, r, o, es, ep, h1, h2, h3, h4, fun x hx => ?_, h5⟩
  have all : ∀ {l : List (List Key × V)} {m : List (List Key × Addr × Value)}, KT H l m → ∀ x ∈ m, (tupleKind (mixKind P w)).is h x.1 x.2.1 := by
    intro l m q
    induction q with
    | nil => intro x hx; exact nomatch hx
    | @cons p q ps qs hq t ih =>
      intro x hx
      rcases List.mem_cons.mp hx with e | hx
      · subst e
        exact key_of ok (by rw [← hq.1]; exact hq.2.1)
      · exact ih x hx
  exact all r x hx
theorem dt_of {kvs : List (List Key × V)} (ok : HOk P w H h) (e : H a = some (.dT kvs)) : kvs.length ≤ sizeLine ∧ (a == sysModules) = false ∧
    ∃ xs, KT H kvs xs ∧ h.DictOfH (tupleKind (mixKind P w)) a xs := dt_rd ok (.inl e)
end
/-- what the dict at a holds at the key y -/
def DGet (H : Hp) (a : Addr) (y : V) (r : Option V) : Prop :=
  (∃ kvs k, Rd H a (.dK kvs) ∧ y = kV k ∧ r = valV kvs k) ∨ ∃ kvs k b, Rd H a (.dT kvs) ∧ y = .ref b ∧ H b = some (.tup (k.map kV)) ∧ r = valV kvs k
/-- the heap behind a[y] = v -/
def DPut (H : Hp) (a : Addr) (y v : V) (H' : Hp) : Prop :=
  (∃ kvs k, H a = some (.dK kvs) ∧ y = kV k ∧ kvs.length < sizeLine ∧ H' = upd H a (.dK (putK kvs k v))) ∨
  ∃ kvs k b, H a = some (.dT kvs) ∧ y = .ref b ∧ H b = some (.tup (k.map kV)) ∧ kvs.length < sizeLine ∧ H' = upd H a (.dT (putK kvs k v))
theorem DPut.k {H : Hp} {a : Addr} {kvs : List (Key × V)} {k : Key} {v : V} (e : H a = some (.dK kvs)) (hl : kvs.length < sizeLine) : DPut H a (kV k) v (upd H a (.dK (putK kvs k v))) := .inl ⟨kvs, k, e, rfl, hl, rfl⟩
section
variable {X : Cx} {pins : List (Addr × Obj)} {σ : St} {H : Hp} {s : Shared} {a : Addr} {y v : V} {u r : Value} {o : Option V} {A : Around} {E : Value → Shared → Prop}
theorem Inv.big (I : Inv X pins σ H s) : sysModules < s.heap.objs.size := by
  have h : mainGlobals < s.heap.objs.size := (I.mod.glob.keeps I.bk).lt
  exact Nat.lt_trans (by decide) h
/-- d[y], there -/
theorem d_getItem {Q : Value → Shared → Prop} (hu : A.units + 1 < cLine) (I : Inv X pins σ H s) (g : DGet H a y (some v)) (ry : RelV y u) (h : ∀ w' s', Inv X pins σ H s' → RelV v w' → Q w' s') :
    wpAny (model X.prog X.w) A (getItem (.ref a) u) Q E s := by
  rcases g with ⟨kvs, k, e, ey, l⟩ | ⟨kvs, k, b, e, ey, eb, l⟩
  · subst ey
    obtain ⟨z, hd, vs, rel, dd⟩ := dk_rd I.hok e
    obtain ⟨w', hw, rw'⟩ := RelO.some_of (v := v) (o := valueAt vs k) (by rw [l]; exact rel.val k)
    exact wpAny_getItem_of (kV_is ry) dd.mapOf hw (h w' _ (I.tok _) rw')
  · subst ey
    cases (show u = Value.ref b from ry)
    obtain ⟨z, hd, xs, rel, dd⟩ := dt_rd I.hok e
    obtain ⟨w', hw, rw'⟩ := RelO.some_of (v := v) (o := (atKey xs k).map (·.2)) (by rw [l]; exact rel.val k)
    obtain ⟨p, hp, hp2⟩ := Option.map_eq_some_iff.mp hw
    refine wpAny_getItem_heap (tupleKind_room_in1 hu) (key_of I.hok eb) dd hp ?_
    rw [hp2]
    exact h w' _ (I.tok _) rw'
/-- y in d -/
theorem d_in {Q : Value → Shared → Prop} (hu : A.units + 1 < cLine) (I : Inv X pins σ H s) (g : DGet H a y o) (ry : RelV y u) (h : ∀ s', Inv X pins σ H s' → Q (.bool o.isSome) s') :
    wpAny (model X.prog X.w) A (compareOp .In u (.ref a)) Q E s := by
  rcases g with ⟨kvs, k, e, ey, l⟩ | ⟨kvs, k, b, e, ey, eb, l⟩
  · subst ey
    obtain ⟨z, hd, vs, rel, dd⟩ := dk_rd I.hok e
    refine wpAny_in_of (kV_is ry) hd dd.mapOf ?_
    rw [← (rel.val k).isSome_eq, ← l]
    exact h _ (I.tok _)
  · subst ey
    cases (show u = Value.ref b from ry)
    obtain ⟨z, hd, xs, rel, dd⟩ := dt_rd I.hok e
    refine wpAny_in_heap (tupleKind_room_in1 hu) (key_of I.hok eb) hd dd ?_
    have q := (rel.val k).isSome_eq
    rw [Option.isSome_map] at q
    rw [← q, ← l]
    exact h _ (I.tok _)
theorem d_notIn {Q : Value → Shared → Prop} (hu : A.units + 1 < cLine) (I : Inv X pins σ H s) (g : DGet H a y o) (ry : RelV y u) (h : ∀ s', Inv X pins σ H s' → Q (.bool (!o.isSome)) s') :
    wpAny (model X.prog X.w) A (compareOp .NotIn u (.ref a)) Q E s := by
  rcases g with ⟨kvs, k, e, ey, l⟩ | ⟨kvs, k, b, e, ey, eb, l⟩
  · subst ey
    obtain ⟨z, hd, vs, rel, dd⟩ := dk_rd I.hok e
    refine wpAny_notIn_of (kV_is ry) hd dd.mapOf ?_
    rw [← (rel.val k).isSome_eq, ← l]
    exact h _ (I.tok _)
  · subst ey
    cases (show u = Value.ref b from ry)
    obtain ⟨z, hd, xs, rel, dd⟩ := dt_rd I.hok e
    refine wpAny_notIn_heap (tupleKind_room_in1 hu) (key_of I.hok eb) hd dd ?_
    have q := (rel.val k).isSome_eq
    rw [Option.isSome_map] at q
    rw [← q, ← l]
    exact h _ (I.tok _)
/-- a dict's object is replaced -/
theorem d_write {h' : Heap} {t' : Nat} {ob : HO} (I : Inv X pins σ H s) (mu : Mut (H a)) (hs : Heap.SameBut a s.heap h') (he : ∃ q, h'.get? a = some q) (new : ObjOk X.prog X.w (upd H a ob) h' a ob) :
    Inv X pins σ (upd H a ob) { s with heap := h', toks := t' } :=
  I.write (x := a) (e := a) mu (.inl rfl) (fun b q hb z => (hs.2 b hb).trans z) he new
theorem dk_new {P : Program} {w : World} {H' : Hp} {h' : Heap} {kvs : List (Key × V)} {vs : List (Key × Value)} (z : kvs.length ≤ sizeLine) (hd : (a == sysModules) = false) (rel : KV kvs vs) (dd : h'.DictOf (mixKind P w) a vs) :
    ObjOk P w H' h' a (.dK kvs) := ⟨z, hd, vs, rel, dd⟩
/-- d[y] = v -/
theorem d_setItem {H' : Hp} {Q : Unit → Shared → Prop} (hu : A.units + 1 < cLine) (I : Inv X pins σ H s) (g : DPut H a y v H') (ry : RelV y u) (rv : RelV v r) (h : ∀ s', Inv X pins σ H' s' → Q () s') :
    wpAny (model X.prog X.w) A (setItem (.ref a) u r) Q E s := by
  rcases g with ⟨kvs, k, e, ey, l, eH⟩ | ⟨kvs, k, b, e, ey, eb, l, eH⟩
  · subst ey eH
    obtain ⟨z, hd, vs, rel, dd⟩ := dk_of I.hok e
    have hz : vs.length ≤ sizeLine := by rw [← rel.length]; exact z
    have hl : (putK kvs k v).length ≤ sizeLine := by have := length_putK kvs k v; omega
    refine wpAny_setItem_pairs (hsz := hz) (kV_is ry) dd fun h' dd' hs => h _ ?_
    have he : ∃ q, h'.get? a = some q := let ⟨q, _, _, hq, _⟩ := dd'; ⟨q, hq⟩
    exact d_write I (by rw [e]; exact True.intro) hs he (dk_new hl hd (rel.put k rv) dd')
  · subst ey eH
    cases (show u = Value.ref b from ry)
    obtain ⟨z, hd, xs, rel, dd⟩ := dt_of I.hok e
    have hz : xs.length ≤ sizeLine := by rw [← Paired.length rel]; exact z
    have hl : (putK kvs k v).length ≤ sizeLine := by have := length_putK kvs k v; omega
    refine wpAny_setItem_heap (hsz := hz) (tupleKind_room_in1 hu) (key_of I.hok eb) dd fun h' dd' hs => h _ ?_
    obtain ⟨q, es, ep, hq, h2, h3, h4, _, h5⟩ := dd'
    refine d_write I (by rw [e]; exact True.intro) hs ⟨q, hq⟩ ⟨hl, hd, _, (rel.put k eb rv).keeps fun c ys ec => ?_, q, es, ep, hq, h2, h3, h4, h5⟩
    rw [upd_ne (ne_of ec e (fun z => nomatch z))]
    exact ec
end
section
variable {X : Cx} {pins : List (Addr × Obj)} {σ : St} {H : Hp} {s : Shared} {a : Addr} {kvs : List (Key × V)} {k : Key} {u : Value} {A : Around} {E : Value → Shared → Prop}
/-- d.pop(k[, x]), there -/
theorem d_pop {v : V} {more : List Value} {Q : Value → Shared → Prop} (I : Inv X pins σ H s) (e : H a = some (.dK kvs)) (ry : RelV (kV k) u) (l : valV kvs k = some v) (hm : more = [] ∨ ∃ x, more = [x])
    (h : ∀ w' s', Inv X pins σ (upd H a (.dK (dropK kvs k))) s' → RelV v w' → Q w' s') : wpAny (model X.prog X.w) A (call (.builtin "dict.pop") (.ref a :: u :: more)) Q E s := by
  obtain ⟨z, hd, vs, rel, dd⟩ := dk_of I.hok e
  obtain ⟨w', hw, rw'⟩ := RelO.some_of (v := v) (o := valueAt vs k) (by rw [← l]; exact rel.val k)
  have hp : (keyPart u).isSome = true := by
    cases k with
    | inl i => obtain ⟨t, q⟩ := (show ∃ t, u = Value.int i t from ry); subst q; rfl
    | inr x => obtain ⟨t, q⟩ := (show ∃ t, u = Value.str x t from ry); subst q; rfl
  have ha : argsOk "dict.pop" ⟨.ref a :: u :: more, []⟩ := by
    rcases hm with q | ⟨x, q⟩
    · subst q; exact PySem.F.args_dict_pop_2 _ _
    · subst q; exact PySem.F.args_dict_pop_3 _ _ _
  refine call_meetsIn PySem.F.slot_dict_pop dd.typeIs PySem.F.entry_dict_pop ha (meets_dict_pop_there (mixKind X.prog X.w) a (kV_is ry) more hm hp)
    ⟨vs, w', dd, by rw [← rel.length]; exact z, hw, fun h' dd' hs => h w' _ ?_ rw'⟩
  have he : ∃ q, h'.get? a = some q := let ⟨q, _, _, hq, _⟩ := dd'; ⟨q, hq⟩
  exact d_write I (by rw [e]; exact True.intro) hs he (dk_new (Nat.le_trans (dropK_le kvs k) z) hd (rel.drop k) dd')
/-- d.pop(k, x), not there -/
theorem d_popD {r : Value} {Q : Value → Shared → Prop} (I : Inv X pins σ H s) (e : H a = some (.dK kvs)) (ry : RelV (kV k) u) (l : valV kvs k = none) (h : ∀ s', Inv X pins σ H s' → Q r s') :
    wpAny (model X.prog X.w) A (call (.builtin "dict.pop") [.ref a, u, r]) Q E s := by
  obtain ⟨z, hd, vs, rel, dd⟩ := dk_of I.hok e
  have hn : valueAt vs k = none := RelO.none_of (by rw [← l]; exact rel.val k)
  have hp : (keyPart u).isSome = true := by
    cases k with
    | inl i => obtain ⟨t, q⟩ := (show ∃ t, u = Value.int i t from ry); subst q; rfl
    | inr x => obtain ⟨t, q⟩ := (show ∃ t, u = Value.str x t from ry); subst q; rfl
  exact call_meetsIn PySem.F.slot_dict_pop dd.typeIs PySem.F.entry_dict_pop (PySem.F.args_dict_pop_3 _ _ _) (meets_dict_pop_default (mixKind X.prog X.w) a (kV_is ry) hd hp r) ⟨vs, dd, hn, h _ (I.tok _)⟩
end
/-! ### readings and rules -/
/-- the element of a subscription, not a slice -/
def NoSl (i : Expr) : Prop := ∀ ov iv, subscripted i false ov iv = operate [ov, iv] (getItem ov iv)
theorem subD_of {prog : Program} {w : World} {A : Around} {E : Value → Shared → Prop} {s : Shared} {env : Env} {value slice : Expr} {pos : Pos} {T id : String} {Q : Value → Shared → Prop}
    (hl : typeLookup (.type T) "__getitem__" = pure (some (.builtin id))) (hs : NoSl slice)
    (h : wpAny (model prog w) A (eval value env) (fun o s₁ => wpAny (model prog w) A (eval slice env) (fun i s₂ => s₂.TypeIs o T ∧ wpAny (model prog w) A (getItem o i) Q E s₂) E s₁) E s) :
    wpAny (model prog w) A (eval (.Subscript value slice pos) env) Q E s := by
  refine Subscript_ (wpAny_mono h (fun o s₁ h₁ => wpAny_mono h₁ (fun i s₂ h₂ => ?_) fun _ _ x => x) fun _ _ x => x)
  obtain ⟨hT, h₂⟩ := h₂
  unfold subscriptTail
  refine wpAny_bind ?_
  rw [getitemInPython_of_ne hT.not_modules]
  refine wpAny_bind (wpAny_specialOf hT hl ?_)
  have fin : wpAny (model prog w) A (subscripted slice false o i) (fun r s₃ => wpAny (model prog w) A (letTemporaryGo value o r >>= fun _ => pure r) Q E s₃) E s₂ := by
    rw [hs o i]
    exact wpAny_operating (wpAny_mono h₂ (fun r s₃ h₃ => wpAny_bind (wpAny_letTemporaryGo (wpAny_pure h₃))) fun _ _ x => x)
  first
    | exact wpAny_pure (wpAny_bind fin)
    | exact wpAny_bind (wpAny_pure (wpAny_bind fin))
    | exact wpAny_bind fin
theorem dict_typeIs {X : Cx} {pins : List (Addr × Obj)} {σ : St} {H : Hp} {s : Shared} {a : Addr} {y : V} {o : Option V} (I : Inv X pins σ H s) (g : DGet H a y o) : s.TypeIs (.ref a) "dict" := by
  rcases g with ⟨kvs, k, e, _, _⟩ | ⟨kvs, k, b, e, _, _, _⟩
  · obtain ⟨_, _, vs, _, dd⟩ := dk_rd I.hok e
    exact dd.typeIs
  · obtain ⟨_, _, xs, _, dd⟩ := dt_rd I.hok e
    exact dd.typeIs
/-- d[y] -/
def tDGet (td ty : TE) : TE := fun σ H Q => td σ H fun x H1 => ty σ H1 fun y H2 => ∃ a v, x = .ref a ∧ DGet H2 a y (some v) ∧ Q v H2
/-- y in d, y not in d -/
def tDIn (ty td : TE) : TE := fun σ H Q => ty σ H fun y H1 => td σ H1 fun x H2 => ∃ a o, x = .ref a ∧ DGet H2 a y o ∧ Q (.bl o.isSome) H2
def tDNotIn (ty td : TE) : TE := fun σ H Q => ty σ H fun y H1 => td σ H1 fun x H2 => ∃ a o, x = .ref a ∧ DGet H2 a y o ∧ Q (.bl (!o.isSome)) H2
/-- d[y] = v -/
def sDPut (td ty tv : TE) : TS := fun D σ H => tv σ H fun v H1 => td σ H1 fun x H2 => ty σ H2 fun y H3 => ∃ a H4, x = .ref a ∧ DPut H3 a y v H4 ∧ D.nx σ H4
/-- d[y] op= v -/
def sDAug (td ty tv : TE) (rd : V → V → Hp → VK → Prop) : TS := fun D σ H => td σ H fun x H1 => ty σ H1 fun y H2 => ∃ a v, x = .ref a ∧ DGet H2 a y (some v) ∧
  tv σ H2 fun y2 H3 => rd v y2 H3 fun z H4 => ∃ H5, DPut H4 a y z H5 ∧ D.nx σ H5
/-- del d[y] -/
def sDDel (td ty : TE) : TS := fun D σ H => td σ H fun x H1 => ty σ H1 fun y H2 => ∃ a kvs k, x = .ref a ∧ H2 a = some (.dK kvs) ∧ y = kV k ∧ (valV kvs k).isSome = true ∧ D.nx σ (upd H2 a (.dK (dropK kvs k)))
section
variable {X : Cx} {o i e value : Expr} {pos pos' tpos : Pos} {td ty tv : TE}
theorem pe_dget (hu : X.A.units + 1 < cLine) (ho : PE X o td) (hi : PE X i ty) (hs : NoSl i) : PE X (.Subscript o i pos) (tDGet td ty) := by
  intro pins s σ H Q I h
  refine subD_of PySem.F.slot_dict_getitem.lookup hs (thn (ho pins s σ H _ I h) fun u s1 ⟨x, H1, I1, rx, q1⟩ => thn (hi pins s1 σ H1 _ I1 q1) fun iv s2 ⟨y, H2, I2, ry, a, v, ex, g, q2⟩ => ?_)
  subst ex
  obtain rfl : u = Value.ref a := rx
  exact ⟨dict_typeIs I2 g, d_getItem hu I2 g ry fun w' s3 I3 rw' => ⟨v, H2, I3, rw', q2⟩⟩
end
/-! ### displays -/
theorem dk_empty {P : Program} {w : World} {H : Hp} (h : Heap) (hb : sysModules < h.objs.size) : ObjOk P w H (h.push { cls := .type "dict", data := .dict #[] }) h.objs.size (.dK []) :=
  ⟨Nat.zero_le _, beq_eq_false_iff_ne.mpr (Ne.symm (Nat.ne_of_lt hb)), [], .nil, Heap.DictOf.new h⟩
/-- {}, to be a dict of the kind that is wanted -/
def tDNewK : TE := fun _ H Q => ∀ p, H p = none → Q (.ref p) (upd H p (.dK []))
def tDNewT : TE := fun _ H Q => ∀ p, H p = none → Q (.ref p) (upd H p (.dT []))
section
variable {X : Cx} {pos : Pos}
theorem pe_dnewK : PE X (.Dict [] [] pos) tDNewK := fun pins s σ H Q I h =>
  wpAny_Dict_empty ⟨.ref s.heap.objs.size, _, I.laid (a := s.heap.objs.size) (o := .dK []) (t' := s.toks) (fun _ _ q => Heap.get?_push_of_some _ q) (Nat.le_refl _) (dk_empty s.heap I.big), rfl, h _ (I.hok.fresh (Nat.le_refl _))⟩
end
/-- the pairs of a display, from the left -/
def tPairs : List (TE × TE) → St → Hp → (List (V × V) → Hp → Prop) → Prop
  | [], _, H, Q => Q [] H
  | (tk, tv) :: r, σ, H, Q => tk σ H fun x H1 => tv σ H1 fun y H2 => tPairs r σ H2 fun ps H3 => Q ((x, y) :: ps) H3
abbrev VV : List (V × V) → List (Value × Value) → Prop := Paired fun p q => RelV p.1 q.1 ∧ RelV p.2 q.2
def PPs (X : Cx) (pos : Pos) (keys : List (Option Expr)) (values : List Expr) (trs : List (TE × TE)) : Prop :=
  ∀ (pins : List (Addr × Obj)) (s : Shared) (σ : St) (H : Hp) (Q : List (V × V) → Hp → Prop), Inv X pins σ H s → tPairs trs σ H Q →
    wpAny (model X.prog X.w) X.A (evalPairs (pairTrees keys values X.env pos)) (fun vs s' => ∃ ps H', Inv X pins σ H' s' ∧ VV ps vs ∧ Q ps H') X.xe s
def mergeK (kvs more : List (Key × V)) : List (Key × V) := more.foldl (fun acc kv => putK acc kv.1 kv.2) kvs
/-- {k: v, ..} with keys ints and texts; the new dict stands empty while the pairs are made -/
def tDisp (trs : List (TE × TE)) : TE := fun σ H Q => ∀ p, H p = none → tPairs trs σ (upd H p (.dK [])) fun ps H2 => H2 p = some (.dK []) ∧ ∃ kvs : List (Key × V), ps = kvs.map (fun kv => (kV kv.1, kv.2)) ∧ kvs.length ≤ 15 ∧ Q (.ref p) (upd H2 p (.dK (mergeK [] kvs)))
/-! ### methods -/
/-- a method call o.m(e) of a built-in, with one argument: what must be seen of the text -/
structure M1 (X : Cx) (o : Expr) (m : Str) (apos : Pos) (e : Expr) (cpos : Pos) : Prop where
  base : attributeBase o m X.env (eval o X.env) = eval o X.env
  few : ((backTo cpos (starEach [e] X.env)).all (fun x => !x.1) && (backToKw cpos (keywordEach [] X.env)).all (fun x => x.1.isSome)
    && decide (([e] : List Expr).length + ([] : List Keyword).length + (if ([] : List Keyword).isEmpty then 0 else 1) < 30)) = true
  line : (apos.endLine == cpos.line) = true
  trees : backTo cpos (starEach [e] X.env) = [(false, eval e X.env)]
structure M2 (X : Cx) (o : Expr) (m : Str) (apos : Pos) (e f : Expr) (cpos : Pos) : Prop where
  base : attributeBase o m X.env (eval o X.env) = eval o X.env
  few : ((backTo cpos (starEach [e, f] X.env)).all (fun x => !x.1) && (backToKw cpos (keywordEach [] X.env)).all (fun x => x.1.isSome)
    && decide (([e, f] : List Expr).length + ([] : List Keyword).length + (if ([] : List Keyword).isEmpty then 0 else 1) < 30)) = true
  line : (apos.endLine == cpos.line) = true
  trees : backTo cpos (starEach [e, f] X.env) = [(false, eval e X.env), (false, eval f X.env)]
/-- a is a dict, whatever its keys -/
def IsD (H : Hp) (a : Addr) : Prop := (∃ kvs, Rd H a (.dK kvs)) ∨ ∃ kvs, Rd H a (.dT kvs)
theorem isD_at {X : Cx} {pins : List (Addr × Obj)} {σ : St} {H : Hp} {s : Shared} {a : Addr} (I : Inv X pins σ H s) (d : IsD H a) :
    s.TypeIs (.ref a) "dict" ∧ (∀ b, Value.ref a = .ref b → ∃ ob, s.heap.get? b = some ob ∧ ob.dict = none) ∧ (a == sysModules) = false := by
  rcases d with ⟨kvs, e⟩ | ⟨kvs, e⟩
  · obtain ⟨_, hd, vs, _, dd⟩ := dk_rd I.hok e
    refine ⟨dd.typeIs, fun b q => ?_, hd⟩
    cases q
    obtain ⟨ob, _, _, h1, h2, _⟩ := dd
    exact ⟨ob, h1, h2.2.1⟩
  · obtain ⟨_, hd, xs, _, dd⟩ := dt_rd I.hok e
    refine ⟨dd.typeIs, fun b q => ?_, hd⟩
    cases q
    obtain ⟨ob, _, _, h1, h2, _⟩ := dd
    exact ⟨ob, h1, h2.2.1⟩
section
variable {X : Cx} {pins : List (Addr × Obj)} {σ : St} {H : Hp} {s : Shared} {a : Addr} {y d : V} {u r : Value} {o : Option V} {A : Around} {E : Value → Shared → Prop}
/-- d.get(y) -/
theorem d_get1 {Q : Value → Shared → Prop} (hu : A.units + 1 < cLine) (I : Inv X pins σ H s) (g : DGet H a y o) (ry : RelV y u) (h : ∀ w' s', Inv X pins σ H s' → RelV (o.getD .non) w' → Q w' s') :
    wpAny (model X.prog X.w) A (call (.builtin "dict.get") [.ref a, u]) Q E s := by
  rcases g with ⟨kvs, k, e, ey, l⟩ | ⟨kvs, k, b, e, ey, eb, l⟩
  · subst ey
    obtain ⟨z, hd, vs, rel, dd⟩ := dk_rd I.hok e
    refine call_meetsIn PySem.F.slot_dict_get dd.typeIs PySem.F.entry_dict_get (PySem.F.args_dict_get_2 _ _) (meets_dict_get (mixKind X.prog X.w) a (kV_is ry) hd) ⟨_, dd.mapOf, h _ _ (I.tok _) ?_⟩
    rw [l]
    exact (rel.val k).getD rfl
  · subst ey
    cases (show u = Value.ref b from ry)
    obtain ⟨z, hd, xs, rel, dd⟩ := dt_rd I.hok e
    refine call_meetsIn PySem.F.slot_dict_get dd.typeIs PySem.F.entry_dict_get (PySem.F.args_dict_get_2 _ _) (meetsH_dict_get (tupleKind (mixKind X.prog X.w)) a b hd) ⟨tupleKind_room_in1 hu, k, xs, key_of I.hok eb, dd, h _ _ (I.tok _) ?_⟩
    rw [l]
    exact (rel.val k).getD rfl
end
def tDGet1 (td ty : TE) : TE := fun σ H Q => td σ H fun x H1 => ∃ a, x = .ref a ∧ IsD H1 a ∧ ty σ H1 fun y H2 => ∃ o, DGet H2 a y o ∧ Q (o.getD .non) H2
def tDGet2 (td ty tx : TE) : TE := fun σ H Q => td σ H fun x H1 => ∃ a, x = .ref a ∧ IsD H1 a ∧ ty σ H1 fun y H2 => tx σ H2 fun z H3 => ∃ o, DGet H3 a y o ∧ Q (o.getD z) H3
/-- d.pop(k): there; d.pop(k, x): there or not -/
def tDPop1 (td ty : TE) : TE := fun σ H Q => td σ H fun x H1 => ∃ a, x = .ref a ∧ IsD H1 a ∧ ty σ H1 fun y H2 => ∃ kvs k v, H2 a = some (.dK kvs) ∧ y = kV k ∧ valV kvs k = some v ∧ Q v (upd H2 a (.dK (dropK kvs k)))
def tDPop2 (td ty tx : TE) : TE := fun σ H Q => td σ H fun x H1 => ∃ a, x = .ref a ∧ IsD H1 a ∧ ty σ H1 fun y H2 => tx σ H2 fun z H3 => ∃ kvs k, H3 a = some (.dK kvs) ∧ y = kV k ∧
  (∀ v, valV kvs k = some v → Q v (upd H3 a (.dK (dropK kvs k)))) ∧ (valV kvs k = none → Q z H3)
section
variable {X : Cx} {o e f : Expr} {apos cpos : Pos} {td ty tx : TE}
theorem pe_dget1 (hu : X.A.units + 1 < cLine) (ho : PE X o td) (he : PE X e ty) (m : M1 X o "get" apos e cpos) : PE X (.Call (.Attribute o "get" apos) [e] [] cpos) (tDGet1 td ty) := by
  intro pins s σ H Q I h
  refine wpAny_Call_method m.base m.few m.line PySem.F.plainAttrs_dict PySem.F.slot_dict_get PySem.F.type_dict_get (thn (ho pins s σ H _ I h) fun u s1 ⟨x, H1, I1, rx, a, ex, d, q1⟩ => ?_)
  subst ex
  obtain rfl : u = Value.ref a := rx
  obtain ⟨t1, t2, _⟩ := isD_at I1 d
  refine ⟨t1, t2, ?_⟩
  rw [m.trees]
  refine Calls.callWith_builtin rfl (Calls.evalArgs_plain (Calls.spliced_cons (thn (he pins s1 σ H1 _ I1 q1) fun iv s2 ⟨y, H2, I2, ry, ov, g, q2⟩ => Calls.spliced_nil ?_)))
  exact d_get1 hu I2 g ry fun w' s3 I3 rw' => ⟨_, H2, I3, rw', q2⟩
theorem pe_dpop2 (ho : PE X o td) (he : PE X e ty) (hf : PE X f tx) (m : M2 X o "pop" apos e f cpos) : PE X (.Call (.Attribute o "pop" apos) [e, f] [] cpos) (tDPop2 td ty tx) := by
  intro pins s σ H Q I h
  refine wpAny_Call_method m.base m.few m.line PySem.F.plainAttrs_dict PySem.F.slot_dict_pop PySem.F.type_dict_pop (thn (ho pins s σ H _ I h) fun u s1 ⟨x, H1, I1, rx, a, ex, d, q1⟩ => ?_)
  subst ex
  obtain rfl : u = Value.ref a := rx
  obtain ⟨t1, t2, _⟩ := isD_at I1 d
  refine ⟨t1, t2, ?_⟩
  rw [m.trees]
  refine Calls.callWith_builtin rfl (Calls.evalArgs_plain (Calls.spliced_cons (thn (he pins s1 σ H1 _ I1 q1) fun iv s2 ⟨y, H2, I2, ry, q2⟩ =>
    Calls.spliced_cons (thn (hf pins s2 σ H2 _ I2 q2) fun fv s3 ⟨z, H3, I3, rz, kvs, k, ea, ey, q3, q4⟩ => Calls.spliced_nil ?_))))
  subst ey
  cases l : valV kvs k with
  | some v => exact d_pop I3 ea ry l (.inr ⟨fv, rfl⟩) fun w' s4 I4 rw' => ⟨v, _, I4, rw', q3 v l⟩
  | none => exact d_popD I3 ea ry l fun s4 I4 => ⟨z, H3, I4, rz, q4 l⟩
end
/-! ### dict(d): a copy -/
section
variable {X : Cx} {pins : List (Addr × Obj)} {σ : St} {H : Hp} {s : Shared} {a : Addr} {kvs : List (Key × V)} {A : Around} {E : Value → Shared → Prop}
theorem d_copyOf {Q : Value → Shared → Prop} (I : Inv X pins σ H s) (e : Rd H a (.dK kvs)) (h : ∀ p s', H p = none → Inv X pins σ (upd H p (.dK kvs)) s' → Q (.ref p) s') : wpAny (model X.prog X.w) A (call (.type "dict") [.ref a]) Q E s := by
  obtain ⟨z, hd, vs, rel, dd⟩ := dk_rd I.hok e
  refine kt_call_dict hd dd (by rw [← rel.length]; exact z) fun h' dd' hs => ?_
  refine h _ _ (I.hok.fresh (Nat.le_refl _)) (I.laid (a := s.heap.objs.size) (o := .dK kvs) (t' := s.toks) (fun b q hq => ?_) (Nat.le_refl _) (dk_new z (beq_eq_false_iff_ne.mpr (Ne.symm (Nat.ne_of_lt I.big))) rel dd'))
  exact (hs.2 b (Nat.ne_of_lt (Heap.lt_size hq))).trans (Heap.get?_push_of_some _ hq)
end
section
variable {X : Cx} {pins : List (Addr × Obj)} {σ : St} {H : Hp} {s : Shared} {a : Addr} {y : V} {u : Value} {A : Around} {E : Value → Shared → Prop}
end
end L2
set_option Elab.async false
set_option linter.all false
set_option maxRecDepth 100000
set_option maxHeartbeats 4000000
namespace L2
open PySem PySem.Spec PyProof.Rows
/-! ### for x in reversed(a list), the list as long as it was -/
def Itv (K : PySem.W.Frag) (a : Addr) (n : Nat) : It :=
  ⟨fun i H => i < n ∧ ∃ xs x, SqL K H a xs ∧ xs[n - 1 - i]? = some x, fun i H x H' => H' = H ∧ ∀ xs, SqL K H a xs → xs[n - 1 - i]? = some x, fun i H => i = n⟩
section
variable {X : Cx} {tg : Expr}
def iRev (K : PySem.W.Frag) (ta : TA) : TI := fun σ H R => ta σ H fun vs H1 => ∃ a xs, vs = [.ref a] ∧ SqL K H1 a xs ∧ R (Itv K a xs.length) H1
end
end L2
set_option Elab.async false
set_option linter.all false
set_option maxRecDepth 100000
set_option maxHeartbeats 4000000
/-! texts joined -/
namespace L2
open PySem PySem.Spec PyProof.Rows
section
variable {X : Cx}
def rJoin (K : PySem.W.Frag) : V → List V → Hp → VK → Prop := fun x vs H Q => ∃ z p zs, x = .str z ∧ vs = [.ref p] ∧ SqL K H p (zs.map V.str) ∧ z.length ≤ 16 ∧ (zs.map (·.length)).sum + zs.length ≤ 1048576 ∧ Q (.str (Txt.join z zs)) H
end
end L2
set_option Elab.async false
set_option linter.all false
set_option maxRecDepth 100000
set_option maxHeartbeats 4000000
/-! list(reversed(a list)) -/
namespace L2
open PySem PySem.Spec PyProof.Rows
section
variable {prog : Program} {w : World} {A : Around} {E : Value → Shared → Prop} {s : Shared} {it l : Addr} {i : Int}
end
section
variable {X : Cx}
def tLRev (K : PySem.W.Frag) (ta : TE) : TE := fun σ H Q => ta σ H fun x H1 => ∃ a xs, x = .ref a ∧ SqL K H1 a xs ∧ ∀ p, H1 p = none → Q (.ref p) (upd H1 p (.lst xs.reverse))
end
end L2
set_option Elab.async false
set_option linter.all false
set_option maxRecDepth 100000
set_option maxHeartbeats 4000000
/-! texts: join of a written text, replace by written texts -/
namespace L2
open PySem PySem.Spec PyProof.Rows
section
variable {X : Cx}
/-- as PE, and some token was given by then -/
def PEp (X : Cx) (e : Expr) (t : TE) : Prop :=
  ∀ (pins : List (Addr × Obj)) (s : Shared) (σ : St) (H : Hp) (Q : VK), Inv X pins σ H s → t σ H Q → wpAny (model X.prog X.w) X.A (eval e X.env) (fun v s' => 1 ≤ s'.toks ∧ EP X pins σ Q v s') X.xe s
variable {o e : Expr} {es : List Expr} {to : TE} {t : TA} {apos cpos : Pos} {z y : Str} {k k1 k2 : Nat} {lp lp1 lp2 : Pos}
end
end L2
set_option Elab.async false
set_option linter.all false
set_option maxRecDepth 100000
set_option maxHeartbeats 4000000
/-! a text of two signs replaced, sign by sign -/
namespace WL
open PySem PySem.Builtin PySem.Builtin.Str PySem.StrLaws
def rep2 (a b : Nat) (z : List Nat) : List Nat → List Nat
  | x :: y :: r => if x = a ∧ y = b then z ++ rep2 a b z r else x :: rep2 a b z (y :: r)
  | [x] => [x]
  | [] => []
def occL (a b : Nat) : Nat → List Nat → List Nat
  | i, x :: y :: r => if x = a ∧ y = b then i :: occL a b (i + 2) r else occL a b (i + 1) (y :: r)
  | _, [_] => []
  | _, [] => []
section
variable {x y : Str} {a b : Nat}
theorem sub_at {i : Nat} (hy : y.cps.toList = [a, b]) : subAt x y i = true ↔ ∃ r, x.cps.toList.drop i = a :: b :: r := by
  have h2 : y.length = 2 := by show y.cps.size = 2; rw [← Array.length_toList, hy]; rfl
  rw [subAt_eq, hy, h2, beq_iff_eq]
  match x.cps.toList.drop i with
  | [] => simp
  | [u] => simp
  | u :: v :: r => simp
theorem occ_run (hy : y.cps.toList = [a, b]) : ∀ (m i : Nat) (acc : Array Nat) (free : Nat), x.length + 1 - i = m → i ≤ x.length + 1 → free ≤ i → acc.size ≤ i →
    (forIn (List.range' i (x.length + 1 - i)) (acc, free) (occBody x y x.length (x.length + 1))).run.fst.toList = acc.toList ++ occL a b i (x.cps.toList.drop i) := by
  have h2 : y.length = 2 := by show y.cps.size = 2; rw [← Array.length_toList, hy]; rfl
  have hL : x.cps.toList.length = x.length := by simp [Str.length]
  intro m
  induction m using Nat.strongRecOn with
  | _ m ih =>
    intro i acc free hm hi hf ha
    by_cases h0 : x.length + 1 - i = 0
    · rw [h0]
      have : x.cps.toList.drop i = [] := List.drop_eq_nil_of_le (by omega)
      rw [this]
      simp [occL]
    · obtain ⟨k, hk⟩ : ∃ k, x.length + 1 - i = k + 1 := ⟨x.length - i, by omega⟩
      rw [hk, List.range'_succ, List.forIn_cons]
      have hk' : x.length + 1 - (i + 1) = k := by omega
      by_cases hs : subAt x y i = true
      · obtain ⟨r, hr⟩ := (sub_at hy).mp hs
        have hlen : i + 2 ≤ x.length := by
          have := congrArg List.length hr
          rw [List.length_drop, hL, List.length_cons, List.length_cons] at this
          omega
        have hb : occBody x y x.length (x.length + 1) i (acc, free) = pure (ForInStep.yield (acc.push i, i + 2)) := by
          unfold occBody
          rw [if_pos ⟨⟨⟨by show acc.size < _; omega, hf⟩, by rw [h2]; omega⟩, hs⟩, h2]
        rw [hb]
        obtain ⟨k2, hk2⟩ : ∃ k2, k = k2 + 1 := ⟨k - 1, by omega⟩
        have hb2 : occBody x y x.length (x.length + 1) (i + 1) (acc.push i, i + 2) = pure (ForInStep.yield (acc.push i, i + 2)) := by
          unfold occBody
          rw [if_neg (fun h => by have := h.1.1.2; dsimp only at this; omega)]
        show (forIn (List.range' (i + 1) k) (acc.push i, i + 2) (occBody x y x.length (x.length + 1))).run.fst.toList = _
        rw [hk2, List.range'_succ, List.forIn_cons, hb2]
        show (forIn (List.range' (i + 1 + 1) k2) (acc.push i, i + 2) (occBody x y x.length (x.length + 1))).run.fst.toList = _
        have e := ih (x.length + 1 - (i + 2)) (by omega) (i + 2) (acc.push i) (i + 2) rfl (by omega) (Nat.le_refl _) (by simp; omega)
        rw [show x.length + 1 - (i + 2) = k2 by omega] at e
        rw [show i + 1 + 1 = i + 2 from rfl, e, hr]
        have hd : x.cps.toList.drop (i + 2) = r := by
          rw [← List.drop_drop, hr]; rfl
        rw [hd]
        simp [occL]
      · have hb : occBody x y x.length (x.length + 1) i (acc, free) = pure (ForInStep.yield (acc, free)) := by
          unfold occBody
          rw [if_neg (fun h => hs h.2)]
        rw [hb]
        show (forIn (List.range' (i + 1) k) (acc, free) (occBody x y x.length (x.length + 1))).run.fst.toList = _
        have e := ih (x.length + 1 - (i + 1)) (by omega) (i + 1) acc free rfl (by omega) (by omega) (by omega)
        rw [hk'] at e
        rw [e]
        have hn : ¬ ∃ r, x.cps.toList.drop i = a :: b :: r := fun h => hs ((sub_at hy).mpr h)
        have hd : x.cps.toList.drop (i + 1) = (x.cps.toList.drop i).drop 1 := by rw [List.drop_drop]
        rw [hd]
        match hx : x.cps.toList.drop i with
        | [] => simp [occL]
        | [u] => simp [occL]
        | u :: v :: r =>
          have : ¬ (u = a ∧ v = b) := fun ⟨h1, h3⟩ => hn ⟨r, by rw [hx, h1, h3]⟩
          show _ = acc.toList ++ (if u = a ∧ v = b then _ else _)
          rw [if_neg this]; rfl
theorem occ_all (hy : y.cps.toList = [a, b]) : occurrences x y 0 x.length (x.length + 1) = occL a b 0 x.cps.toList := by
  rw [occ_eq]
  have := occ_run (x := x) hy (x.length + 1) 0 #[] 0 rfl (Nat.zero_le _) (Nat.le_refl _) (Nat.le_refl _)
  simpa using this
theorem glue_cons {z p : Str} {q : Str} {r : List Str} : (glued z (p :: q :: r)).cps.toList = p.cps.toList ++ z.cps.toList ++ (glued z (q :: r)).cps.toList := by
  rw [glued_eq_join, glued_eq_join]
  show (p ++ z ++ Str.join z (q :: r)).cps.toList = _
  rw [Str.cps_append, Str.cps_append]; simp
theorem glue_rep {z : Str} : ∀ (m i lo : Nat), x.length - i = m → lo ≤ i → i ≤ x.length →
    (glued z (partsFrom x 2 lo (occL a b i (x.cps.toList.drop i)))).cps.toList = (x.cps.toList.drop lo).take (i - lo) ++ rep2 a b z.cps.toList (x.cps.toList.drop i) := by
  have hL : x.cps.toList.length = x.length := by simp [Str.length]
  intro m
  induction m using Nat.strongRecOn with
  | _ m ih =>
    intro i lo hm hlo hi
    have whole : ∀ q, (x.cps.toList.drop i = q) → rep2 a b z.cps.toList q = q → (glued z (partsFrom x 2 lo [])).cps.toList = (x.cps.toList.drop lo).take (i - lo) ++ rep2 a b z.cps.toList q := fun q hq hr => by
      rw [hr]
      show (strSub x lo x.length).cps.toList = _
      rw [strSub_toList, ← hq]
      rw [List.take_of_length_le (by rw [List.length_drop]; omega)]
      have := List.take_append_drop (i - lo) (x.cps.toList.drop lo)
      rw [List.drop_drop, show lo + (i - lo) = i by omega] at this
      exact this.symm
    match hx : x.cps.toList.drop i with
    | [] => exact whole [] hx rfl
    | [u] => exact whole [u] hx rfl
    | u :: v :: r =>
      have hlen : i + 2 ≤ x.length := by
        have := congrArg List.length hx
        rw [List.length_drop, hL, List.length_cons, List.length_cons] at this
        omega
      have hd1 : x.cps.toList.drop (i + 1) = v :: r := by rw [← List.drop_drop, hx]; rfl
      have hd2 : x.cps.toList.drop (i + 2) = r := by rw [← List.drop_drop, hx]; rfl
      by_cases c : u = a ∧ v = b
      · have e1 : occL a b i (u :: v :: r) = i :: occL a b (i + 2) r := by simp [occL, c]
        have e2 : rep2 a b z.cps.toList (u :: v :: r) = z.cps.toList ++ rep2 a b z.cps.toList r := by simp [rep2, c]
        rw [e1, e2]
        have e3 := ih (x.length - (i + 2)) (by omega) (i + 2) (i + 2) rfl (Nat.le_refl _) hlen
        rw [hd2] at e3
        show (glued z (strSub x lo i :: partsFrom x 2 (i + 2) (occL a b (i + 2) r))).cps.toList = _
        obtain ⟨q, q', hq⟩ := partsFrom_ne x 2 (i + 2) (occL a b (i + 2) r)
        rw [hq] at e3 ⊢
        rw [glue_cons, e3, strSub_toList]
        simp
      · have e1 : occL a b i (u :: v :: r) = occL a b (i + 1) (v :: r) := by
          show (if u = a ∧ v = b then _ else _) = _
          rw [if_neg c]
        have e2 : rep2 a b z.cps.toList (u :: v :: r) = u :: rep2 a b z.cps.toList (v :: r) := by
          show (if u = a ∧ v = b then _ else _) = _
          rw [if_neg c]
        rw [e1, e2]
        have e3 := ih (x.length - (i + 1)) (by omega) (i + 1) lo rfl (by omega) (by omega)
        rw [hd1] at e3
        rw [e3]
        have : (x.cps.toList.drop lo).take (i + 1 - lo) = (x.cps.toList.drop lo).take (i - lo) ++ [u] := by
          rw [show i + 1 - lo = (i - lo) + 1 by omega, List.take_add_one, List.getElem?_drop, show lo + (i - lo) = i by omega]
          have hu : x.cps.toList[i]? = some u := by
            have := congrArg (·[0]?) hx
            simpa using this
          rw [hu]; rfl
        rw [this]; simp
theorem replace_rep2 {z : Str} (hy : y.cps.toList = [a, b]) : (Txt.replace x y z).cps.toList = rep2 a b z.cps.toList x.cps.toList := by
  have h2 : y.length = 2 := by show y.cps.size = 2; rw [← Array.length_toList, hy]; rfl
  have hg := glue_rep (x := x) (a := a) (b := b) (z := z) x.length 0 0 rfl (Nat.le_refl _) (Nat.zero_le _)
  simp only [List.drop_zero, Nat.sub_self, List.take_zero, List.nil_append] at hg
  unfold Txt.replace
  rw [occ_all hy]
  have h20 : (y.length == 0 && z.length == 0) = false := by rw [h2]; rfl
  rw [h20, Bool.or_false]
  split
  · rename_i h
    have hn : occL a b 0 x.cps.toList = [] := List.isEmpty_iff.mp h
    rw [hn] at hg
    rw [← hg]
    show x.cps.toList = (strSub x 0 x.length).cps.toList
    rw [strSub_toList, List.drop_zero, List.take_of_length_le (by simp [Str.length])]
  · rw [partsBetween_eq, h2]; exact hg
end
end WL
set_option Elab.async false
set_option linter.all false
set_option maxRecDepth 100000
set_option maxHeartbeats 4000000
/-! words laid together -/
namespace WL
open PySem PySem.Builtin PySem.Builtin.Str PySem.StrLaws
def okc (c : Nat) : Bool := c != 32 && c != 40 && c != 41
/-- a word: a bracket, or signs that are neither blanks nor brackets -/
def gw (w : Str) : Bool := w == "(" || w == ")" || (decide (1 ≤ w.length) && decide (w.length ≤ 20) && w.cps.toList.all okc)
def J : List Str → List Nat
  | [] => []
  | [w] => w.cps.toList
  | w :: v :: r => w.cps.toList ++ 32 :: J (v :: r)
def J1 : List Str → List Nat
  | [] => []
  | [w] => w.cps.toList
  | w :: v :: r => w.cps.toList ++ (if w = "(" then [] else [32]) ++ J1 (v :: r)
def J2 : List Str → List Nat
  | [] => []
  | [w] => w.cps.toList
  | w :: v :: r => w.cps.toList ++ (if w = "(" ∨ v = ")" then [] else [32]) ++ J2 (v :: r)
theorem join_J : ∀ ws : List Str, (Txt.join (" " : Str) ws).cps.toList = J ws := by
  intro ws
  show (glued (" " : Str) ws).cps.toList = J ws
  rw [glued_eq_join]
  induction ws with
  | nil => rfl
  | cons w r ih =>
    cases r with
    | nil => rfl
    | cons v r =>
      show (w ++ (" " : Str) ++ Str.join (" " : Str) (v :: r)).cps.toList = _
      rw [Str.cps_append, Str.cps_append]
      simp only [Array.toList_append, List.append_assoc]
      rw [ih]; rfl
theorem str_ext {a b : Str} (h : a.cps.toList = b.cps.toList) : a = b := Str.ext' (Array.toList_inj.mp h)
theorem op_cps : ("(" : Str).cps.toList = [40] := rfl
theorem cl_cps : (")" : Str).cps.toList = [41] := rfl
theorem gw_cases {w : Str} (h : gw w = true) : w = "(" ∨ w = ")" ∨ (w.cps.toList ≠ [] ∧ ∀ c ∈ w.cps.toList, c ≠ 32 ∧ c ≠ 40 ∧ c ≠ 41) := by
  unfold gw at h
  rw [Bool.or_eq_true, Bool.or_eq_true] at h
  rcases h with (h | h) | h
  · exact .inl (eq_of_beq h)
  · exact .inr (.inl (eq_of_beq h))
  · rw [Bool.and_eq_true, Bool.and_eq_true, decide_eq_true_eq, List.all_eq_true] at h
    refine .inr (.inr ⟨fun e => ?_, fun c hc => ?_⟩)
    · have : w.length = 0 := by show w.cps.size = 0; rw [← Array.length_toList, e]; rfl
      omega
    · have := h.2 c hc
      unfold okc at this
      simp at this
      exact ⟨this.1.1, this.1.2, this.2⟩
theorem gw_len {w : Str} (h : gw w = true) : w.length ≤ 20 := by
  unfold gw at h
  rw [Bool.or_eq_true, Bool.or_eq_true] at h
  rcases h with (h | h) | h
  · rw [eq_of_beq h]; decide
  · rw [eq_of_beq h]; decide
  · rw [Bool.and_eq_true, Bool.and_eq_true, decide_eq_true_eq, decide_eq_true_eq] at h; exact h.1.2
theorem gw_ne {w : Str} (h : gw w = true) : w.cps.toList ≠ [] := by
  rcases gw_cases h with rfl | rfl | h
  · rw [op_cps]; simp
  · rw [cl_cps]; simp
  · exact h.1
theorem rep_pass {a b : Nat} {z : List Nat} : ∀ {l r : List Nat}, (∀ c ∈ l, c ≠ a) → rep2 a b z (l ++ r) = l ++ rep2 a b z r
  | [], _, _ => rfl
  | c :: l, r, h => by
    have hc := h c (by simp)
    have ih := rep_pass (b := b) (z := z) (l := l) (r := r) fun d hd => h d (by simp [hd])
    show rep2 a b z (c :: (l ++ r)) = c :: (l ++ rep2 a b z r)
    rw [← ih]
    match e : l ++ r with
    | [] => rfl
    | d :: q =>
      show (if c = a ∧ d = b then _ else _) = _
      rw [if_neg fun z => hc z.1]
theorem rep_1 {w : Str} (h : gw w = true) (hw : w ≠ "(") : ∀ c ∈ w.cps.toList, c ≠ 40 := by
  rcases gw_cases h with rfl | rfl | h
  · exact absurd rfl hw
  · rw [cl_cps]; simp
  · exact fun c hc => (h.2 c hc).2.1
theorem rep_2 {w : Str} (h : gw w = true) : ∀ c ∈ w.cps.toList, c ≠ 32 := by
  rcases gw_cases h with rfl | rfl | h
  · rw [op_cps]; simp
  · rw [cl_cps]; simp
  · exact fun c hc => (h.2 c hc).1
theorem rep_J : ∀ {ws : List Str}, (∀ w ∈ ws, gw w = true) → rep2 40 32 [40] (J ws) = J1 ws
  | [], _ => rfl
  | [w], h => by
    have hw := h w (by simp)
    by_cases c : w = "("
    · subst c; rfl
    · have := rep_pass (a := 40) (b := 32) (z := [40]) (l := w.cps.toList) (r := []) (rep_1 hw c)
      rw [List.append_nil] at this
      show rep2 40 32 [40] w.cps.toList = w.cps.toList
      rw [this]; simp [rep2]
  | w :: v :: r, h => by
    have hw := h w (by simp)
    have ih := rep_J (ws := v :: r) fun u hu => h u (by simp [hu])
    by_cases c : w = "("
    · subst c
      show rep2 40 32 [40] (40 :: 32 :: J (v :: r)) = _
      have e : rep2 40 32 [40] (40 :: 32 :: J (v :: r)) = [40] ++ rep2 40 32 [40] (J (v :: r)) := by simp [rep2]
      rw [e, ih]; rfl
    · show rep2 40 32 [40] (w.cps.toList ++ 32 :: J (v :: r)) = w.cps.toList ++ (if w = "(" then [] else [32]) ++ J1 (v :: r)
      rw [if_neg c, rep_pass (rep_1 hw c)]
      have := rep_pass (a := 40) (b := 32) (z := [40]) (l := [32]) (r := J (v :: r)) (by simp)
      rw [show 32 :: J (v :: r) = [32] ++ J (v :: r) from rfl, this, ih]; simp
theorem J1_head : ∀ {v : Str} {r : List Str}, ∃ q, J1 (v :: r) = v.cps.toList ++ q
  | v, [] => ⟨[], by simp [J1]⟩
  | v, u :: r => ⟨_, by rw [J1, List.append_assoc]⟩
theorem rep_J1 : ∀ {ws : List Str}, (∀ w ∈ ws, gw w = true) → rep2 32 41 [41] (J1 ws) = J2 ws
  | [], _ => rfl
  | [w], h => by
    have hw := h w (by simp)
    have := rep_pass (a := 32) (b := 41) (z := [41]) (l := w.cps.toList) (r := []) (rep_2 hw)
    rw [List.append_nil] at this
    show rep2 32 41 [41] w.cps.toList = w.cps.toList
    rw [this]; simp [rep2]
  | w :: v :: r, h => by
    have hw := h w (by simp)
    have hv := h v (by simp)
    have ih := rep_J1 (ws := v :: r) fun u hu => h u (by simp [hu])
    show rep2 32 41 [41] (w.cps.toList ++ (if w = "(" then [] else [32]) ++ J1 (v :: r)) = w.cps.toList ++ (if w = "(" ∨ v = ")" then [] else [32]) ++ J2 (v :: r)
    rw [List.append_assoc, rep_pass (rep_2 hw), List.append_assoc]
    congr 1
    by_cases c : w = "("
    · rw [if_pos c, if_pos (.inl c)]; exact ih
    · rw [if_neg c]
      obtain ⟨q, hq⟩ := J1_head (v := v) (r := r)
      by_cases d : v = ")"
      · rw [if_pos (.inr d)]
        subst d
        rw [hq, cl_cps] at ih ⊢
        have e : rep2 32 41 [41] ([32] ++ ([41] ++ q)) = [41] ++ rep2 32 41 [41] q := by simp [rep2]
        rw [e, ← ih, rep_pass (by simp)]; rfl
      · rw [if_neg (fun z => z.elim c d)]
        rw [← ih]
        match e : v.cps.toList, gw_ne hv with
        | x :: q', _ =>
          have hx : x ≠ 41 := by
            rcases gw_cases hv with z | z | z
            · rw [z, op_cps] at e; cases e; decide
            · exact absurd z d
            · exact (z.2 x (by rw [e]; simp)).2.2
          rw [hq, e]
          show (if (32 : Nat) = 32 ∧ x = 41 then _ else _) = _
          rw [if_neg fun z => hx z.2]; rfl
theorem shown_J2 {ws : List Str} (h : ∀ w ∈ ws, gw w = true) : (Txt.replace (Txt.replace (Txt.join (" " : Str) ws) ("( " : Str) ("(" : Str)) (" )" : Str) (")" : Str)).cps.toList = J2 ws := by
  rw [replace_rep2 (a := 32) (b := 41) rfl, replace_rep2 (a := 40) (b := 32) rfl, join_J, op_cps, cl_cps, rep_J h, rep_J1 h]
theorem J2_ne : ∀ {ws : List Str}, ws ≠ [] → (∀ w ∈ ws, gw w = true) → J2 ws ≠ []
  | [], h, _ => absurd rfl h
  | [w], _, h => gw_ne (h w (by simp))
  | w :: v :: r, _, h => by
    have := gw_ne (h w (by simp))
    show w.cps.toList ++ _ ++ _ ≠ []
    simp [this]
theorem J2_snoc : ∀ {ws : List Str} {u w : Str}, J2 (ws ++ [u] ++ [w]) = J2 (ws ++ [u]) ++ (if u = "(" ∨ w = ")" then [] else [32]) ++ w.cps.toList
  | [], u, w => by simp [J2]
  | [x], u, w => by simp [J2]
  | x :: y :: r, u, w => by
    have ih := J2_snoc (ws := y :: r) (u := u) (w := w)
    show x.cps.toList ++ (if x = "(" ∨ y = ")" then [] else [32]) ++ J2 ((y :: r) ++ [u] ++ [w]) = x.cps.toList ++ (if x = "(" ∨ y = ")" then [] else [32]) ++ J2 ((y :: r) ++ [u]) ++ _ ++ _
    rw [ih]; simp
theorem J2_last : ∀ {ws : List Str} {u : Str}, ∃ q, J2 (ws ++ [u]) = q ++ u.cps.toList
  | [], u => ⟨[], rfl⟩
  | [x], u => ⟨x.cps.toList ++ (if x = "(" ∨ u = ")" then [] else [32]), rfl⟩
  | x :: y :: r, u => by
    obtain ⟨q, hq⟩ := J2_last (ws := y :: r) (u := u)
    refine ⟨x.cps.toList ++ (if x = "(" ∨ y = ")" then [] else [32]) ++ q, ?_⟩
    show x.cps.toList ++ (if x = "(" ∨ y = ")" then [] else [32]) ++ J2 ((y :: r) ++ [u]) = _
    rw [hq]; simp
theorem J2_len : ∀ {ws : List Str}, (∀ w ∈ ws, gw w = true) → (J2 ws).length ≤ 21 * ws.length
  | [], _ => by simp [J2]
  | [w], h => by
    have := gw_len (h w (by simp))
    show w.cps.toList.length ≤ _
    rw [Array.length_toList]
    have e : w.cps.size = w.length := rfl
    simp; omega
  | w :: v :: r, h => by
    have h1 := gw_len (h w (by simp))
    have ih := J2_len (ws := v :: r) fun u hu => h u (by simp [hu])
    show (w.cps.toList ++ (if w = "(" ∨ v = ")" then [] else [32]) ++ J2 (v :: r)).length ≤ _
    have e : w.cps.toList.length = w.length := by simp [Str.length]
    have e2 : (if w = "(" ∨ v = ")" then ([] : List Nat) else [32]).length ≤ 1 := by split <;> simp
    rw [List.length_append, List.length_append, e]
    rw [List.length_cons]
    omega
theorem J_len : ∀ {ws : List Str}, (∀ w ∈ ws, gw w = true) → (ws.map (·.length)).sum ≤ 20 * ws.length
  | [], _ => by simp
  | w :: r, h => by
    have h1 := gw_len (h w (by simp))
    have ih := J_len (ws := r) fun u hu => h u (by simp [hu])
    simp only [List.map_cons, List.sum_cons, List.length_cons]
    omega
/-- the last sign, where there is one, is ( just where the last word is -/
theorem last_op {ws : List Str} {u : Str} (hu : gw u = true) {c : Nat} (h : (J2 (ws ++ [u])).getLast? = some c) : c = 40 ↔ u = "(" := by
  obtain ⟨q, hq⟩ := J2_last (ws := ws) (u := u)
  rw [hq, List.getLast?_append] at h
  have hne := gw_ne hu
  rcases gw_cases hu with rfl | rfl | z
  · rw [op_cps] at h; simp at h; subst h; simp
  · rw [cl_cps] at h; simp at h; subst h; decide
  · have hl : u.cps.toList.getLast? = some (u.cps.toList.getLast hne) := List.getLast?_eq_some_getLast hne
    rw [hl] at h
    have h : u.cps.toList.getLast hne = c := by
      have : (Option.or (some (u.cps.toList.getLast hne)) q.getLast?) = some (u.cps.toList.getLast hne) := rfl
      rw [this] at h
      exact Option.some.inj h
    have := (z.2 _ (List.getLast_mem hne)).2.1
    refine ⟨fun e => absurd (h.trans e) this, fun e => ?_⟩
    subst e
    exact absurd rfl this
end WL
set_option Elab.async false
set_option linter.all false
set_option maxRecDepth 100000
set_option maxHeartbeats 4000000
/-! zip of a tuple and a list, of two tuples: both of one length -/
namespace L2
open PySem PySem.Spec PyProof.Rows
section
variable {prog : Program} {w : World} {A : Around} {E : Value → Shared → Prop} {s : Shared}
theorem tn_item {jt q : Addr} {i : Nat} {its : Array Value} {x : Value} {Q : Value → Shared → Prop} (hj : s.heap.IsTupleIter jt q i) (hq : s.heap.IsTuple q its) (hx : its[i]? = some x)
    (hQ : ∀ h2, h2.IsTupleIter jt q (i + 1) → Heap.SameBut jt s.heap h2 → Q x { s with heap := h2 }) : wpAny (model prog w) A (Builtin.SmallTypes.nextOf (.ref jt)) Q E s := by
  obtain ⟨ob, hob, hcl, hda⟩ := id hj
  obtain ⟨oq, hoq, _, nq, hdq⟩ := hq
  unfold Builtin.SmallTypes.nextOf
  refine wpAny_bind (wpAny_callSpecial?_slot (name := Str.ofString "__next__") hj.typeIs F.slot_tuple_iterator_next (wpAny_call_entry F.slot_tuple_iterator_next hj.typeIs F.entry_tuple_iterator_next ?_ (F.args_tuple_iterator_next_1 _)))
  show wpAny _ _ (field (.ref jt) 0 >>= _) _ _ s
  refine wpAny_bind (wpAny_field hob hda (x := .ref q) rfl ?_)
  show wpAny _ _ (if (Value.ref q == Value.none) = true then _ else _) _ _ s
  rw [if_neg (show ¬ ((Value.ref q == Value.none) = true) from Bool.false_ne_true)]
  show wpAny _ _ (field (.ref jt) 1 >>= _) _ _ s
  refine wpAny_bind (wpAny_field hob hda (x := .int i 0) rfl ?_)
  show wpAny _ _ (seqItems? (.ref q) >>= _) _ _ s
  refine wpAny_bind (wpAny_seqItems hoq hdq ?_)
  simp only [Int.toNat_natCast, hx]
  refine wpAny_bind (wpAny_setField hob hda (by simp) (wpAny_pure ⟨x, rfl, wpAny_pure (hQ _ ?_ (Heap.SameBut.update ..))⟩))
  refine ⟨_, Heap.get?_update_self _ hob (Obj.isFreed_of_fields (Obj.data_mapFields hda _)), (Obj.cls_mapFields ..).trans hcl, ?_⟩
  rw [Obj.data_mapFields hda]; simp [rawInt]
theorem tn_end {jt q : Addr} {i : Nat} {its : Array Value} {Q : Value → Shared → Prop} (hh : A.handled = none) (hj : s.heap.IsTupleIter jt q i) (hq : s.heap.IsTuple q its) (hx : its[i]? = none)
    (hE : ∀ h2 ex, Heap.ExtBut jt s.heap h2 → (∃ o, h2.get? ex = some o ∧ o.cls = .type "StopIteration") → E (.ref ex) { s with heap := h2 }) : wpAny (model prog w) A (Builtin.SmallTypes.nextOf (.ref jt)) Q E s := by
  obtain ⟨ob, hob, hcl, hda⟩ := id hj
  obtain ⟨oq, hoq, _, nq, hdq⟩ := hq
  unfold Builtin.SmallTypes.nextOf
  refine wpAny_bind (wpAny_callSpecial?_slot (name := Str.ofString "__next__") hj.typeIs F.slot_tuple_iterator_next (wpAny_call_entry F.slot_tuple_iterator_next hj.typeIs F.entry_tuple_iterator_next ?_ (F.args_tuple_iterator_next_1 _)))
  show wpAny _ _ (field (.ref jt) 0 >>= _) _ _ s
  refine wpAny_bind (wpAny_field hob hda (x := .ref q) rfl ?_)
  show wpAny _ _ (if (Value.ref q == Value.none) = true then _ else _) _ _ s
  rw [if_neg (show ¬ ((Value.ref q == Value.none) = true) from Bool.false_ne_true)]
  show wpAny _ _ (field (.ref jt) 1 >>= _) _ _ s
  refine wpAny_bind (wpAny_field hob hda (x := .int i 0) rfl ?_)
  show wpAny _ _ (seqItems? (.ref q) >>= _) _ _ s
  refine wpAny_bind (wpAny_seqItems hoq hdq ?_)
  simp only [Int.toNat_natCast, hx]
  refine wpAny_bind (wpAny_rule (wpAny_bind (wpAny_setField hob hda (by simp) ?_)))
  refine wpAny_bind ?_
  simp only [newExc, newTuple]
  refine wpAny_bind (wpAny_newObj_type ?_ (by size_fits))
  refine wpAny_bind (m := firstArgMember _ _) (wpAny_of_eq (a := Value.none) (by first | rfl | (simp only [firstArgMember] <;> rfl)) ?_)
  refine wpAny_newObj_type ?_ (by size_fits)
  simp only [raiseNew]
  refine wpAny_bind (wpAny_handled ?_)
  rw [show A.in1.handled = none from hh]
  exact wpAny_bind (wpAny_pure (wpAny_throw (hE _ _ (((Heap.SameBut.update ..).extBut.push _).push _) ⟨_, Heap.get?_push_size _ rfl, rfl⟩)))
end
theorem draws_tup {prog : Program} {w : World} {A : Around} (hh : A.handled = none) (jt q : Addr) (hne : q ≠ jt) (its : Array Value) :
    Draws prog w A jt [jt, q] its.size (fun i v => its[i]? = some v) (fun i h => h.IsTupleIter jt q i ∧ h.IsTuple q its) where
  live := fun _ _ st => let ⟨o, ho, _⟩ := st.1; ⟨o, ho⟩
  frame := fun _ _ _ st k => ⟨st.1.at fun o e => k jt (by simp) o e, st.2.at fun o e => k q (by simp) o e⟩
  item := fun i s Q E hi st hQ => tn_item st.1 st.2 (x := its[i]) (by simp [hi]) fun h2 a b => hQ _ h2 s.toks (by simp [hi]) ⟨a, st.2.extBut b.extBut hne⟩ b
  done := fun s Q E st hE => tn_end hh st.1 st.2 (by simp) hE
/-- what stands apart -/
structure ZAp (z TI TO i1 i2 : Addr) (f1 f2 : List Addr) : Prop where
  m1 : i1 ∈ f1
  m2 : i2 ∈ f2
  z1 : z ∉ f1
  z2 : z ∉ f2
  o1 : TO ∉ f1
  o2 : TO ∉ f2
  a12 : i1 ∉ f2
  a21 : i2 ∉ f1
  tz : TI ≠ z
  oz : TO ≠ z
  io : TI ≠ TO
  t1 : TI ≠ i1
  t2 : TI ≠ i2
section
variable {prog : Program} {w : World} {A : Around} {E : Value → Shared → Prop} {s : Shared} {z TI TO i1 i2 : Addr} {f1 f2 : List Addr} {n : Nat} {P1 P2 : Nat → Value → Prop} {S1 S2 : Nat → Heap → Prop}
theorem zn_item {i : Nat} {u v : Value} {Q : Value → Shared → Prop} (D1 : Draws prog w A i1 f1 n P1 S1) (D2 : Draws prog w A i2 f2 n P2 S2) (Z : ZAp z TI TO i1 i2 f1 f2) (hi : i < n)
    (hz : IsZip s.heap z TI TO .none) (hTI : IsPair s.heap TI (.ref i1) (.ref i2)) (hTO : IsPair s.heap TO u v) (s1 : S1 i s.heap) (s2 : S2 i s.heap)
    (hQ : ∀ x y h2 t2, P1 i x → P2 i y → IsZip h2 z TI TO (rawInt s.heap.objs.size) → IsPair h2 TO x y → S1 (i + 1) h2 → S2 (i + 1) h2 → IsPair h2 s.heap.objs.size x y →
      (∀ c o, c ≠ z → c ≠ TO → c ≠ i1 → c ≠ i2 → s.heap.get? c = some o → h2.get? c = some o) → Q (.ref s.heap.objs.size) { s with heap := h2, toks := t2 }) :
    wpAny (model prog w) A (Builtin.«zip.__next__» ⟨[.ref z], []⟩) (fun fin s2 => ∃ r, fin = .done (.ret r) ∧ Q r s2) E s := by
  show wpAny _ _ (field (.ref z) 2 >>= _) _ E s
  refine wpAny_bind (wpAny_field hz rfl (x := .bool false) rfl ?_)
  show wpAny _ _ (field (.ref z) 3 >>= _) _ E s
  refine wpAny_bind (wpAny_field hz rfl (x := .ref TI) rfl ?_)
  refine wpAny_bind (wpAny_seqItems hTI rfl ?_)
  show wpAny _ _ (Builtin.SmallTypes.ownedTupleIsFree (.ref z) >>= _) _ E s
  refine wpAny_bind ?_
  unfold Builtin.SmallTypes.ownedTupleIsFree
  refine wpAny_bind (wpAny_field hz rfl (x := .none) rfl (wpAny_pure ?_))
  simp only [if_true]
  refine wpAny_bind (wpAny_rule ?_)
  refine wpAny_bind (wpAny_field hz rfl (x := .ref TO) rfl ?_)
  refine wpAny_bind (wpAny_setField_rec hz (by simp) fun ha hza sa => ?_)
  replace hza : IsZip ha z TI TO .ellipsis := hza
  refine wpAny_bind ?_
  simp only [List.zipIdx_cons, List.zipIdx_nil, List.forIn_cons, List.forIn_nil]
  have ne : ∀ {b c : Addr} {l : List Addr}, b ∈ l → c ∉ l → b ≠ c := fun hb hc e => hc (e ▸ hb)
  have a1 : S1 i ha := D1.frame i _ _ s1 fun b hb o e => sa.extBut _ _ (ne hb Z.z1) e
  have a2 : S2 i ha := D2.frame i _ _ s2 fun b hb o e => sa.extBut _ _ (ne hb Z.z2) e
  refine wpAny_bind (wpAny_bind (wpAny_onRaise ?_))
  show wpAny _ _ (Builtin.SmallTypes.nextOf (.ref i1) >>= _) _ _ _
  refine wpAny_bind (D1.item i { s with heap := ha } _ _ hi a1 fun x hb tb hx b1 sb => wpAny_pure ?_)
  have b2 : S2 i hb := D2.frame i _ _ a2 fun b hm o e => sb.extBut _ _ (ne hm Z.a12) e
  have Oi1 : TO ≠ i1 := fun e => Z.o1 (e ▸ Z.m1)
  have Oi2 : TO ≠ i2 := fun e => Z.o2 (e ▸ Z.m2)
  have zi1 : z ≠ i1 := fun e => Z.z1 (e ▸ Z.m1)
  have zi2 : z ≠ i2 := fun e => Z.z2 (e ▸ Z.m2)
  have tob : IsPair hb TO u v := sb.extBut _ _ Oi1 (sa.extBut _ _ Z.oz hTO)
  refine wpAny_bind (wpAny_seqItems tob rfl ?_)
  refine wpAny_bind (wpAny_updateSeq_pair tob fun hc toc sc => ?_)
  replace toc : IsPair hc TO x v := toc
  refine wpAny_bind (wpAny_letGo (wpAny_pure ?_))
  have c1 : S1 (i + 1) hc := D1.frame _ _ _ b1 fun b hm o e => sc.extBut _ _ (ne hm Z.o1) e
  have c2 : S2 i hc := D2.frame _ _ _ b2 fun b hm o e => sc.extBut _ _ (ne hm Z.o2) e
  refine wpAny_bind (wpAny_bind (wpAny_onRaise ?_))
  show wpAny _ _ (Builtin.SmallTypes.nextOf (.ref i2) >>= _) _ _ _
  refine wpAny_bind (D2.item i { s with heap := hc, toks := tb } _ _ hi c2 fun y hd td hy d2 sd => wpAny_pure ?_)
  have d1 : S1 (i + 1) hd := D1.frame _ _ _ c1 fun b hm o e => sd.extBut _ _ (ne hm Z.a21) e
  have tod : IsPair hd TO x v := sd.extBut _ _ Oi2 toc
  refine wpAny_bind (wpAny_seqItems tod rfl ?_)
  refine wpAny_bind (wpAny_updateSeq_pair tod fun he toe se => ?_)
  replace toe : IsPair he TO x y := toe
  refine wpAny_bind (wpAny_letGo (wpAny_pure (wpAny_pure ?_)))
  have e1 : S1 (i + 1) he := D1.frame _ _ _ d1 fun b hm o e => se.extBut _ _ (ne hm Z.o1) e
  have e2 : S2 (i + 1) he := D2.frame _ _ _ d2 fun b hm o e => se.extBut _ _ (ne hm Z.o2) e
  refine wpAny_bind (wpAny_seqItems toe rfl ?_)
  refine wpAny_bind (wpAny_newTuple ?_)
  have hsz : he.objs.size = s.heap.objs.size := by rw [se.1, sd.1, sc.1, sb.1, sa.1]
  have hze : IsZip he z TI TO .ellipsis := se.extBut _ _ Z.oz.symm (sd.extBut _ _ zi2 (sc.extBut _ _ Z.oz.symm (sb.extBut _ _ zi1 hza)))
  have hke : ∀ c o, c ≠ z → c ≠ TO → c ≠ i1 → c ≠ i2 → s.heap.get? c = some o → he.get? c = some o := fun c o n1 n2 n3 n4 e => se.extBut _ _ n2 (sd.extBut _ _ n4 (sc.extBut _ _ n2 (sb.extBut _ _ n3 (sa.extBut _ _ n1 e))))
  have hzlt : z < he.objs.size := Heap.lt_size hze
  show wpAny _ _ (Builtin.SmallTypes.ownedTupleHandOut (.ref z) (.ref he.objs.size) >>= _) _ _ _
  refine wpAny_bind ?_
  unfold Builtin.SmallTypes.ownedTupleHandOut
  have hzf : IsZip (he.push { cls := .type "tuple", data := .seq #[x, y] }) z TI TO .ellipsis := Heap.get?_push_of_some _ hze
  refine wpAny_bind (wpAny_setField_rec hzf (by simp) fun hg hzg sg => ?_)
  replace hzg : IsZip hg z TI TO (rawInt he.objs.size) := hzg
  refine wpAny_setField_rec hzg (by simp) fun hk hzk sk => ?_
  replace hzk : IsZip hk z TI TO (rawInt he.objs.size) := hzk
  have up : ∀ c o, c ≠ z → he.get? c = some o → hk.get? c = some o := fun c o n1 e => sk.extBut _ _ n1 (sg.extBut _ _ n1 (Heap.get?_push_of_some _ e))
  have hT : IsPair hk he.objs.size x y := sk.extBut _ _ (Nat.ne_of_gt hzlt) (sg.extBut _ _ (Nat.ne_of_gt hzlt) (Heap.get?_push_size _ rfl))
  rw [hsz] at hzk hT
  refine wpAny_pure ⟨_, rfl, ?_⟩
  show Q (.ref he.objs.size) _
  rw [hsz]
  exact hQ x y hk td hx hy hzk (up _ _ Z.oz toe) (D1.frame _ _ _ e1 fun b hm o e => up _ o (ne hm Z.z1) e) (D2.frame _ _ _ e2 fun b hm o e => up _ o (ne hm Z.z2) e) hT fun c o n1 n2 n3 n4 e => up c o n1 (hke c o n1 n2 n3 n4 e)
theorem zn_end {u v : Value} {Q : Fin → Shared → Prop} (D1 : Draws prog w A i1 f1 n P1 S1) (Z : ZAp z TI TO i1 i2 f1 f2)
    (hz : IsZip s.heap z TI TO .none) (hTI : IsPair s.heap TI (.ref i1) (.ref i2)) (hTO : IsPair s.heap TO u v) (s1 : S1 n s.heap)
    (hE : ∀ h2 ex, (∀ c o, c ≠ z → c ≠ TO → c ≠ i1 → c ≠ i2 → s.heap.get? c = some o → h2.get? c = some o) → (∃ o, h2.get? ex = some o ∧ o.cls = .type "StopIteration") → E (.ref ex) { s with heap := h2 }) :
    wpAny (model prog w) A (Builtin.«zip.__next__» ⟨[.ref z], []⟩) Q E s := by
  show wpAny _ _ (field (.ref z) 2 >>= _) _ E s
  refine wpAny_bind (wpAny_field hz rfl (x := .bool false) rfl ?_)
  show wpAny _ _ (field (.ref z) 3 >>= _) _ E s
  refine wpAny_bind (wpAny_field hz rfl (x := .ref TI) rfl ?_)
  refine wpAny_bind (wpAny_seqItems hTI rfl ?_)
  show wpAny _ _ (Builtin.SmallTypes.ownedTupleIsFree (.ref z) >>= _) _ E s
  refine wpAny_bind ?_
  unfold Builtin.SmallTypes.ownedTupleIsFree
  refine wpAny_bind (wpAny_field hz rfl (x := .none) rfl (wpAny_pure ?_))
  simp only [if_true]
  refine wpAny_bind (wpAny_rule ?_)
  refine wpAny_bind (wpAny_field hz rfl (x := .ref TO) rfl ?_)
  refine wpAny_bind (wpAny_setField_rec hz (by simp) fun ha hza sa => ?_)
  replace hza : IsZip ha z TI TO .ellipsis := hza
  refine wpAny_bind ?_
  simp only [List.zipIdx_cons, List.zipIdx_nil, List.forIn_cons, List.forIn_nil]
  have ne : ∀ {b c : Addr} {l : List Addr}, b ∈ l → c ∉ l → b ≠ c := fun hb hc e => hc (e ▸ hb)
  have a1 : S1 n ha := D1.frame n _ _ s1 fun b hb o e => sa.extBut _ _ (ne hb Z.z1) e
  refine wpAny_bind (wpAny_bind (wpAny_onRaise ?_))
  show wpAny _ _ (Builtin.SmallTypes.nextOf (.ref i1) >>= _) _ _ _
  refine wpAny_bind (D1.done { s with heap := ha } _ _ a1 fun hb ex sb he => ?_)
  obtain ⟨oe, hoe, hce⟩ := he
  have hzb : IsZip hb z TI TO .ellipsis := sb _ _ (fun e => Z.z1 (e ▸ Z.m1)) hza
  have hez : ex ≠ z := fun e => by subst e; rw [hzb] at hoe; cases hoe; simp at hce
  exact wpAny_setField_rec hzb (by simp) fun hc _ sc => hE hc ex (fun c o n1 _ n3 _ e => sc.extBut _ _ n1 (sb _ _ n3 (sa.extBut _ _ n1 e))) ⟨oe, sc.extBut _ _ hez hoe, hce⟩
/-- the walk of a zip -/
theorem walk_zip (D1 : Draws prog w A.in1 i1 f1 n P1 S1) (D2 : Draws prog w A.in1 i2 f2 n P2 S2) (Z : ZAp z TI TO i1 i2 f1 f2) :
    WalksT prog w A z (z :: TI :: TO :: (f1 ++ f2)) [z, TO, i1, i2] n (fun i vals => ∃ x y, P1 i x ∧ P2 i y ∧ vals = #[x, y])
      (fun i h => IsZip h z TI TO .none ∧ IsPair h TI (.ref i1) (.ref i2) ∧ (∃ a b, IsPair h TO a b) ∧ S1 i h ∧ S2 i h)
      (fun i T h => IsZip h z TI TO (rawInt T) ∧ IsPair h TI (.ref i1) (.ref i2) ∧ (∃ a b, IsPair h TO a b) ∧ S1 (i + 1) h ∧ S2 (i + 1) h ∧ T ∉ [z, TO, i1, i2]) where
  sub := fun c hc => by
    simp only [List.mem_cons, List.not_mem_nil, or_false] at hc
    rcases hc with rfl | rfl | rfl | rfl
    · simp
    · simp
    · simp [Z.m1]
    · simp [Z.m2]
  frame := fun i h h2 st k => by
    obtain ⟨a, b, ⟨u, v, c⟩, d, e⟩ := st
    exact ⟨k z (by simp) _ a, k TI (by simp) _ b, ⟨u, v, k TO (by simp) _ c⟩, D1.frame _ _ _ d fun x hx o q => k x (by simp [hx]) o q, D2.frame _ _ _ e fun x hx o q => k x (by simp [hx]) o q⟩
  item := fun i s Q E hi st hQ => by
    obtain ⟨a, b, ⟨u, v, c⟩, d, e⟩ := st
    have hT : s.TypeIs (.ref z) "zip" := ⟨_, a, rfl⟩
    unfold pyNext
    refine wpAny_bind (wpAny_attempt (wpAny_callSpecial?_slot (name := Str.ofString "__next__") hT F.slot_zip_next (wpAny_call_entry F.slot_zip_next hT F.entry_zip_next
      (zn_item D1 D2 Z hi a b c d e fun x y h2 t2 hx hy z1 z2 z3 z4 z5 z6 => wpAny_pure ?_) (F.args_zip_next_1 _))))
    have lt : ∀ {c o}, s.heap.get? c = some o → s.heap.objs.size ≠ c := fun e => Nat.ne_of_gt (Heap.lt_size e)
    obtain ⟨o1, l1⟩ := D1.live _ _ d
    obtain ⟨o2, l2⟩ := D2.live _ _ e
    refine hQ s.heap.objs.size #[x, y] h2 t2 ⟨x, y, hx, hy, rfl⟩ (Nat.le_refl _) ⟨_, z5, rfl, _, rfl⟩ ⟨z1, z6 _ _ Z.tz Z.io Z.t1 Z.t2 b, ⟨_, _, z2⟩, z3, z4, ?_⟩ fun c o hc q => z6 c o (fun x => hc (by simp [x])) (fun x => hc (by simp [x])) (fun x => hc (by simp [x])) (fun x => hc (by simp [x])) q
    simp only [List.mem_cons, List.not_mem_nil, or_false, not_or]
    exact ⟨lt a, lt c, lt l1, lt l2⟩
  go := fun elts k pos i T s Q E hm hQ => by
    obtain ⟨a, b, ⟨u, v, c⟩, d, e, _⟩ := hm
    refine wpAny_letOwnedTupleGo_zip a fun h2 hz2 s2 => hQ h2 ⟨hz2, s2.extBut _ _ Z.tz b, ⟨u, v, s2.extBut _ _ Z.oz c⟩, ?_, ?_⟩ fun c o hc q => s2.extBut _ _ (fun x => hc (by simp [x])) q
    · exact D1.frame _ _ _ d fun x hx o q => s2.extBut _ _ (fun z' => Z.z1 (z' ▸ hx)) q
    · exact D2.frame _ _ _ e fun x hx o q => s2.extBut _ _ (fun z' => Z.z2 (z' ▸ hx)) q
  apart := fun i T h hm => hm.2.2.2.2.2
  done := fun s Q E st hQ => by
    obtain ⟨a, b, ⟨u, v, c⟩, d, e⟩ := st
    have hT : s.TypeIs (.ref z) "zip" := ⟨_, a, rfl⟩
    unfold pyNext
    refine wpAny_bind (wpAny_attempt (wpAny_callSpecial?_slot (name := Str.ofString "__next__") hT F.slot_zip_next (wpAny_call_entry F.slot_zip_next hT F.entry_zip_next (zn_end D1 Z a b c d fun h2 ex hk he => ?_) (F.args_zip_next_1 _))))
    obtain ⟨o, ho, hc⟩ := he
    refine wpAny_bind (wpAny_isInstance (T := "StopIteration") (b := true) ⟨o, ho, hc⟩ isSubtype_stop ?_)
    exact wpAny_pure (hQ h2 s.toks fun c o hc q => hk c o (fun x => hc (by simp [x])) (fun x => hc (by simp [x])) (fun x => hc (by simp [x])) (fun x => hc (by simp [x])) q)
  self := fun i s Q E st h => wpAny_pyIter_zip st.1 h
end
end L2
set_option Elab.async false
set_option linter.all false
set_option maxRecDepth 100000
set_option maxHeartbeats 4000000
/-! for a, b in zip(..) -/
namespace L2
open PySem PySem.Spec PyProof.Rows Builtin
abbrev itOb (c : String) (l : Addr) : Obj := { cls := .type c, data := .fields #[.ref l, .int 0 0] }
abbrev zA (h : Heap) (c1 : String) (l1 : Addr) : Heap := h.push (itOb c1 l1)
abbrev zB (h : Heap) (c1 : String) (l1 : Addr) (c2 : String) (l2 : Addr) : Heap := (zA h c1 l1).push (itOb c2 l2)
abbrev zC (h : Heap) (c1 : String) (l1 : Addr) (c2 : String) (l2 : Addr) : Heap := (zB h c1 l1 c2 l2).push { cls := .type "tuple", data := .seq #[.ref h.objs.size, .ref (zA h c1 l1).objs.size] }
abbrev zD (h : Heap) (c1 : String) (l1 : Addr) (c2 : String) (l2 : Addr) : Heap := (zC h c1 l1 c2 l2).push { cls := .type "tuple", data := .seq #[.none, .none] }
abbrev zE (h : Heap) (c1 : String) (l1 : Addr) (c2 : String) (l2 : Addr) : Heap := (zD h c1 l1 c2 l2).push { cls := .type "zip", data := .fields #[.none, .bool false, .bool false, .ref (zB h c1 l1 c2 l2).objs.size, .ref (zC h c1 l1 c2 l2).objs.size] }
theorem mz_tl (l1 l2 : Addr) (xs ys : Array Value) : Meets (Builtin.«zip.__new__» ⟨[.type "zip", .ref l1, .ref l2], []⟩) (fun _ R s => s.heap.IsTuple l1 xs ∧ s.heap.IsList l2 ys ∧
    R (.ok (.ret (.ref (zD s.heap "tuple_iterator" l1 "list_iterator" l2).objs.size))) { s with heap := zE s.heap "tuple_iterator" l1 "list_iterator" l2 }) :=
  .of_wp fun prog w A R s h => by
    obtain ⟨hp, g, d, tk, os⟩ := s; obtain ⟨hl1, hl2, h⟩ := h
    have hsub := sub_zip
    have hL1 : Heap.IsTuple (Shared.heap ⟨hp, g, d, tk, os⟩) l1 xs := hl1
    have hL2 : Heap.IsList (Shared.heap ⟨hp.push { cls := .type "tuple_iterator", data := .fields #[.ref l1, .int 0 0] }, g, d, tk, os⟩) l2 ys := Heap.IsList.push hl2 _
    wp_walk using wpAny_pyIter_tuple hL1, wpAny_pyIter_list hL2
    exact ⟨_, rfl, h⟩
theorem mz_tt (l1 l2 : Addr) (xs ys : Array Value) : Meets (Builtin.«zip.__new__» ⟨[.type "zip", .ref l1, .ref l2], []⟩) (fun _ R s => s.heap.IsTuple l1 xs ∧ s.heap.IsTuple l2 ys ∧
    R (.ok (.ret (.ref (zD s.heap "tuple_iterator" l1 "tuple_iterator" l2).objs.size))) { s with heap := zE s.heap "tuple_iterator" l1 "tuple_iterator" l2 }) :=
  .of_wp fun prog w A R s h => by
    obtain ⟨hp, g, d, tk, os⟩ := s; obtain ⟨hl1, hl2, h⟩ := h
    have hsub := sub_zip
    have hL1 : Heap.IsTuple (Shared.heap ⟨hp, g, d, tk, os⟩) l1 xs := hl1
    have hL2 : Heap.IsTuple (Shared.heap ⟨hp.push { cls := .type "tuple_iterator", data := .fields #[.ref l1, .int 0 0] }, g, d, tk, os⟩) l2 ys := Heap.IsTuple.push hl2 _
    wp_walk using wpAny_pyIter_tuple hL1, wpAny_pyIter_tuple hL2
    exact ⟨_, rfl, h⟩
/-- what stands behind a zip made new -/
structure ZNew (h h2 : Heap) (c1 : String) (l1 : Addr) (c2 : String) (l2 : Addr) : Prop where
  zip : IsZip h2 (h.objs.size + 4) (h.objs.size + 2) (h.objs.size + 3) .none
  its : IsPair h2 (h.objs.size + 2) (.ref h.objs.size) (.ref (h.objs.size + 1))
  own : IsPair h2 (h.objs.size + 3) .none .none
  i1 : h2.get? h.objs.size = some (itOb c1 l1)
  i2 : h2.get? (h.objs.size + 1) = some (itOb c2 l2)
  keep : ∀ c o, h.get? c = some o → h2.get? c = some o
theorem znew (h : Heap) (c1 : String) (l1 : Addr) (c2 : String) (l2 : Addr) : ZNew h (zE h c1 l1 c2 l2) c1 l1 c2 l2 ∧ (zD h c1 l1 c2 l2).objs.size = h.objs.size + 4 := by
  have z1 : (zA h c1 l1).objs.size = h.objs.size + 1 := Heap.size_push ..
  have z2 : (zB h c1 l1 c2 l2).objs.size = h.objs.size + 2 := by rw [Heap.size_push, z1]
  have z3 : (zC h c1 l1 c2 l2).objs.size = h.objs.size + 3 := by rw [Heap.size_push, z2]
  have z4 : (zD h c1 l1 c2 l2).objs.size = h.objs.size + 4 := by rw [Heap.size_push, z3]
  have g5 : (zE h c1 l1 c2 l2).get? (zD h c1 l1 c2 l2).objs.size = some _ := Heap.get?_push_size _ rfl
  have g4 : (zE h c1 l1 c2 l2).get? (zC h c1 l1 c2 l2).objs.size = some _ := Heap.get?_push_of_some _ (Heap.get?_push_size _ rfl)
  have g3 : (zE h c1 l1 c2 l2).get? (zB h c1 l1 c2 l2).objs.size = some _ := Heap.get?_push_of_some _ (Heap.get?_push_of_some _ (Heap.get?_push_size _ rfl))
  have g2 : (zE h c1 l1 c2 l2).get? (zA h c1 l1).objs.size = some _ := Heap.get?_push_of_some _ (Heap.get?_push_of_some _ (Heap.get?_push_of_some _ (Heap.get?_push_size _ rfl)))
  have g1 : (zE h c1 l1 c2 l2).get? h.objs.size = some _ := Heap.get?_push_of_some _ (Heap.get?_push_of_some _ (Heap.get?_push_of_some _ (Heap.get?_push_of_some _ (Heap.get?_push_size _ rfl))))
  rw [z2, z3, z4] at g5
  rw [z1, z2] at g3
  rw [z3] at g4
  rw [z1] at g2
  exact ⟨⟨g5, g3, g4, g1, g2, fun c o x => Heap.get?_push_of_some _ (Heap.get?_push_of_some _ (Heap.get?_push_of_some _ (Heap.get?_push_of_some _ (Heap.get?_push_of_some _ x))))⟩, z4⟩
section
variable {prog : Program} {w : World} {A : Around} {E : Value → Shared → Prop} {s : Shared}
theorem call_zip_tl {l1 l2 : Addr} {xs ys : Array Value} {Q : Value → Shared → Prop} (hl1 : s.heap.IsTuple l1 xs) (hl2 : s.heap.IsList l2 ys)
    (h : ∀ h2, ZNew s.heap h2 "tuple_iterator" l1 "list_iterator" l2 → Q (.ref (s.heap.objs.size + 4)) { s with heap := h2 }) : wpAny (model prog w) A (call (.type "zip") [.ref l1, .ref l2]) Q E s := by
  refine callType_new PySem.F.called_zip (by decide) (PySem.F.typeCall_zip_2 _ _) (PySem.F.newCall_zip_2 _ _) (fun obj => PySem.F.args_object_init_3 obj _ _) PySem.F.entry_zip_new (mz_tl l1 l2 xs ys) ⟨hl1, hl2, ?_⟩
  obtain ⟨N, e⟩ := znew s.heap "tuple_iterator" l1 "list_iterator" l2
  show _ ∧ _
  rw [e]
  exact ⟨⟨_, N.zip, rfl⟩, h _ N⟩
theorem call_zip_tt {l1 l2 : Addr} {xs ys : Array Value} {Q : Value → Shared → Prop} (hl1 : s.heap.IsTuple l1 xs) (hl2 : s.heap.IsTuple l2 ys)
    (h : ∀ h2, ZNew s.heap h2 "tuple_iterator" l1 "tuple_iterator" l2 → Q (.ref (s.heap.objs.size + 4)) { s with heap := h2 }) : wpAny (model prog w) A (call (.type "zip") [.ref l1, .ref l2]) Q E s := by
  refine callType_new PySem.F.called_zip (by decide) (PySem.F.typeCall_zip_2 _ _) (PySem.F.newCall_zip_2 _ _) (fun obj => PySem.F.args_object_init_3 obj _ _) PySem.F.entry_zip_new (mz_tt l1 l2 xs ys) ⟨hl1, hl2, ?_⟩
  obtain ⟨N, e⟩ := znew s.heap "tuple_iterator" l1 "tuple_iterator" l2
  show _ ∧ _
  rw [e]
  exact ⟨⟨_, N.zip, rfl⟩, h _ N⟩
theorem zap_new {k l1 l2 : Addr} (h1 : l1 < k) (h2 : l2 < k) : ZAp (k + 4) (k + 2) (k + 3) k (k + 1) [k, l1] [k + 1, l2] := by
  have e : ∀ {a b : Nat}, a ≠ b → ∀ {l : List Nat}, a ∉ l → a ∉ b :: l := fun h _ h' => by simp [h, h']
  have n : ∀ a : Nat, a ∉ ([] : List Nat) := fun a => by simp
  have L1 : (l1 : Nat) < k := h1
  have L2 : (l2 : Nat) < k := h2
  have d : ∀ {a b : Nat}, a < b ∨ b < a → a ≠ b := fun h e => by omega
  exact ⟨by simp, by simp, e (d (.inr (Nat.lt_add_of_pos_right (by decide)))) (e (d (.inr (Nat.lt_of_lt_of_le L1 (Nat.le_add_right _ _)))) (n _)), e (d (.inr (Nat.add_lt_add_left (by decide) k))) (e (d (.inr (Nat.lt_of_lt_of_le L2 (Nat.le_add_right _ _)))) (n _)),
    e (d (.inr (Nat.lt_add_of_pos_right (by decide)))) (e (d (.inr (Nat.lt_of_lt_of_le L1 (Nat.le_add_right _ _)))) (n _)), e (d (.inr (Nat.add_lt_add_left (by decide) k))) (e (d (.inr (Nat.lt_of_lt_of_le L2 (Nat.le_add_right _ _)))) (n _)),
    e (d (.inl (Nat.lt_add_of_pos_right (by decide)))) (e (d (.inr L2)) (n _)), e (d (.inr (Nat.lt_add_of_pos_right (by decide)))) (e (d (.inr (Nat.lt_of_lt_of_le L1 (Nat.le_add_right _ _)))) (n _)),
    d (.inl (Nat.add_lt_add_left (by decide) k)), d (.inl (Nat.add_lt_add_left (by decide) k)), d (.inl (Nat.add_lt_add_left (by decide) k)), d (.inr (Nat.lt_add_of_pos_right (by decide))), d (.inr (Nat.add_lt_add_left (by decide) k))⟩
end
/-! ### the walk, by values -/
/-- the second one is a list (true) or a tuple -/
def SqX (b : Bool) (K : PySem.W.Frag) (H : Hp) (a : Addr) (xs : List V) : Prop := if b then SqL K H a xs else SqT K H a xs
def ItX (b : Bool) (h : Heap) (it l : Addr) (i : Nat) : Prop := if b then h.IsListIter it l i else h.IsTupleIter it l i
def SrX (b : Bool) (h : Heap) (l : Addr) (its : Array Value) : Prop := if b then h.IsList l its else h.IsTuple l its
def cX (b : Bool) : String := if b then "list_iterator" else "tuple_iterator"
theorem draws_X {prog : Program} {w : World} {A : Around} (b : Bool) (hh : A.handled = none) (it l : Addr) (hne : l ≠ it) (its : Array Value) :
    Draws prog w A it [it, l] its.size (fun i v => its[i]? = some v) (fun i h => ItX b h it l i ∧ SrX b h l its) := by
  cases b
  · exact draws_tup hh it l hne its
  · exact Draws.list hh it l hne its
section
variable {X : Cx} {pins : List (Addr × Obj)} {σ : St} {H : Hp} {s : Shared}
theorem Inv.sqX {b : Bool} {a : Addr} {xs : List V} (I : Inv X pins σ H s) (h : SqX b X.K H a xs) : ∃ its : List Value, Vals xs its ∧ SrX b s.heap a its.toArray := by
  cases b
  · obtain ⟨its, r, p, _⟩ := I.tuple h; exact ⟨its, r, p⟩
  · obtain ⟨its, r, p, _⟩ := I.list h; exact ⟨its, r, p.isList⟩
theorem Inv.sqX_inj {b : Bool} {a : Addr} {xs ys : List V} (I : Inv X pins σ H s) (h : SqX b X.K H a xs) (h' : SqX b X.K H a ys) : xs = ys := by
  cases b
  · exact I.tuple_inj h h'
  · exact I.list_inj h h'
end
def Itz (b : Bool) (K : PySem.W.Frag) (l1 l2 : Addr) : It :=
  ⟨fun i H => ∃ xs ys, SqT K H l1 xs ∧ SqX b K H l2 ys ∧ xs.length = ys.length ∧ i < xs.length,
   fun i H x H' => ∃ u v T, (∀ xs, SqT K H l1 xs → xs[i]? = some u) ∧ (∀ ys, SqX b K H l2 ys → ys[i]? = some v) ∧ x = .ref T ∧ H T = none ∧ H' = upd H T (.tup [u, v]),
   fun i H => ∃ xs ys, SqT K H l1 xs ∧ SqX b K H l2 ys ∧ xs.length = ys.length ∧ i = xs.length⟩
theorem turn_zip {P : Program} {w : World} {K : PySem.W.Frag} {elts : List Expr} {ek : Nat} {epos : Pos} (b : Bool) {k l1 l2 : Addr} (h1 : l1 < k) (h2 : l2 < k) :
    Turn P w K (.Tuple elts ek epos) (Itz b K l1 l2) [k + 4, k + 2, k + 3, k, k + 1] (k + 4)
      (fun i h => IsZip h (k + 4) (k + 2) (k + 3) .none ∧ IsPair h (k + 2) (.ref k) (.ref (k + 1)) ∧ (∃ a c, IsPair h (k + 3) a c) ∧ h.IsTupleIter k l1 i ∧ ItX b h (k + 1) l2 i) where
  mem := by simp
  obj := fun i h st c hc => by
    obtain ⟨a1, a2, ⟨u, v, a3⟩, a4, a5⟩ := st
    simp only [List.mem_cons, List.not_mem_nil, or_false] at hc
    rcases hc with rfl | rfl | rfl | rfl | rfl
    · exact ⟨_, a1, fun v z => by have z' : Data.fields _ = Data.cell v := z; cases z'⟩
    · exact ⟨_, a2, fun v z => by have z' : Data.seq _ _ = Data.cell v := z; cases z'⟩
    · exact ⟨_, a3, fun v z => by have z' : Data.seq _ _ = Data.cell v := z; cases z'⟩
    · obtain ⟨o, e, c, d⟩ := a4; exact ⟨o, e, fun v z => by rw [d] at z; cases z⟩
    · cases b
      · obtain ⟨o, e, c, d⟩ := a5; exact ⟨o, e, fun v z => by rw [d] at z; cases z⟩
      · obtain ⟨o, e, c, d⟩ := a5; exact ⟨o, e, fun v z => by rw [d] at z; cases z⟩
  keep := fun i h h' st kp => by
    obtain ⟨a1, a2, ⟨u, v, a3⟩, a4, a5⟩ := st
    refine ⟨kp _ (by simp) _ a1, kp _ (by simp) _ a2, ⟨u, v, kp _ (by simp) _ a3⟩, a4.at fun o e => kp _ (by simp) o e, ?_⟩
    cases b
    · exact Heap.IsTupleIter.at a5 fun o e => kp _ (by simp) o e
    · exact Heap.IsListIter.at a5 fun o e => kp _ (by simp) o e
  item := by
    intro X hP hw hK hc i pins s σ H E I hf st hg
    subst hP hw hK
    obtain ⟨xs, ys, hq1, hq2, hlen, hi⟩ := hg
    obtain ⟨its1, rv1, p1, _⟩ := I.tuple hq1
    obtain ⟨its2, rv2, p2⟩ := I.sqX hq2
    obtain ⟨a1, a2, a3, a4, a5⟩ := st
    have hn1 : its1.toArray.size = xs.length := by rw [List.size_toArray, rv1.length]
    have hn2 : its2.toArray.size = xs.length := by rw [List.size_toArray, ← rv2.length, hlen]
    have D1 := draws_tup (prog := X.prog) (w := X.w) (A := X.A.in1) (I.ok.hd hc) k l1 (Nat.ne_of_lt h1) its1.toArray
    have D2 := draws_X (prog := X.prog) (w := X.w) (A := X.A.in1) b (I.ok.hd hc) (k + 1) l2 (Nat.ne_of_lt (Nat.lt_succ_of_lt h2)) its2.toArray
    rw [hn1] at D1
    rw [hn2] at D2
    have W := walk_zip D1 D2 (zap_new h1 h2)
    refine W.item i s _ _ hi ⟨a1, a2, a3, ⟨a4, p1⟩, ⟨a5, p2⟩⟩ fun T vals h' tk hv hT htup hm kk => ?_
    obtain ⟨x, y, hx, hy, rfl⟩ := hv
    refine ⟨_, rfl, W.go elts ek epos i T { s with heap := h', toks := tk } _ _ hm fun h2 st2 kk2 => ?_⟩
    have hu : xs[i]? = some xs[i] := by simp [hi]
    have hv : ys[i]? = some (ys[i]'(by omega)) := by simp [show i < ys.length by omega]
    obtain ⟨u1, e1, r1⟩ := rv1.get hu
    obtain ⟨u2, e2, r2⟩ := rv2.get hv
    have ex : x = u1 := by
      have : its1[i]? = some x := by simpa using hx
      rw [e1] at this; exact (Option.some.inj this).symm
    have ey : y = u2 := by
      have : its2[i]? = some y := by simpa using hy
      rw [e2] at this; exact (Option.some.inj this).symm
    subst ex ey
    have hTn : H T = none := I.hok.fresh hT
    have hTw : T ∉ [k + 4, k + 3, k, k + 1] := W.apart i T h' hm
    have sub : ∀ c, c ∈ [k + 4, k + 3, k, k + 1] → c ∈ [k + 4, k + 2, k + 3, k, k + 1] := fun c hc => by
      simp only [List.mem_cons, List.not_mem_nil, or_false] at hc ⊢
      rcases hc with z | z | z | z <;> simp [z]
    have k2 : ∀ c o, c ∉ [k + 4, k + 3, k, k + 1] → s.heap.get? c = some o → h2.get? c = some o := fun c o hb q => kk2 c o hb (kk c o hb q)
    have htup2 : IsTup h2 T #[x, y] := by
      obtain ⟨o, ho, r⟩ := htup
      exact ⟨o, kk2 T o hTw ho, r⟩
    have hfp : ∀ c ∈ [k + 4, k + 3, k, k + 1], H c = none := fun c hb => (hf c (sub c hb)).1
    have hne : ∀ c, c < s.heap.objs.size → c ≠ T := fun c hb => Nat.ne_of_lt (Nat.lt_of_lt_of_le hb hT)
    have tracked : ∀ c u, H c = some u → c ≠ T ∧ c ∉ [k + 4, k + 3, k, k + 1] := fun c u q => ⟨hne c (I.hok.lt q), fun z => by rw [hfp c z] at q; cases q⟩
    have I1 : Inv X pins σ (upd H T (.tup [xs[i], ys[i]'(by omega)])) { s with heap := h2, gens := s.gens, drawn := s.drawn, toks := tk } := by
      refine I.step (ch := [k + 4, k + 3, k, k + 1]) (fun c hb => ?_) (fun c o _ _ hc q _ => k2 c o hc q) (fun c o _ _ hc q _ => ⟨o.slots, k2 c o hc q⟩) (fun c o hc q n => by rw [upd_ne (hne c (Heap.lt_size q))]; exact n) (fun c o hc q => ⟨o, k2 c o hc q⟩)
        (fun c xs q => by rw [upd_ne (tracked c _ q).1]; exact q) (fun c o u q => by rw [upd_ne (tracked c _ q).1]; exact q) (fun c ps q => ⟨#[], by rw [upd_ne (tracked c _ q).1, q]; simp⟩) (fun m hm => ?_) (fun c u q => ?_) I.bare
      · obtain ⟨f0, f1, f2, f3, f4, f5⟩ := hf c (sub c hb)
        exact ⟨f3, f1, f4, f5⟩
      · obtain ⟨o, es, ep, ho, r⟩ := hm
        exact ⟨o, es, ep, k2 _ o (fun z => (hf _ (sub _ z)).2.1 rfl) ho, r⟩
      · by_cases hb : c = T
        · subst hb
          rw [upd_same] at q; cases q
          exact ⟨Nat.le_trans (by decide : 2 ≤ 1000) (Nat.le_of_lt (small1000 (Nat.le_refl _))), [x, y], .cons r1 (.cons r2 .nil), htup2⟩
        · rw [upd_ne hb] at q
          refine (I.hok c u q).stay (fun d v hd r => k2 d v ?_ r) (fun d r => by rw [upd_ne (tracked d _ r).1]; exact r) fun d xs r => by rw [upd_ne (tracked d _ r).1]; exact r
          rcases hd with rfl | hd
          · exact (tracked d _ q).2
          · exact (tracked d _ hd).2
    obtain ⟨b1, b2, b3, ⟨b4, _⟩, ⟨b5, _⟩⟩ := st2
    refine ⟨.ref T, _, I1, rfl, ⟨_, _, T, fun zs hz => by rw [I.tuple_inj hz hq1]; exact hu, fun zs hz => by rw [I.sqX_inj hz hq2]; exact hv, rfl, hTn, rfl⟩, ⟨b1, b2, b3, b4, b5⟩, fun c hb => ?_⟩
    have hbT : c ≠ T := by
      obtain ⟨o, ho⟩ : ∃ o, s.heap.get? c = some o := by
        obtain ⟨u, v, a3⟩ := a3
        simp only [List.mem_cons, List.not_mem_nil, or_false] at hb
        rcases hb with rfl | rfl | rfl | rfl | rfl
        · exact ⟨_, a1⟩
        · exact ⟨_, a2⟩
        · exact ⟨_, a3⟩
        · obtain ⟨o, e, _⟩ := a4; exact ⟨o, e⟩
        · cases b
          · obtain ⟨o, e, _⟩ := a5; exact ⟨o, e⟩
          · obtain ⟨o, e, _⟩ := a5; exact ⟨o, e⟩
      exact hne c (Heap.lt_size ho)
    rw [upd_ne hbT]; exact (hf c hb).1
  done := by
    intro X hP hw hK hc i pins s σ H E I hf st hg
    subst hP hw hK
    obtain ⟨xs, ys, hq1, hq2, hlen, hi⟩ := hg
    obtain ⟨its1, rv1, p1, _⟩ := I.tuple hq1
    obtain ⟨its2, rv2, p2⟩ := I.sqX hq2
    obtain ⟨a1, a2, a3, a4, a5⟩ := st
    have hn1 : its1.toArray.size = xs.length := by rw [List.size_toArray, rv1.length]
    have hn2 : its2.toArray.size = xs.length := by rw [List.size_toArray, ← rv2.length, hlen]
    have D1 := draws_tup (prog := X.prog) (w := X.w) (A := X.A.in1) (I.ok.hd hc) k l1 (Nat.ne_of_lt h1) its1.toArray
    have D2 := draws_X (prog := X.prog) (w := X.w) (A := X.A.in1) b (I.ok.hd hc) (k + 1) l2 (Nat.ne_of_lt (Nat.lt_succ_of_lt h2)) its2.toArray
    rw [hn1] at D1
    rw [hn2] at D2
    subst hi
    have W := walk_zip D1 D2 (zap_new h1 h2)
    have sub : ∀ c, c ∈ [k + 4, k + 3, k, k + 1] → c ∈ [k + 4, k + 2, k + 3, k, k + 1] := fun c hc => by
      simp only [List.mem_cons, List.not_mem_nil, or_false] at hc ⊢
      rcases hc with z | z | z | z <;> simp [z]
    refine W.done s _ _ ⟨a1, a2, a3, ⟨a4, p1⟩, ⟨a5, p2⟩⟩ fun h' tk kk => ⟨rfl, ?_⟩
    exact I.step (g' := s.gens) (d' := s.drawn) (ch := [k + 4, k + 3, k, k + 1]) (fun c hb => let ⟨f0, f1, f2, f3, f4, f5⟩ := hf c (sub c hb); ⟨f3, f1, f4, f5⟩) (fun c o _ _ hc q _ => kk c o hc q) (fun c o _ _ hc q _ => ⟨o.slots, kk c o hc q⟩) (fun c o _ _ n => n) (fun c o hc q => ⟨o, kk c o hc q⟩)
        (fun _ _ q => q) (fun _ _ _ q => q) (fun c ps q => ⟨#[], by rw [q]; simp⟩) (fun m hm => let ⟨o, es, ep, ho, r⟩ := hm; ⟨o, es, ep, kk _ o (fun z => (hf _ (sub _ z)).2.1 rfl) ho, r⟩)
        (fun c u q => (I.hok c u q).stay (fun d v hd r => kk d v (fun z => by
          rcases hd with rfl | hd
          · rw [(hf _ (sub _ z)).1] at q; cases q
          · rw [(hf _ (sub _ z)).1] at hd; cases hd) r) (fun _ r => r) fun _ _ r => r) I.bare
  self := fun A i s Q E st h => wpAny_pyIter_zip st.1 h
section
variable {X : Cx} {elts : List Expr} {ek : Nat} {epos : Pos}
def iZip (K : PySem.W.Frag) (ta : TA) : TI := fun σ H R => ta σ H fun vs H1 => ∃ (b : Bool) (l1 l2 : Addr) (xs ys : List V), vs = [.ref l1, .ref l2] ∧ SqT K H1 l1 xs ∧ SqX b K H1 l2 ys ∧ R (Itz b K l1 l2) H1
theorem pi_zip {a c : Expr} {ta : TA} {p pos : Pos} (hg : Gl X "zip") (hm : X.mg "zip" = none) (ha : PA X [a, c] ta) (hs : starEach [a, c] X.env = (false, eval a X.env) :: starEach [c] X.env := by rfl) (hp : (backTo pos (starEach [c] X.env)).any (·.1) = false := by rfl) (hb : bootBuiltins "zip" = some (.type "zip") := by decide +kernel) :
    PI X (.Tuple elts ek epos) (.Call (.Name "zip" p) [a, c] [] pos) (iZip X.K ta) := by
  intro pins s σ H R I h
  refine Call_ (ld_blt I hg hm hb (PyProof.Rows.callWith_type1 (thn (ha pos pins s σ H _ I h) fun us s1 ⟨vs, H1, I1, r1, q1⟩ => ?_) hs hp))
  obtain ⟨b, l1, l2, xs, ys, rfl, hq1, hq2, q⟩ := q1
  obtain ⟨u, v, rfl, ru, rv⟩ := r1.two
  cases ru
  cases rv
  obtain ⟨its1, rv1, p1, _⟩ := I1.tuple hq1
  obtain ⟨its2, rv2, p2⟩ := I1.sqX hq2
  have lt1 : l1 < s1.heap.objs.size := by obtain ⟨_, e, _⟩ := p1; exact Heap.lt_size e
  have lt2 : l2 < s1.heap.objs.size := by
    cases b
    · obtain ⟨_, e, _⟩ := p2; exact Heap.lt_size e
    · obtain ⟨_, e, _⟩ := p2; exact Heap.lt_size e
  have fin : ∀ h2, ZNew s1.heap h2 "tuple_iterator" l1 (cX b) l2 → wpAny (model X.prog X.w) X.A (pyIter (.ref (s1.heap.objs.size + 4))) (PIE X pins σ (.Tuple elts ek epos) R) X.xe { s1 with heap := h2 } := fun h2 N => by
    refine wpAny_pyIter_zip (s := { s1 with heap := h2 }) N.zip ?_
    refine ⟨_, _, _, _, H1, rfl, I1.kept (t' := s1.toks) N.keep, turn_zip b lt1 lt2, ⟨N.zip, N.its, ⟨_, _, N.own⟩, ⟨_, N.i1, rfl, rfl⟩, ?_⟩, fun c hc => ?_, q⟩
    · cases b
      · exact ⟨_, N.i2, rfl, rfl⟩
      · exact ⟨_, N.i2, rfl, rfl⟩
    · have e : s1.heap.objs.size ≤ c := by
        simp only [List.mem_cons, List.not_mem_nil, or_false] at hc
        rcases hc with rfl | rfl | rfl | rfl | rfl
        · exact Nat.le_add_right _ _
        · exact Nat.le_add_right _ _
        · exact Nat.le_add_right _ _
        · exact Nat.le_refl _
        · exact Nat.le_add_right _ _
      exact I1.fpOk e (I1.hok.fresh e)
  cases b
  · exact call_zip_tt p1 p2 fin
  · exact call_zip_tl p1 p2 fin
end
end L2
set_option Elab.async false
set_option linter.all false
set_option maxRecDepth 100000
set_option maxHeartbeats 4000000
/-! dicts compared: of unlike sizes, or the same keys in the same order and alike values -/
namespace L2
open PySem PySem.Spec PyProof.Rows
section
variable {prog : Program} {w : World} {A : Around} {E : Value → Shared → Prop} {s : Shared} {a b : Addr} {oa ob : Obj} {ea eb : Array DictEntry} {pa pb : Nat}
theorem shows {d : Addr} {Q : Unit → Shared → Prop} (hd : (d == sysModules) = false) (h : Q () s) : wpAny (model prog w) A (Builtin.Dict.showsAll d) Q E s := by
  unfold Builtin.Dict.showsAll
  rw [if_neg (by rw [hd]; exact Bool.false_ne_true)]
  exact wpAny_pure h
theorem sp_diff {id : String} {Q : Bool → Shared → Prop} (sa : (a == sysModules) = false) (sb : (b == sysModules) = false) (ha : s.heap.get? a = some oa) (da : oa.data = .dict ea pa) (hb : s.heap.get? b = some ob) (db : ob.data = .dict eb pb)
    (hne : (ea.size != eb.size) = true) (q : Q false s) : wpAny (model prog w) A (Builtin.Dict.samePairs id a b) Q E s := by
  unfold Builtin.Dict.samePairs
  refine wpAny_bind (shows sa (wpAny_bind (shows sb ?_)))
  refine wpAny_bind (wpAny_dictEntries ha da ?_)
  refine wpAny_bind (wpAny_dictEntries hb db ?_)
  rw [if_pos hne]
  exact wpAny_bind (wpAny_rule (wpAny_pure q))
theorem sp_same {K : Type} [DecidableEq K] {knd : KeyKind prog w K} {id : String} {Q : Bool → Shared → Prop} (sa : (a == sysModules) = false) (sb : (b == sysModules) = false) (ha : s.heap.get? a = some oa) (da : oa.data = .dict ea pa) (hb : s.heap.get? b = some ob) (db : ob.data = .dict eb pb)
    (hk : KeysOf knd eb) (hsz : ea.size = eb.size)
    (hv : ∀ i (h1 : i < ea.size) (h2 : i < eb.size), ∃ k, knd.is k ea[i].key = true ∧ ea[i].hash = knd.hash k ∧ (eb.findIdx? fun e => knd.is k e.key) = some i ∧ SeqAt.EqAt A s ea[i].val eb[i].val true) (q : Q true s) :
    wpAny (model prog w) A (Builtin.Dict.samePairs id a b) Q E s := by
  unfold Builtin.Dict.samePairs
  refine wpAny_bind (shows sa (wpAny_bind (shows sb ?_)))
  refine wpAny_bind (wpAny_dictEntries ha da ?_)
  refine wpAny_bind (wpAny_dictEntries hb db ?_)
  rw [if_neg (by simp [hsz])]
  refine wpAny_bind (wpAny_dictEpoch ha da ?_)
  refine wpAny_bind ?_
  rw [Std.Legacy.Range.forIn_eq_forIn_range']
  simp only [Std.Legacy.Range.size, Nat.sub_zero, Nat.add_sub_cancel, Nat.div_one]
  refine wpAny_forIn_list _ (fun rest r s2 => ∃ i, rest = List.range' i (ea.size - i) ∧ i ≤ ea.size ∧ r.1 = none ∧ s2 = s) _ ?_ ?_ _ _ ⟨0, by simp, Nat.zero_le _, rfl, rfl⟩
  · rintro x rest r s2 ⟨i, hr, hi, hr1, rfl⟩
    have hlt : i < ea.size := by
      rcases Nat.lt_or_ge i ea.size with h | h
      · exact h
      · rw [Nat.sub_eq_zero_of_le h] at hr; simp at hr
    obtain ⟨rfl, hrest⟩ : x = i ∧ rest = List.range' (i + 1) (ea.size - (i + 1)) := by
      have e : ea.size - i = (ea.size - (i + 1)) + 1 := by omega
      rw [e, List.range'_succ] at hr
      injection hr with h1 h2
      exact ⟨h1, h2⟩
    have hltb : x < eb.size := by omega
    obtain ⟨k, k1, k2, k3, k4⟩ := hv x hlt hltb
    refine wpAny_bind (wpAny_dictEntries ha da ?_)
    rw [Array.getElem?_eq_getElem hlt]
    refine wpAny_bind (wpAny_holding ?_)
    rw [k2]
    refine wpAny_bind (wpAny_dictFind_of k1 hb db hk ?_)
    rw [k3]
    refine wpAny_bind (wpAny_dictEntries hb db ?_)
    rw [Array.getElem?_eq_getElem hltb]
    refine wpAny_holding (k4 prog w _ _ ?_)
    rw [if_neg (by decide)]
    refine wpAny_bind (wpAny_dictEpoch ha da ?_)
    rw [if_neg (by simp)]
    exact wpAny_pure ⟨x + 1, hrest, hlt, rfl, rfl⟩
  · rintro r s2 ⟨i, hr, hi, hr1, rfl⟩
    rw [hr1]
    exact wpAny_pure q
theorem eq_meet (wanted : Bool) {k : Bool} {R : Result → Shared → Prop} (ha : s.TypeIs (.ref a) "dict") (hb : s.TypeIs (.ref b) "dict")
    (hs : ∀ (id : String) (Q : Bool → Shared → Prop), Q k s → wpAny (model prog w) A.in1 (Builtin.Dict.samePairs id a b) Q (fun e s2 => R (.error e) s2) s) (h : R (.ok (.ret (.bool (k == wanted)))) s) :
    wpAny (model prog w) A.in1 ((if wanted then Builtin.«dict.__eq__» else Builtin.«dict.__ne__») ⟨[.ref a, .ref b], []⟩)
      (fun fin s2 => match fin with | .done f => R (.ok f) s2 | .again c2 => c2.quiet = true ∧ codeAny (model prog w) A c2 R s2) (fun e s2 => R (.error e) s2) s := by
  cases wanted
  · rw [if_neg (by decide)]
    unfold Builtin.«dict.__ne__»
    wp_delta
    unfold Builtin.Dict.dictSlotArgs
    refine wpAny_bind (wpAny_bind (wpAny_notOrdered_dict ha ?_))
    refine wpAny_bind (wpAny_of_eq (a := (Value.ref a, [Value.ref b])) rfl (wpAny_pure ?_))
    refine wpAny_bind (wpAny_isInstance (T := "dict") (b := true) hb (by rw [isSubtype_type]; kernel_rfl) ?_)
    rw [if_neg (by decide)]
    refine wpAny_bind (wpAny_pure (wpAny_bind (wpAny_pure (wpAny_bind (hs _ _ ?_)))))
    exact wpAny_pure h
  · rw [if_pos rfl]
    unfold Builtin.«dict.__eq__»
    wp_delta
    unfold Builtin.Dict.dictSlotArgs
    refine wpAny_bind (wpAny_bind (wpAny_notOrdered_dict ha ?_))
    refine wpAny_bind (wpAny_of_eq (a := (Value.ref a, [Value.ref b])) rfl (wpAny_pure ?_))
    refine wpAny_bind (wpAny_isInstance (T := "dict") (b := true) hb (by rw [isSubtype_type]; kernel_rfl) ?_)
    rw [if_neg (by decide)]
    refine wpAny_bind (wpAny_pure (wpAny_bind (wpAny_pure (wpAny_bind (hs _ _ ?_)))))
    exact wpAny_pure h
theorem dict_eq {k : Bool} {Q : Value → Shared → Prop} (hu : A.units < cLine) (ha : s.TypeIs (.ref a) "dict") (hb : s.TypeIs (.ref b) "dict")
    (hs : ∀ (E : Value → Shared → Prop) (id : String) (Q : Bool → Shared → Prop), Q k s → wpAny (model prog w) A.in1 (Builtin.Dict.samePairs id a b) Q E s) (h : Q (.bool (k == true)) s) : wpAny (model prog w) A (richCompare .Eq (.ref a) (.ref b)) Q E s :=
  wpAny_richCompare_same_room ha hb PySem.F.slot_dict_eq (wpAny_call (codeAny_call_builtin PySem.F.slot_dict_eq.plain PySem.F.entry_dict_eq (PySem.F.slot_dict_eq.check _ _ _ _ _ _ _ _ ha (PySem.F.args_dict_eq_2 _ _)
    (eq_meet (R := fun r s2 => match r with | .ok (.ret v) => v ≠ .notImplemented ∧ Q v s2 | .ok _ => False | .error e => E e s2) true ha hb (fun id Q q => hs _ id Q q) ⟨(fun z => nomatch z), h⟩)))) hu
theorem dict_ne {k : Bool} {Q : Value → Shared → Prop} (hu : A.units < cLine) (ha : s.TypeIs (.ref a) "dict") (hb : s.TypeIs (.ref b) "dict")
    (hs : ∀ (E : Value → Shared → Prop) (id : String) (Q : Bool → Shared → Prop), Q k s → wpAny (model prog w) A.in1 (Builtin.Dict.samePairs id a b) Q E s) (h : Q (.bool (k == false)) s) : wpAny (model prog w) A (richCompare .NotEq (.ref a) (.ref b)) Q E s :=
  wpAny_richCompare_same_room ha hb PySem.F.slot_dict_ne (wpAny_call (codeAny_call_builtin PySem.F.slot_dict_ne.plain PySem.F.entry_dict_ne (PySem.F.slot_dict_ne.check _ _ _ _ _ _ _ _ ha (PySem.F.args_dict_ne_2 _ _)
    (eq_meet (R := fun r s2 => match r with | .ok (.ret v) => v ≠ .notImplemented ∧ Q v s2 | .ok _ => False | .error e => E e s2) false ha hb (fun id Q q => hs _ id Q q) ⟨(fun z => nomatch z), h⟩)))) hu
end
end L2
set_option Elab.async false
set_option linter.all false
set_option maxRecDepth 100000
set_option maxHeartbeats 4000000
/-! for k in a dict: from then on the dict is read alone -/
namespace L2
open PySem PySem.Spec PyProof.Rows
section
variable {X : Cx} {pins : List (Addr × Obj)} {σ : St} {H : Hp} {s : Shared}
theorem Inv.freeze {d : Addr} {o : Obj} {ks : List (Key × V)} (I : Inv X pins σ H s) (hd : H d = some (.dK ks)) (ho : s.heap.get? d = some o) : Inv X pins σ (upd H d (.frz o (.dK ks))) s := by
  have ne : ∀ {b : Addr} {u : HO}, H b = some u → u ≠ .dK ks → b ≠ d := fun q n e => by subst e; rw [hd] at q; exact n (Option.some.inj q).symm
  have nn : ∀ {b : Addr}, H b = none → b ≠ d := fun q e => by subst e; rw [hd] at q; cases q
  refine I.step (h' := s.heap) (g' := s.gens) (d' := s.drawn) (t' := s.toks) (ch := []) (fun _ z => nomatch z) (fun b o _ _ _ e _ => e) (fun b o _ _ _ e _ => ⟨o.slots, e⟩) (fun b o _ _ n => by rw [upd_ne (nn n)]; exact n) (fun b o _ e => ⟨o, e⟩)
    (fun b xs q => by rw [upd_ne (ne q (fun z => nomatch z))]; exact q) (fun b o u q => by rw [upd_ne (ne q (fun z => nomatch z))]; exact q) (fun b ps q => ⟨#[], by rw [upd_ne (ne q (fun z => nomatch z)), q]; simp⟩) (fun m hm => hm) (fun b u q => ?_) I.bare
  have ow : ∀ {a c : Addr}, H c = some (.own a) → upd H d (.frz o (.dK ks)) c = some (.own a) := fun q => by rw [upd_ne (ne q (fun z => nomatch z))]; exact q
  have tu : ∀ {c : Addr} {xs : List V}, H c = some (.tup xs) → upd H d (.frz o (.dK ks)) c = some (.tup xs) := fun q => by rw [upd_ne (ne q (fun z => nomatch z))]; exact q
  by_cases hb : b = d
  · subst hb
    rw [upd_same] at q; cases q
    exact ⟨ho, (I.hok b _ hd).stay (fun c v _ r => r) (fun c r => ow r) fun c xs r => tu r⟩
  · rw [upd_ne hb] at q
    exact (I.hok b u q).stay (fun c v _ r => r) (fun c r => ow r) fun c xs r => tu r
end
theorem is_kV {P : Program} {w : World} {k : Key} {u : Value} (h : (mixKind P w).is k u = true) : RelV (kV k) u := by
  rcases keyIs_shape (show keyIs k u = true from h) with ⟨i, t, rfl, rfl⟩ | ⟨x, t, rfl, rfl⟩
  · exact ⟨t, rfl⟩
  · exact ⟨t, rfl⟩
def Itd (o : Obj) (d : Addr) (ks : List (Key × V)) : It :=
  ⟨fun i H => H d = some (.frz o (.dK ks)) ∧ i < ks.length, fun i H x H' => H' = H ∧ ∃ kv, ks[i]? = some kv ∧ x = kV kv.1, fun i H => H d = some (.frz o (.dK ks)) ∧ i = ks.length⟩
theorem turn_dict {P : Program} {w : World} {K : PySem.W.Frag} {tg : Expr} {d it : Addr} {o : Obj} {es : Array DictEntry} {ep : Nat} {ks : List (Key × V)} (hod : o.data = .dict es ep) :
    Turn P w K tg (Itd o d ks) [it] it (fun i h => h.IsKeyIter it d i ks.length ep) where
  mem := by simp
  obj := fun i h st b hb => by
    have e : b = it := by simpa using hb
    subst e
    obtain ⟨o, e, c, d⟩ := st
    exact ⟨o, e, fun v z => by rw [d] at z; cases z⟩
  keep := fun i h h' st k => st.at fun o e => k it (by simp) o e
  item := by
    intro X hP hw hK hc i pins s σ H E I hf st hg
    subst hP hw hK
    obtain ⟨hH, hi⟩ := hg
    obtain ⟨ho, z, sm, vs, rel, o', es', ep', e', xd, dd, kk, pp, nn⟩ := (show ObjOk X.prog X.w H s.heap d (.frz o (.dK ks)) from I.hok d _ hH)
    rw [ho] at e'
    cases e'
    rw [hod] at dd
    cases dd
    have hD : s.heap.DictAt (mixKind X.prog X.w) d vs ep := ⟨o, es, ho, xd, hod, kk, pp, nn⟩
    have hl : ks.length = vs.length := rel.length
    have hx : vs[i]? = some (vs[i]'(by omega)) := by simp [show i < vs.length by omega]
    have hk : ks[i]? = some ks[i] := by simp [hi]
    have hkeys := rel.keys
    have ek : ks[i].1 = (vs[i]'(by omega)).1 := by
      have h1 : (ks.map (·.1))[i]? = some ks[i].1 := by rw [List.getElem?_map, hk]; rfl
      have h2 : (vs.map (·.1))[i]? = some (vs[i]'(by omega)).1 := by rw [List.getElem?_map, hx]; rfl
      rw [hkeys, h2] at h1
      exact (Option.some.inj h1).symm
    obtain ⟨f0, f1, f2, f3, f4, f5⟩ := hf it (by simp)
    rw [hl] at st
    refine wpAny_pyNext_dict_item st hD (k := (vs[i]'(by omega)).1) (v := (vs[i]'(by omega)).2) hx fun key h' hkey st' sb => ?_
    have I1 : Inv X pins σ H { s with heap := h' } := I.turned (t' := s.toks) (fun b o hb e => (sb.2 b hb).trans e) f0 f1 f3 f4 f5
    obtain ⟨o2, e2, c2, d2⟩ := id st'
    rw [← hl] at st'
    refine ⟨key, rfl, go_of (s := { s with heap := h' }) e2 c2 d2 (by decide) ⟨kV ks[i].1, H, I1, ?_, ⟨rfl, ks[i], hk, rfl⟩, st', fun b hb => (hf b hb).1⟩⟩
    rw [ek]
    exact is_kV hkey
  done := by
    intro X hP hw hK hc i pins s σ H E I hf st hg
    subst hP hw hK
    obtain ⟨hH, hi⟩ := hg
    obtain ⟨ho, z, sm, vs, rel, o', es', ep', e', xd, dd, kk, pp, nn⟩ := (show ObjOk X.prog X.w H s.heap d (.frz o (.dK ks)) from I.hok d _ hH)
    rw [ho] at e'
    cases e'
    rw [hod] at dd
    cases dd
    have hD : s.heap.DictAt (mixKind X.prog X.w) d vs ep := ⟨o, es, ho, xd, hod, kk, pp, nn⟩
    have hl : ks.length = vs.length := rel.length
    obtain ⟨f0, f1, f2, f3, f4, f5⟩ := hf it (by simp)
    rw [hl] at st
    exact wpAny_pyNext_dict_end (I.ok.hd hc) st hD (by simp; omega) fun h' eb => ⟨rfl, I.turned (t' := s.toks) (fun b o hb e => eb b o hb e) f0 f1 f3 f4 f5⟩
  self := fun _ _ _ _ _ st h => wpAny_pyIter_keyiter st h
section
variable {X : Cx} {tg e : Expr}
/-- for k in e, e a dict -/
def iDic (td : TE) : TI := fun σ H R => td σ H fun x H1 => ∃ d ks, x = .ref d ∧ Rd H1 d (.dK ks) ∧ ∀ o, (∀ o', H1 d = some (.frz o' (.dK ks)) → o' = o) → R (Itd o d ks) (upd H1 d (.frz o (.dK ks)))
theorem pi_dict {td : TE} (he : PE X e td) : PI X tg e (iDic td) := by
  intro pins s σ H R I h
  refine thn (he pins s σ H _ I h) fun v s1 ⟨x, H1, I1, r1, q1⟩ => ?_
  obtain ⟨d, ks, rfl, hr, q⟩ := q1
  cases r1
  obtain ⟨z, sm, vs, rel, o, es, ep, ho, xd, dd, kk, pp, nn⟩ := dk_rd I1.hok hr
  have hD : s1.heap.DictAt (mixKind X.prog X.w) d vs ep := ⟨o, es, ho, xd, dd, kk, pp, nn⟩
  have hl : ks.length = vs.length := rel.length
  have huniq : ∀ o', H1 d = some (.frz o' (.dK ks)) → o' = o := fun o' e => by
    have := (show ObjOk X.prog X.w H1 s1.heap d (.frz o' (.dK ks)) from I1.hok d _ e).1
    rw [ho] at this; exact (Option.some.inj this).symm
  have I2 : Inv X pins σ (upd H1 d (.frz o (.dK ks))) s1 := by
    rcases hr with hr | ⟨o', hr⟩
    · exact I1.freeze hr ho
    · have e := huniq o' hr
      subst e
      have : upd H1 d (.frz o' (.dK ks)) = H1 := by
        funext b
        by_cases hb : b = d
        · subst hb; rw [upd_same, hr]
        · rw [upd_ne hb]
      rw [this]; exact I1
  refine wpAny_pyIter_dict sm hD ?_
  refine ⟨s1.heap.objs.size, [s1.heap.objs.size], _, _, _, rfl, I2.kept (t' := s1.toks) fun b o e => Heap.get?_push_of_some _ e, turn_dict dd, ?_, fun b hb => ?_, q o huniq⟩
  · rw [hl]
    exact ⟨_, Heap.get?_push_size _ rfl, rfl, rfl⟩
  · have e : b = s1.heap.objs.size := by simpa using hb
    subst e
    exact I2.fpOk (Nat.le_refl _) (I2.hok.fresh (Nat.le_refl _))
end
end L2
set_option Elab.async false
set_option linter.all false
set_option maxRecDepth 100000
set_option maxHeartbeats 4000000
/-! a second level over the layer: tuples are values, lists and objects stand in a heap of their own; what a def does is a wish transformer over these -/
namespace WL
open PySem PySem.Spec PyProof.Rows L2
inductive T where
  | non | bl (b : Bool) | int (i : Int) | str (x : Str) | tup (xs : List T)
  /-- a list, a dict, an object of ours -/
  | ref (a : Addr)
  /-- a list that nobody changes (the script, a list of the module) -/
  | cl (xs : List T)
inductive O where
  | lst (xs : List T)
  | dic (kvs : List (Key × T))
  | ins (cn : Str) (fs : List (Str × T))
  /-- a dict that is read alone -/
  | fdic (kvs : List (Key × T))
abbrev Hw := Addr → Option O
def up (C : Hw) (a : Addr) (o : O) : Hw := fun b => if b = a then some o else C b
theorem up_same {C : Hw} {a : Addr} {o : O} : up C a o a = some o := by unfold up; rw [if_pos rfl]
theorem up_ne {C : Hw} {a b : Addr} {o : O} (h : b ≠ a) : up C a o b = C b := by unfold up; rw [if_neg h]
theorem up_up {C : Hw} {a : Addr} {o u : O} : up (up C a o) a u = up C a u := by
  funext b; unfold up; split <;> rfl
/-! ### how a value stands in the abstract heap -/
def SqC (K : PySem.W.Frag) (H : Hp) (a : Addr) (xs : List V) : Prop :=
  (∃ o, H a = some (.frz o (.lst xs))) ∨
    ∃ (o : Obj) (its : Array Value) (n : Nat), K.lookup a = some o ∧ o.cls = .type "list" ∧ o.dict = none ∧ o.data = .seq its n ∧ its.size ≤ sizeLine ∧ Vals xs its.toList
theorem SqC.sq {K : PySem.W.Frag} {H : Hp} {a : Addr} {xs : List V} (h : SqC K H a xs) : SqL K H a xs := by
  rcases h with ⟨o, h⟩ | h
  · exact .inl (.inr ⟨o, h⟩)
  · exact .inr h
mutual
def Rep (K : PySem.W.Frag) (H : Hp) (x : V) : T → Prop
  | .non => x = .non
  | .bl b => x = .bl b
  | .int i => x = .int i
  | .str z => x = .str z
  | .ref a => x = .ref a
  | .tup ts => ∃ a ys, x = .ref a ∧ SqT K H a ys ∧ Reps K H ys ts
  | .cl ts => ∃ a ys, x = .ref a ∧ SqC K H a ys ∧ Reps K H ys ts
def Reps (K : PySem.W.Frag) (H : Hp) (ys : List V) : List T → Prop
  | [] => ys = []
  | t :: ts => ∃ y r, ys = y :: r ∧ Rep K H y t ∧ Reps K H r ts
end
def Stb : HO → Prop
  | .tup _ => True
  | .frz _ _ => True
  | _ => False
/-- tuples and frozen things stay -/
def Tx (H H' : Hp) : Prop := ∀ b o, H b = some o → Stb o → H' b = some o
theorem Tx.refl (H : Hp) : Tx H H := fun _ _ h _ => h
theorem Tx.trans {H H1 H2 : Hp} (a : Tx H H1) (b : Tx H1 H2) : Tx H H2 := fun c o h n => b c o (a c o h n) n
theorem Tx.new {H : Hp} {p : Addr} {o : HO} (h : H p = none) : Tx H (upd H p o) := fun b u q _ => by rw [upd_ne (ne_of_none q h)]; exact q
theorem Tx.put {H : Hp} {p : Addr} {o u : HO} (h : H p = some o) (n : ¬ Stb o) : Tx H (upd H p u) := fun b v q s => by
  by_cases e : b = p
  · subst e; rw [h] at q; cases q; exact absurd s n
  · rw [upd_ne e]; exact q
theorem Tx.sqt {K : PySem.W.Frag} {H H' : Hp} (t : Tx H H') {a : Addr} {xs : List V} (h : SqT K H a xs) : SqT K H' a xs := by
  rcases h with (h | ⟨o, h⟩) | h
  · exact .inl (.inl (t _ _ h trivial))
  · exact .inl (.inr ⟨o, t _ _ h trivial⟩)
  · exact .inr h
theorem Tx.sqc {K : PySem.W.Frag} {H H' : Hp} (t : Tx H H') {a : Addr} {xs : List V} (h : SqC K H a xs) : SqC K H' a xs := by
  rcases h with ⟨o, h⟩ | h
  · exact .inl ⟨o, t _ _ h trivial⟩
  · exact .inr h
mutual
theorem Rep.tx {K : PySem.W.Frag} {H H' : Hp} (t : Tx H H') {x : V} : ∀ {v : T}, Rep K H x v → Rep K H' x v
  | .non, h => by simpa [Rep] using h
  | .bl b, h => by simpa [Rep] using h
  | .int i, h => by simpa [Rep] using h
  | .str z, h => by simpa [Rep] using h
  | .ref a, h => by simpa [Rep] using h
  | .tup ts, h => by
    unfold Rep at h ⊢
    obtain ⟨a, ys, e, q, r⟩ := h
    exact ⟨a, ys, e, t.sqt q, Reps.tx t r⟩
  | .cl ts, h => by
    unfold Rep at h ⊢
    obtain ⟨a, ys, e, q, r⟩ := h
    exact ⟨a, ys, e, t.sqc q, Reps.tx t r⟩
theorem Reps.tx {K : PySem.W.Frag} {H H' : Hp} (t : Tx H H') {ys : List V} : ∀ {vs : List T}, Reps K H ys vs → Reps K H' ys vs
  | [], h => by simpa [Reps] using h
  | v :: vs, h => by
    unfold Reps at h ⊢
    obtain ⟨y, r, e, q, s⟩ := h
    exact ⟨y, r, e, Rep.tx t q, Reps.tx t s⟩
end
section
variable {K : PySem.W.Frag} {H : Hp}
theorem rep_int {i : Int} : Rep K H (.int i) (.int i) := by unfold Rep; rfl
theorem rep_str {i : Str} : Rep K H (.str i) (.str i) := by unfold Rep; rfl
theorem rep_bl {i : Bool} : Rep K H (.bl i) (.bl i) := by unfold Rep; rfl
theorem rep_non : Rep K H .non .non := by unfold Rep; rfl
theorem rep_ref {a : Addr} : Rep K H (.ref a) (.ref a) := by unfold Rep; rfl
theorem rep_tup {a : Addr} {ys : List V} {ts : List T} (h : SqT K H a ys) (r : Reps K H ys ts) : Rep K H (.ref a) (.tup ts) := by unfold Rep; exact ⟨a, ys, rfl, h, r⟩
theorem of_int {x : V} {i : Int} (h : Rep K H x (.int i)) : x = .int i := by unfold Rep at h; exact h
theorem of_str {x : V} {i : Str} (h : Rep K H x (.str i)) : x = .str i := by unfold Rep at h; exact h
theorem of_bl {x : V} {i : Bool} (h : Rep K H x (.bl i)) : x = .bl i := by unfold Rep at h; exact h
theorem of_non {x : V} (h : Rep K H x .non) : x = .non := by unfold Rep at h; exact h
theorem of_ref {x : V} {a : Addr} (h : Rep K H x (.ref a)) : x = .ref a := by unfold Rep at h; exact h
theorem of_tup {x : V} {ts : List T} (h : Rep K H x (.tup ts)) : ∃ a ys, x = .ref a ∧ SqT K H a ys ∧ Reps K H ys ts := by unfold Rep at h; exact h
theorem of_cl {x : V} {ts : List T} (h : Rep K H x (.cl ts)) : ∃ a ys, x = .ref a ∧ SqC K H a ys ∧ Reps K H ys ts := by unfold Rep at h; exact h
theorem reps_nil : Reps K H [] [] := by unfold Reps; rfl
theorem reps_cons {y : V} {ys : List V} {t : T} {ts : List T} (a : Rep K H y t) (b : Reps K H ys ts) : Reps K H (y :: ys) (t :: ts) := by unfold Reps; exact ⟨y, ys, rfl, a, b⟩
theorem of_nil {ys : List V} (h : Reps K H ys []) : ys = [] := by unfold Reps at h; exact h
theorem of_cons {ys : List V} {t : T} {ts : List T} (h : Reps K H ys (t :: ts)) : ∃ y r, ys = y :: r ∧ Rep K H y t ∧ Reps K H r ts := by unfold Reps at h; exact h
theorem Reps.length : ∀ {vs : List T} {ys : List V}, Reps K H ys vs → ys.length = vs.length
  | [], _, h => by rw [of_nil h]; rfl
  | _ :: _, _, h => by obtain ⟨y, r, rfl, _, q⟩ := of_cons h; rw [List.length_cons, List.length_cons, q.length]
theorem Reps.get : ∀ {vs : List T} {ys : List V} {i : Nat} {v : T}, Reps K H ys vs → vs[i]? = some v → ∃ y, ys[i]? = some y ∧ Rep K H y v
  | [], _, _, _, _, e => by simp at e
  | _ :: _, _, 0, _, h, e => by obtain ⟨y, r, rfl, a, _⟩ := of_cons h; simp at e; subst e; exact ⟨y, rfl, a⟩
  | _ :: _, _, i + 1, v, h, e => by
    obtain ⟨y, r, rfl, _, q⟩ := of_cons h
    obtain ⟨z, h1, h2⟩ := Reps.get (i := i) (v := v) q (by simpa using e)
    exact ⟨z, by simpa using h1, h2⟩
theorem Reps.get' : ∀ {vs : List T} {ys : List V} {i : Nat} {y : V}, Reps K H ys vs → ys[i]? = some y → ∃ v, vs[i]? = some v ∧ Rep K H y v := fun {vs ys i y} h e => by
  have hl := h.length
  have hi : i < ys.length := (List.getElem?_eq_some_iff.mp e).1
  have hv : vs[i]? = some (vs[i]'(by omega)) := by simp [hl ▸ hi]
  obtain ⟨z, h1, h2⟩ := h.get hv
  rw [e] at h1; cases h1
  exact ⟨_, hv, h2⟩
theorem Reps.app : ∀ {vs ws : List T} {ys zs : List V}, Reps K H ys vs → Reps K H zs ws → Reps K H (ys ++ zs) (vs ++ ws)
  | [], _, _, _, h, q => by rw [of_nil h]; exact q
  | _ :: _, _, _, _, h, q => by obtain ⟨y, r, rfl, a, b⟩ := of_cons h; exact reps_cons a (b.app q)
theorem Reps.take : ∀ (n : Nat) {vs : List T} {ys : List V}, Reps K H ys vs → Reps K H (ys.take n) (vs.take n)
  | 0, _, _, _ => by simpa using reps_nil
  | _ + 1, [], _, h => by rw [of_nil h]; exact reps_nil
  | n + 1, _ :: _, _, h => by obtain ⟨y, r, rfl, a, b⟩ := of_cons h; exact reps_cons a (b.take n)
theorem Reps.drop : ∀ (n : Nat) {vs : List T} {ys : List V}, Reps K H ys vs → Reps K H (ys.drop n) (vs.drop n)
  | 0, _, _, h => h
  | _ + 1, [], _, h => by rw [of_nil h]; exact reps_nil
  | n + 1, _ :: _, _, h => by obtain ⟨y, r, rfl, a, b⟩ := of_cons h; exact b.drop n
theorem Reps.erase : ∀ (n : Nat) {vs : List T} {ys : List V}, Reps K H ys vs → Reps K H (ys.eraseIdx n) (vs.eraseIdx n)
  | _, [], _, h => by rw [of_nil h]; exact reps_nil
  | 0, _ :: _, _, h => by obtain ⟨y, r, rfl, a, b⟩ := of_cons h; exact b
  | n + 1, _ :: _, _, h => by obtain ⟨y, r, rfl, a, b⟩ := of_cons h; exact reps_cons a (b.erase n)
theorem Reps.dropLast {vs : List T} {ys : List V} (h : Reps K H ys vs) : Reps K H ys.dropLast vs.dropLast := by
  rw [List.dropLast_eq_take, List.dropLast_eq_take, h.length]; exact h.take _
theorem Reps.snoc {vs : List T} {ys : List V} {y : V} {v : T} (h : Reps K H ys vs) (q : Rep K H y v) : Reps K H (ys ++ [y]) (vs ++ [v]) := h.app (reps_cons q reps_nil)
theorem Reps.at {vs : List T} {ys : List V} {i : Int} {v : T} (h : Reps K H ys vs) (e : atI vs i = some v) : ∃ y, atI ys i = some y ∧ Rep K H y v := by
  unfold atI at e ⊢
  rw [h.length]
  cases q : ixN vs.length i with
  | none => rw [q] at e; cases e
  | some j =>
    rw [q] at e
    exact h.get e
theorem reps_ints : ∀ ns : List Int, Reps K H (ns.map V.int) (ns.map T.int)
  | [] => reps_nil
  | n :: r => reps_cons rep_int (reps_ints r)
end
/-! ### two heaps -/
abbrev PR (K : PySem.W.Frag) (H : Hp) {κ : Type} (kvs : List (κ × V)) (kws : List (κ × T)) : Prop := PySem.Paired (fun p q => p.1 = q.1 ∧ Rep K H p.2 q.2) kvs kws
def ORel (K : PySem.W.Frag) (H : Hp) (a : Addr) : O → Prop
  | .lst xs => ∃ ys, H a = some (.lst ys) ∧ Reps K H ys xs
  | .dic kvs => ∃ ks, H a = some (.dK ks) ∧ PR K H ks kvs
  | .ins cn fs => ∃ Cl dx ks, PySem.W.nsIn K mainGlobals cn = some (some (.ref Cl)) ∧ H a = some (.ins Cl dx ks) ∧ PR K H ks fs
  | .fdic kvs => ∃ ks, Rd H a (.dK ks) ∧ PR K H ks kvs
def O.wr : O → Prop
  | .fdic _ => False
  | _ => True
structure Rl (K : PySem.W.Frag) (F H : Hp) (C : Hw) : Prop where
  obj : ∀ a o, C a = some o → ORel K H a o
  frm : ∀ a o, F a = some o → H a = some o ∧ C a = none
theorem pr_tx {K : PySem.W.Frag} {H H' : Hp} (t : Tx H H') {κ : Type} {ks : List (κ × V)} {kvs : List (κ × T)} (h : PR K H ks kvs) : PR K H' ks kvs := L2.Paired.mapP h fun _ _ z => ⟨z.1, z.2.tx t⟩
theorem ORel.stay {K : PySem.W.Frag} {H H' : Hp} {a : Addr} {o : O} (h : ORel K H a o) (t : Tx H H') (e : H' a = H a) : ORel K H' a o := by
  cases o with
  | lst xs => obtain ⟨ys, q, r⟩ := h; exact ⟨ys, e.trans q, r.tx t⟩
  | dic kvs => obtain ⟨ys, q, r⟩ := h; exact ⟨ys, e.trans q, pr_tx t r⟩
  | ins C fs => obtain ⟨Cl, dx, ys, n, q, r⟩ := h; exact ⟨Cl, dx, ys, n, e.trans q, pr_tx t r⟩
  | fdic kvs =>
    obtain ⟨ys, q, r⟩ := h
    refine ⟨ys, ?_, pr_tx t r⟩
    rcases q with q | ⟨o, q⟩
    · exact .inl (e.trans q)
    · exact .inr ⟨o, e.trans q⟩
theorem ORel.some {K : PySem.W.Frag} {H : Hp} {a : Addr} {o : O} (h : ORel K H a o) (wr : o.wr) : ∃ u, H a = some u ∧ ¬ Stb u := by
  cases o with
  | fdic kvs => exact wr.elim
  | lst xs => obtain ⟨ys, q, r⟩ := h; exact ⟨_, q, fun z => z⟩
  | dic kvs => obtain ⟨ys, q, r⟩ := h; exact ⟨_, q, fun z => z⟩
  | ins C fs => obtain ⟨Cl, dx, ys, n, q, r⟩ := h; exact ⟨_, q, fun z => z⟩
theorem ORel.here {K : PySem.W.Frag} {H : Hp} {a : Addr} {o : O} (h : ORel K H a o) : ∃ u, H a = Option.some u := by
  cases o with
  | fdic kvs =>
    obtain ⟨ys, q, r⟩ := h
    rcases q with q | ⟨o, q⟩
    · exact ⟨_, q⟩
    · exact ⟨_, q⟩
  | lst xs => obtain ⟨ys, q, r⟩ := h; exact ⟨_, q⟩
  | dic kvs => obtain ⟨ys, q, r⟩ := h; exact ⟨_, q⟩
  | ins C fs => obtain ⟨Cl, dx, ys, n, q, r⟩ := h; exact ⟨_, q⟩
section
variable {K : PySem.W.Frag} {F H : Hp} {C : Hw}
theorem Rl.free (R : Rl K F H C) {p : Addr} (h : H p = none) : C p = none := by
  cases e : C p with
  | none => rfl
  | some o => obtain ⟨u, q⟩ := (R.obj p o e).here; rw [h] at q; cases q
theorem Rl.lst (R : Rl K F H C) {a : Addr} {xs : List T} (h : C a = some (.lst xs)) : ∃ ys, H a = some (.lst ys) ∧ Reps K H ys xs := R.obj a _ h
/-- a new object that is seen -/
theorem Rl.new (R : Rl K F H C) {p : Addr} {u : HO} {o : O} (h : H p = none) (r : ORel K (upd H p u) p o) : Rl K F (upd H p u) (up C p o) where
  obj := fun a v e => by
    by_cases q : a = p
    · subst q; rw [up_same] at e; cases e; exact r
    · rw [up_ne q] at e
      exact (R.obj a v e).stay (Tx.new h) (upd_ne q)
  frm := fun a v e => by
    have z := R.frm a v e
    have q : a ≠ p := ne_of_none z.1 h
    rw [upd_ne q, up_ne q]; exact z
/-- a new object that is not seen -/
theorem Rl.hid (R : Rl K F H C) {p : Addr} {u : HO} (h : H p = none) : Rl K F (upd H p u) C where
  obj := fun a v e => by
    obtain ⟨w, q⟩ := (R.obj a v e).here
    exact (R.obj a v e).stay (Tx.new h) (upd_ne (ne_of_none q h))
  frm := fun a v e => by
    have z := R.frm a v e
    rw [upd_ne (ne_of_none z.1 h)]; exact z
/-- an object written over -/
theorem Rl.put (R : Rl K F H C) {p : Addr} {u : HO} {o o' : O} (h : C p = some o) (r : ORel K (upd H p u) p o') (wr : o.wr := by trivial) : Rl K F (upd H p u) (up C p o') ∧ Tx H (upd H p u) := by
  obtain ⟨w, hw, ns⟩ := (R.obj p o h).some wr
  have t : Tx H (upd H p u) := Tx.put hw ns
  refine ⟨⟨fun a v e => ?_, fun a v e => ?_⟩, t⟩
  · by_cases q : a = p
    · subst q; rw [up_same] at e; cases e; exact r
    · rw [up_ne q] at e
      exact (R.obj a v e).stay t (upd_ne q)
  · have z := R.frm a v e
    have q : a ≠ p := fun y => by subst y; rw [h] at z; cases z.2
    rw [upd_ne q, up_ne q]; exact z
theorem Rl.putL (R : Rl K F H C) {p : Addr} {xs xs' : List T} {ys' : List V} (h : C p = some (.lst xs)) (r : Reps K H ys' xs') : Rl K F (upd H p (.lst ys')) (up C p (.lst xs')) ∧ Tx H (upd H p (.lst ys')) := by
  obtain ⟨w, hw, ns⟩ := (R.obj p _ h).some trivial
  exact R.put h ⟨ys', upd_same, r.tx (Tx.put hw ns)⟩
theorem Rl.newL (R : Rl K F H C) {p : Addr} {xs : List T} {ys : List V} (h : H p = none) (r : Reps K H ys xs) : Rl K F (upd H p (.lst ys)) (up C p (.lst xs)) := R.new h ⟨ys, upd_same, r.tx (Tx.new h)⟩
end
/-! ### wishes -/
abbrev Sw := List (Option T)
abbrev WK := T → Hw → Prop
/-- an exception: its class's name, its attributes -/
structure Xn where
  cls : Str
  fs : List (Str × T)
abbrev WX := Xn → Hw → Prop
abbrev WE := Sw → Hw → WK → WX → Prop
abbrev WT := Sw → Hw → (Bool → Hw → Prop) → WX → Prop
abbrev WA := Sw → Hw → (List T → Hw → Prop) → WX → Prop
structure We where
  nx : Sw → Hw → Prop
  rt : WK
  bk : Sw → Hw → Prop := fun _ _ => False
  ct : Sw → Hw → Prop := fun _ _ => False
  xc : WX := fun _ _ => False
abbrev WS := We → Sw → Hw → Prop
abbrev WG := T → Sw → Hw → (Sw → Hw → Prop) → WX → Prop
abbrev WGs := List T → Sw → Hw → (Sw → Hw → Prop) → WX → Prop
/-- what is walked: its items, and what must hold of the heap at each turn -/
abbrev WI := Sw → Hw → (List T → (Hw → Prop) → Hw → Prop) → WX → Prop
abbrev W2 := T → T → Hw → WK → Prop
abbrev Calls := Nat → List T → Hw → WK → WX → Prop
/-! ### what the operations are -/
def eVar (i : Nat) : WE := fun τ C Q _ => ∃ v, τ[i]? = some (some v) ∧ Q v C
def eC (v : T) : WE := fun _ C Q _ => Q v C
def eBin (r : W2) (a b : WE) : WE := fun τ C Q χ => a τ C (fun x C1 => b τ C1 (fun y C2 => r x y C2 Q) χ) χ
def eUn (r : T → Hw → WK → Prop) (a : WE) : WE := fun τ C Q χ => a τ C (fun x C1 => r x C1 Q) χ
def aNil : WA := fun _ C Q _ => Q [] C
def aCons (a : WE) (r : WA) : WA := fun τ C Q χ => a τ C (fun x C1 => r τ C1 (fun xs C2 => Q (x :: xs) C2) χ) χ
def eTup (a : WA) : WE := fun τ C Q χ => a τ C (fun xs C1 => xs.length ≤ sizeLine ∧ Q (.tup xs) C1) χ
def eLst (a : WA) : WE := fun τ C Q χ => a τ C (fun xs C1 => xs.length ≤ sizeLine ∧ ∀ p, C1 p = none → Q (.ref p) (up C1 p (.lst xs))) χ
def eCall (P : Calls) (i : Nat) (a : WA) : WE := fun τ C Q χ => a τ C (fun xs C1 => P i xs C1 Q χ) χ
def eBi (r : List T → Hw → WK → Prop) (a : WA) : WE := fun τ C Q χ => a τ C (fun xs C1 => r xs C1 Q) χ
def eMt (ty : T → Hw → Prop) (r : T → List T → Hw → WK → Prop) (o : WE) (a : WA) : WE := fun τ C Q χ => o τ C (fun x C1 => ty x C1 ∧ a τ C1 (fun xs C2 => r x xs C2 Q) χ) χ
def eIf (c : WT) (a b : WE) : WE := fun τ C Q χ => c τ C (fun k C1 => if k = true then a τ C1 Q χ else b τ C1 Q χ) χ
def eAnd (a b : WE) : WE := fun τ C Q χ => a τ C (fun x C1 => ∃ k, x = .bl k ∧ if k = true then b τ C1 Q χ else Q (.bl false) C1) χ
def eOr (a b : WE) : WE := fun τ C Q χ => a τ C (fun x C1 => ∃ k, x = .bl k ∧ if k = true then Q (.bl true) C1 else b τ C1 Q χ) χ
def eNot (a : WE) : WE := fun τ C Q χ => a τ C (fun x C1 => ∃ k, x = .bl k ∧ Q (.bl (!k)) C1) χ
/-- a value's truth -/
def tru : T → Hw → Bool → Prop
  | .non, _, k => k = false
  | .bl b, _, k => k = b
  | .int i, _, k => k = (i != 0)
  | .str y, _, k => y.length ≤ sizeLine ∧ k = ((y.length : Int) != 0)
  | .tup xs, _, k => k = !xs.isEmpty
  | .cl xs, _, k => k = !xs.isEmpty
  | .ref a, C, k => (∃ xs, C a = some (.lst xs) ∧ k = !xs.isEmpty) ∨ ∃ kvs, C a = some (.dic kvs) ∧ k = !kvs.isEmpty
def tTru (a : WE) : WT := fun τ C Q χ => a τ C (fun x C1 => ∃ k, tru x C1 k ∧ Q k C1) χ
/-- the value is a truth -/
def tBl (a : WE) : WT := fun τ C Q χ => a τ C (fun x C1 => ∃ k, x = .bl k ∧ Q k C1) χ
def tAn (a b : WT) : WT := fun τ C Q χ => a τ C (fun k C1 => if k = true then b τ C1 Q χ else Q false C1) χ
def tOr' (a b : WT) : WT := fun τ C Q χ => a τ C (fun k C1 => if k = true then Q true C1 else b τ C1 Q χ) χ
def tNo (a : WT) : WT := fun τ C Q χ => a τ C (fun k C1 => Q (!k) C1) χ
/-- a op1 b op2 c -/
def eChain (r r' : W2) (a b c : WE) : WE := fun τ C Q χ => a τ C (fun x C1 => b τ C1 (fun y C2 => r x y C2 fun z C3 => ∃ k, z = .bl k ∧ (if k = true then c τ C3 (fun w C4 => r' y w C4 Q) χ else Q (.bl false) C3)) χ) χ
def wAdd : W2
  | .int i, .int j, C, Q => Q (.int (i + j)) C
  | .str i, .str j, C, Q => i.length + j.length ≤ sizeLine ∧ Q (.str (i ++ j)) C
  | .tup xs, .tup ys, C, Q => xs.length + ys.length ≤ sizeLine ∧ Q (.tup (xs ++ ys)) C
  | .ref a, .ref b, C, Q => ∃ xs ys, C a = some (.lst xs) ∧ C b = some (.lst ys) ∧ xs.length + ys.length ≤ sizeLine ∧ ∀ p, C p = none → Q (.ref p) (up C p (.lst (xs ++ ys)))
  | _, _, _, _ => False
def wSub : W2
  | .int i, .int j, C, Q => Q (.int (i - j)) C
  | _, _, _, _ => False
def wMul : W2
  | .int i, .int j, C, Q => CMul i j ∧ Q (.int (i * j)) C
  | _, _, _, _ => False
def wDiv : W2
  | .int i, .int j, C, Q => CDiv i j ∧ Q (.int (i / j)) C
  | _, _, _, _ => False
def wMod : W2
  | .int i, .int j, C, Q => 0 < j ∧ Q (.int (i % j)) C
  | _, _, _, _ => False
def wPow : W2
  | .int i, .int j, C, Q => CPow i j ∧ Q (.int (i ^ j.toNat)) C
  | _, _, _, _ => False
def wNeg : T → Hw → WK → Prop
  | .int i, C, Q => Q (.int (-i)) C
  | _, _, _ => False
def wLt : W2
  | .int i, .int j, C, Q => Q (.bl (decide (i < j))) C
  | .str i, .str j, C, Q => Q (.bl (decide (i.cps.toList < j.cps.toList))) C
  | _, _, _, _ => False
def wLe : W2
  | .int i, .int j, C, Q => Q (.bl (decide (i ≤ j))) C
  | _, _, _, _ => False
def wGt : W2
  | .int i, .int j, C, Q => Q (.bl (decide (j < i))) C
  | _, _, _, _ => False
def wGe : W2
  | .int i, .int j, C, Q => Q (.bl (decide (j ≤ i))) C
  | _, _, _, _ => False
/-! equality, as == tells it -/
mutual
def eqT : T → T → Bool
  | .non, .non => true
  | .bl a, .bl b => a == b
  | .bl a, .int b => (if a then 1 else 0) == b
  | .int a, .bl b => a == (if b then 1 else 0)
  | .int a, .int b => a == b
  | .str a, .str b => a == b
  | .tup xs, .tup ys => eqTs xs ys
  | _, _ => false
def eqTs : List T → List T → Bool
  | [], [] => true
  | x :: xs, y :: ys => eqT x y && eqTs xs ys
  | _, _ => false
end
/-! nothing of the heap in it; how deep it is -/
mutual
def flat : T → Nat → Bool
  | .tup xs, n + 1 => flats xs n
  | .tup _, 0 => false
  | .ref _, _ => false
  | .cl _, _ => false
  | _, _ => true
def flats : List T → Nat → Bool
  | [], _ => true
  | x :: xs, n => flat x n && flats xs n
end
/-- how deep tuples that are compared may be -/
def eqDeep : Nat := 100
def isFlat (x : T) : Prop := flat x eqDeep = true
def wEqG (neg : Bool) : W2
  | .ref a, .ref b, C, Q => ∃ xs ys, C a = some (.lst xs) ∧ C b = some (.lst ys) ∧ (xs.length = ys.length → flats xs eqDeep = true ∧ flats ys eqDeep = true) ∧ Q (.bl (if neg then !eqTs xs ys else eqTs xs ys)) C
  | .ref a, y, C, Q => (∃ xs, C a = some (.lst xs)) ∧ isFlat y ∧ Q (.bl neg) C
  | x, .ref b, C, Q => (∃ ys, C b = some (.lst ys)) ∧ isFlat x ∧ Q (.bl neg) C
  | x, y, C, Q => isFlat x ∧ isFlat y ∧ Q (.bl (if neg then !eqT x y else eqT x y)) C
abbrev wEq : W2 := wEqG false
abbrev wNe : W2 := wEqG true
def wIsN : W2 := fun x y C Q => y = .non ∧ Q (.bl (match x with | .non => true | _ => false)) C
def wNotN : W2 := fun x y C Q => y = .non ∧ Q (.bl (match x with | .non => false | _ => true)) C
def inL (x : T) (xs : List T) : Bool := xs.any fun y => eqT y x
def wInG (neg : Bool) : W2
  | .str i, .str j, C, Q => Q (.bl (if neg then (!(!(Builtin.Str.occurrences j i 0 j.length 1).isEmpty)) else (!(Builtin.Str.occurrences j i 0 j.length 1).isEmpty))) C
  | x, .tup ys, C, Q => isFlat x ∧ flats ys eqDeep = true ∧ Q (.bl (if neg then !inL x ys else inL x ys)) C
  | x, .cl ys, C, Q => isFlat x ∧ flats ys eqDeep = true ∧ Q (.bl (if neg then !inL x ys else inL x ys)) C
  | x, .ref a, C, Q => ∃ ys, C a = some (.lst ys) ∧ isFlat x ∧ flats ys eqDeep = true ∧ Q (.bl (if neg then !inL x ys else inL x ys)) C
  | _, _, _, _ => False
abbrev wIn : W2 := wInG false
abbrev wNotIn : W2 := wInG true
def cut {α : Type} (xs : List α) (lo hi : Option Int) : List α := (xs.drop (HT.sIx xs.length 0 lo)).take (HT.sIx xs.length xs.length hi - HT.sIx xs.length 0 lo)
def wIdx : W2
  | .tup xs, .int i, C, Q => ∃ v, atI xs i = some v ∧ Q v C
  | .cl xs, .int i, C, Q => ∃ v, atI xs i = some v ∧ Q v C
  | .str z, .int i, C, Q => z.length ≤ sizeLine ∧ ∃ c, atI z.cps.toList i = some c ∧ Q (.str ⟨#[c]⟩) C
  | .ref a, .int i, C, Q => ∃ xs v, C a = some (.lst xs) ∧ atI xs i = some v ∧ Q v C
  | _, _, _, _ => False
def oNo : Sw → Hw → (Option Int → Hw → Prop) → WX → Prop := fun _ C Q _ => Q none C
def oSome (a : WE) : Sw → Hw → (Option Int → Hw → Prop) → WX → Prop := fun τ C Q χ => a τ C (fun x C1 => ∃ i, x = .int i ∧ Q (some i) C1) χ
def wSl : T → Option Int → Option Int → Hw → WK → Prop
  | .tup xs, lo, hi, C, Q => ¬ (HT.sIx xs.length 0 lo = 0 ∧ HT.sIx xs.length xs.length hi = xs.length) ∧ Q (.tup (cut xs lo hi)) C
  | .cl xs, lo, hi, C, Q => ∀ p, C p = none → Q (.ref p) (up C p (.lst (cut xs lo hi)))
  | .str z, lo, hi, C, Q => z.length ≤ sizeLine ∧ Q (.str (Txt.slice z lo hi)) C
  | .ref a, lo, hi, C, Q => ∃ xs, C a = some (.lst xs) ∧ ∀ p, C p = none → Q (.ref p) (up C p (.lst (cut xs lo hi)))
  | _, _, _, _, _ => False
def eSl (a : WE) (lo hi : Sw → Hw → (Option Int → Hw → Prop) → WX → Prop) : WE := fun τ C Q χ => a τ C (fun x C1 => lo τ C1 (fun l C2 => hi τ C2 (fun h C3 => wSl x l h C3 Q) χ) χ) χ
def bLen : List T → Hw → WK → Prop := fun vs C Q => ∃ x, vs = [x] ∧ match x with
  | .str z => z.length ≤ sizeLine ∧ Q (.int z.length) C
  | .tup xs => Q (.int xs.length) C
  | .cl xs => Q (.int xs.length) C
  | .ref a => ∃ xs, C a = some (.lst xs) ∧ Q (.int xs.length) C
  | _ => False
def bMax : List T → Hw → WK → Prop := fun vs C Q => ∃ i j, vs = [.int i, .int j] ∧ Q (.int (if j > i then j else i)) C
def bMin : List T → Hw → WK → Prop := fun vs C Q => ∃ i j, vs = [.int i, .int j] ∧ Q (.int (if j < i then j else i)) C
def bAll : List T → Hw → WK → Prop := fun vs C Q => ∃ (a : Addr) (bs : List Bool), vs = [.ref a] ∧ C a = some (.lst (bs.map T.bl)) ∧ Q (.bl (bs.all id)) C
def bTuple : List T → Hw → WK → Prop := fun vs C Q => ∃ x, vs = [x] ∧ match x with
  | .tup xs => Q (.tup xs) C
  | .cl xs => Q (.tup xs) C
  | .ref a => ∃ xs, C a = some (.lst xs) ∧ Q (.tup xs) C
  | _ => False
def bList : List T → Hw → WK → Prop := fun vs C Q => ∃ x, vs = [x] ∧ match x with
  | .tup xs => ∀ p, C p = none → Q (.ref p) (up C p (.lst xs))
  | .cl xs => ∀ p, C p = none → Q (.ref p) (up C p (.lst xs))
  | .ref a => ∃ xs, C a = some (.lst xs) ∧ ∀ p, C p = none → Q (.ref p) (up C p (.lst xs))
  | _ => False
/-- the name of a value's class -/
def tyN : T → Hw → String → Prop
  | .non, _, n => n = "NoneType"
  | .bl _, _, n => n = "bool"
  | .int _, _, n => n = "int"
  | .str _, _, n => n = "str"
  | .tup _, _, n => n = "tuple"
  | .cl _, _, n => n = "list"
  | .ref a, C, n => (n = "list" ∧ ∃ xs, C a = some (.lst xs)) ∨ (n = "dict" ∧ ∃ kvs, C a = some (.dic kvs))
def isCls (n c : String) : Bool := n == c || (n == "bool" && c == "int")
/-- isinstance(a, c), c a class of Python's own -/
def eIsi (a : WE) (c : String) : WE := fun τ C Q χ => a τ C (fun x C1 => ∃ n, tyN x C1 n ∧ Q (.bl (isCls n c)) C1) χ
def tyL' : T → Hw → Prop := fun x C => ∃ a xs, x = .ref a ∧ C a = some (.lst xs)
def tyS : T → Hw → Prop := fun x _ => ∃ z, x = .str z
def mAppend : T → List T → Hw → WK → Prop := fun x vs C Q => ∃ a xs y, x = .ref a ∧ vs = [y] ∧ C a = some (.lst xs) ∧ xs.length < sizeLine ∧ Q .non (up C a (.lst (xs ++ [y])))
def mPop : T → List T → Hw → WK → Prop := fun x vs C Q => ∃ a xs y, x = .ref a ∧ vs = [] ∧ C a = some (.lst xs) ∧ xs[xs.length - 1]? = some y ∧ Q y (up C a (.lst xs.dropLast))
def mPopAt : T → List T → Hw → WK → Prop := fun x vs C Q => ∃ a xs i k y, x = .ref a ∧ vs = [.int i] ∧ C a = some (.lst xs) ∧ -(2 ^ 63) ≤ i ∧ i < 2 ^ 63 ∧ seqIndex? i xs.length = some k ∧ xs[k]? = some y ∧ Q y (up C a (.lst (xs.eraseIdx k)))
/-! ### targets, statements -/
def gNm (i : Nat) : WG := fun v τ C Q _ => Q (τ.set i (some v)) C
def gsNil : WGs := fun vs τ C Q _ => vs = [] ∧ Q τ C
def gsCons (g : WG) (gs : WGs) : WGs := fun vs τ C Q χ => ∃ v r, vs = v :: r ∧ g v τ C (fun τ' C' => gs r τ' C' Q χ) χ
def gTp (gs : WGs) : WG := fun v τ C Q χ => ∃ xs, v = .tup xs ∧ gs xs τ C Q χ
/-- o[i] = .. -/
def gSb (o i : WE) : WG := fun v τ C Q χ => o τ C (fun x C1 => i τ C1 (fun y C2 => ∃ a xs k j, x = .ref a ∧ y = .int k ∧ C2 a = some (.lst xs) ∧ ixN xs.length k = some j ∧ Q τ (up C2 a (.lst (xs.set j v)))) χ) χ
def sPass : WS := fun D τ C => D.nx τ C
def sSeq (a b : WS) : WS := fun D τ C => a { D with nx := b D } τ C
def sExpr (e : WE) : WS := fun D τ C => e τ C (fun _ C1 => D.nx τ C1) D.xc
def sRet (e : WE) : WS := fun D τ C => e τ C D.rt D.xc
def sRetN : WS := fun D _ C => D.rt .non C
def sIf (c : WT) (a b : WS) : WS := fun D τ C => c τ C (fun k C1 => if k = true then a D τ C1 else b D τ C1) D.xc
def sAsg (e : WE) (g : WG) : WS := fun D τ C => e τ C (fun x C1 => g x τ C1 D.nx D.xc) D.xc
def sBrk : WS := fun D τ C => D.bk τ C
def sCont : WS := fun D τ C => D.ct τ C
def sNever : WS := fun _ _ _ => False
def forW (g : WG) (b : WS) (ok : Hw → Prop) (D : We) : List T → Sw → Hw → Prop
  | [], τ, C => ok C ∧ D.nx τ C
  | x :: xs, τ, C => ok C ∧ g x τ C (fun τ2 C2 => b { D with nx := forW g b ok D xs, ct := forW g b ok D xs, bk := D.nx } τ2 C2) D.xc
def sFor (i : WI) (g : WG) (b : WS) : WS := fun D τ C => i τ C (fun xs ok C1 => forW g b ok D xs τ C1) D.xc
def iSeq (e : WE) : WI := fun τ C R χ => e τ C (fun v C1 => match v with
  | .tup xs => R xs (fun _ => True) C1
  | .cl xs => R xs (fun _ => True) C1
  | .str z => R (z.cps.toList.map fun c => T.str ⟨#[c]⟩) (fun _ => True) C1
  | .ref a => ∃ xs, C1 a = some (.lst xs) ∧ R xs (fun C2 => C2 a = some (.lst xs)) C1
  | _ => False) χ
def rng (lo : Int) (n : Nat) : List T := (List.range n).map fun k : Nat => T.int (lo + k)
def iR1 (a : WA) : WI := fun τ C R χ => a τ C (fun vs C1 => ∃ j : Int, vs = [.int j] ∧ -(2 ^ 62) ≤ j ∧ j < 2 ^ 62 ∧ R (rng 0 j.toNat) (fun _ => True) C1) χ
def iR2 (a : WA) : WI := fun τ C R χ => a τ C (fun vs C1 => ∃ i j : Int, vs = [.int i, .int j] ∧ (-(2 ^ 62) ≤ i ∧ i < 2 ^ 62 ∧ -(2 ^ 62) ≤ j ∧ j < 2 ^ 62) ∧ R (rng i (j - i).toNat) (fun _ => True) C1) χ
def iEn (a : WA) : WI := fun τ C R χ => a τ C (fun vs C1 => ∃ z, vs = [.str z] ∧ R (z.cps.toList.zipIdx.map fun c => T.tup [.int c.2, .str ⟨#[c.1]⟩]) (fun _ => True) C1) χ
def capW (cap : List (Option Nat)) (τ : Sw) : Sw := cap.map fun o => o.bind fun i => (τ[i]?).join
def tYes : WT := fun _ C Q _ => Q true C
def compW (g : WG) (c : WT) (e : WE) (ok : Hw → Prop) (τ : Sw) (Q : List T → Hw → Prop) (χ : WX) : List T → List T → Hw → Prop
  | [], acc, C => ok C ∧ Q acc C
  | x :: xs, acc, C => ok C ∧ g x τ C (fun τ2 C2 => c τ2 C2 (fun b C3 => if b = true then e τ2 C3 (fun v C4 => acc.length < sizeLine ∧ compW g c e ok τ Q χ xs (acc ++ [v]) C4) χ else compW g c e ok τ Q χ xs acc C3) χ) χ
def eComp (cap : List (Option Nat)) (i : WI) (g : WG) (c : WT) (e : WE) : WE := fun τ C Q χ => i τ C (fun xs ok C1 => compW g c e ok (capW cap τ) (fun vs C2 => ∀ p, C2 p = none → Q (.ref p) (up C2 p (.lst vs))) χ xs [] C1) χ
/-! ### defs -/
structure Df where
  n : Nat
  ar : Nat
  body : Calls → WS
def wpc (pr : List Df) : Nat → Calls
  | 0 => fun _ _ _ _ _ => False
  | n + 1 => fun i vs C Q χ => ∃ d, pr[i]? = some d ∧ vs.length = d.ar ∧ d.body (wpc pr n) { nx := fun _ C' => Q .non C', rt := Q, xc := χ } (vs.map some ++ List.replicate (d.n - d.ar) none) C
end WL
set_option Elab.async false
set_option linter.all false
set_option maxRecDepth 100000
set_option maxHeartbeats 4000000
namespace WL
open PySem PySem.Spec PyProof.Rows L2
/-! ### equality of values over the heap -/
section
variable {X : Cx} {pins : List (Addr × Obj)} {σ : L2.St} {H : Hp} {s : Shared}
def sc : T → Option V
  | .non => some .non
  | .bl b => some (.bl b)
  | .int i => some (.int i)
  | .str z => some (.str z)
  | _ => none
theorem rep_sc {K : PySem.W.Frag} {H : Hp} {x z : V} {v : T} (h : sc v = some z) (r : Rep K H x v) : x = z ∧ flatV z = true := by
  cases v with
  | non => cases h; exact ⟨of_non r, rfl⟩
  | bl b => cases h; exact ⟨of_bl r, rfl⟩
  | int i => cases h; exact ⟨of_int r, rfl⟩
  | str z => cases h; exact ⟨of_str r, rfl⟩
  | _ => cases h
theorem eqT_sc {v w : T} {a b : V} (h : sc v = some a) (h' : sc w = some b) : eqT v w = eqV a b := by
  cases v <;> cases w <;> cases h <;> cases h' <;> unfold eqT <;> rfl
mutual
theorem eqT_refl : ∀ (v : T) {n : Nat}, flat v n = true → eqT v v = true
  | .non, _, _ => by unfold eqT; rfl
  | .bl b, _, _ => by unfold eqT; simp
  | .int b, _, _ => by unfold eqT; simp
  | .str b, _, _ => by unfold eqT; simp
  | .tup xs, 0, h => by unfold flat at h; cases h
  | .tup xs, n + 1, h => by unfold flat at h; unfold eqT; exact eqTs_refl xs h
  | .ref a, _, h => by unfold flat at h; cases h
  | .cl a, _, h => by unfold flat at h; cases h
theorem eqTs_refl : ∀ (v : List T) {n : Nat}, flats v n = true → eqTs v v = true
  | [], _, _ => by unfold eqTs; rfl
  | x :: xs, n, h => by
    unfold flats at h
    rw [Bool.and_eq_true] at h
    unfold eqTs
    rw [eqT_refl x h.1, eqTs_refl xs h.2]; rfl
end
theorem sc_none {v : T} {n : Nat} (h : flat v n = true) (e : sc v = none) : ∃ ts m, v = .tup ts ∧ n = m + 1 ∧ flats ts m = true := by
  cases v with
  | tup ts =>
    cases n with
    | zero => unfold flat at h; cases h
    | succ m => unfold flat at h; exact ⟨ts, m, rfl, rfl, h⟩
  | ref a => unfold flat at h; cases h
  | cl a => unfold flat at h; cases h
  | non => cases e
  | bl b => cases e
  | int b => cases e
  | str b => cases e
theorem flats_get : ∀ {vs : List T} {n i : Nat} {v : T}, flats vs n = true → vs[i]? = some v → flat v n = true
  | [], _, _, _, _, e => by simp at e
  | x :: xs, n, 0, v, h, e => by
    unfold flats at h
    rw [Bool.and_eq_true] at h
    simp at e; subst e; exact h.1
  | x :: xs, n, i + 1, v, h, e => by
    unfold flats at h
    rw [Bool.and_eq_true] at h
    exact flats_get h.2 (by simpa using e)
/-- the same thing stands for one flat value alone -/
theorem rep_inj (I : Inv X pins σ H s) : ∀ (n : Nat) {v w : T} {x : V}, flat v n = true → flat w n = true → Rep X.K H x v → Rep X.K H x w → v = w := by
  intro n
  induction n with
  | zero =>
    intro v w x fv fw rv rw'
    cases ev : sc v with
    | none => obtain ⟨_, _, _, h, _⟩ := sc_none fv ev; cases h
    | some a =>
      cases ew : sc w with
      | none => obtain ⟨_, _, _, h, _⟩ := sc_none fw ew; cases h
      | some b =>
        obtain ⟨e1, _⟩ := rep_sc ev rv
        obtain ⟨e2, _⟩ := rep_sc ew rw'
        have e : a = b := e1.symm.trans e2
        subst e
        cases v <;> cases ev <;> cases w <;> cases ew <;> rfl
  | succ n ih =>
    intro v w x fv fw rv rw'
    have lists : ∀ {ys : List V} {vs ws : List T}, flats vs n = true → flats ws n = true → Reps X.K H ys vs → Reps X.K H ys ws → vs = ws := by
      intro ys vs
      induction vs generalizing ys with
      | nil =>
        intro ws _ _ a b
        have := of_nil a
        subst this
        cases ws with
        | nil => rfl
        | cons w ws => obtain ⟨_, _, e, _⟩ := of_cons b; cases e
      | cons v vs ihv =>
        intro ws fa fb a b
        obtain ⟨y, r, rfl, a1, a2⟩ := of_cons a
        cases ws with
        | nil => have := of_nil b; cases this
        | cons w ws =>
          obtain ⟨y', r', e, b1, b2⟩ := of_cons b
          cases e
          unfold flats at fa fb
          rw [Bool.and_eq_true] at fa fb
          rw [ih fa.1 fb.1 a1 b1, ihv fa.2 fb.2 a2 b2]
    cases ev : sc v with
    | none =>
      obtain ⟨ts, m, rfl, em, ft⟩ := sc_none fv ev
      cases em
      obtain ⟨a, ys, rfl, hq, r⟩ := of_tup rv
      cases ew : sc w with
      | none =>
        obtain ⟨us, m', rfl, em, fu⟩ := sc_none fw ew
        cases em
        obtain ⟨b, zs, e, hq', r'⟩ := of_tup rw'
        cases e
        have e := I.tuple_inj hq hq'
        subst e
        rw [lists ft fu r r']
      | some b =>
        obtain ⟨e2, f⟩ := rep_sc ew rw'
        subst e2
        cases f
    | some a =>
      obtain ⟨e1, f⟩ := rep_sc ev rv
      cases ew : sc w with
      | none =>
        obtain ⟨us, m', rfl, em, fu⟩ := sc_none fw ew
        obtain ⟨b, zs, e, hq', r'⟩ := of_tup rw'
        subst e1
        subst e
        cases f
      | some b =>
        obtain ⟨e2, _⟩ := rep_sc ew rw'
        have e : a = b := e1.symm.trans e2
        subst e
        cases v <;> cases ev <;> cases w <;> cases ew <;> rfl
def eqJ (ts us : List T) (j : Nat) : Bool := match ts[j]?, us[j]? with
  | some a, some b => eqT a b
  | _, _ => true
theorem eqTs_range : ∀ (vs ws : List T), ((List.range (min vs.length ws.length)).all (eqJ vs ws) && vs.length == ws.length) = eqTs vs ws
  | [], [] => by unfold eqTs; rfl
  | [], _ :: _ => by unfold eqTs; simp
  | _ :: _, [] => by unfold eqTs; simp
  | v :: vs, w :: ws => by
    unfold eqTs
    rw [← eqTs_range vs ws]
    rw [List.length_cons, List.length_cons, show min (vs.length + 1) (ws.length + 1) = min vs.length ws.length + 1 by omega, List.range_succ_eq_map, List.all_cons, List.all_map]
    have e1 : eqJ (v :: vs) (w :: ws) 0 = eqT v w := rfl
    have e2 : (eqJ (v :: vs) (w :: ws) ∘ Nat.succ) = eqJ vs ws := by funext j; simp [Function.comp_def, eqJ]
    rw [e1, e2]
    simp [Bool.and_assoc]
/-- == within another comparison -/
theorem eqAtT (I : Inv X pins σ H s) : ∀ (n : Nat) {v w : T} {x y : V} {u u' : Value} {A : Around}, flat v n = true → flat w n = true → Rep X.K H x v → Rep X.K H y w → RelV x u → RelV y u' → A.units + n < cLine →
    SeqAt.EqAt A s u u' (eqT v w) := by
  intro n
  induction n with
  | zero =>
    intro v w x y u u' A fv fw rv rw' ru ru' hu
    cases ev : sc v with
    | none => obtain ⟨_, _, _, h, _⟩ := sc_none fv ev; cases h
    | some a =>
      cases ew : sc w with
      | none => obtain ⟨_, _, _, h, _⟩ := sc_none fw ew; cases h
      | some b =>
        obtain ⟨rfl, f1⟩ := rep_sc ev rv
        obtain ⟨rfl, f2⟩ := rep_sc ew rw'
        rw [eqT_sc ev ew]
        exact eqAt_V ru ru' f1 f2
  | succ n ih =>
    intro v w x y u u' A fv fw rv rw' ru ru' hu
    have hu0 : A.units < cLine := by omega
    cases ev : sc v with
    | some a =>
      obtain ⟨rfl, f1⟩ := rep_sc ev rv
      cases ew : sc w with
      | some b =>
        obtain ⟨rfl, f2⟩ := rep_sc ew rw'
        rw [eqT_sc ev ew]
        exact eqAt_V ru ru' f1 f2
      | none =>
        obtain ⟨ts, m, rfl, em, ft⟩ := sc_none fw ew
        obtain ⟨b, zs, rfl, hq, r⟩ := of_tup rw'
        cases ru'
        obtain ⟨its, _, p, _⟩ := I.tuple hq
        cases v with
        | non => cases ev; cases ru; unfold eqT; exact SeqAt.EqAt.none_tuple p hu0
        | bl c => cases ev; cases ru; unfold eqT; exact SeqAt.EqAt.bool_tuple c p hu0
        | int i => cases ev; obtain ⟨t, rfl⟩ := ru; unfold eqT; exact SeqAt.EqAt.int_tuple i t p hu0
        | str i => cases ev; obtain ⟨t, rfl⟩ := ru; unfold eqT; exact SeqAt.EqAt.str_tuple i t p hu0
        | _ => cases ev
    | none =>
      obtain ⟨ts, m, rfl, em, ft⟩ := sc_none fv ev
      cases em
      obtain ⟨a, ys, rfl, hq, r⟩ := of_tup rv
      cases ru
      obtain ⟨its, rI, p, _⟩ := I.tuple hq
      cases ew : sc w with
      | some b =>
        obtain ⟨rfl, f2⟩ := rep_sc ew rw'
        cases w with
        | non => cases ew; cases ru'; unfold eqT; exact SeqAt.EqAt.tuple_none p hu0
        | bl c => cases ew; cases ru'; unfold eqT; exact SeqAt.EqAt.tuple_bool c p hu0
        | int i => cases ew; obtain ⟨t, rfl⟩ := ru'; unfold eqT; exact SeqAt.EqAt.tuple_int i t p hu0
        | str i => cases ew; obtain ⟨t, rfl⟩ := ru'; unfold eqT; exact SeqAt.EqAt.tuple_str i t p hu0
        | _ => cases ew
      | none =>
        obtain ⟨us, m', rfl, em, fu⟩ := sc_none fw ew
        cases em
        obtain ⟨b, zs, rfl, hq', r'⟩ := of_tup rw'
        cases ru'
        obtain ⟨its', rI', p', _⟩ := I.tuple hq'
        by_cases hne : a = b
        · subst hne
          have e := rep_inj I (n + 1) fv fw (rep_tup hq r) (rep_tup hq' r')
          rw [e, eqT_refl _ fw]
          exact SeqAt.EqAt.same _
        · have l1 : its.toArray.size = ts.length := by rw [List.size_toArray, ← rI.length, r.length]
          have l2 : its'.toArray.size = us.length := by rw [List.size_toArray, ← rI'.length, r'.length]
          have key := SeqAt.EqAt.of_refs hne (SeqAt.RcAt.tuples (A := A) (e := eqJ ts us) p p' hu0 (fun j h1 h2 => by
            have i1 : ts[j]? = some (ts[j]'(by omega)) := by simp [l1 ▸ h1]
            have i2 : us[j]? = some (us[j]'(by omega)) := by simp [l2 ▸ h2]
            obtain ⟨x1, g1, q1⟩ := r.get i1
            obtain ⟨x2, g2, q2⟩ := r'.get i2
            obtain ⟨u1, k1, z1⟩ := rI.get g1
            obtain ⟨u2, k2, z2⟩ := rI'.get g2
            have e1 : its.toArray[j] = u1 := by
              have : its[j]? = some its.toArray[j] := by simp
              rw [k1] at this; exact (Option.some.inj this).symm
            have e2 : its'.toArray[j] = u2 := by
              have : its'[j]? = some its'.toArray[j] := by simp
              rw [k2] at this; exact (Option.some.inj this).symm
            rw [e1, e2]
            unfold eqJ
            simp only [i1, i2]
            exact ih (flats_get ft i1) (flats_get fu i2) q1 q2 z1 z2 (by show A.units + 1 + n < cLine; omega)))
          rw [l1, l2, eqTs_range] at key
          unfold eqT
          exact key
end
end WL
set_option Elab.async false
set_option linter.all false
set_option maxRecDepth 100000
set_option maxHeartbeats 4000000
namespace WL
open PySem PySem.Spec PyProof.Rows L2
def RepS (K : PySem.W.Frag) (H : Hp) (σ : L2.St) (τ : Sw) : Prop := σ.length = τ.length ∧ ∀ (i : Nat) (v : T), τ[i]? = some (some v) → ∃ x, σ[i]? = some (some x) ∧ Rep K H x v
theorem RepS.tx {K : PySem.W.Frag} {H H' : Hp} {σ : L2.St} {τ : Sw} (h : RepS K H σ τ) (t : Tx H H') : RepS K H' σ τ := ⟨h.1, fun i v e => let ⟨x, a, b⟩ := h.2 i v e; ⟨x, a, b.tx t⟩⟩
theorem RepS.set {K : PySem.W.Frag} {H : Hp} {σ : L2.St} {τ : Sw} (h : RepS K H σ τ) {i : Nat} {x : V} {v : T} (r : Rep K H x v) : RepS K H (σ.set i (some x)) (τ.set i (some v)) := by
  refine ⟨by rw [List.length_set, List.length_set]; exact h.1, fun j w e => ?_⟩
  by_cases hj : i = j
  · subst hj
    by_cases hi : i < τ.length
    · rw [List.getElem?_set_self hi] at e
      cases e
      exact ⟨x, List.getElem?_set_self (by rw [h.1]; exact hi), r⟩
    · rw [List.getElem?_eq_none (by rw [List.length_set]; omega)] at e
      cases e
  · rw [List.getElem?_set_ne hj] at e ⊢
    exact h.2 j w e
abbrev QE (K : PySem.W.Frag) (F H : Hp) (Q : VK) (Q' : WK) : Prop := ∀ x v H' C', Rl K F H' C' → Tx H H' → Rep K H' x v → Q' v C' → Q x H'
abbrev QT (K : PySem.W.Frag) (F H : Hp) (Q : Bool → Hp → Prop) (Q' : Bool → Hw → Prop) : Prop := ∀ b H' C', Rl K F H' C' → Tx H H' → Q' b C' → Q b H'
abbrev QA (K : PySem.W.Frag) (F H : Hp) (Q : List V → Hp → Prop) (Q' : List T → Hw → Prop) : Prop := ∀ xs vs H' C', Rl K F H' C' → Tx H H' → Reps K H' xs vs → Q' vs C' → Q xs H'
theorem QE.at {K : PySem.W.Frag} {F H H1 : Hp} {Q : VK} {Q' : WK} (q : QE K F H Q Q') (t : Tx H H1) : QE K F H1 Q Q' := fun x v H' C' R t' => q x v H' C' R (t.trans t')
def SimE (K : PySem.W.Frag) (te : TE) (we : WE) : Prop := ∀ (F H : Hp) (C : Hw) (σ : L2.St) (τ : Sw) (Q : VK) (Q' : WK) (χ : WX), Rl K F H C → RepS K H σ τ → we τ C Q' χ → QE K F H Q Q' → te σ H Q
def SimT (K : PySem.W.Frag) (te : TT) (we : WT) : Prop := ∀ (F H : Hp) (C : Hw) (σ : L2.St) (τ : Sw) (Q : Bool → Hp → Prop) (Q' : Bool → Hw → Prop) (χ : WX), Rl K F H C → RepS K H σ τ → we τ C Q' χ → QT K F H Q Q' → te σ H Q
def SimA (K : PySem.W.Frag) (te : TA) (we : WA) : Prop := ∀ (F H : Hp) (C : Hw) (σ : L2.St) (τ : Sw) (Q : List V → Hp → Prop) (Q' : List T → Hw → Prop) (χ : WX), Rl K F H C → RepS K H σ τ → we τ C Q' χ → QA K F H Q Q' → te σ H Q
def SimR (K : PySem.W.Frag) (r : R2) (w : W2) : Prop := ∀ (F H : Hp) (C : Hw) (x y : V) (v u : T) (Q : VK) (Q' : WK), Rl K F H C → Rep K H x v → Rep K H y u → w v u C Q' → QE K F H Q Q' → r x y H Q
def SimB (K : PySem.W.Frag) (r : List V → Hp → VK → Prop) (w : List T → Hw → WK → Prop) : Prop := ∀ (F H : Hp) (C : Hw) (xs : List V) (vs : List T) (Q : VK) (Q' : WK), Rl K F H C → Reps K H xs vs → w vs C Q' → QE K F H Q Q' → r xs H Q
def SimM (K : PySem.W.Frag) (r : V → List V → Hp → VK → Prop) (w : T → List T → Hw → WK → Prop) : Prop := ∀ (F H : Hp) (C : Hw) (x : V) (v : T) (xs : List V) (vs : List T) (Q : VK) (Q' : WK), Rl K F H C → Rep K H x v → Reps K H xs vs → w v vs C Q' → QE K F H Q Q' → r x xs H Q
def SimU (K : PySem.W.Frag) (r : V → Hp → VK → Prop) (w : T → Hw → WK → Prop) : Prop := ∀ (F H : Hp) (C : Hw) (x : V) (v : T) (Q : VK) (Q' : WK), Rl K F H C → Rep K H x v → w v C Q' → QE K F H Q Q' → r x H Q
def SdE (X : Cx) (e : Expr) (w : WE) : Prop := ∃ t, PE X e t ∧ SimE X.K t w
def SdT (X : Cx) (e : Expr) (w : WT) : Prop := ∃ t, PT X e t ∧ SimT X.K t w
def SdW (X : Cx) (e : Expr) (w : WT) : Prop := ∃ t, PW X e t ∧ SimT X.K t w
def SdA (X : Cx) (es : List Expr) (w : WA) : Prop := ∃ t, PA X es t ∧ SimA X.K t w
def OpS (X : Cx) (f : Value → Value → Sem Value) (w : W2) : Prop := ∃ r, OpR X f r ∧ SimR X.K r w
def IxS (X : Cx) (w : W2) : Prop := ∃ r, IxR X r ∧ SimR X.K r w
def CallS (X : Cx) (f : Value) (w : List T → Hw → WK → Prop) : Prop := ∃ r, CallR X f r ∧ SimB X.K r w
def MtS (X : Cx) (id : String) (w : T → List T → Hw → WK → Prop) : Prop := ∃ r, MtR X id r ∧ SimM X.K r w
section
variable {K : PySem.W.Frag} {ta tb tc : TE} {wa wb wc : WE} {r r' : R2} {w w' : W2}
theorem s_var {i : Nat} : SimE K (tVar i) (eVar i) := fun F H C σ τ Q Q' χ R S h q => by
  obtain ⟨v, e, h⟩ := h
  obtain ⟨x, ex, rx⟩ := S.2 i v e
  exact ⟨x, ex, q x v H C R (Tx.refl H) rx h⟩
theorem s_c {x : V} {v : T} (h : ∀ H, Rep K H x v) : SimE K (tC x) (eC v) := fun F H C σ τ Q Q' χ R S w q => q x v H C R (Tx.refl H) (h H) w
theorem s_op (ha : SimE K ta wa) (hb : SimE K tb wb) (hr : SimR K r w) : SimE K (tOp r ta tb) (eBin w wa wb) := fun F H C σ τ Q Q' χ R S h q => by
  refine ha F H C σ τ _ _ χ R S h fun x v H1 C1 R1 t1 rx h1 => ?_
  refine hb F H1 C1 σ τ _ _ χ R1 (S.tx t1) h1 fun y u H2 C2 R2 t2 ry h2 => ?_
  exact hr F H2 C2 x y v u Q Q' R2 (rx.tx t2) ry h2 (QE.at q (t1.trans t2))
theorem s_un {r : V → Hp → VK → Prop} {w : T → Hw → WK → Prop} (ha : SimE K ta wa) (hr : SimU K r w) : SimE K (tUn r ta) (eUn w wa) := fun F H C σ τ Q Q' χ R S h q => by
  refine ha F H C σ τ _ _ χ R S h fun x v H1 C1 R1 t1 rx h1 => ?_
  exact hr F H1 C1 x v Q Q' R1 rx h1 (QE.at q t1)
theorem s_nil : SimA K tNil aNil := fun F H C σ τ Q Q' χ R S h q => q [] [] H C R (Tx.refl H) reps_nil h
theorem s_cons {t : TA} {wt : WA} (ha : SimE K ta wa) (hb : SimA K t wt) : SimA K (tCons ta t) (aCons wa wt) := fun F H C σ τ Q Q' χ R S h q => by
  refine ha F H C σ τ _ _ χ R S h fun x v H1 C1 R1 t1 rx h1 => ?_
  exact hb F H1 C1 σ τ _ _ χ R1 (S.tx t1) h1 fun xs vs H2 C2 R2 t2 rs h2 => q (x :: xs) (v :: vs) H2 C2 R2 (t1.trans t2) (reps_cons (rx.tx t2) rs) h2
theorem s_tup {t : TA} {wt : WA} (ha : SimA K t wt) : SimE K (tTup t) (eTup wt) := fun F H C σ τ Q Q' χ R S h q => by
  refine ha F H C σ τ _ _ χ R S h fun xs vs H1 C1 R1 t1 rs h1 => ⟨by rw [rs.length]; exact h1.1, fun p hp => ?_⟩
  exact q _ _ _ C1 (R1.hid hp) (t1.trans (Tx.new hp)) (rep_tup (SqT.of upd_same) (rs.tx (Tx.new hp))) h1.2
theorem s_lst {t : TA} {wt : WA} (ha : SimA K t wt) : SimE K (tLst t) (eLst wt) := fun F H C σ τ Q Q' χ R S h q => by
  refine ha F H C σ τ _ _ χ R S h fun xs vs H1 C1 R1 t1 rs h1 => ⟨by rw [rs.length]; exact h1.1, fun p hp => ?_⟩
  exact q _ _ _ _ (R1.newL hp rs) (t1.trans (Tx.new hp)) rep_ref (h1.2 p (R1.free hp))
theorem s_bi {r : List V → Hp → VK → Prop} {w : List T → Hw → WK → Prop} {t : TA} {wt : WA} (hr : SimB K r w) (ha : SimA K t wt) : SimE K (tCB r t) (eBi w wt) := fun F H C σ τ Q Q' χ R S h q => by
  refine ha F H C σ τ _ _ χ R S h fun xs vs H1 C1 R1 t1 rs h1 => ?_
  exact hr F H1 C1 xs vs Q Q' R1 rs h1 (QE.at q t1)
theorem s_if {tt : TT} {wt : WT} (hc : SimT K tt wt) (ha : SimE K ta wa) (hb : SimE K tb wb) : SimE K (tIf tt ta tb) (eIf wt wa wb) := fun F H C σ τ Q Q' χ R S h q => by
  refine hc F H C σ τ _ _ χ R S h fun k H1 C1 R1 t1 h1 => ?_
  cases k with
  | true => exact ha F H1 C1 σ τ Q Q' χ R1 (S.tx t1) h1 (QE.at q t1)
  | false => exact hb F H1 C1 σ τ Q Q' χ R1 (S.tx t1) h1 (QE.at q t1)
theorem s_and (ha : SimE K ta wa) (hb : SimE K tb wb) : SimE K (tAndV ta tb) (eAnd wa wb) := fun F H C σ τ Q Q' χ R S h q => by
  refine ha F H C σ τ _ _ χ R S h fun x v H1 C1 R1 t1 rx h1 => ?_
  obtain ⟨k, rfl, h1⟩ := h1
  refine ⟨k, of_bl rx, ?_⟩
  cases k with
  | true => exact hb F H1 C1 σ τ Q Q' χ R1 (S.tx t1) h1 (QE.at q t1)
  | false => exact q _ _ H1 C1 R1 t1 rep_bl h1
/-! tests -/
theorem s_bl (ha : SimE K ta wa) : SimT K (tTest ta) (tBl wa) := fun F H C σ τ Q Q' χ R S h q => by
  refine ha F H C σ τ _ _ χ R S h fun x v H1 C1 R1 t1 rx h1 => ?_
  obtain ⟨k, rfl, h1⟩ := h1
  exact ⟨k, of_bl rx, q k H1 C1 R1 t1 h1⟩
theorem s_tru (ha : SimE K ta wa) : SimT K (fun σ H Q => ta σ H fun x H' => ∃ k, TruV K x H' k ∧ Q k H') (tTru wa) := fun F H C σ τ Q Q' χ R S h q => by
  refine ha F H C σ τ _ _ χ R S h fun x v H1 C1 R1 t1 rx h1 => ?_
  obtain ⟨k, hk, h1⟩ := h1
  refine ⟨k, ?_, q k H1 C1 R1 t1 h1⟩
  have emp : ∀ {ys : List V} {xs : List T}, Reps K H1 ys xs → ys.isEmpty = xs.isEmpty := fun {ys xs} r => by
    have := r.length
    cases ys <;> cases xs <;> simp_all
  cases v with
  | non => cases of_non rx; exact hk
  | bl b => cases of_bl rx; exact hk
  | int i => cases of_int rx; exact hk
  | str z => cases of_str rx; exact hk
  | tup xs =>
    obtain ⟨a, ys, rfl, hq, r⟩ := of_tup rx
    refine .inr (.inl ⟨ys, hq, ?_⟩)
    rw [emp r]; exact hk
  | cl xs =>
    obtain ⟨a, ys, rfl, hq, r⟩ := of_cl rx
    refine .inl ⟨ys, hq.sq, ?_⟩
    rw [emp r]; exact hk
  | ref a =>
    cases of_ref rx
    rcases hk with ⟨xs, hx, e⟩ | ⟨kvs, hx, e⟩
    · obtain ⟨ys, hy, r⟩ := R1.lst hx
      refine .inl ⟨ys, SqL.of hy, ?_⟩
      rw [emp r]; exact e
    · obtain ⟨ks, hy, r⟩ := R1.obj a _ hx
      refine .inr (.inr ⟨ks, hy, ?_⟩)
      have := Paired.length r
      rw [e]
      cases ks <;> cases kvs <;> simp_all
theorem s_an {t u : TT} {w w' : WT} (ha : SimT K t w) (hb : SimT K u w') : SimT K (tAnd t u) (tAn w w') := fun F H C σ τ Q Q' χ R S h q => by
  refine ha F H C σ τ _ _ χ R S h fun k H1 C1 R1 t1 h1 => ?_
  cases k with
  | true => exact hb F H1 C1 σ τ Q Q' χ R1 (S.tx t1) h1 fun b H' C' R' t' => q b H' C' R' (t1.trans t')
  | false => exact q _ H1 C1 R1 t1 h1
theorem s_or' {t u : TT} {w w' : WT} (ha : SimT K t w) (hb : SimT K u w') : SimT K (tOr t u) (tOr' w w') := fun F H C σ τ Q Q' χ R S h q => by
  refine ha F H C σ τ _ _ χ R S h fun k H1 C1 R1 t1 h1 => ?_
  cases k with
  | true => exact q _ H1 C1 R1 t1 h1
  | false => exact hb F H1 C1 σ τ Q Q' χ R1 (S.tx t1) h1 fun b H' C' R' t' => q b H' C' R' (t1.trans t')
theorem s_no {t : TT} {w : WT} (ha : SimT K t w) : SimT K (tNot t) (tNo w) := fun F H C σ τ Q Q' χ R S h q => by
  refine ha F H C σ τ _ _ χ R S h fun k H1 C1 R1 t1 h1 => ?_
  exact q _ H1 C1 R1 t1 h1
end
/-! ### the operations -/
section
variable {X : Cx}
theorem o_add : OpS X (binaryOp .Add) wAdd := ⟨_, op_add.or (op_add_str.or (op_cat.or (op_catT0.or op_catT))), fun F H C x y v u Q Q' R rx ry h q => by
  cases v <;> cases u <;> first | exact False.elim h | skip
  case int.int i j => cases of_int rx; cases of_int ry; exact .inl ⟨i, j, rfl, rfl, q _ _ H C R (Tx.refl H) rep_int h⟩
  case str.str i j => cases of_str rx; cases of_str ry; exact .inr (.inl ⟨i, j, rfl, rfl, h.1, q _ _ H C R (Tx.refl H) rep_str h.2⟩)
  case ref.ref a b =>
    cases of_ref rx; cases of_ref ry
    obtain ⟨xs, ys, ha, hb, hl, h⟩ := h
    obtain ⟨zs, hz, rz⟩ := R.lst ha
    obtain ⟨ws, hw, rw'⟩ := R.lst hb
    exact .inr (.inr (.inl ⟨a, b, zs, ws, rfl, rfl, hz, hw, by rw [rz.length, rw'.length]; exact hl, fun p hp => q _ _ _ _ (R.newL hp (rz.app rw')) (Tx.new hp) rep_ref (h p (R.free hp))⟩))
  case tup.tup xs ys =>
    obtain ⟨a, zs, rfl, hz, rz⟩ := of_tup rx
    obtain ⟨b, ws, rfl, hw, rw'⟩ := of_tup ry
    by_cases e : zs = []
    · subst e
      have e2 : xs = [] := by
        have := rz.length
        cases xs with
        | nil => rfl
        | cons _ _ => cases this
      subst e2
      exact .inr (.inr (.inr (.inl ⟨a, b, ws, rfl, rfl, hz, hw, q _ _ H C R (Tx.refl H) (rep_tup hw rw') h.2⟩)))
    · refine .inr (.inr (.inr (.inr ⟨a, b, zs, ws, rfl, rfl, hz, hw, e, by rw [rz.length, rw'.length]; exact h.1, fun e2 => ?_, fun e2 p hp => ?_⟩)))
      · subst e2
        have e3 : ys = [] := by
          have := rw'.length
          cases ys with
          | nil => rfl
          | cons _ _ => cases this
        subst e3
        refine q _ _ H C R (Tx.refl H) (rep_tup hz rz) ?_
        have := h.2
        rw [List.append_nil] at this
        exact this
      · exact q _ _ _ C (R.hid hp) (Tx.new hp) (rep_tup (SqT.of upd_same) ((rz.app rw').tx (Tx.new hp))) h.2⟩
theorem o_sub : OpS X (binaryOp .Sub) wSub := ⟨_, op_sub, fun F H C x y v u Q Q' R rx ry h q => by
  cases v <;> cases u <;> first | exact False.elim h | skip
  case int.int i j => cases of_int rx; cases of_int ry; exact ⟨i, j, rfl, rfl, q _ _ H C R (Tx.refl H) rep_int h⟩⟩
theorem o_mul : OpS X (binaryOp .Mult) wMul := ⟨_, op_mul, fun F H C x y v u Q Q' R rx ry h q => by
  cases v <;> cases u <;> first | exact False.elim h | skip
  case int.int i j => cases of_int rx; cases of_int ry; exact ⟨i, j, rfl, rfl, h.1, q _ _ H C R (Tx.refl H) rep_int h.2⟩⟩
theorem o_div : OpS X (binaryOp .FloorDiv) wDiv := ⟨_, op_fdiv, fun F H C x y v u Q Q' R rx ry h q => by
  cases v <;> cases u <;> first | exact False.elim h | skip
  case int.int i j => cases of_int rx; cases of_int ry; exact ⟨i, j, rfl, rfl, h.1, q _ _ H C R (Tx.refl H) rep_int h.2⟩⟩
theorem o_mod : OpS X (binaryOp .Mod) wMod := ⟨_, op_mod, fun F H C x y v u Q Q' R rx ry h q => by
  cases v <;> cases u <;> first | exact False.elim h | skip
  case int.int i j => cases of_int rx; cases of_int ry; exact ⟨i, j, rfl, rfl, h.1, q _ _ H C R (Tx.refl H) rep_int h.2⟩⟩
theorem o_pow : OpS X (binaryOp .Pow) wPow := ⟨_, op_pow, fun F H C x y v u Q Q' R rx ry h q => by
  cases v <;> cases u <;> first | exact False.elim h | skip
  case int.int i j => cases of_int rx; cases of_int ry; exact ⟨i, j, rfl, rfl, h.1, q _ _ H C R (Tx.refl H) rep_int h.2⟩⟩
theorem o_le : OpS X (compareOp .LtE) wLe := ⟨_, op_le, fun F H C x y v u Q Q' R rx ry h q => by
  cases v <;> cases u <;> first | exact False.elim h | skip
  case int.int i j => cases of_int rx; cases of_int ry; exact ⟨i, j, rfl, rfl, q _ _ H C R (Tx.refl H) rep_bl h⟩⟩
theorem o_gt : OpS X (compareOp .Gt) wGt := ⟨_, op_gt, fun F H C x y v u Q Q' R rx ry h q => by
  cases v <;> cases u <;> first | exact False.elim h | skip
  case int.int i j => cases of_int rx; cases of_int ry; exact ⟨i, j, rfl, rfl, q _ _ H C R (Tx.refl H) rep_bl h⟩⟩
/-- a rule that stands over the state itself, by values -/
def rDir (X : Cx) (f : Value → Value → Sem Value) : R2 := fun x y H Q => ∀ (pins : List (Addr × Obj)) (s : Shared) (σ : L2.St) (v u : Value), Inv X pins σ H s → RelV x v → RelV y u → wpAny (model X.prog X.w) X.A (f v u) (EP X pins σ Q) X.xe s
theorem op_dir {f : Value → Value → Sem Value} : OpR X f (rDir X f) := fun pins s σ H x y v u Q I rx ry h => h pins s σ v u I rx ry
/-- the items of two lists, one by one -/
theorem items_at {pins : List (Addr × Obj)} {σ : L2.St} {H : Hp} {s : Shared} {A : Around} {n : Nat} {ts us : List T} {ys zs : List V} {its its' : List Value} (I : Inv X pins σ H s) (r : Reps X.K H ys ts) (r' : Reps X.K H zs us) (rI : Vals ys its) (rI' : Vals zs its')
    (f : flats ts n = true) (f' : flats us n = true) (hu : A.units + n < cLine) :
    ∀ j (h1 : j < its.toArray.size) (h2 : j < its'.toArray.size), SeqAt.EqAt A s its.toArray[j] its'.toArray[j] (eqJ ts us j) := fun j h1 h2 => by
  have l1 : its.toArray.size = ts.length := by rw [List.size_toArray, ← rI.length, r.length]
  have l2 : its'.toArray.size = us.length := by rw [List.size_toArray, ← rI'.length, r'.length]
  have i1 : ts[j]? = some (ts[j]'(by omega)) := by simp [l1 ▸ h1]
  have i2 : us[j]? = some (us[j]'(by omega)) := by simp [l2 ▸ h2]
  obtain ⟨x1, g1, q1⟩ := r.get i1
  obtain ⟨x2, g2, q2⟩ := r'.get i2
  obtain ⟨u1, k1, z1⟩ := rI.get g1
  obtain ⟨u2, k2, z2⟩ := rI'.get g2
  have e1 : its.toArray[j] = u1 := by
    have : its[j]? = some its.toArray[j] := by simp
    rw [k1] at this; exact (Option.some.inj this).symm
  have e2 : its'.toArray[j] = u2 := by
    have : its'[j]? = some its'.toArray[j] := by simp
    rw [k2] at this; exact (Option.some.inj this).symm
  rw [e1, e2]
  unfold eqJ
  simp only [i1, i2]
  exact eqAtT I n (flats_get f i1) (flats_get f' i2) q1 q2 z1 z2 hu
theorem eqTs_len {vs ws : List T} (h : vs.length ≠ ws.length) : eqTs vs ws = false := by
  rw [← eqTs_range, show (vs.length == ws.length) = false from beq_eq_false_iff_ne.mpr h, Bool.and_false]
theorem eqTs_same {vs ws : List T} (h : vs.length = ws.length) : (List.range vs.length).all (eqJ vs ws) = eqTs vs ws := by
  rw [← eqTs_range, h, Nat.min_self, beq_self_eq_true, Bool.and_true]
/-- == of two values at the top, nothing of the heap in them -/
theorem rcT {pins : List (Addr × Obj)} {σ : L2.St} {H : Hp} {s : Shared} {v w : T} {x y : V} {u u' : Value} {A : Around} {n : Nat} (I : Inv X pins σ H s) (fv : flat v n = true) (fw : flat w n = true) (rv : Rep X.K H x v) (rw' : Rep X.K H y w)
    (ru : RelV x u) (ru' : RelV y u') (hu : A.units + n + 1 < cLine) : SeqAt.RcAt A s u u' (eqT v w) ∧ SeqAt.RcNeAt A s u u' (!eqT v w) := by
  have hu0 : A.units < cLine := by omega
  cases ev : sc v with
  | some a =>
    obtain ⟨rfl, f1⟩ := rep_sc ev rv
    cases ew : sc w with
    | some b =>
      obtain ⟨rfl, f2⟩ := rep_sc ew rw'
      cases v with
      | non =>
        cases ev; cases ru
        cases w with
        | non => cases ew; cases ru'; unfold eqT; exact ⟨.none_none, .none_none⟩
        | bl c => cases ew; cases ru'; unfold eqT; exact ⟨.none_bool c, .none_bool c⟩
        | int c => cases ew; obtain ⟨t, rfl⟩ := ru'; unfold eqT; exact ⟨.none_int c t, .none_int c t⟩
        | str c => cases ew; obtain ⟨t, rfl⟩ := ru'; unfold eqT; exact ⟨.none_str c t, .none_str c t⟩
        | _ => cases ew
      | bl d =>
        cases ev; cases ru
        cases w with
        | non => cases ew; cases ru'; unfold eqT; exact ⟨.bool_none d, .bool_none d⟩
        | bl c => cases ew; cases ru'; unfold eqT; exact ⟨.bool_bool d c, .bool_bool d c⟩
        | int c => cases ew; obtain ⟨t, rfl⟩ := ru'; unfold eqT; exact ⟨.bool_int d c t, .bool_int d c t⟩
        | str c => cases ew; obtain ⟨t, rfl⟩ := ru'; unfold eqT; exact ⟨.bool_str d c t, .bool_str d c t⟩
        | _ => cases ew
      | int d =>
        cases ev; obtain ⟨t', rfl⟩ := ru
        cases w with
        | non => cases ew; cases ru'; unfold eqT; exact ⟨.int_none d t', .int_none d t'⟩
        | bl c => cases ew; cases ru'; unfold eqT; exact ⟨.int_bool d t' c, .int_bool d t' c⟩
        | int c => cases ew; obtain ⟨t, rfl⟩ := ru'; unfold eqT; exact ⟨.int_int d t' c t, .int_int d t' c t⟩
        | str c => cases ew; obtain ⟨t, rfl⟩ := ru'; unfold eqT; exact ⟨.int_str d t' c t, .int_str d t' c t⟩
        | _ => cases ew
      | str d =>
        cases ev; obtain ⟨t', rfl⟩ := ru
        cases w with
        | non => cases ew; cases ru'; unfold eqT; exact ⟨.str_none d t', .str_none d t'⟩
        | bl c => cases ew; cases ru'; unfold eqT; exact ⟨.str_bool d t' c, .str_bool d t' c⟩
        | int c => cases ew; obtain ⟨t, rfl⟩ := ru'; unfold eqT; exact ⟨.str_int d t' c t, .str_int d t' c t⟩
        | str c => cases ew; obtain ⟨t, rfl⟩ := ru'; unfold eqT; exact ⟨.str_str d t' c t, .str_str d t' c t⟩
        | _ => cases ew
      | _ => cases ev
    | none =>
      obtain ⟨ts, m, rfl, em, ft⟩ := sc_none fw ew
      obtain ⟨b, zs, rfl, hq, r⟩ := of_tup rw'
      cases ru'
      obtain ⟨its, _, p, _⟩ := I.tuple hq
      cases v with
      | non => cases ev; cases ru; unfold eqT; exact ⟨.none_tuple p hu0, .none_tuple p hu0⟩
      | bl c => cases ev; cases ru; unfold eqT; exact ⟨.bool_tuple c p hu0, .bool_tuple c p hu0⟩
      | int i => cases ev; obtain ⟨t, rfl⟩ := ru; unfold eqT; exact ⟨.int_tuple i t p hu0, .int_tuple i t p hu0⟩
      | str i => cases ev; obtain ⟨t, rfl⟩ := ru; unfold eqT; exact ⟨.str_tuple i t p hu0, .str_tuple i t p hu0⟩
      | _ => cases ev
  | none =>
    obtain ⟨ts, m, rfl, em, ft⟩ := sc_none fv ev
    subst em
    obtain ⟨a, ys, rfl, hq, r⟩ := of_tup rv
    cases ru
    obtain ⟨its, rI, p, _⟩ := I.tuple hq
    cases ew : sc w with
    | some b =>
      obtain ⟨rfl, f2⟩ := rep_sc ew rw'
      cases w with
      | non => cases ew; cases ru'; unfold eqT; exact ⟨.tuple_none p hu0, .tuple_none p hu0⟩
      | bl c => cases ew; cases ru'; unfold eqT; exact ⟨.tuple_bool c p hu0, .tuple_bool c p hu0⟩
      | int i => cases ew; obtain ⟨t, rfl⟩ := ru'; unfold eqT; exact ⟨.tuple_int i t p hu0, .tuple_int i t p hu0⟩
      | str i => cases ew; obtain ⟨t, rfl⟩ := ru'; unfold eqT; exact ⟨.tuple_str i t p hu0, .tuple_str i t p hu0⟩
      | _ => cases ew
    | none =>
      obtain ⟨us, m', rfl, em, fu⟩ := sc_none fw ew
      cases em
      obtain ⟨b, zs, rfl, hq', r'⟩ := of_tup rw'
      cases ru'
      obtain ⟨its', rI', p', _⟩ := I.tuple hq'
      have l1 : its.toArray.size = ts.length := by rw [List.size_toArray, ← rI.length, r.length]
      have l2 : its'.toArray.size = us.length := by rw [List.size_toArray, ← rI'.length, r'.length]
      have hi := items_at (A := A.in1) I r r' rI rI' ft fu (by show A.units + 1 + m < cLine; omega)
      have k1 := SeqAt.RcAt.tuples (A := A) p p' hu0 hi
      have k2 := SeqAt.RcNeAt.tuples (A := A) p p' hu0 hi
      rw [l1, l2, eqTs_range] at k1 k2
      unfold eqT
      exact ⟨k1, k2⟩
theorem list_vs {pins : List (Addr × Obj)} {σ : L2.St} {H : Hp} {s : Shared} {w : T} {y : V} {u' : Value} {A : Around} {n : Nat} {a : Addr} {its : List Value} (I : Inv X pins σ H s) (fw : flat w n = true) (rw' : Rep X.K H y w) (ru' : RelV y u') (hu0 : A.units < cLine)
    (p : s.heap.IsList a its.toArray) : (SeqAt.RcAt A s (.ref a) u' false ∧ SeqAt.RcNeAt A s (.ref a) u' true) ∧ (SeqAt.RcAt A s u' (.ref a) false ∧ SeqAt.RcNeAt A s u' (.ref a) true) := by
  cases w with
  | non => cases of_non rw'; cases ru'; exact ⟨⟨.list_none p hu0, .list_none p hu0⟩, .none_list p hu0, .none_list p hu0⟩
  | bl c => cases of_bl rw'; cases ru'; exact ⟨⟨.list_bool c p hu0, .list_bool c p hu0⟩, .bool_list c p hu0, .bool_list c p hu0⟩
  | int c => cases of_int rw'; obtain ⟨t, rfl⟩ := ru'; exact ⟨⟨.list_int c t p hu0, .list_int c t p hu0⟩, .int_list c t p hu0, .int_list c t p hu0⟩
  | str c => cases of_str rw'; obtain ⟨t, rfl⟩ := ru'; exact ⟨⟨.list_str c t p hu0, .list_str c t p hu0⟩, .str_list c t p hu0, .str_list c t p hu0⟩
  | tup ts =>
    obtain ⟨b, zs, rfl, hq, r⟩ := of_tup rw'
    cases ru'
    obtain ⟨its', _, p', _⟩ := I.tuple hq
    exact ⟨⟨.list_tuple p p' hu0, .list_tuple p p' hu0⟩, .tuple_list p' p hu0, .tuple_list p' p hu0⟩
  | ref b => unfold flat at fw; cases fw
  | cl b => unfold flat at fw; cases fw
theorem o_eqG (neg : Bool) (hu : X.A.units + 150 < cLine) : OpS X (compareOp (if neg then .NotEq else .Eq)) (wEqG neg) := ⟨_, op_dir, fun F H C x y v u Q Q' R rx ry h q pins s σ v' u' I r1 r2 => by
  have fin : ∀ {k : Bool}, SeqAt.RcAt X.A s v' u' k ∧ SeqAt.RcNeAt X.A s v' u' (!k) → Q (.bl (if neg then !k else k)) H → wpAny (model X.prog X.w) X.A (compareOp (if neg then .NotEq else .Eq) v' u') (EP X pins σ Q) X.xe s := fun {k} e hq => by
    cases neg with
    | true => exact EqBoolInt.of_rcne e.2 ⟨.bl (!k), H, I, rfl, hq⟩
    | false => exact EqBoolInt.of_rc e.1 ⟨.bl k, H, I, rfl, hq⟩
  have two : ∀ {v u : T}, Rep X.K H x v → Rep X.K H y u → isFlat v ∧ isFlat u ∧ Q' (.bl (if neg then !eqT v u else eqT v u)) C → wpAny (model X.prog X.w) X.A (compareOp (if neg then .NotEq else .Eq) v' u') (EP X pins σ Q) X.xe s := fun {v u} rx ry h =>
    fin (rcT I h.1 h.2.1 rx ry r1 r2 (show X.A.units + 100 + 1 < cLine by omega)) (q _ _ H C R (Tx.refl H) rep_bl h.2.2)
  have hn : (if neg then !false else false) = neg := by cases neg <;> rfl
  have lft : ∀ {a : Addr} {u : T}, v' = .ref a → Rep X.K H y u → (∃ xs, C a = some (.lst xs)) ∧ isFlat u ∧ Q' (.bl neg) C → wpAny (model X.prog X.w) X.A (compareOp (if neg then .NotEq else .Eq) v' u') (EP X pins σ Q) X.xe s := fun {a u} ev ry h => by
    obtain ⟨⟨xs, hx⟩, f, hq⟩ := h
    obtain ⟨ys, hy, r⟩ := R.lst hx
    obtain ⟨its, _, p, _⟩ := I.list (SqL.of hy)
    have z := (list_vs (A := X.A) I f ry r2 (by omega) p.isList).1
    subst ev
    refine fin (k := false) z ?_
    rw [hn]
    exact q _ _ H C R (Tx.refl H) rep_bl hq
  have rgt : ∀ {b : Addr} {v : T}, u' = .ref b → Rep X.K H x v → (∃ xs, C b = some (.lst xs)) ∧ isFlat v ∧ Q' (.bl neg) C → wpAny (model X.prog X.w) X.A (compareOp (if neg then .NotEq else .Eq) v' u') (EP X pins σ Q) X.xe s := fun {b v} eu rx h => by
    obtain ⟨⟨xs, hx⟩, f, hq⟩ := h
    obtain ⟨ys, hy, r⟩ := R.lst hx
    obtain ⟨its, _, p, _⟩ := I.list (SqL.of hy)
    have z := (list_vs (A := X.A) I f rx r1 (by omega) p.isList).2
    subst eu
    refine fin (k := false) z ?_
    rw [hn]
    exact q _ _ H C R (Tx.refl H) rep_bl hq
  cases v with
  | ref a =>
    have ev : v' = .ref a := by cases of_ref rx; exact r1
    cases u with
    | ref b =>
      have eu : u' = .ref b := by cases of_ref ry; exact r2
      obtain ⟨xs, ys, ha, hb, hf, hq⟩ := h
      obtain ⟨zs, hz, rz⟩ := R.lst ha
      obtain ⟨ws, hw, rw'⟩ := R.lst hb
      obtain ⟨its, rI, p, _⟩ := I.list (SqL.of hz)
      obtain ⟨its', rI', p', _⟩ := I.list (SqL.of hw)
      have l1 : its.toArray.size = xs.length := by rw [List.size_toArray, ← rI.length, rz.length]
      have l2 : its'.toArray.size = ys.length := by rw [List.size_toArray, ← rI'.length, rw'.length]
      subst ev
      subst eu
      refine fin ?_ (q _ _ H C R (Tx.refl H) rep_bl hq)
      by_cases hl : xs.length = ys.length
      · obtain ⟨f1, f2⟩ := hf hl
        have hi := items_at (A := X.A.in1) I rz rw' rI rI' f1 f2 (by show X.A.units + 1 + 100 < cLine; omega)
        have k1 := SeqAt.RcAt.lists (A := X.A) p.isList p'.isList (by rw [l1, l2, hl]) (by omega) hi
        have k2 := SeqAt.RcNeAt.lists (A := X.A) p.isList p'.isList (by rw [l1, l2, hl]) (by omega) hi
        rw [l1, eqTs_same hl] at k1 k2
        exact ⟨k1, k2⟩
      · rw [eqTs_len hl]
        have hne : (its.toArray.size != its'.toArray.size) = true := by rw [l1, l2]; exact bne_iff_ne.mpr hl
        exact ⟨SeqAt.RcAt.lists_lengths p.isList p'.isList hne (by omega), SeqAt.RcNeAt.lists_lengths p.isList p'.isList hne (by omega)⟩
    | non => exact lft ev ry h
    | bl b => exact lft ev ry h
    | int b => exact lft ev ry h
    | str b => exact lft ev ry h
    | tup b => exact lft ev ry h
    | cl b => exact lft ev ry h
  | non =>
    cases u with
    | ref b => exact rgt (by cases of_ref ry; exact r2) rx h
    | _ => exact two rx ry h
  | bl _ =>
    cases u with
    | ref b => exact rgt (by cases of_ref ry; exact r2) rx h
    | _ => exact two rx ry h
  | int _ =>
    cases u with
    | ref b => exact rgt (by cases of_ref ry; exact r2) rx h
    | _ => exact two rx ry h
  | str _ =>
    cases u with
    | ref b => exact rgt (by cases of_ref ry; exact r2) rx h
    | _ => exact two rx ry h
  | tup _ =>
    cases u with
    | ref b => exact rgt (by cases of_ref ry; exact r2) rx h
    | _ => exact two rx ry h
  | cl _ =>
    cases u with
    | ref b => exact rgt (by cases of_ref ry; exact r2) rx h
    | _ => exact two rx ry h⟩
theorem o_eq (hu : X.A.units + 150 < cLine) : OpS X (compareOp .Eq) wEq := o_eqG false hu
theorem o_ne (hu : X.A.units + 150 < cLine) : OpS X (compareOp .NotEq) wNe := o_eqG true hu
theorem o_isN : OpS X (compareOp .Is) wIsN := ⟨_, op_isN, fun F H C x y v u Q Q' R rx ry h q => by
  obtain ⟨rfl, h⟩ := h
  refine ⟨of_non ry, ?_⟩
  have z := q (.bl _) _ H C R (Tx.refl H) rep_bl h
  cases v with
  | non => cases of_non rx; exact z
  | bl _ => cases of_bl rx; exact z
  | int _ => cases of_int rx; exact z
  | str _ => cases of_str rx; exact z
  | ref _ => cases of_ref rx; exact z
  | tup _ => obtain ⟨a, ys, rfl, _⟩ := of_tup rx; exact z
  | cl _ => obtain ⟨a, ys, rfl, _⟩ := of_cl rx; exact z⟩
theorem o_notN : OpS X (compareOp .IsNot) wNotN := ⟨_, op_notN, fun F H C x y v u Q Q' R rx ry h q => by
  obtain ⟨rfl, h⟩ := h
  refine ⟨of_non ry, ?_⟩
  have z := q (.bl _) _ H C R (Tx.refl H) rep_bl h
  cases v with
  | non => cases of_non rx; exact z
  | bl _ => cases of_bl rx; exact z
  | int _ => cases of_int rx; exact z
  | str _ => cases of_str rx; exact z
  | ref _ => cases of_ref rx; exact z
  | tup _ => obtain ⟨a, ys, rfl, _⟩ := of_tup rx; exact z
  | cl _ => obtain ⟨a, ys, rfl, _⟩ := of_cl rx; exact z⟩
open Classical in
/-- the items' answers, by the values -/
noncomputable def eqAns (v : T) (us : List Value) (ts : List T) (u : Value) : Bool := match (us.zip ts).find? fun p => decide (p.1 = u) with
  | some p => eqT p.2 v
  | none => false
open Classical in
theorem eqAns_at {pins : List (Addr × Obj)} {σ : L2.St} {H : Hp} {s : Shared} {n : Nat} {v : T} {ts : List T} {ys : List V} {us : List Value} (I : Inv X pins σ H s) (r : Reps X.K H ys ts) (rI : Vals ys us) (f : flats ts n = true) {j : Nat} {u : Value} {t : T} (hu : us[j]? = some u) (ht : ts[j]? = some t) :
    eqAns v us ts u = eqT t v := by
  unfold eqAns
  have hm : (u, t) ∈ us.zip ts := by
    refine List.mem_iff_getElem?.mpr ⟨j, ?_⟩
    rw [List.getElem?_zip_eq_some]
    exact ⟨hu, ht⟩
  cases e : (us.zip ts).find? fun p => decide (p.1 = u) with
  | none =>
    have := List.find?_eq_none.mp e (u, t) hm
    simp at this
  | some p =>
    have h1 := List.find?_some e
    have h2 := List.mem_of_find?_eq_some e
    simp only [decide_eq_true_eq] at h1
    obtain ⟨i, hi⟩ := List.mem_iff_getElem?.mp h2
    obtain ⟨g1, g2⟩ := List.getElem?_zip_eq_some.mp hi
    obtain ⟨x1, k1, q1⟩ := r.get g2
    obtain ⟨x2, k2, q2⟩ := r.get ht
    obtain ⟨u1, m1, z1⟩ := rI.get k1
    obtain ⟨u2, m2, z2⟩ := rI.get k2
    rw [g1] at m1; cases m1
    rw [hu] at m2; cases m2
    rw [h1] at z1
    have e2 := z1.inj z2
    subst e2
    show eqT p.2 v = eqT t v
    rw [rep_inj I n (flats_get f g2) (flats_get f ht) q1 q2]
theorem any_ans {pins : List (Addr × Obj)} {σ : L2.St} {H : Hp} {s : Shared} {n : Nat} {v : T} {ts : List T} {ys : List V} {us : List Value} (I : Inv X pins σ H s) (r : Reps X.K H ys ts) (rI : Vals ys us) (f : flats ts n = true) : us.any (eqAns v us ts) = inL v ts := by
  have hl : us.length = ts.length := by rw [← rI.length, r.length]
  have hat : ∀ j, us[j]?.map (eqAns v us ts) = ts[j]?.map fun t => eqT t v := fun j => by
    by_cases hj : j < us.length
    · have e1 : us[j]? = some us[j] := by simp [hj]
      have e2 : ts[j]? = some (ts[j]'(by omega)) := by simp [hl ▸ hj]
      rw [e1, e2, Option.map_some, Option.map_some, eqAns_at I r rI f e1 e2]
    · rw [List.getElem?_eq_none (by omega), List.getElem?_eq_none (by omega)]; rfl
  have hm : us.map (eqAns v us ts) = ts.map fun t => eqT t v := by
    refine List.ext_getElem? fun j => ?_
    rw [List.getElem?_map, List.getElem?_map]
    exact hat j
  unfold inL
  have a1 : us.any (eqAns v us ts) = (us.map (eqAns v us ts)).any id := by rw [List.any_map]; rfl
  have a2 : (ts.any fun y => eqT y v) = (ts.map fun t => eqT t v).any id := by rw [List.any_map]; rfl
  rw [a1, a2, hm]
theorem o_inG (neg : Bool) (hu : X.A.units + 150 < cLine) : OpS X (compareOp (if neg then .NotIn else .In)) (wInG neg) := ⟨_, op_dir, fun F H C x y v u Q Q' R rx ry h q pins s σ v' u' I r1 r2 => by
  have sq : ∀ {p : Addr} {ys : List V} {ts : List T}, u' = .ref p → (SqL X.K H p ys ∨ SqT X.K H p ys) → Reps X.K H ys ts → isFlat v → flats ts eqDeep = true → Q' (.bl (if neg then !inL v ts else inL v ts)) C →
      wpAny (model X.prog X.w) X.A (compareOp (if neg then .NotIn else .In) v' u') (EP X pins σ Q) X.xe s := fun {p ys ts} eu hq r fv ft hq' => by
    subst eu
    have at1 : ∀ {its : List Value}, Vals ys its → ∀ w, w ∈ its.toArray → SeqAt.EqAt X.A.in1 s w v' (eqAns v its ts w) := fun {its} rI w hw => by
      have hw' : w ∈ its := by simpa using hw
      obtain ⟨j, hj⟩ := List.mem_iff_getElem?.mp hw'
      have hlt : j < its.length := (List.getElem?_eq_some_iff.mp hj).1
      have hl : its.length = ts.length := by rw [← rI.length, r.length]
      have e2 : ts[j]? = some (ts[j]'(by omega)) := by simp [hl ▸ hlt]
      rw [eqAns_at I r rI ft hj e2]
      obtain ⟨x2, k2, q2⟩ := r.get e2
      obtain ⟨u2, m2, z2⟩ := rI.get k2
      rw [hj] at m2; cases m2
      exact eqAtT I 100 (flats_get ft e2) fv q2 rx z2 r1 (by show X.A.units + 1 + 100 < cLine; omega)
    rcases hq with hq | hq
    · obtain ⟨its, rI, p, _⟩ := I.list hq
      have e : its.toArray.any (eqAns v its ts) = inL v ts := by rw [← any_ans I r rI ft]; simp
      cases neg with
      | true => refine SeqAt.notIn_listAt (eqAns v its ts) p.isList (at1 rI) ⟨.bl _, H, I, rfl, ?_⟩; rw [e]; exact q _ _ H C R (Tx.refl H) rep_bl hq'
      | false => refine SeqAt.in_listAt (eqAns v its ts) p.isList (at1 rI) ⟨.bl _, H, I, rfl, ?_⟩; rw [e]; exact q _ _ H C R (Tx.refl H) rep_bl hq'
    · obtain ⟨its, rI, p, _⟩ := I.tuple hq
      have e : its.toArray.any (eqAns v its ts) = inL v ts := by rw [← any_ans I r rI ft]; simp
      cases neg with
      | true => refine SeqAt.notIn_tupleAt (eqAns v its ts) p (at1 rI) ⟨.bl _, H, I, rfl, ?_⟩; rw [e]; exact q _ _ H C R (Tx.refl H) rep_bl hq'
      | false => refine SeqAt.in_tupleAt (eqAns v its ts) p (at1 rI) ⟨.bl _, H, I, rfl, ?_⟩; rw [e]; exact q _ _ H C R (Tx.refl H) rep_bl hq'
  have tpl : ∀ {ts : List T}, Rep X.K H y (.tup ts) → isFlat v ∧ flats ts eqDeep = true ∧ Q' (.bl (if neg then !inL v ts else inL v ts)) C → wpAny (model X.prog X.w) X.A (compareOp (if neg then .NotIn else .In) v' u') (EP X pins σ Q) X.xe s := fun {ts} ry h => by
    obtain ⟨a, ys, rfl, hq, r⟩ := of_tup ry
    exact sq r2 (.inr hq) r h.1 h.2.1 h.2.2
  have cls : ∀ {ts : List T}, Rep X.K H y (.cl ts) → isFlat v ∧ flats ts eqDeep = true ∧ Q' (.bl (if neg then !inL v ts else inL v ts)) C → wpAny (model X.prog X.w) X.A (compareOp (if neg then .NotIn else .In) v' u') (EP X pins σ Q) X.xe s := fun {ts} ry h => by
    obtain ⟨a, ys, rfl, hq, r⟩ := of_cl ry
    exact sq r2 (.inl hq.sq) r h.1 h.2.1 h.2.2
  have rf : ∀ {a : Addr}, Rep X.K H y (.ref a) → (∃ ys, C a = some (.lst ys) ∧ isFlat v ∧ flats ys eqDeep = true ∧ Q' (.bl (if neg then !inL v ys else inL v ys)) C) → wpAny (model X.prog X.w) X.A (compareOp (if neg then .NotIn else .In) v' u') (EP X pins σ Q) X.xe s := fun {a} ry h => by
    obtain ⟨ts, ht, h1, h2, h3⟩ := h
    obtain ⟨zs, hz, rz⟩ := R.lst ht
    cases of_ref ry
    exact sq r2 (.inl (SqL.of hz)) rz h1 h2 h3
  cases u with
  | tup ts => cases v <;> exact tpl ry h
  | cl ts => cases v <;> exact cls ry h
  | ref a => cases v <;> exact rf ry h
  | str j =>
    cases v with
    | str i =>
      cases of_str rx; cases of_str ry
      obtain ⟨t, rfl⟩ := r1
      obtain ⟨t', rfl⟩ := r2
      cases neg with
      | true => exact notIn_str ⟨.bl _, H, I, rfl, q _ _ H C R (Tx.refl H) rep_bl h⟩
      | false => exact in_str ⟨.bl _, H, I, rfl, q _ _ H C R (Tx.refl H) rep_bl h⟩
    | _ => exact False.elim h
  | non => cases v <;> exact False.elim h
  | bl _ => cases v <;> exact False.elim h
  | int _ => cases v <;> exact False.elim h⟩
theorem o_in (hu : X.A.units + 150 < cLine) : OpS X (compareOp .In) wIn := o_inG false hu
theorem o_notIn (hu : X.A.units + 150 < cLine) : OpS X (compareOp .NotIn) wNotIn := o_inG true hu
theorem o_ix : IxS X wIdx := ⟨_, ix_seq, fun F H C x y v u Q Q' R rx ry h q => by
  cases v <;> cases u <;> first | exact False.elim h | skip
  case tup.int xs i =>
    obtain ⟨a, ys, rfl, hq, r⟩ := of_tup rx
    cases of_int ry
    obtain ⟨v, hv, h⟩ := h
    obtain ⟨z, hz, rz⟩ := r.at hv
    exact .inr (.inl ⟨a, ys, i, z, rfl, rfl, hq, hz, q _ _ H C R (Tx.refl H) rz h⟩)
  case cl.int xs i =>
    obtain ⟨a, ys, rfl, hq, r⟩ := of_cl rx
    cases of_int ry
    obtain ⟨v, hv, h⟩ := h
    obtain ⟨z, hz, rz⟩ := r.at hv
    exact .inl ⟨a, ys, i, z, rfl, rfl, hq.sq, hz, q _ _ H C R (Tx.refl H) rz h⟩
  case ref.int a i =>
    cases of_ref rx
    cases of_int ry
    obtain ⟨xs, v, hx, hv, h⟩ := h
    obtain ⟨ys, hy, r⟩ := R.lst hx
    obtain ⟨z, hz, rz⟩ := r.at hv
    exact .inl ⟨a, ys, i, z, rfl, rfl, SqL.of hy, hz, q _ _ H C R (Tx.refl H) rz h⟩
  case str.int z i =>
    cases of_str rx
    cases of_int ry
    obtain ⟨hl, c, hc, h⟩ := h
    exact .inr (.inr ⟨z, i, c, rfl, rfl, hl, hc, q _ _ H C R (Tx.refl H) rep_str h⟩)⟩
/-! slices -/
def SlS (X : Cx) (w : T → Option Int → Option Int → Hw → WK → Prop) : Prop := ∃ r, SlR X r ∧ ∀ (F H : Hp) (C : Hw) (x : V) (v : T) (lo hi : Option Int) (Q : VK) (Q' : WK), Rl X.K F H C → Rep X.K H x v → w v lo hi C Q' → QE X.K F H Q Q' → r x lo hi H Q
theorem cut_reps {K : PySem.W.Frag} {H : Hp} {ys : List V} {xs : List T} (r : Reps K H ys xs) (lo hi : Option Int) : Reps K H (cutV ys lo hi) (cut xs lo hi) := by
  unfold cutV cut
  rw [r.length]
  exact (r.drop _).take _
theorem o_sl : SlS X wSl := ⟨_, sl_tup.or (sl_list.or sl_str), fun F H C x v lo hi Q Q' R rx h q => by
  cases v with
  | tup xs =>
    obtain ⟨a, ys, rfl, hq, r⟩ := of_tup rx
    exact .inl ⟨a, ys, rfl, hq, by rw [r.length]; exact h.1, fun p hp => q _ _ _ C (R.hid hp) (Tx.new hp) (rep_tup (SqT.of upd_same) ((cut_reps r lo hi).tx (Tx.new hp))) h.2⟩
  | cl xs =>
    obtain ⟨a, ys, rfl, hq, r⟩ := of_cl rx
    exact .inr (.inl ⟨a, ys, rfl, hq.sq, fun p hp => q _ _ _ _ (R.newL hp (cut_reps r lo hi)) (Tx.new hp) rep_ref (h p (R.free hp))⟩)
  | ref a =>
    cases of_ref rx
    obtain ⟨xs, hx, h⟩ := h
    obtain ⟨ys, hy, r⟩ := R.lst hx
    exact .inr (.inl ⟨a, ys, rfl, SqL.of hy, fun p hp => q _ _ _ _ (R.newL hp (cut_reps r lo hi)) (Tx.new hp) rep_ref (h p (R.free hp))⟩)
  | str z => cases of_str rx; exact .inr (.inr ⟨z, rfl, h.1, q _ _ H C R (Tx.refl H) rep_str h.2⟩)
  | _ => exact False.elim h⟩
/-! calls of builtins -/
theorem of_one {K : PySem.W.Frag} {H : Hp} {xs : List V} {v : T} (h : Reps K H xs [v]) : ∃ x, xs = [x] ∧ Rep K H x v := by
  obtain ⟨y, r, rfl, a, b⟩ := of_cons h
  cases of_nil b
  exact ⟨y, rfl, a⟩
theorem of_two {K : PySem.W.Frag} {H : Hp} {xs : List V} {v w : T} (h : Reps K H xs [v, w]) : ∃ x y, xs = [x, y] ∧ Rep K H x v ∧ Rep K H y w := by
  obtain ⟨y, r, rfl, a, b⟩ := of_cons h
  obtain ⟨z, rfl, c⟩ := of_one b
  exact ⟨y, z, rfl, a, c⟩
theorem b_len : CallS X (.builtin "len") bLen := ⟨_, call_len_seq.or call_len_str, fun F H C xs vs Q Q' R rs h q => by
  obtain ⟨v, rfl, h⟩ := h
  obtain ⟨x, rfl, rx⟩ := of_one rs
  cases v with
  | str z => cases of_str rx; exact .inr ⟨z, rfl, h.1, q _ _ H C R (Tx.refl H) rep_int h.2⟩
  | tup xs =>
    obtain ⟨a, ys, rfl, hq, r⟩ := of_tup rx
    exact .inl ⟨a, ys, rfl, .inr hq, by rw [r.length]; exact q _ _ H C R (Tx.refl H) rep_int h⟩
  | cl xs =>
    obtain ⟨a, ys, rfl, hq, r⟩ := of_cl rx
    exact .inl ⟨a, ys, rfl, .inl hq.sq, by rw [r.length]; exact q _ _ H C R (Tx.refl H) rep_int h⟩
  | ref a =>
    cases of_ref rx
    obtain ⟨xs, hx, h⟩ := h
    obtain ⟨ys, hy, r⟩ := R.lst hx
    exact .inl ⟨a, ys, rfl, .inl (SqL.of hy), by rw [r.length]; exact q _ _ H C R (Tx.refl H) rep_int h⟩
  | _ => exact False.elim h⟩
theorem b_max (hc : X.calm = true) : CallS X (.builtin "max") bMax := ⟨_, call_max2 hc, fun F H C xs vs Q Q' R rs h q => by
  obtain ⟨i, j, rfl, h⟩ := h
  obtain ⟨x, y, rfl, rx, ry⟩ := of_two rs
  cases of_int rx; cases of_int ry
  exact ⟨i, j, rfl, q _ _ H C R (Tx.refl H) rep_int h⟩⟩
theorem reps_bls {K : PySem.W.Frag} {H : Hp} : ∀ {bs : List Bool} {ys : List V}, Reps K H ys (bs.map T.bl) → ys = bs.map V.bl
  | [], _, h => of_nil h
  | b :: bs, _, h => by obtain ⟨y, r, rfl, a, c⟩ := of_cons h; cases of_bl a; rw [reps_bls c]; rfl
theorem b_tuple : CallS X (.type "tuple") bTuple := ⟨_, call_tuple_of, fun F H C xs vs Q Q' R rs h q => by
  obtain ⟨v, rfl, h⟩ := h
  obtain ⟨x, rfl, rx⟩ := of_one rs
  cases v with
  | tup xs =>
    obtain ⟨a, ys, rfl, hq, r⟩ := of_tup rx
    exact ⟨a, ys, rfl, .inr ⟨hq, q _ _ H C R (Tx.refl H) (rep_tup hq r) h⟩⟩
  | cl xs =>
    obtain ⟨a, ys, rfl, hq, r⟩ := of_cl rx
    exact ⟨a, ys, rfl, .inl ⟨hq.sq, fun p hp => q _ _ _ C (R.hid hp) (Tx.new hp) (rep_tup (SqT.of upd_same) (r.tx (Tx.new hp))) h⟩⟩
  | ref a =>
    cases of_ref rx
    obtain ⟨xs, hx, h⟩ := h
    obtain ⟨ys, hy, r⟩ := R.lst hx
    exact ⟨a, ys, rfl, .inl ⟨SqL.of hy, fun p hp => q _ _ _ C (R.hid hp) (Tx.new hp) (rep_tup (SqT.of upd_same) (r.tx (Tx.new hp))) h⟩⟩
  | _ => exact False.elim h⟩
/-! methods of lists -/
theorem m_append : MtS X "list.append" mAppend := ⟨_, mt_append, fun F H C x v xs vs Q Q' R rx rs h q => by
  obtain ⟨a, ts, y, rfl, rfl, hx, hl, h⟩ := h
  cases of_ref rx
  obtain ⟨z, rfl, rz⟩ := of_one rs
  obtain ⟨ys, hy, r⟩ := R.lst hx
  obtain ⟨R', t⟩ := R.putL hx (r.snoc rz)
  exact ⟨a, ys, z, rfl, rfl, hy, by rw [r.length]; exact hl, q _ _ _ _ R' t rep_non h⟩⟩
theorem m_pop : MtS X "list.pop" mPop := ⟨_, mt_pop, fun F H C x v xs vs Q Q' R rx rs h q => by
  obtain ⟨a, ts, y, rfl, rfl, hx, hy, h⟩ := h
  cases of_ref rx
  cases of_nil rs
  obtain ⟨ys, hys, r⟩ := R.lst hx
  obtain ⟨z, hz, rz⟩ := r.get hy
  obtain ⟨R', t⟩ := R.putL hx r.dropLast
  exact ⟨a, ys, z, rfl, rfl, hys, by rw [r.length]; exact hz, q _ _ _ _ R' t (rz.tx t) h⟩⟩
theorem m_popAt : MtS X "list.pop" mPopAt := ⟨_, mt_popAt, fun F H C x v xs vs Q Q' R rx rs h q => by
  obtain ⟨a, ts, i, k, y, rfl, rfl, hx, h1, h2, hk, hy, h⟩ := h
  cases of_ref rx
  obtain ⟨z, rfl, rz⟩ := of_one rs
  cases of_int rz
  obtain ⟨ys, hys, r⟩ := R.lst hx
  obtain ⟨z, hz, rz⟩ := r.get hy
  obtain ⟨R', t⟩ := R.putL hx (r.erase k)
  exact ⟨a, ys, i, k, z, rfl, rfl, hys, h1, h2, by rw [r.length]; exact hk, hz, q _ _ _ _ R' t (rz.tx t) h⟩⟩
end
end WL
set_option Elab.async false
set_option linter.all false
set_option maxRecDepth 100000
set_option maxHeartbeats 4000000
namespace WL
open PySem PySem.Spec PyProof.Rows L2
/-! ### expressions -/
section
variable {X : Cx} {a b c e : Expr} {es : List Expr} {wa wb wc : WE} {wt wt' : WT} {wA : WA} {w w' : W2} {pos p apos cpos : Pos} {rest : List Expr}
theorem d_var (i : Nat) {x : Str} (hN : X.N[i]? = some x := by rfl) (hv : Vis X.env.scope x := by first | exact Or.inl rfl | exact Or.inr (Or.inl rfl) | exact Or.inr (Or.inr rfl)) (hd : (x == ("__debug__" : Str)) = false := by decide)
    (hcd : (x == ("__classdict__" : Str)) = false := by decide) : SdE X (.Name x pos) (eVar i) := ⟨_, pe_var hN hv hd hcd, s_var⟩
theorem d_int {i j} : SdE X (.Constant (.int i) j pos) (eC (.int i)) := ⟨_, pe_int, s_c fun _ => rep_int⟩
theorem d_str {i j} : SdE X (.Constant (.str i) j pos) (eC (.str i)) := ⟨_, pe_str, s_c fun _ => rep_str⟩
theorem d_bl {i j} : SdE X (.Constant (.bool i) j pos) (eC (.bl i)) := ⟨_, pe_bl, s_c fun _ => rep_bl⟩
theorem d_non {j} : SdE X (.Constant .none j pos) (eC .non) := ⟨_, pe_non, s_c fun _ => rep_non⟩
/-- a name of the module's top that stands for a value -/
def Glb (K : PySem.W.Frag) (mg : Str → Option Value) (x : Str) (v : T) : Prop := ∃ z u, mg x = some u ∧ RelV z u ∧ ∀ H, Rep K H z v
theorem d_op {op : Operator} (ho : OpS X (binaryOp op) w) (ha : SdE X a wa) (hb : SdE X b wb) : SdE X (.BinOp a op b pos) (eBin w wa wb) := by
  obtain ⟨r, h1, h2⟩ := ho
  obtain ⟨ta, p1, s1⟩ := ha
  obtain ⟨tb, p2, s2⟩ := hb
  exact ⟨_, pe_op h1 p1 p2, s_op s1 s2 h2⟩
theorem d_neg (ha : SdE X a wa) : SdE X (.UnaryOp .USub a pos) (eUn wNeg wa) := by
  obtain ⟨ta, p1, s1⟩ := ha
  exact ⟨_, pe_un un_neg p1, s_un s1 fun F H C x v Q Q' R rx h q => by
    cases v with
    | int i => cases of_int rx; exact ⟨i, rfl, q _ _ H C R (Tx.refl H) rep_int h⟩
    | _ => exact False.elim h⟩
theorem d_cmp {op : CmpOp} (ho : OpS X (compareOp op) w) (ha : SdE X a wa) (hb : SdE X b wb) (hm : behindInMarks op b = false) : SdE X (.Compare a [op] [b] pos) (eBin w wa wb) := by
  obtain ⟨r, h1, h2⟩ := ho
  obtain ⟨ta, p1, s1⟩ := ha
  obtain ⟨tb, p2, s2⟩ := hb
  exact ⟨_, pe_cmpR h1 p1 p2 hm, s_op s1 s2 h2⟩
theorem d_and (ha : SdE X a wa) (hb : SdE X (.BoolOp .And (b :: rest) pos) wb) : SdE X (.BoolOp .And (a :: b :: rest) pos) (eAnd wa wb) := by
  obtain ⟨ta, p1, s1⟩ := ha
  obtain ⟨tb, p2, s2⟩ := hb
  exact ⟨_, pe_and p1 p2, s_and s1 s2⟩
theorem d_one {op} (ha : SdE X a wa) : SdE X (.BoolOp op [a] pos) wa := by
  obtain ⟨ta, p1, s1⟩ := ha
  exact ⟨_, pe_one p1, s1⟩
theorem d_ife (hc : SdT X c wt) (ha : SdE X a wa) (hb : SdE X b wb) : SdE X (.IfExp c a b pos) (eIf wt wa wb) := by
  obtain ⟨ta, p1, s1⟩ := ha
  obtain ⟨tb, p2, s2⟩ := hb
  obtain ⟨tc, p3, s3⟩ := hc
  exact ⟨_, pe_ifExp p3 p1 p2, s_if s3 s1 s2⟩
theorem da_nil : SdA X [] aNil := ⟨_, pa_nil, s_nil⟩
theorem da_cons (ha : SdE X a wa) (hb : SdA X es wA) (hs : starEach (a :: es) X.env = (false, eval a X.env) :: starEach es X.env := by rfl) : SdA X (a :: es) (aCons wa wA) := by
  obtain ⟨ta, p1, s1⟩ := ha
  obtain ⟨tb, p2, s2⟩ := hb
  exact ⟨_, pa_cons p1 p2 hs, s_cons s1 s2⟩
theorem d_tup {x1} (h : SdA X es wA) : SdE X (.Tuple es x1 pos) (eTup wA) := by
  obtain ⟨t, p, s⟩ := h
  exact ⟨_, pe_tup p, s_tup s⟩
theorem d_lst (h : SdA X es wA) : SdE X (.List es pos) (eLst wA) := by
  obtain ⟨t, p, s⟩ := h
  exact ⟨_, pe_lst p, s_lst s⟩
theorem d_ix (ha : SdE X a wa) (hb : SdE X b wb) (hs : PlainIx b) : SdE X (.Subscript a b pos) (eBin wIdx wa wb) := by
  obtain ⟨r, h1, h2⟩ := o_ix (X := X)
  obtain ⟨ta, p1, s1⟩ := ha
  obtain ⟨tb, p2, s2⟩ := hb
  exact ⟨_, pe_ix h1 p1 p2 hs, s_op s1 s2 h2⟩
def SdO (X : Cx) (e : Option Expr) (w : Sw → Hw → (Option Int → Hw → Prop) → WX → Prop) : Prop := ∃ t, PO X e t ∧ ∀ (F H : Hp) (C : Hw) (σ : L2.St) (τ : Sw) (Q : Option Int → Hp → Prop) (Q' : Option Int → Hw → Prop) (χ : WX), Rl X.K F H C → RepS X.K H σ τ → w τ C Q' χ →
  (∀ o H' C', Rl X.K F H' C' → Tx H H' → Q' o C' → Q o H') → t σ H Q
theorem do_none : SdO X none oNo := ⟨_, po_none, fun F H C σ τ Q Q' χ R S h q => q none H C R (Tx.refl H) h⟩
theorem do_some (ha : SdE X a wa) : SdO X (some a) (oSome wa) := by
  obtain ⟨ta, p1, s1⟩ := ha
  refine ⟨_, po_some p1, fun F H C σ τ Q Q' χ R S h q => ?_⟩
  refine s1 F H C σ τ _ _ χ R S h fun x v H1 C1 R1 t1 rx h1 => ?_
  obtain ⟨i, rfl, h1⟩ := h1
  exact ⟨i, of_int rx, q (some i) H1 C1 R1 t1 h1⟩
theorem d_sl {lo hi : Option Expr} {wl wh : Sw → Hw → (Option Int → Hw → Prop) → WX → Prop} {p2 : Pos} (ha : SdE X a wa) (hl : SdO X lo wl) (hh : SdO X hi wh) : SdE X (.Subscript a (.Slice lo hi none p2) pos) (eSl wa wl wh) := by
  obtain ⟨r, h1, h2⟩ := o_sl (X := X)
  obtain ⟨ta, p1, s1⟩ := ha
  obtain ⟨tl, p3, s3⟩ := hl
  obtain ⟨th, p4, s4⟩ := hh
  refine ⟨_, pe_slice h1 p1 p3 p4, fun F H C σ τ Q Q' χ R S h q => ?_⟩
  refine s1 F H C σ τ _ _ χ R S h fun x v H1 C1 R1 t1 rx h1 => ?_
  refine s3 F H1 C1 σ τ _ _ χ R1 (S.tx t1) h1 fun l H2 C2 R2 t2 h2' => ?_
  refine s4 F H2 C2 σ τ _ _ χ R2 (S.tx (t1.trans t2)) h2' fun u H3 C3 R3 t3 h3 => ?_
  exact h2 F H3 C3 x v l u Q Q' R3 ((rx.tx t2).tx t3) h3 (QE.at q ((t1.trans t2).trans t3))
/-- f(e, ..), f a function of Python's own -/
theorem d_bi {x : Str} {id : String} {r : List T → Hw → WK → Prop} (hc : CallS X (.builtin id) r) (hg : Gl X x) (hm : X.mg x = none) (hv : bootBuiltins x = some (.builtin id)) (ha : SdA X (e :: es) wA) (hn : x ≠ "__name__" := by decide) (hdb : (x == ("__debug__" : Str)) = false := by decide)
    (he : starEach (e :: es) X.env = (false, eval e X.env) :: starEach es X.env := by rfl) (hpl : (backTo pos (starEach es X.env)).any (·.1) = false := by rfl) : SdE X (.Call (.Name x p) (e :: es) [] pos) (eBi r wA) := by
  obtain ⟨r, h1, h2⟩ := hc
  obtain ⟨t, p1, s1⟩ := ha
  exact ⟨_, pe_callB h1 hg hm hv p1 hn hdb he hpl, s_bi h2 s1⟩
theorem d_ty {x : Str} {id : String} {r : List T → Hw → WK → Prop} (hc : CallS X (.type id) r) (hg : Gl X x) (hm : X.mg x = none) (hv : bootBuiltins x = some (.type id)) (ha : SdA X (e :: es) wA) (hn : x ≠ "__name__" := by decide) (hdb : (x == ("__debug__" : Str)) = false := by decide)
    (he : starEach (e :: es) X.env = (false, eval e X.env) :: starEach es X.env := by rfl) (hpl : (backTo pos (starEach es X.env)).any (·.1) = false := by rfl) : SdE X (.Call (.Name x p) (e :: es) [] pos) (eBi r wA) := by
  obtain ⟨r, h1, h2⟩ := hc
  obtain ⟨t, p1, s1⟩ := ha
  exact ⟨_, pe_callTy h1 hg hm hv p1 hn hdb he hpl, s_bi h2 s1⟩
/-- the receiver's class -/
def TyS (X : Cx) (Tn : String) (ty : T → Hw → Prop) : Prop := ∀ (F H : Hp) (C : Hw) (x : V) (v : T), Rl X.K F H C → Rep X.K H x v → ty v C → tyV X.K Tn x H
theorem ty_list : TyS X "list" tyL' := fun F H C x v R rx h => by
  obtain ⟨a, xs, rfl, hx⟩ := h
  cases of_ref rx
  obtain ⟨ys, hy, r⟩ := R.lst hx
  exact L2.tyL hy
theorem d_mt {o : Expr} {wo : WE} {name : Str} {Tn id : String} {ty : T → Hw → Prop} {r : T → List T → Hw → WK → Prop} (pa : PlainAttrs Tn) (slot : Slot Tn name id) (hty : typeOf (.builtin id) = pure (.type "method_descriptor")) (hT : TyS X Tn ty) (hm : MtS X id r) (ho : SdE X o wo) (ha : SdA X (e :: es) wA)
    (hbase : attributeBase o name X.env (eval o X.env) = eval o X.env := by rfl)
    (hfew : ((backTo cpos (starEach (e :: es) X.env)).all (fun x => !x.1) && (backToKw cpos (keywordEach [] X.env)).all (fun x => x.1.isSome)
      && decide ((e :: es).length + ([] : List Keyword).length + (if ([] : List Keyword).isEmpty then 0 else 1) < 30)) = true := by rfl)
    (hline : (apos.endLine == cpos.line) = true := by rfl) (hs : starEach (e :: es) X.env = (false, eval e X.env) :: starEach es X.env := by rfl) (hplain : (backTo cpos (starEach es X.env)).any (·.1) = false := by rfl) :
    SdE X (.Call (.Attribute o name apos) (e :: es) [] cpos) (eMt ty r wo wA) := by
  obtain ⟨rr, h1, h2⟩ := hm
  obtain ⟨to, p1, s1⟩ := ho
  obtain ⟨ta, p2, s2⟩ := ha
  refine ⟨_, pe_bm pa slot hty h1 p1 p2 hbase hfew hline hs hplain, fun F H C σ τ Q Q' χ R S h q => ?_⟩
  refine s1 F H C σ τ _ _ χ R S h fun x v H1 C1 R1 t1 rx h1' => ⟨hT F H1 C1 x v R1 rx h1'.1, ?_⟩
  refine s2 F H1 C1 σ τ _ _ χ R1 (S.tx t1) h1'.2 fun xs vs H2 C2 R2 t2 rs h2' => ?_
  exact h2 F H2 C2 x v xs vs Q Q' R2 (rx.tx t2) rs h2' (QE.at q (t1.trans t2))
theorem d_mt0 {o : Expr} {wo : WE} {name : Str} {Tn id : String} {ty : T → Hw → Prop} {r : T → List T → Hw → WK → Prop} (pa : PlainAttrs Tn) (slot : Slot Tn name id) (hty : typeOf (.builtin id) = pure (.type "method_descriptor")) (hT : TyS X Tn ty) (hm : MtS X id r) (ho : SdE X o wo)
    (hbase : attributeBase o name X.env (eval o X.env) = eval o X.env := by rfl) (hline : (apos.endLine == cpos.line) = true := by rfl) :
    SdE X (.Call (.Attribute o name apos) [] [] cpos) (eMt ty r wo aNil) := by
  obtain ⟨rr, h1, h2⟩ := hm
  obtain ⟨to, p1, s1⟩ := ho
  refine ⟨_, pe_bm0 pa slot hty h1 p1 hbase hline, fun F H C σ τ Q Q' χ R S h q => ?_⟩
  refine s1 F H C σ τ _ _ χ R S h fun x v H1 C1 R1 t1 rx h1' => ⟨hT F H1 C1 x v R1 rx h1'.1, ?_⟩
  exact h2 F H1 C1 x v [] [] Q Q' R1 rx reps_nil h1'.2 (QE.at q t1)
/-! isinstance -/
theorem kit_cls {K : PySem.W.Frag} {n c : String} (hn : n ∈ ["NoneType", "bool", "int", "str", "tuple", "list", "dict"]) (hc : c ∈ ["bool", "int", "str", "tuple", "list", "dict"]) : PySem.W.kitOne K (.type n) (.type c) = some (isCls n c) := by
  simp only [List.mem_cons, List.not_mem_nil, or_false] at hn hc
  rcases hn with rfl | rfl | rfl | rfl | rfl | rfl | rfl <;> rcases hc with rfl | rfl | rfl | rfl | rfl | rfl <;> rfl
theorem tyN_mem {v : T} {C : Hw} {n : String} (h : tyN v C n) : n ∈ ["NoneType", "bool", "int", "str", "tuple", "list", "dict"] := by
  cases v with
  | non => cases h; decide
  | bl _ => cases h; decide
  | int _ => cases h; decide
  | str _ => cases h; decide
  | tup _ => cases h; decide
  | cl _ => cases h; decide
  | ref _ => rcases h with ⟨rfl, _⟩ | ⟨rfl, _⟩ <;> decide
theorem isi_of {pins : List (Addr × Obj)} {σ : L2.St} {F H : Hp} {C : Hw} {s : Shared} {x : V} {v : T} {u : Value} {n c : String} {Q : Value → Shared → Prop} (I : Inv X pins σ H s) (R : Rl X.K F H C) (rx : Rep X.K H x v) (ru : RelV x u) (hn : tyN v C n) (hc : c ∈ ["bool", "int", "str", "tuple", "list", "dict"])
    (h : ∀ tk, Q (.bool (isCls n c)) { s with toks := tk }) : wpAny (model X.prog X.w) X.A (call (.builtin "isinstance") [u, .type c]) Q X.xe s := by
  have e := kit_cls (K := X.K) (tyN_mem hn) hc
  cases v with
  | non => cases hn; cases of_non rx; exact isinst_ok I ru .non e h
  | bl b => cases hn; cases of_bl rx; exact isinst_ok I ru (.bl b) e h
  | int b => cases hn; cases of_int rx; exact isinst_ok I ru (.int b) e h
  | str b => cases hn; cases of_str rx; exact isinst_ok I ru (.str b) e h
  | tup xs =>
    cases hn
    obtain ⟨a, ys, rfl, hq, r⟩ := of_tup rx
    cases ru
    obtain ⟨its, _, ⟨o, h1, h2, _⟩, _⟩ := I.tuple hq
    exact PySem.W.kia_one PySem.W.kitx_tuple I.kIn ⟨o, h1, h2⟩ e (fun z => nomatch z) h
  | cl xs =>
    cases hn
    obtain ⟨a, ys, rfl, hq, r⟩ := of_cl rx
    cases ru
    obtain ⟨its, _, p, _⟩ := I.list hq.sq
    obtain ⟨o, h1, h2, _⟩ := p.isList
    exact PySem.W.kia_one PySem.W.kitx_list I.kIn ⟨o, h1, h2⟩ e (fun z => nomatch z) h
  | ref a =>
    cases of_ref rx
    rcases hn with ⟨rfl, xs, hx⟩ | ⟨rfl, kvs, hx⟩
    · obtain ⟨ys, hy, r⟩ := R.lst hx
      exact isinst_ok I ru (.lst hy) e h
    · obtain ⟨ks, hy, r⟩ := R.obj a _ hx
      exact isinst_ok I ru (.dK hy) e h
theorem d_isi {x : Str} {q2 : Pos} {c : String} (hg : Gl X "isinstance") (hm : X.mg "isinstance" = none) (hgx : Gl X x) (hmx : X.mg x = none) (hvx : bootBuiltins x = some (.type c)) (hc : c ∈ ["bool", "int", "str", "tuple", "list", "dict"]) (ha : SdE X a wa)
    (hnx : x ≠ "__name__" := by decide) (hdx : (x == ("__debug__" : Str)) = false := by decide) (he : starEach [a, .Name x q2] X.env = [(false, eval a X.env), (false, eval (.Name x q2) X.env)] := by rfl) : SdE X (.Call (.Name "isinstance" p) [a, .Name x q2] [] pos) (eIsi wa c) := by
  obtain ⟨ta, p1, s1⟩ := ha
  let r : List V → Hp → VK → Prop := fun xs H Q => ∃ y F C v n, xs = [y, .ty c] ∧ Rl X.K F H C ∧ Rep X.K H y v ∧ tyN v C n ∧ Q (.bl (isCls n c)) H
  have hr : CallR X (.builtin "isinstance") r := by
    intro pins s σ H xs us Q I rs h
    obtain ⟨y, F, C, v, n, rfl, R, ry, hn, q⟩ := h
    obtain ⟨u, u2, rfl, ru, ru2⟩ := rs.two
    cases ru2
    exact isi_of I R ry ru hn hc fun tk => ⟨.bl _, H, I.tok tk, rfl, q⟩
  refine ⟨_, pe_callB hr hg hm bt_isinstance (pa_cons p1 (pa_cons (pe_bltn (v := .ty c) hgx hmx hvx rfl hnx hdx) pa_nil (by rw [show starEach [Expr.Name x q2] X.env = [(false, eval (.Name x q2) X.env)] from rfl]; rfl)) ?_) (by decide) (by decide) ?_ ?_, ?_⟩
  · rw [he]; rfl
  · rw [he]; rfl
  · rfl
  · intro F H C σ τ Q Q' χ R S h q
    refine s1 F H C σ τ _ _ χ R S h fun y v H1 C1 R1 t1 ry h1 => ?_
    obtain ⟨n, hn, h1⟩ := h1
    exact ⟨y, F, C1, v, n, rfl, R1, ry, hn, q _ _ H1 C1 R1 t1 rep_bl h1⟩
/-! tests -/
theorem dt_cmp {op : CmpOp} (ho : OpS X (compareOp op) w) (ha : SdE X a wa) (hb : SdE X b wb) (hm : behindInMarks op b = false) : SdT X (.Compare a [op] [b] pos) (tBl (eBin w wa wb)) := by
  obtain ⟨r, h1, h2⟩ := ho
  obtain ⟨ta, p1, s1⟩ := ha
  obtain ⟨tb, p2, s2⟩ := hb
  exact ⟨_, pt_cmpR h1 p1 p2 hm, s_bl (s_op s1 s2 h2)⟩
theorem dt_tru (ha : SdE X a wa) (he : ∀ whole, isTrue a X.env whole = (do let v ← whole; standAt a.pos; holding [v] (truthy v)) := by intro _; rfl) : SdT X a (tTru wa) := by
  obtain ⟨ta, p1, s1⟩ := ha
  exact ⟨_, pt_truth p1 he, s_tru s1⟩
theorem dw_and1 (ha : SdT X a wt) : SdW X (.BoolOp .And [a] pos) wt := by
  obtain ⟨t, p, s⟩ := ha
  exact ⟨_, pw_and1 p, s⟩
theorem dw_or1 (ha : SdT X a wt) : SdW X (.BoolOp .Or [a] pos) wt := by
  obtain ⟨t, p, s⟩ := ha
  exact ⟨_, pw_or1 p, s⟩
theorem dw_and (ha : SdT X a wt) (hb : SdW X (.BoolOp .And (b :: rest) pos) wt') : SdW X (.BoolOp .And (a :: b :: rest) pos) (tAn wt wt') := by
  obtain ⟨t, p, s⟩ := ha
  obtain ⟨t', p', s'⟩ := hb
  exact ⟨_, pw_and p p', s_an s s'⟩
theorem dw_or (ha : SdT X a wt) (hb : SdW X (.BoolOp .Or (b :: rest) pos) wt') : SdW X (.BoolOp .Or (a :: b :: rest) pos) (tOr' wt wt') := by
  obtain ⟨t, p, s⟩ := ha
  obtain ⟨t', p', s'⟩ := hb
  exact ⟨_, pw_or p p', s_or' s s'⟩
theorem dt_w (h : SdW X a wt) : SdT X a wt := by
  obtain ⟨t, p, s⟩ := h
  exact ⟨_, p.pt, s⟩
theorem dt_not (ha : SdT X a wt) : SdT X (.UnaryOp .Not a pos) (tNo wt) := by
  obtain ⟨t, p, s⟩ := ha
  exact ⟨_, pt_not p, s_no s⟩
end
/-! ### statements -/
structure DRel (K : PySem.W.Frag) (F H : Hp) (D : Ends) (D' : We) : Prop where
  nx : ∀ σ τ H' C', Rl K F H' C' → Tx H H' → RepS K H' σ τ → D'.nx τ C' → D.nx σ H'
  rt : ∀ x v H' C', Rl K F H' C' → Tx H H' → Rep K H' x v → D'.rt v C' → D.rt x H'
  bk : ∀ σ τ H' C', Rl K F H' C' → Tx H H' → RepS K H' σ τ → D'.bk τ C' → D.bk σ H'
  ct : ∀ σ τ H' C', Rl K F H' C' → Tx H H' → RepS K H' σ τ → D'.ct τ C' → D.ct σ H'
theorem DRel.at {K : PySem.W.Frag} {F H H1 : Hp} {D : Ends} {D' : We} (h : DRel K F H D D') (t : Tx H H1) : DRel K F H1 D D' :=
  ⟨fun σ τ H' C' R t' => h.nx σ τ H' C' R (t.trans t'), fun x v H' C' R t' => h.rt x v H' C' R (t.trans t'), fun σ τ H' C' R t' => h.bk σ τ H' C' R (t.trans t'), fun σ τ H' C' R t' => h.ct σ τ H' C' R (t.trans t')⟩
def SimS (K : PySem.W.Frag) (t : TS) (w : WS) : Prop := ∀ (F H : Hp) (C : Hw) (σ : L2.St) (τ : Sw) (D : Ends) (D' : We), Rl K F H C → RepS K H σ τ → w D' τ C → DRel K F H D D' → t D σ H
def SimG (K : PySem.W.Frag) (t : TG) (w : WG) : Prop := ∀ (F H : Hp) (C : Hw) (σ : L2.St) (τ : Sw) (x : V) (v : T) (Q : L2.St → Hp → Prop) (Q' : Sw → Hw → Prop) (χ : WX), Rl K F H C → RepS K H σ τ → Rep K H x v → w v τ C Q' χ →
  (∀ σ' τ' H' C', Rl K F H' C' → Tx H H' → RepS K H' σ' τ' → Q' τ' C' → Q σ' H') → t x σ H Q
def SimGs (K : PySem.W.Frag) (t : TGs) (w : WGs) : Prop := ∀ (F H : Hp) (C : Hw) (σ : L2.St) (τ : Sw) (x : List V) (v : List T) (Q : L2.St → Hp → Prop) (Q' : Sw → Hw → Prop) (χ : WX), Rl K F H C → RepS K H σ τ → Reps K H x v → w v τ C Q' χ →
  (∀ σ' τ' H' C', Rl K F H' C' → Tx H H' → RepS K H' σ' τ' → Q' τ' C' → Q σ' H') → t x σ H Q
def SdS (X : Cx) (st : Stmt) (w : WS) : Prop := ∃ t, PS X st t ∧ SimS X.K t w
def SdB (X : Cx) (st : List Stmt) (w : WS) : Prop := ∃ t, PSs X st t ∧ SimS X.K t w
/-- a target: also what a comprehension asks of it -/
def SdG (X : Cx) (e : Expr) (w : WG) : Prop := ∃ t, PG X e t ∧ SimG X.K t w
def SdGs (X : Cx) (e : List Expr) (w : WGs) : Prop := ∃ t, PGs X e t ∧ SimGs X.K t w
section
variable {X : Cx} {st : Stmt} {rest : List Stmt} {w u : WS} {e tg : Expr} {we : WE} {wt : WT} {g : WG} {gs : WGs} {pos : Pos}
theorem sg_name {K : PySem.W.Frag} {i : Nat} : SimG K (gName i) (gNm i) := fun F H C σ τ x v Q Q' χ R S r h q => q _ _ H C R (Tx.refl H) (S.set r) h
theorem sg_nil {K : PySem.W.Frag} : SimGs K gNil gsNil := fun F H C σ τ x v Q Q' χ R S r h q => by
  obtain ⟨rfl, h⟩ := h
  exact ⟨of_nil r, q _ _ H C R (Tx.refl H) S h⟩
theorem sg_cons {K : PySem.W.Frag} {t : TG} {u : TGs} {g : WG} {gs : WGs} (a : SimG K t g) (b : SimGs K u gs) : SimGs K (gCons t u) (gsCons g gs) := fun F H C σ τ x v Q Q' χ R S r h q => by
  obtain ⟨v1, vs, rfl, h⟩ := h
  obtain ⟨y, ys, rfl, r1, r2⟩ := of_cons r
  refine ⟨y, ys, rfl, a F H C σ τ y v1 _ _ χ R S r1 h fun σ' τ' H' C' R' t' S' h' => ?_⟩
  exact b F H' C' σ' τ' ys vs Q Q' χ R' S' (r2.tx t') h' fun σ2 τ2 H2 C2 R2 t2 => q σ2 τ2 H2 C2 R2 (t'.trans t2)
theorem sg_tup {K : PySem.W.Frag} {u : TGs} {gs : WGs} {n : Nat} (b : SimGs K u gs) (hn : ∀ vs τ C Q χ, gs vs τ C Q χ → vs.length = n) : SimG K (gTup K n u) (gTp gs) := fun F H C σ τ x v Q Q' χ R S r h q => by
  obtain ⟨vs, rfl, h⟩ := h
  obtain ⟨a, ys, rfl, hq, rs⟩ := of_tup r
  exact ⟨a, ys, rfl, hq, by rw [rs.length]; exact hn _ _ _ _ _ h, b F H C σ τ ys vs Q Q' χ R S rs h q⟩
/-- how many a row of targets takes -/
def GsLen (n : Nat) (gs : WGs) : Prop := ∀ vs τ C Q χ, gs vs τ C Q χ → vs.length = n
def GMono (g : WG) : Prop := ∀ v τ C Q Q' χ, (∀ τ' C', Q τ' C' → Q' τ' C') → g v τ C Q χ → g v τ C Q' χ
theorem gl_nil : GsLen 0 gsNil := fun vs τ C Q χ h => by rw [h.1]; rfl
theorem gl_cons1 {n i : Nat} {gs : WGs} (b : GsLen n gs) : GsLen (n + 1) (gsCons (gNm i) gs) := fun vs τ C Q χ h => by
  obtain ⟨v, r, rfl, h⟩ := h
  rw [List.length_cons, b r _ _ _ _ h]
theorem dg_name {i : Nat} {x : Str} (hN : X.N.Nodup) (hi : X.N[i]? = some x := by rfl) (hx : Loc X.env.scope x := by first | exact Or.inl rfl | exact Or.inr rfl) (hf : X.fn x = true ∨ X.env.scope.names.lookup x = some .local := by first | exact .inl rfl | exact .inr rfl | assumption) : SdG X (.Name x pos) (gNm i) := ⟨_, pg_name hN hi hx hf, sg_name⟩
theorem dg_nil : SdGs X [] gsNil := ⟨_, pgs_nil, sg_nil⟩
theorem dg_cons {es : List Expr} (a : SdG X e g) (b : SdGs X es gs) (hs : (assignEach (e :: es) X.env).map (·.2) = assign e X.env :: (assignEach es X.env).map (·.2) := by rfl) : SdGs X (e :: es) (gsCons g gs) := by
  obtain ⟨t, p, s⟩ := a
  obtain ⟨t', p', s'⟩ := b
  exact ⟨_, pgs_cons p p' hs, sg_cons s s'⟩
theorem dg_tup {es : List Expr} {k n : Nat} (hc : X.calm = true) (b : SdGs X es gs) (hl : GsLen n gs) (hn : (assignEach es X.env).length = n := by rfl) (hst : (assignEach es X.env).findIdx? (·.1) = none := by rfl) : SdG X (.Tuple es k pos) (gTp gs) := by
  obtain ⟨t, p, s⟩ := b
  exact ⟨_, pg_tup hc p hn hst, sg_tup s hl⟩
theorem db_nil : SdB X [] sPass := ⟨_, pss_nil, fun F H C σ τ D D' R S h d => d.nx σ τ H C R (Tx.refl H) S h⟩
theorem db_one (a : SdS X st w) : SdB X [st] w := by
  obtain ⟨t, p, s⟩ := a
  exact ⟨_, pss_one p, s⟩
theorem db_cons (a : SdS X st w) (b : SdB X rest u) : SdB X (st :: rest) (sSeq w u) := by
  obtain ⟨t, p, s⟩ := a
  obtain ⟨t', p', s'⟩ := b
  refine ⟨_, pss_cons p p', fun F H C σ τ D D' R S h d => ?_⟩
  exact s F H C σ τ _ _ R S h ⟨fun σ' τ' H' C' R' t' S' h' => s' F H' C' σ' τ' D D' R' S' h' (d.at t'), d.rt, d.bk, d.ct⟩
theorem ds_expr (a : SdE X e we) (hs : swapsWith e none pos.line X.env = pure false := by rfl) : SdS X (.Expr e pos) (sExpr we) := by
  obtain ⟨t, p, s⟩ := a
  refine ⟨_, ps_expr p hs, fun F H C σ τ D D' R S h d => ?_⟩
  exact s F H C σ τ _ _ D'.xc R S h fun x v H1 C1 R1 t1 rx h1 => d.nx σ τ H1 C1 R1 t1 (S.tx t1) h1
theorem ds_ret (a : SdE X e we) : SdS X (.Return (some e) pos) (sRet we) := by
  obtain ⟨t, p, s⟩ := a
  refine ⟨_, ps_ret p, fun F H C σ τ D D' R S h d => ?_⟩
  exact s F H C σ τ _ _ D'.xc R S h d.rt
theorem ds_if {c : Expr} {a b : List Stmt} {wa wb : WS} (hc : SdT X c wt) (ha : SdB X a wa) (hb : SdB X b wb) : SdS X (.If c a b pos) (sIf wt wa wb) := by
  obtain ⟨t, p, s⟩ := hc
  obtain ⟨t1, p1, s1⟩ := ha
  obtain ⟨t2, p2, s2⟩ := hb
  refine ⟨_, ps_if p p1 p2, fun F H C σ τ D D' R S h d => ?_⟩
  refine s F H C σ τ _ _ D'.xc R S h fun k H1 C1 R1 t1 h1 => ?_
  cases k with
  | true => exact s1 F H1 C1 σ τ D D' R1 (S.tx t1) h1 (d.at t1)
  | false => exact s2 F H1 C1 σ τ D D' R1 (S.tx t1) h1 (d.at t1)
theorem ds_asg (he : SdE X e we) (hg : SdG X tg g) (hs : swapsWithSole [tg] e pos.line X.env = pure false := by rfl) (hw : swappedStores [tg] e X.env = pure none := by rfl)
    (h1 : (assignEach [tg] X.env).map (·.2) = [assign tg X.env] := by rfl) : SdS X (.Assign [tg] e pos) (sAsg we g) := by
  obtain ⟨t, p, s⟩ := he
  obtain ⟨t', p', s'⟩ := hg
  refine ⟨_, ps_asg p p' hs hw h1, fun F H C σ τ D D' R S h d => ?_⟩
  refine s F H C σ τ _ _ D'.xc R S h fun x v H1 C1 R1 t1 rx h1 => ?_
  exact s' F H1 C1 σ τ x v _ _ D'.xc R1 (S.tx t1) rx h1 fun σ' τ' H' C' R' t' => d.nx σ' τ' H' C' R' (t1.trans t')
theorem ds_set {i : Nat} {x : Str} {pos' : Pos} (hN : X.N.Nodup) (he : SdE X e we) (hi : X.N[i]? = some x := by rfl) (hx : Loc X.env.scope x := by first | exact Or.inl rfl | exact Or.inr rfl) (hs : swapsWith e (some (.Name x pos')) pos.line X.env = pure false := by rfl)
    (hf : X.fn x = true ∨ X.env.scope.names.lookup x = some .local := by first | exact .inl rfl | exact .inr rfl | assumption) : SdS X (.Assign [.Name x pos'] e pos) (sAsg we (gNm i)) := by
  obtain ⟨t, p, s⟩ := he
  refine ⟨_, ps_set hN hi hx p hs hf, fun F H C σ τ D D' R S h d => ?_⟩
  refine s F H C σ τ _ _ D'.xc R S h fun x v H1 C1 R1 t1 rx h1 => ?_
  exact sg_name F H1 C1 σ τ x v _ _ D'.xc R1 (S.tx t1) rx h1 fun σ' τ' H' C' R' t' => d.nx σ' τ' H' C' R' (t1.trans t')
end
/-! ### what is walked -/
/-- the iterator gives these items, as long as ok holds -/
def ItRel (K : PySem.W.Frag) (F H0 : Hp) (J : It) (xs : List T) (ok : Hw → Prop) : Prop := ∀ (i : Nat) (H : Hp) (C : Hw), Rl K F H C → Tx H0 H → ok C →
  (i < xs.length → J.go i H ∧ ∀ x H', J.yld i H x H' → ∃ v, xs[i]? = some v ∧ Rl K F H' C ∧ Tx H H' ∧ Rep K H' x v) ∧ (i = xs.length → J.stop i H)
def SimI (K : PySem.W.Frag) (wi : TI) (w : WI) : Prop := ∀ (F H : Hp) (C : Hw) (σ : L2.St) (τ : Sw) (R : It → Hp → Prop) (R' : List T → (Hw → Prop) → Hw → Prop) (χ : WX), Rl K F H C → RepS K H σ τ → w τ C R' χ →
  (∀ J H' xs ok C', Rl K F H' C' → Tx H H' → (∀ F', ItRel K F' H' J xs ok) → R' xs ok C' → R J H') → wi σ H R
def SdI (X : Cx) (tg e : Expr) (w : WI) : Prop := ∃ t, PI X tg e t ∧ SimI X.K t w
section
variable {X : Cx} {tg e a b : Expr} {we : WE} {wA : WA} {pos p : Pos}
theorem it_list {K : PySem.W.Frag} {F H0 : Hp} {l : Addr} {xs : List T} : ItRel K F H0 (Itl K l) xs (fun C => C l = some (.lst xs)) := fun i H C R t ok => by
  obtain ⟨ys, hy, r⟩ := R.lst ok
  refine ⟨fun hi => ?_, fun hi => ⟨ys, SqL.of hy, by rw [r.length]; omega⟩⟩
  have ev : xs[i]? = some xs[i] := by simp [hi]
  obtain ⟨y, ey, ry⟩ := r.get ev
  refine ⟨⟨ys, y, SqL.of hy, ey⟩, fun x H' h => ?_⟩
  obtain ⟨rfl, h⟩ := h
  have e2 := h ys (SqL.of hy)
  rw [ey] at e2; cases e2
  exact ⟨_, ev, R, Tx.refl _, ry⟩
theorem it_cl {K : PySem.W.Frag} {F H0 : Hp} {l : Addr} {ys : List V} {xs : List T} (h0 : SqC K H0 l ys) (r0 : Reps K H0 ys xs) : ItRel K F H0 (Itl K l) xs (fun _ => True) := fun i H C R t ok => by
  have hy := (t.sqc h0).sq
  have r := r0.tx t
  refine ⟨fun hi => ?_, fun hi => ⟨ys, hy, by rw [r.length]; omega⟩⟩
  have ev : xs[i]? = some xs[i] := by simp [hi]
  obtain ⟨y, ey, ry⟩ := r.get ev
  refine ⟨⟨ys, y, hy, ey⟩, fun x H' h => ?_⟩
  obtain ⟨rfl, h⟩ := h
  have e2 := h ys hy
  rw [ey] at e2; cases e2
  exact ⟨_, ev, R, Tx.refl _, ry⟩
theorem it_tup {K : PySem.W.Frag} {F H0 : Hp} {l : Addr} {ys : List V} {xs : List T} (h0 : SqT K H0 l ys) (r0 : Reps K H0 ys xs) : ItRel K F H0 (Itt K l) xs (fun _ => True) := fun i H C R t ok => by
  have hy := t.sqt h0
  have r := r0.tx t
  refine ⟨fun hi => ?_, fun hi => ⟨ys, hy, by rw [r.length]; omega⟩⟩
  have ev : xs[i]? = some xs[i] := by simp [hi]
  obtain ⟨y, ey, ry⟩ := r.get ev
  refine ⟨⟨ys, y, hy, ey⟩, fun x H' h => ?_⟩
  obtain ⟨rfl, h⟩ := h
  have e2 := h ys hy
  rw [ey] at e2; cases e2
  exact ⟨_, ev, R, Tx.refl _, ry⟩
theorem it_str {K : PySem.W.Frag} {F H0 : Hp} {z : Str} : ItRel K F H0 (Its z) (z.cps.toList.map fun c => T.str ⟨#[c]⟩) (fun _ => True) := fun i H C R t ok => by
  refine ⟨fun hi => ⟨by show i < z.cps.size; simpa using hi, fun x H' h => ?_⟩, fun hi => by show i = z.cps.size; simpa using hi⟩
  obtain ⟨rfl, c, hc, rfl⟩ := h
  refine ⟨.str ⟨#[c]⟩, ?_, R, Tx.refl _, rep_str⟩
  rw [List.getElem?_map, Array.getElem?_toList, hc]; rfl
theorem it_rng {K : PySem.W.Frag} {F H0 : Hp} {lo : Int} {n : Nat} : ItRel K F H0 (Itr lo n) (rng lo n) (fun _ => True) := fun i H C R t ok => by
  have hl : (rng lo n).length = n := by unfold rng; simp
  refine ⟨fun hi => ⟨by rw [hl] at hi; exact hi, fun x H' h => ?_⟩, fun hi => by show n ≤ i; omega⟩
  obtain ⟨rfl, rfl⟩ := h
  refine ⟨.int (lo + i), ?_, R, Tx.refl _, rep_int⟩
  unfold rng
  rw [hl] at hi
  rw [List.getElem?_map, List.getElem?_range hi]; rfl
theorem str_iter {pins : List (Addr × Obj)} {σ : L2.St} {H1 : Hp} {s1 : Shared} {R : It → Hp → Prop} {z : Str} {v : Value} (I1 : Inv X pins σ H1 s1) (r1 : RelV (.str z) v) (q : R (Its z) H1) : wpAny (model X.prog X.w) X.A (pyIter v) (PIE X pins σ tg R) X.xe s1 := by
  obtain ⟨t, rfl⟩ := r1
  have fin : ∀ b ∈ [s1.heap.objs.size], FpOk X pins H1 b := fun b hb => by
    have e : b = s1.heap.objs.size := by simpa using hb
    subst e
    exact I1.fpOk (Nat.le_refl _) I1.fresh
  cases ha : z.cps.all (· < 128)
  · refine wpAny_pyIter_wide ha ⟨s1.heap.objs.size, [s1.heap.objs.size], _, _, H1, rfl, I1.kept (t' := s1.toks) fun b o e => Heap.get?_push_of_some _ e, turn_walks (ty := "str_iterator") (by decide) (fun A hA => Walks.strWide hA _ z t) fun _ _ _ _ _ st h => wpAny_pyIter_striter_wide st h, ⟨_, Heap.get?_push_size _ rfl, rfl, rfl⟩, fin, q⟩
  · refine wpAny_pyIter_ascii ha ⟨s1.heap.objs.size, [s1.heap.objs.size], _, _, H1, rfl, I1.kept (t' := s1.toks) fun b o e => Heap.get?_push_of_some _ e, turn_walks (ty := "str_ascii_iterator") (by decide) (fun A hA => Walks.strAscii hA _ z t) fun _ _ _ _ _ st h => wpAny_pyIter_striter_ascii st h, ⟨_, Heap.get?_push_size _ rfl, rfl, rfl⟩, fin, q⟩
/-- a list, a tuple or a text, whichever it is -/
def iDyn (K : PySem.W.Frag) (tl : TE) : TI := fun σ H R => tl σ H fun x H1 => (∃ a, x = .ref a ∧ (∃ xs, SqL K H1 a xs) ∧ R (Itl K a) H1) ∨ (∃ a, x = .ref a ∧ (∃ xs, SqT K H1 a xs) ∧ R (Itt K a) H1) ∨ ∃ z, x = .str z ∧ R (Its z) H1
theorem pi_dyn {tl : TE} (hl : PE X e tl) : PI X tg e (iDyn X.K tl) := by
  intro pins s σ H R I h
  refine thn (hl pins s σ H _ I h) fun v s1 ⟨x, H1, I1, r1, q1⟩ => ?_
  rcases q1 with ⟨a, rfl, ⟨xs, hq⟩, q⟩ | ⟨a, rfl, ⟨xs, hq⟩, q⟩ | ⟨z, rfl, q⟩
  · cases r1
    obtain ⟨its, rv, p, hz⟩ := I1.list hq
    refine wpAny_pyIter_list p.isList ?_
    refine ⟨s1.heap.objs.size, [s1.heap.objs.size], _, _, H1, rfl, I1.kept (t' := s1.toks) fun b o e => Heap.get?_push_of_some _ e, turn_list a _, ⟨_, Heap.get?_push_size _ rfl, rfl, rfl⟩, fun b hb => ?_, q⟩
    have e : b = s1.heap.objs.size := by simpa using hb
    subst e
    exact I1.fpOk (Nat.le_refl _) (I1.hok.fresh (Nat.le_refl _))
  · cases r1
    obtain ⟨its, rv, p, hz⟩ := I1.tuple hq
    refine wpAny_pyIter_tuple (show s1.heap.IsTuple a its.toArray from p) ?_
    refine ⟨s1.heap.objs.size, [s1.heap.objs.size], _, _, H1, rfl, I1.kept (t' := s1.toks) fun b o e => Heap.get?_push_of_some _ e, turn_tuple a _, ⟨_, Heap.get?_push_size _ rfl, rfl, rfl⟩, fun b hb => ?_, q⟩
    have e : b = s1.heap.objs.size := by simpa using hb
    subst e
    exact I1.fpOk (Nat.le_refl _) (I1.hok.fresh (Nat.le_refl _))
  · exact str_iter I1 r1 q
theorem di_seq (h : SdE X e we) : SdI X tg e (iSeq we) := by
  obtain ⟨t, p, s⟩ := h
  refine ⟨_, pi_dyn p, fun F H C σ τ R R' χ Rr S h q => ?_⟩
  refine s F H C σ τ _ _ χ Rr S h fun x v H1 C1 R1 t1 rx h1 => ?_
  cases v with
  | tup xs =>
    obtain ⟨a, ys, rfl, hq, r⟩ := of_tup rx
    exact .inr (.inl ⟨a, rfl, ⟨ys, hq⟩, q _ H1 xs _ C1 R1 t1 (fun _ => it_tup hq r) h1⟩)
  | cl xs =>
    obtain ⟨a, ys, rfl, hq, r⟩ := of_cl rx
    exact .inl ⟨a, rfl, ⟨ys, hq.sq⟩, q _ H1 xs _ C1 R1 t1 (fun _ => it_cl hq r) h1⟩
  | str z => cases of_str rx; exact .inr (.inr ⟨z, rfl, q _ H1 _ _ C1 R1 t1 (fun _ => it_str) h1⟩)
  | ref a =>
    cases of_ref rx
    obtain ⟨xs, hx, h1⟩ := h1
    obtain ⟨ys, hy, r⟩ := R1.lst hx
    exact .inl ⟨a, rfl, ⟨ys, SqL.of hy⟩, q _ H1 xs _ C1 R1 t1 (fun _ => it_list) h1⟩
  | _ => exact False.elim h1
theorem di_r1 (hg : Gl X "range") (hm : X.mg "range" = none) (ha : SdA X [a] wA) (hs : starEach [a] X.env = [(false, eval a X.env)] := by rfl) : SdI X tg (.Call (.Name "range" p) [a] [] pos) (iR1 wA) := by
  obtain ⟨t, p1, s⟩ := ha
  refine ⟨_, pi_range1 hg hm p1 hs, fun F H C σ τ R R' χ Rr S h q => ?_⟩
  refine s F H C σ τ _ _ χ Rr S h fun xs vs H1 C1 R1 t1 rs h1 => ?_
  obtain ⟨j, rfl, h2, h3, h1⟩ := h1
  obtain ⟨x, rfl, rx⟩ := of_one rs
  cases of_int rx
  exact ⟨j, rfl, h2, h3, q _ H1 _ _ C1 R1 t1 (fun _ => it_rng) h1⟩
end
/-! ### for -/
theorem sim_for {K : PySem.W.Frag} {wi : TI} {g : TG} {tb : TS} {i : WI} {g' : WG} {b : WS} (hi : SimI K wi i) (hg : SimG K g g') (hb : SimS K tb b) : SimS K (tFor wi g tb) (sFor i g' b) := fun F H C σ τ D D' R S h d => by
  refine hi F H C σ τ _ _ D'.xc R S h fun J H1 xs ok C1 R1 t1 it h1 => ?_
  have it1 := it F
  refine ⟨fun i m σ H => m = xs.length - i ∧ i ≤ xs.length ∧ ∃ τ C, Rl K F H C ∧ Tx H1 H ∧ RepS K H σ τ ∧ forW g' b ok D' (xs.drop i) τ C, ⟨xs.length, by simp, Nat.zero_le _, τ, C1, R1, Tx.refl _, S.tx t1, h1⟩, ?_⟩
  rintro i m σ2 H2 ⟨rfl, hle, τ2, C2, R2, t2, S2, h2⟩
  by_cases hlt : i < xs.length
  · right
    have ed : xs.drop i = xs[i] :: xs.drop (i + 1) := List.drop_eq_getElem_cons hlt
    rw [ed] at h2
    obtain ⟨hok, h2⟩ := h2
    obtain ⟨hgo, hy⟩ := (it1 i H2 C2 R2 t2 hok).1 hlt
    refine ⟨hgo, fun σ' H' => ∃ τ' C', Rl K F H' C' ∧ Tx H1 H' ∧ RepS K H' σ' τ' ∧ forW g' b ok D' (xs.drop (i + 1)) τ' C', fun σ' H' q => ⟨xs.length - (i + 1), by omega, rfl, hlt, q⟩, fun x H' hx => ?_⟩
    obtain ⟨v, ev, R3, t3, rv⟩ := hy x H' hx
    have : v = xs[i] := by
      have e : xs[i]? = some xs[i] := by simp [hlt]
      rw [e] at ev; exact (Option.some.inj ev).symm
    subst this
    refine hg F H' C2 σ2 τ2 x _ _ _ D'.xc R3 (S2.tx t3) rv h2 fun σ4 τ4 H4 C4 R4 t4 S4 h4 => ?_
    have tt : Tx H1 H4 := (t2.trans t3).trans t4
    exact hb F H4 C4 σ4 τ4 _ _ R4 S4 h4 ⟨fun σ5 τ5 H5 C5 R5 t5 S5 h5 => ⟨τ5, C5, R5, tt.trans t5, S5, h5⟩, fun x v H5 C5 R5 t5 => d.rt x v H5 C5 R5 ((t1.trans tt).trans t5), fun σ5 τ5 H5 C5 R5 t5 S5 h5 => d.nx σ5 τ5 H5 C5 R5 ((t1.trans tt).trans t5) S5 h5,
      fun σ5 τ5 H5 C5 R5 t5 S5 h5 => ⟨τ5, C5, R5, tt.trans t5, S5, h5⟩⟩
  · left
    have e : i = xs.length := by omega
    subst e
    rw [List.drop_length] at h2
    obtain ⟨hok, h2⟩ := h2
    exact ⟨(it1 _ H2 C2 R2 t2 hok).2 rfl, d.nx σ2 τ2 H2 C2 R2 (t1.trans t2) S2 h2⟩
theorem ds_for {X : Cx} {tg iter : Expr} {body : List Stmt} {i : WI} {g : WG} {b : WS} {pos : Pos} (hp : PassesOwn (model X.prog X.w) X.A X.env X.xe) (hc : X.calm = true) (hi : SdI X tg iter i) (hg : SdG X tg g) (hb : SdB X body b)
    (hs : ∀ x, foldedSetIterable iter X.env x = pure x := by intro _; rfl) : SdS X (.For tg iter body [] pos) (sFor i g b) := by
  obtain ⟨t, p, s⟩ := hi
  obtain ⟨t', p', s'⟩ := hg
  obtain ⟨t2, p2, s2⟩ := hb
  exact ⟨_, ps_for hp hc p p' p2 hs, sim_for s s' s2⟩
end WL
set_option Elab.async false
set_option linter.all false
set_option maxRecDepth 100000
set_option maxHeartbeats 4000000
namespace WL
open PySem PySem.Spec PyProof.Rows L2
/-! ### comprehensions -/
def tOf (K : PySem.W.Frag) (we : WE) : TE := fun σ H Q => ∃ (F : Hp) (C : Hw) (τ : Sw) (Q' : WK) (χ : WX), Rl K F H C ∧ RepS K H σ τ ∧ we τ C Q' χ ∧ QE K F H Q Q'
def ttOf (K : PySem.W.Frag) (wt : WT) : TT := fun σ H Q => ∃ (F : Hp) (C : Hw) (τ : Sw) (Q' : Bool → Hw → Prop) (χ : WX), Rl K F H C ∧ RepS K H σ τ ∧ wt τ C Q' χ ∧ QT K F H Q Q'
theorem SdE.pe {X : Cx} {e : Expr} {we : WE} (h : SdE X e we) : PE X e (tOf X.K we) := by
  obtain ⟨t, p, s⟩ := h
  intro pins st σ H Q I hq
  obtain ⟨F, C, τ, Q', χ, R, S, hw, q⟩ := hq
  exact p pins st σ H Q I (s F H C σ τ Q Q' χ R S hw q)
def SdIf (X : Cx) (ifs : List Expr) (w : WT) : Prop := ∃ t, PIfs X ifs t ∧ SimT X.K t w
theorem dif_nil {X : Cx} : SdIf X [] tYes := ⟨_, pif_nil, fun F H C σ τ Q Q' χ R S h q => q true H C R (Tx.refl H) h⟩
theorem dif_one {X : Cx} {e : Expr} {wt : WT} (h : SdT X e wt) : SdIf X [e] wt := by
  obtain ⟨t, p, s⟩ := h
  exact ⟨t, pif_one p, s⟩
theorem SdIf.pif {X : Cx} {ifs : List Expr} {w : WT} (h : SdIf X ifs w) : PIfs X ifs (ttOf X.K w) := by
  obtain ⟨t, p, s⟩ := h
  intro pins st σ H Q I hq
  obtain ⟨F, C, τ, Q', χ, R, S, hw, q⟩ := hq
  exact p pins st σ H Q I (s F H C σ τ Q Q' χ R S hw q)
theorem RepS.cap {K : PySem.W.Frag} {H : Hp} {σ : L2.St} {τ : Sw} (h : RepS K H σ τ) (cap : List (Option Nat)) : RepS K H (capS cap σ) (capW cap τ) := by
  refine ⟨by unfold capS capW; rw [List.length_map, List.length_map], fun i v e => ?_⟩
  unfold capW at e
  unfold capS
  rw [List.getElem?_map] at e ⊢
  cases ho : cap[i]? with
  | none => rw [ho] at e; cases e
  | some o =>
    rw [ho] at e
    cases o with
    | none => simp at e
    | some j =>
      have e' : (τ[j]?).join = some v := by simpa using e
      have e2 : τ[j]? = some (some v) := by
        cases hj : τ[j]? with
        | none => rw [hj] at e'; cases e'
        | some z => rw [hj] at e'; rw [show z = some v from e']
      obtain ⟨x, hx, r⟩ := h.2 j v e2
      exact ⟨x, by simp [hx], r⟩
/-- the frame with the list that grows -/
def frP (F : Hp) (p : Addr) (ys : List V) : Hp := fun b => if b = p then some (.lst ys) else F b
theorem frP_same {F : Hp} {p : Addr} {ys : List V} : frP F p ys p = some (.lst ys) := by unfold frP; rw [if_pos rfl]
theorem frP_ne {F : Hp} {p b : Addr} {ys : List V} (h : b ≠ p) : frP F p ys b = F b := by unfold frP; rw [if_neg h]
theorem sim_comp {K : PySem.W.Frag} {cap : List (Option Nat)} {wi : TI} {g : TG} {i : WI} {wg : WG} {wc : WT} {we : WE} (hi : SimI K wi i) (hg : SimG K g wg) {F H : Hp} {C : Hw} {σ : L2.St} {τ : Sw} {Q : Addr → Hp → Prop} {Q' : WK} {χ : WX}
    (R : Rl K F H C) (S : RepS K H σ τ) (h : eComp cap i wg wc we τ C Q' χ) (q : ∀ p H' C', Rl K F H' C' → Tx H H' → Q' (.ref p) C' → Q p H') : tCompL cap wi g (ttOf K wc) (tOf K we) σ H Q := by
  refine hi F H C σ τ _ _ χ R S h fun J H1 xs ok C1 R1 t1 it h1 => ?_
  intro p hp
  have hn : ∀ a o, F a = some o → a ≠ p := fun a o e => ne_of_none (R1.frm a o e).1 hp
  refine ⟨fun i m H2 => m = xs.length - i ∧ i ≤ xs.length ∧ ∃ C2 ys acc, Rl K (frP F p ys) H2 C2 ∧ Tx H1 H2 ∧ Reps K H2 ys acc ∧ compW wg wc we ok (capW cap τ) (fun vs C2 => ∀ p, C2 p = none → Q' (.ref p) (up C2 p (.lst vs))) χ (xs.drop i) acc C2,
    ⟨xs.length, by simp, Nat.zero_le _, C1, [], [], ?_, Tx.new hp, reps_nil, h1⟩, ?_⟩
  · refine ⟨(R1.hid hp).obj, fun a o e => ?_⟩
    by_cases ea : a = p
    · subst ea
      rw [frP_same] at e; cases e
      exact ⟨upd_same, R1.free hp⟩
    · rw [frP_ne ea] at e
      exact (R1.hid hp).frm a o e
  rintro i m H2 ⟨rfl, hle, C2, ys, acc, R2, t2, ra, h2⟩
  by_cases hlt : i < xs.length
  · right
    have ed : xs.drop i = xs[i] :: xs.drop (i + 1) := List.drop_eq_getElem_cons hlt
    rw [ed] at h2
    obtain ⟨hok, h2⟩ := h2
    obtain ⟨hgo, hy⟩ := (it (frP F p ys) i H2 C2 R2 t2 hok).1 hlt
    refine ⟨hgo, fun H' => ∃ C2 ys acc, Rl K (frP F p ys) H' C2 ∧ Tx H1 H' ∧ Reps K H' ys acc ∧ compW wg wc we ok (capW cap τ) (fun vs C2 => ∀ p, C2 p = none → Q' (.ref p) (up C2 p (.lst vs))) χ (xs.drop (i + 1)) acc C2,
      fun H' z => ⟨xs.length - (i + 1), by omega, rfl, hlt, z⟩, fun x H' hx => ?_⟩
    obtain ⟨v, ev, R3, t3, rv⟩ := hy x H' hx
    have : v = xs[i] := by
      have e : xs[i]? = some xs[i] := by simp [hlt]
      rw [e] at ev; exact (Option.some.inj ev).symm
    subst this
    have S3 : RepS K H' (capS cap σ) (capW cap τ) := (S.tx ((t1.trans t2).trans t3)).cap cap
    refine hg (frP F p ys) H' C2 (capS cap σ) (capW cap τ) x _ _ _ χ R3 S3 rv h2 fun σ4 τ4 H4 C4 R4 t4 S4 h4 => ?_
    refine ⟨frP F p ys, C4, τ4, _, χ, R4, S4, h4, fun b H5 C5 R5 t5 h5 => ?_⟩
    have t15 : Tx H2 H5 := (t3.trans t4).trans t5
    cases b with
    | true =>
      refine ⟨frP F p ys, C5, τ4, _, χ, R5, S4.tx t5, h5, fun y vy H6 C6 R6 t6 ry h6 => ?_⟩
      obtain ⟨e6, n6⟩ := R6.frm p _ frP_same
      have tp : Tx H6 (upd H6 p (.lst (ys ++ [y]))) := Tx.put e6 (fun z => z)
      refine ⟨ys, e6, by rw [ra.length]; exact h6.1, C6, ys ++ [y], acc ++ [vy], ⟨fun a o e => ?_, fun a o e => ?_⟩, (t2.trans (t15.trans t6)).trans tp, ((ra.tx (t15.trans t6)).snoc ry).tx tp, h6.2⟩
      · have ea : a ≠ p := fun z => by subst z; rw [n6] at e; cases e
        exact (R6.obj a o e).stay tp (upd_ne ea)
      · by_cases ea : a = p
        · subst ea
          rw [frP_same] at e; cases e
          exact ⟨upd_same, n6⟩
        · rw [frP_ne ea] at e
          rw [upd_ne ea]
          exact R6.frm a o (by rw [frP_ne ea]; exact e)
    | false => exact ⟨C5, ys, acc, R5, t2.trans t15, ra.tx t15, h5⟩
  · left
    have e : i = xs.length := by omega
    subst e
    rw [List.drop_length] at h2
    obtain ⟨hok, h2⟩ := h2
    refine ⟨(it (frP F p ys) _ H2 C2 R2 t2 hok).2 rfl, ?_⟩
    obtain ⟨e6, n6⟩ := R2.frm p _ frP_same
    refine q p H2 (up C2 p (.lst acc)) ⟨fun a o e => ?_, fun a o e => ?_⟩ (t1.trans t2) (h2 p n6)
    · by_cases ea : a = p
      · subst ea
        rw [up_same] at e; cases e
        exact ⟨ys, e6, ra⟩
      · rw [up_ne ea] at e
        exact R2.obj a o e
    · have ea := hn a o e
      rw [up_ne ea]
      exact R2.frm a o (by rw [frP_ne ea]; exact e)
section
variable {X : Cx} {tg iter elt : Expr} {ifs : List Expr} {scope : Scope} {pos : Pos} {cN : List Str} {cap : List (Option Nat)} {cl : List (Str × Addr)} {js : List Nat} {i : WI} {g : TG} {wg : WG} {wc : WT} {we : WE}
theorem ttOf_mono {K : PySem.W.Frag} {w : WT} : ∀ (σ : L2.St) (H : Hp) (Q Q' : Bool → Hp → Prop), (∀ b H', Q b H' → Q' b H') → ttOf K w σ H Q → ttOf K w σ H Q' := fun σ H Q Q' m h => by
  obtain ⟨F, C, τ, R', χ, R, S, hw, q⟩ := h
  exact ⟨F, C, τ, R', χ, R, S, hw, fun b H' C' r t h => m _ _ (q b H' C' r t h)⟩
/-- what is asked of a comprehension -/
structure CompD (X : Cx) (tg iter elt : Expr) (ifs : List Expr) (scope : Scope) (cN : List Str) (cap : List (Option Nat)) (cl : List (Str × Addr)) (js : List Nat) (i : WI) (g : TG) (wg : WG) (wc : WT) (we : WE) : Prop where
  calm : X.calm = true
  ok : X.Ok → CompOk X cN cap scope cl
  it : SdI X tg iter i
  tgt : ∀ fp s H, PG (cxComp X cN scope cl fp s H) tg g
  gm : TGmono g
  gk : GKeep js g
  sg : SimG X.K g wg
  js0 : ∀ j ∈ js, (cap[j]?).join = none
  ts : ∀ fp s H, SdIf (cxComp X cN scope cl fp s H) ifs wc
  el : ∀ fp s H, SdE (cxComp X cN scope cl fp s H) elt we
  fold : ∀ x, foldedSetIterable iter X.env x = pure x
theorem d_comp (D : CompD X tg iter elt ifs scope cN cap cl js i g wg wc we) : SdE X (.ListComp elt [⟨tg, iter, ifs, 0⟩] scope pos) (eComp cap i wg wc we) := by
  obtain ⟨wi, p, s⟩ := D.it
  have P : CompP X tg iter elt ifs scope cN cap cl js wi g (ttOf X.K wc) (tOf X.K we) := ⟨D.calm, D.ok, p, D.tgt, D.gm, D.gk, D.js0, fun fp s H => (D.ts fp s H).pif, ttOf_mono, fun fp s H => (D.el fp s H).pe, D.fold⟩
  exact ⟨_, pe_comp P, fun F H C σ τ Q Q' χ R S h q => sim_comp s D.sg R S h fun p H' C' R' t' h' => q _ _ H' C' R' t' rep_ref h'⟩
end
theorem hu150 {A : Around} {k : Nat} (hr : Room k A) : A.units + 150 < cLine := by have := hr.un; omega
/-! ### calls of own defs -/
def spW (K : PySem.W.Frag) (pr : List Df) (n i : Nat) : Sp := fun vs H Q _ => ∃ (F : Hp) (C : Hw) (vs' : List T) (Q' : WK) (χ : WX), Rl K F H C ∧ Reps K H vs vs' ∧ wpc pr n i vs' C Q' χ ∧ QE K F H Q Q'
theorem d_call {X : Cx} {k i : Nat} {x : Str} {ps : List Str} {pr : List Df} {p pos : Pos} {e : Expr} {es : List Expr} {wA : WA} (Cc : Ca X.prog X.w X.K X.mg X.base k x ps (spW X.K pr k i)) (hr : Room k X.A) (hg : Gl X x) (ha : SdA X (e :: es) wA)
    (hdb : (x == ("__debug__" : Str)) = false := by decide) (he : starEach (e :: es) X.env = (false, eval e X.env) :: starEach es X.env := by rfl) (hpl : (backTo pos (starEach es X.env)).any (·.1) = false := by rfl) :
    SdE X (.Call (.Name x p) (e :: es) [] pos) (eCall (wpc pr k) i wA) := by
  obtain ⟨t, p1, s⟩ := ha
  refine ⟨_, pe_ca Cc hr hg p1 hdb he hpl, fun F H C σ τ Q Q' χ R S h q => ?_⟩
  refine s F H C σ τ _ _ χ R S h fun xs vs H1 C1 R1 t1 rs h1 => ?_
  refine ⟨F, C1, vs, Q', χ, R1, ?_, h1, QE.at q t1⟩
  rw [List.append_nil]; exact rs
theorem RepS.start {K : PySem.W.Frag} {H : Hp} {vs : List V} {vs' : List T} (h : Reps K H vs vs') (N : List Str) (m : Nat) (e : m = N.length - vs.length) : RepS K H (start N vs) (vs'.map some ++ List.replicate m none) := by
  refine ⟨?_, fun i v hv => ?_⟩
  · unfold L2.start
    rw [List.length_append, List.length_append, List.length_map, List.length_map, List.length_replicate, List.length_replicate, h.length, e, h.length]
  · unfold L2.start
    by_cases hi : i < vs'.length
    · rw [List.getElem?_append_left (by rw [List.length_map]; exact hi), List.getElem?_map] at hv
      cases hg : vs'[i]? with
      | none => rw [hg] at hv; cases hv
      | some z =>
        rw [hg] at hv
        cases hv
        obtain ⟨x, hx, r⟩ := h.get hg
        refine ⟨x, ?_, r⟩
        rw [List.getElem?_append_left (by rw [List.length_map, h.length]; exact hi), List.getElem?_map, hx]
        rfl
    · rw [List.getElem?_append_right (by rw [List.length_map]; omega), List.getElem?_replicate] at hv
      split at hv
      · cases hv
      · cases hv
theorem fn_ok {P : Program} {w : World} {K : PySem.W.Frag} {mg : Str → Option Value} {base : Heap} {x : Str} {st : Stmt} {f : Addr} {fd : FuncData} {N ps : List Str} {pr : List Df} {n i : Nat} {d : Df} (F : Fun K x x st f fd) (S : FnScope N ps (defScope st)) (hd : pr[i]? = some d) (hn : d.n = N.length) (har : d.ar = ps.length)
    (hb : ∀ (cdv : Value) (A : Around) (outer : List Env) (s : Shared) (H : Hp) (E : XK), Room n (A.deeper (envOfC x (defScope st) s.heap.objs.size f cdv)) → SdB (cxOf CX0 P w K mg base N x (defScope st) f cdv A outer s H E).nox (defBody st) (d.body (wpc pr n))) :
    FnOk P w K mg base CX0 (n + 1) f fd ps (spW K pr (n + 1) i) := by
  refine F.ok S (fun vs H Q E h => ?_) (fun cdv A outer s H vs Q E hr h => ?_)
  · obtain ⟨F', C, vs', Q', χ, R, rs, ⟨d', e1, e2, _⟩, _⟩ := h
    rw [hd] at e1; cases e1
    rw [rs.length, e2, har]
  · obtain ⟨F', C, vs', Q', χ, R, rs, ⟨d', e1, e2, h⟩, q⟩ := h
    rw [hd] at e1; cases e1
    obtain ⟨t, p, sm⟩ := hb cdv A outer s H E hr
    refine ⟨t, p, sm F' H C _ _ _ _ R (RepS.start rs N _ (by rw [rs.length, e2, hn])) h ⟨fun σ τ H' C' R' t' _ h' => q .non .non H' C' R' t' rep_non h', q, fun _ _ _ _ _ _ _ z => z.elim, fun _ _ _ _ _ _ _ z => z.elim⟩⟩
theorem ca_zero {P : Program} {w : World} {K : PySem.W.Frag} {mg : Str → Option Value} {base : Heap} {x : Str} {st : Stmt} {f : Addr} {fd : FuncData} {ps : List Str} {pr : List Df} {i : Nat} (F : Fun K x x st f fd) (hb : Binds K fd ps []) (hm : mg x = some (.ref f)) : Ca P w K mg base 0 x ps (spW K pr 0 i) :=
  ⟨f, fd, ⟨fun vs H Q E h => by obtain ⟨_, _, _, _, _, _, _, z, _⟩ := h; exact z.elim, fun A outer s H args us vs Q E _ _ _ _ h => by obtain ⟨_, _, _, _, _, _, _, z, _⟩ := h; exact z.elim⟩, hb, F.kp, hm⟩
theorem ca_succ {P : Program} {w : World} {K : PySem.W.Frag} {mg : Str → Option Value} {base : Heap} {x : Str} {st : Stmt} {f : Addr} {fd : FuncData} {ps : List Str} {sp : Sp} {n : Nat} (F : Fun K x x st f fd) (hb : Binds K fd ps []) (hm : mg x = some (.ref f)) (G : FnOk P w K mg base CX0 n f fd ps sp) : Ca P w K mg base n x ps sp :=
  ⟨f, fd, G, hb, F.kp, hm⟩
/-- the law's own promise, from what it does at the script -/
theorem law_sp {K : PySem.W.Frag} {pr : List Df} {n i : Nat} {H : Hp} {a : Addr} {ns : List Int} (hO : Only H) (hS : SqL K H a (ns.map V.int)) (h : wpc pr n i [.cl (ns.map T.int)] (fun _ => none) (fun v _ => v = .bl true) (fun _ _ => False)) :
    spW K pr n i [.ref a] H (fun v _ => v = .bl true) (fun _ _ _ => False) := by
  have hq : SqC K H a (ns.map V.int) := by
    rcases hS with (h | ⟨o, h⟩) | h
    · rcases hO a with e | ⟨o, xs, e⟩
      · rw [e] at h; cases h
      · rw [e] at h; cases h
    · exact .inl ⟨o, h⟩
    · exact .inr h
  refine ⟨fun _ => none, fun _ => none, [.cl (ns.map T.int)], _, _, ⟨(fun _ _ e => by cases e), (fun _ _ e => by cases e)⟩, reps_cons ?_ reps_nil, h, fun x v H' C' R t r e => ?_⟩
  · unfold Rep
    exact ⟨a, _, rfl, hq, reps_ints ns⟩
  · subst e; exact of_bl r
end WL
set_option Elab.async false
set_option linter.all false
set_option maxRecDepth 100000
set_option maxHeartbeats 4000000
/-! the second level: while, numbers as texts, dicts whose keys are ints or texts -/
namespace WL
open PySem PySem.Spec PyProof.Rows L2
/-! ### while -/
def whileN (c : WT) (b : WS) (D : We) : Nat → Sw → Hw → Prop
  | 0, _, _ => False
  | n + 1, τ, C => c τ C (fun k C1 => if k = true then b { D with nx := whileN c b D n, ct := whileN c b D n, bk := D.nx } τ C1 else D.nx τ C1) D.xc
def sWhile (c : WT) (b : WS) : WS := fun D τ C => ∃ n, whileN c b D n τ C
section
variable {X : Cx} {a b c e o i : Expr} {es : List Expr} {wa wb wc wo wi : WE} {wA : WA} {pos p p2 apos cpos : Pos}
/-! ### str(n), int(n) -/
def bStr : List T → Hw → WK → Prop := fun vs C Q => ∃ i : Int, vs = [.int i] ∧ i.natAbs.log2 < 1920 ∧ Q (.str (toString i)) C
def bInt : List T → Hw → WK → Prop := fun vs C Q => (∃ i : Int, vs = [.int i] ∧ Q (.int i) C) ∨ ∃ k : Bool, vs = [.bl k] ∧ Q (.int (if k then 1 else 0)) C
def bAbs : List T → Hw → WK → Prop := fun vs C Q => ∃ i : Int, vs = [.int i] ∧ Q (.int (if i < 0 then -i else i)) C
end
/-! ### dicts: tables of values -/
def kT : T → Option Key
  | .int i => some (.inl i)
  | .str x => some (.inr x)
  | _ => none
def tK : Key → T
  | .inl i => .int i
  | .inr x => .str x
def getT (kvs : List (Key × T)) (k : Key) : Option T := (kvs.find? fun kv => decide (kv.1 = k)).map (·.2)
def putT (kvs : List (Key × T)) (k : Key) (v : T) : List (Key × T) :=
  if (kvs.any fun kv => decide (kv.1 = k)) = true then kvs.map (fun kv => if kv.1 = k then (kv.1, v) else kv) else kvs ++ [(k, v)]
theorem rep_key {K : PySem.W.Frag} {H : Hp} {x : V} {v : T} {k : Key} (h : kT v = some k) (r : Rep K H x v) : x = kV k := by
  cases v with
  | int i => cases h; exact of_int r
  | str z => cases h; exact of_str r
  | _ => cases h
theorem PR.get {K : PySem.W.Frag} {H : Hp} : ∀ {ks : List (Key × V)} {kvs : List (Key × T)} (_ : PR K H ks kvs) (k : Key), (getT kvs k = none → valV ks k = none) ∧ ∀ v, getT kvs k = some v → ∃ x, valV ks k = some x ∧ Rep K H x v
  | _, _, .nil, k => ⟨fun _ => rfl, fun v h => by cases h⟩
  | p :: r, q :: s, .cons h t, k => by
    obtain ⟨e, rp⟩ := h
    have ih := PR.get t k
    by_cases c : q.1 = k
    · have c' : p.1 = k := e.trans c
      rw [valV_pos c']
      unfold getT
      rw [List.find?_cons_of_pos (by simpa using c)]
      exact ⟨(fun z => by cases z), (fun v z => by cases z; exact ⟨p.2, rfl, rp⟩)⟩
    · have c' : ¬ p.1 = k := fun z => c (e.symm.trans z)
      rw [valV_neg c']
      unfold getT
      rw [List.find?_cons_of_neg (by simpa using c)]
      exact ih
theorem PR.any {K : PySem.W.Frag} {H : Hp} : ∀ {ks : List (Key × V)} {kvs : List (Key × T)} (_ : PR K H ks kvs) (k : Key), (ks.any fun kv => decide (kv.1 = k)) = kvs.any fun kv => decide (kv.1 = k)
  | _, _, .nil, k => rfl
  | p :: r, q :: s, .cons h t, k => by rw [List.any_cons, List.any_cons, PR.any t k, h.1]
theorem PR.mapK {K : PySem.W.Frag} {H : Hp} {k : Key} {x : V} {v : T} (rx : Rep K H x v) : ∀ {ks : List (Key × V)} {kvs : List (Key × T)} (_ : PR K H ks kvs), PR K H (ks.map fun kv => if kv.1 = k then (kv.1, x) else kv) (kvs.map fun kv => if kv.1 = k then (kv.1, v) else kv)
  | _, _, .nil => .nil
  | p :: r, q :: s, .cons h t => by
    refine .cons ?_ (PR.mapK rx t)
    obtain ⟨e, rp⟩ := h
    by_cases c : q.1 = k
    · have c' : p.1 = k := e.trans c
      dsimp only
      rw [if_pos c, if_pos c']; exact ⟨e, rx⟩
    · have c' : ¬ p.1 = k := fun z => c (e.symm.trans z)
      dsimp only
      rw [if_neg c, if_neg c']; exact ⟨e, rp⟩
theorem PR.put {K : PySem.W.Frag} {H : Hp} {ks : List (Key × V)} {kvs : List (Key × T)} (h : PR K H ks kvs) {k : Key} {x : V} {v : T} (rx : Rep K H x v) : PR K H (putK ks k x) (putT kvs k v) := by
  unfold putK putT
  rw [PR.any h k]
  split
  · exact PR.mapK rx h
  · exact h.snoc ⟨rfl, rx⟩
theorem PR.length {K : PySem.W.Frag} {H : Hp} {ks : List (Key × V)} {kvs : List (Key × T)} (h : PR K H ks kvs) : ks.length = kvs.length := Paired.length h
section
variable {K : PySem.W.Frag} {F H : Hp} {C : Hw}
theorem Rl.dic (R : Rl K F H C) {a : Addr} {kvs : List (Key × T)} (h : C a = some (.dic kvs)) : ∃ ks, H a = some (.dK ks) ∧ PR K H ks kvs := R.obj a _ h
theorem Rl.putD (R : Rl K F H C) {p : Addr} {kvs kvs' : List (Key × T)} {ks' : List (Key × V)} (h : C p = some (.dic kvs)) (r : PR K H ks' kvs') : Rl K F (upd H p (.dK ks')) (up C p (.dic kvs')) ∧ Tx H (upd H p (.dK ks')) := by
  obtain ⟨w, hw, ns⟩ := (R.obj p _ h).some trivial
  exact R.put h ⟨ks', upd_same, pr_tx (Tx.put hw ns) r⟩
theorem Rl.newD (R : Rl K F H C) {p : Addr} {kvs : List (Key × T)} {ks : List (Key × V)} (h : H p = none) (r : PR K H ks kvs) : Rl K F (upd H p (.dK ks)) (up C p (.dic kvs)) := R.new h ⟨ks, upd_same, pr_tx (Tx.new h) r⟩
end
/-! ### dicts: readings and rules -/
def eDict0 : WE := fun _ C Q _ => ∀ p, C p = none → Q (.ref p) (up C p (.dic []))
def wDget : W2 := fun x y C Q => ∃ a kvs k v, x = .ref a ∧ kT y = some k ∧ C a = some (.dic kvs) ∧ getT kvs k = some v ∧ Q v C
def wDinG (neg : Bool) : W2 := fun y x C Q => ∃ a kvs k, x = .ref a ∧ kT y = some k ∧ C a = some (.dic kvs) ∧ Q (.bl (if neg then !(getT kvs k).isSome else (getT kvs k).isSome)) C
abbrev wDin : W2 := wDinG false
abbrev wDnotin : W2 := wDinG true
def gSd (o i : WE) : WG := fun v τ C Q χ => o τ C (fun x C1 => i τ C1 (fun y C2 => ∃ a kvs k, x = .ref a ∧ kT y = some k ∧ C2 a = some (.dic kvs) ∧ kvs.length < sizeLine ∧ Q τ (up C2 a (.dic (putT kvs k v)))) χ) χ
def eDget1 (o i : WE) : WE := fun τ C Q χ => o τ C (fun x C1 => (∃ a kvs, x = .ref a ∧ C1 a = some (.dic kvs)) ∧ i τ C1 (fun y C2 => ∃ a kvs k, x = .ref a ∧ kT y = some k ∧ C2 a = some (.dic kvs) ∧ Q ((getT kvs k).getD .non) C2) χ) χ
def eDget2 (o i d : WE) : WE := fun τ C Q χ => o τ C (fun x C1 => (∃ a kvs, x = .ref a ∧ C1 a = some (.dic kvs)) ∧ i τ C1 (fun y C2 => d τ C2 (fun z C3 => ∃ a kvs k, x = .ref a ∧ kT y = some k ∧ C3 a = some (.dic kvs) ∧ Q ((getT kvs k).getD z) C3) χ) χ) χ
def bLenD : List T → Hw → WK → Prop := fun vs C Q => ∃ a kvs, vs = [.ref a] ∧ C a = some (.dic kvs) ∧ Q (.int kvs.length) C
section
variable {X : Cx} {a b c e o i f : Expr} {es : List Expr} {wa wb wc wo wi wd : WE} {wA : WA} {pos p p2 apos cpos : Pos}
theorem d_dict0 : SdE X (.Dict [] [] pos) eDict0 := ⟨_, pe_dnewK, fun F H C σ τ Q Q' χ R S h q p hp => q _ _ _ _ (R.newD hp .nil) (Tx.new hp) rep_ref (h p (R.free hp))⟩
def rSetD : V → V → V → Hp → (Hp → Prop) → Prop := fun o i v H Q => ∃ p ks k, o = .ref p ∧ i = kV k ∧ H p = some (.dK ks) ∧ ks.length < sizeLine ∧ Q (upd H p (.dK (putK ks k v)))
theorem set_dict (hu : X.A.units + 150 < cLine) : PSet X rSetD := by
  intro pins s σ H o i v ov iv u Q I ro ri rv h
  obtain ⟨p, ks, k, rfl, rfl, hp, hl, q⟩ := h
  cases ro
  exact d_setItem (by omega) I (DPut.k hp hl) ri rv fun s' I' => ⟨_, I', q⟩
theorem dg_subD (hu : X.A.units + 150 < cLine) (ho : SdE X o wo) (hi : SdE X i wi)
    (ha : ∀ v, assign (.Subscript o i pos) X.env v = (do
      let ov ← holding [v] (eval o X.env)
      let iv ← holding [v, ov] (eval i X.env)
      standAt pos
      holding [v, ov, iv] (setItem ov iv v)
      release [v, ov, iv] []) := by intro _; rfl) : SdG X (.Subscript o i pos) (gSd wo wi) := by
  obtain ⟨t, p, s⟩ := ho
  obtain ⟨t', p', s'⟩ := hi
  refine ⟨_, pg_sub p p' (set_dict hu) ha, fun F H C σ τ x v Q Q' χ R S r h q => ?_⟩
  refine s F H C σ τ _ _ χ R S h fun y vy H1 C1 R1 t1 ry h1 => ?_
  refine s' F H1 C1 σ τ _ _ χ R1 (S.tx t1) h1 fun z vz H2 C2 R2 t2 rz h2 => ?_
  obtain ⟨l, kvs, k, rfl, hk, hC, hl, h2⟩ := h2
  cases of_ref ry
  obtain ⟨ks, hH, pr⟩ := R2.dic hC
  have t12 := t1.trans t2
  obtain ⟨R', t'⟩ := R2.putD hC (PR.put pr (k := k) (r.tx t12))
  exact ⟨l, ks, k, rfl, rep_key hk rz, hH, by rw [PR.length pr]; exact hl, q _ _ _ _ R' (t12.trans t') (S.tx (t12.trans t')) h2⟩
theorem getD_rep {K : PySem.W.Frag} {H : Hp} {ks : List (Key × V)} {kvs : List (Key × T)} (pr : PR K H ks kvs) (k : Key) {x : V} {v : T} (rx : Rep K H x v) : Rep K H ((valV ks k).getD x) ((getT kvs k).getD v) := by
  cases hg : getT kvs k with
  | none => rw [(PR.get pr k).1 hg]; exact rx
  | some w => obtain ⟨z, hz, rz⟩ := (PR.get pr k).2 w hg; rw [hz]; exact rz
end
end WL
set_option Elab.async false
set_option linter.all false
set_option maxRecDepth 100000
set_option maxHeartbeats 4000000
/-! the second level: join -/
namespace WL
open PySem PySem.Spec PyProof.Rows L2
section
variable {X : Cx}
def mJoin : T → List T → Hw → WK → Prop := fun x vs C Q => ∃ z p zs, x = .str z ∧ vs = [.ref p] ∧ C p = some (.lst (zs.map T.str)) ∧ z.length ≤ 16 ∧ (zs.map (·.length)).sum + zs.length ≤ 1048576 ∧ Q (.str (Txt.join z zs)) C
end
end WL
set_option Elab.async false
set_option linter.all false
set_option maxRecDepth 100000
set_option maxHeartbeats 4000000
/-! the second level: extend, list(reversed(a list)), str(a text), replace -/
namespace WL
open PySem PySem.Spec PyProof.Rows L2
section
variable {X : Cx} {e o : Expr} {we wo : WE} {p p2 pos pos2 apos cpos : Pos}
def mExtend : T → List T → Hw → WK → Prop := fun x vs C Q => ∃ a b xs zs, x = .ref a ∧ vs = [.ref b] ∧ C a = some (.lst xs) ∧ C b = some (.lst zs) ∧ xs.length + zs.length ≤ sizeLine ∧ Q .non (up C a (.lst (xs ++ zs)))
/-- list(reversed(e)) -/
def eLRev (e : WE) : WE := fun τ C Q χ => e τ C (fun x C1 => ∃ a xs, x = .ref a ∧ C1 a = some (.lst xs) ∧ ∀ p, C1 p = none → Q (.ref p) (up C1 p (.lst xs.reverse))) χ
/-- str(a number or a text) -/
def bStr2 : List T → Hw → WK → Prop := fun vs C Q => (∃ i : Int, vs = [.int i] ∧ i.natAbs.log2 < 1920 ∧ Q (.str (toString i)) C) ∨ ∃ z, vs = [.str z] ∧ Q (.str z) C
/-- as SdE, some token given -/
def SdP (X : Cx) (e : Expr) (w : WE) : Prop := ∃ t, PEp X e t ∧ SimE X.K t w
/-- o.replace(y, z) -/
def eRepl (y z : Str) (o : WE) : WE := fun τ C Q χ => o τ C (fun x C1 => ∃ u, x = .str u ∧ u.length ≤ 1048576 ∧ Q (.str (Txt.replace u y z)) C1) χ
end
end WL
set_option Elab.async false
set_option linter.all false
set_option maxRecDepth 100000
set_option maxHeartbeats 4000000
/-! the second level: any, dict(d), d.pop(k, x), dicts compared, zip -/
namespace L2
open PySem PySem.Spec PyProof.Rows
section
variable {X : Cx}
theorem range_anyB (bs : List Bool) : ((List.range bs.length).any fun i => (bs[i]?).getD false) = bs.any id := by
  rw [Bool.eq_iff_iff, List.any_eq_true, List.any_eq_true]
  constructor
  · rintro ⟨i, hi, h⟩
    have hi' := List.mem_range.mp hi
    exact ⟨bs[i], List.getElem_mem hi', by simpa [hi'] using h⟩
  · rintro ⟨x, hx, h⟩
    obtain ⟨i, hi, rfl⟩ := List.mem_iff_getElem.mp hx
    exact ⟨i, List.mem_range.mpr hi, by simpa [hi] using h⟩
theorem call_anyB (hc : X.calm = true) : CallR X (.builtin "any") (fun xs H Q => ∃ (p : Addr) (bs : List Bool), xs = [.ref p] ∧ SqL X.K H p (bs.map V.bl) ∧ Q (.bl (bs.any id)) H) := by
  intro pins s σ H xs us Q I r h
  obtain ⟨p, bs, rfl, hq, q⟩ := h
  obtain ⟨u, rfl, ru⟩ := vals1 r
  cases ru
  obtain ⟨its, rv, pl, hz⟩ := I.list hq
  have hl := pl.isList
  have hlt : p < s.heap.objs.size := by obtain ⟨_, e, _⟩ := hl; exact Heap.lt_size e
  have hlen : its.length = bs.length := by have := rv.length; simp at this; omega
  refine call_any_walk (wpAny_pyIter_list hl ?_)
  refine ⟨s.heap.objs.size, [s.heap.objs.size, p], [s.heap.objs.size], its.toArray.size, _, _, fun i => (bs[i]?).getD false, rfl, Walks.list (A := X.A.in1) (I.ok.hd hc) _ p (Nat.ne_of_lt hlt) its.toArray,
    ⟨⟨_, Heap.get?_push_size _ rfl, rfl, rfl⟩, hl.push _⟩, fun i v s' Q' E' hP hQ => ?_, fun h' tk hk => ?_⟩
  · have hv : its[i]? = some v := by simpa using hP
    have hi : i < its.length := (List.getElem?_eq_some_iff.mp hv).1
    have hb : (bs.map V.bl)[i]? = some (.bl bs[i]) := by simp [show i < bs.length by omega]
    obtain ⟨u, hu, ru⟩ := rv.get hb
    rw [hv] at hu; cases hu
    cases ru
    have e : (bs[i]?).getD false = bs[i] := by simp [show i < bs.length by omega]
    have hQ2 : Q' ((bs[i]?).getD false) s' := hQ
    rw [e] at hQ2
    exact wpAny_truthy_bool hQ2
  · have e : ((List.range its.toArray.size).any fun i => (bs[i]?).getD false) = bs.any id := by
      rw [List.size_toArray, hlen]; exact range_anyB bs
    rw [e]
    refine ⟨.bl (bs.any id), H, I.kept fun b o x => hk b o (fun hm => ?_) (Heap.get?_push_of_some _ x), rfl, q⟩
    have := List.mem_singleton.mp hm
    subst this
    exact Nat.lt_irrefl _ (Heap.lt_size x)
end
/-! keys found -/
section
variable {prog : Program} {w : World} {K : Type} [DecidableEq K] {knd : KeyKind prog w K}
theorem pairs_at : ∀ {es : List DictEntry} {kvs : List (K × Value)} {i : Nat} {e : DictEntry}, Pairs knd es kvs → es[i]? = some e → ∃ kv, kvs[i]? = some kv ∧ knd.is kv.1 e.key = true ∧ e.val = kv.2
  | _, _, _, _, .nil, h => by simp at h
  | _, _, 0, _, .cons a b _, h => by simp at h; subst h; exact ⟨_, rfl, a, b⟩
  | _, _, i + 1, e, .cons _ _ t, h => by
    obtain ⟨kv, h1, h2⟩ := pairs_at (i := i) (e := e) t (by simpa using h)
    exact ⟨kv, by simpa using h1, h2⟩
theorem find_at {es : Array DictEntry} {kvs : List (K × Value)} (hp : Pairs knd es.toList kvs) (hn : (kvs.map (·.1)).Nodup) {i : Nat} {kv : K × Value} (hi : kvs[i]? = some kv) (hl : i < es.size) : (es.findIdx? fun e => knd.is kv.1 e.key) = some i := by
  rw [Array.findIdx?_eq_some_iff_getElem]
  have at_ : ∀ j (hj : j < es.size), ∃ kv', kvs[j]? = some kv' ∧ knd.is kv'.1 es[j].key = true := fun j hj => by
    obtain ⟨kv', h1, h2, _⟩ := pairs_at (i := j) (e := es[j]) hp (by simp [hj])
    exact ⟨kv', h1, h2⟩
  refine ⟨hl, ?_, fun j hj => ?_⟩
  · obtain ⟨kv', h1, h2⟩ := at_ i hl
    rw [hi] at h1; cases h1; exact h2
  · obtain ⟨kv', h1, h2⟩ := at_ j (by omega)
    rw [KeyKind.is_eq_decide h2]
    intro z
    have hk : kv.1 = kv'.1 := by simpa using z
    have e1 : (kvs.map (·.1))[i]? = some kv.1 := by rw [List.getElem?_map, hi]; rfl
    have e2 : (kvs.map (·.1))[j]? = some kv.1 := by rw [List.getElem?_map, h1, hk]; rfl
    have := (List.getElem?_inj (by rw [List.length_map]; exact (List.getElem?_eq_some_iff.mp hi).1) hn).mp (e1.trans e2.symm)
    omega
end
end L2
namespace WL
open PySem PySem.Spec PyProof.Rows L2
section
variable {X : Cx} {e o a b f : Expr} {we wo wa wb wi wd : WE} {wA : WA} {p p2 pos pos2 apos cpos : Pos}
theorem bt_any : bootBuiltins "any" = some (.builtin "any") := by decide +kernel
theorem bt_dict : bootBuiltins "dict" = some (.type "dict") := by decide +kernel
def bAny : List T → Hw → WK → Prop := fun vs C Q => ∃ (a : Addr) (bs : List Bool), vs = [.ref a] ∧ C a = some (.lst (bs.map T.bl)) ∧ Q (.bl (bs.any id)) C
theorem b_any (hc : X.calm = true) : CallS X (.builtin "any") bAny := ⟨_, call_anyB hc, fun F H C xs vs Q Q' R rs h q => by
  obtain ⟨a, bs, rfl, hx, h⟩ := h
  obtain ⟨x, rfl, rx⟩ := of_one rs
  cases of_ref rx
  obtain ⟨ys, hy, r⟩ := R.lst hx
  cases reps_bls r
  exact ⟨a, bs, rfl, SqL.of hy, q _ _ H C R (Tx.refl H) rep_bl h⟩⟩
def bDictC : List T → Hw → WK → Prop := fun vs C Q => ∃ (a : Addr) (kvs : List (Key × T)), vs = [.ref a] ∧ C a = some (.dic kvs) ∧ ∀ p, C p = none → Q (.ref p) (up C p (.dic kvs))
def dropT (kvs : List (Key × T)) (k : Key) : List (Key × T) := kvs.filter fun kv => decide (kv.1 ≠ k)
theorem PR.drop {K : PySem.W.Frag} {H : Hp} {k : Key} : ∀ {ks : List (Key × V)} {kvs : List (Key × T)}, PR K H ks kvs → PR K H (dropK ks k) (dropT kvs k)
  | _, _, .nil => .nil
  | p :: r, q :: s, .cons h t => by
    have ih := PR.drop (k := k) t
    unfold dropK dropT at ih ⊢
    by_cases c : q.1 = k
    · have c' : p.1 = k := h.1.trans c
      rw [List.filter_cons_of_neg (by simp [c']), List.filter_cons_of_neg (by simp [c])]
      exact ih
    · have c' : ¬ p.1 = k := fun z => c (h.1.symm.trans z)
      rw [List.filter_cons_of_pos (by simp [c']), List.filter_cons_of_pos (by simp [c])]
      exact .cons h ih
/-- o.pop(i, d) -/
def eDpop2 (o i d : WE) : WE := fun τ C Q χ => o τ C (fun x C1 => (∃ a kvs, x = .ref a ∧ C1 a = some (.dic kvs)) ∧ i τ C1 (fun y C2 => d τ C2 (fun z C3 => ∃ a kvs k, x = .ref a ∧ kT y = some k ∧ C3 a = some (.dic kvs) ∧
  (∀ v, getT kvs k = some v → Q v (up C3 a (.dic (dropT kvs k)))) ∧ (getT kvs k = none → Q z C3)) χ) χ) χ
theorem d_dpop2 (ho : SdE X o wo) (he : SdE X e wi) (hf : SdE X f wd) (m : M2 X o "pop" apos e f cpos) : SdE X (.Call (.Attribute o "pop" apos) [e, f] [] cpos) (eDpop2 wo wi wd) := by
  obtain ⟨ta, p1, s1⟩ := ho
  obtain ⟨tb, p2, s2⟩ := he
  obtain ⟨tc, p3, s3⟩ := hf
  refine ⟨_, pe_dpop2 p1 p2 p3 m, fun F H C σ τ Q Q' χ R S h q => ?_⟩
  refine s1 F H C σ τ _ _ χ R S h fun x v H1 C1 R1 t1 rx h1 => ?_
  obtain ⟨⟨l, kvs0, rfl, hC0⟩, h1⟩ := h1
  cases of_ref rx
  obtain ⟨ks0, hH0, _⟩ := R1.dic hC0
  refine ⟨l, rfl, .inl ⟨ks0, .inl hH0⟩, ?_⟩
  refine s2 F H1 C1 σ τ _ _ χ R1 (S.tx t1) h1 fun y u H2 C2 R2 t2 ry h2 => ?_
  refine s3 F H2 C2 σ τ _ _ χ R2 (S.tx (t1.trans t2)) h2 fun z w H3 C3 R3 t3 rz h3 => ?_
  obtain ⟨l', kvs, k, e', hk, hC, h4, h5⟩ := h3
  cases e'
  obtain ⟨ks, hH, pr⟩ := R3.dic hC
  have t := (t1.trans t2).trans t3
  refine ⟨ks, k, hH, rep_key hk (ry.tx t3), fun v hv => ?_, fun hv => ?_⟩
  · cases hg : getT kvs k with
    | none => rw [(PR.get pr k).1 hg] at hv; cases hv
    | some w =>
      obtain ⟨z', hz, rz'⟩ := (PR.get pr k).2 w hg
      rw [hz] at hv; cases hv
      obtain ⟨R', t'⟩ := R3.putD hC (PR.drop (k := k) pr)
      exact q _ _ _ _ R' (t.trans t') (rz'.tx t') (h4 w hg)
  · have hn : getT kvs k = none := by
      cases hg : getT kvs k with
      | none => rfl
      | some w => obtain ⟨z', hz, _⟩ := (PR.get pr k).2 w hg; rw [hz] at hv; cases hv
    exact q _ _ H3 C3 R3 t rz (h5 hn)
/-! dicts compared -/
def wDeqG (neg : Bool) : W2 := fun x y C Q => ∃ a b ka kb, x = .ref a ∧ y = .ref b ∧ C a = some (.dic ka) ∧ C b = some (.dic kb) ∧
  ((ka.length ≠ kb.length ∧ Q (.bl neg) C) ∨ (ka = kb ∧ (∀ kv ∈ ka, isFlat kv.2) ∧ Q (.bl (!neg)) C))
abbrev wDeq : W2 := wDeqG false
abbrev wDne : W2 := wDeqG true
theorem pr_at {K : PySem.W.Frag} {H : Hp} : ∀ {ks : List (Key × V)} {kvs : List (Key × T)} {i : Nat} {p : Key × V}, PR K H ks kvs → ks[i]? = some p → ∃ q, kvs[i]? = some q ∧ p.1 = q.1 ∧ Rep K H p.2 q.2
  | _, _, _, _, .nil, h => by simp at h
  | _, _, 0, _, .cons a _, h => by simp at h; subst h; exact ⟨_, rfl, a.1, a.2⟩
  | _, _, i + 1, p, .cons _ t, h => by
    obtain ⟨q, h1, h2⟩ := pr_at (i := i) (p := p) t (by simpa using h)
    exact ⟨q, by simpa using h1, h2⟩
theorem kv_at : ∀ {ks : List (Key × V)} {vs : List (Key × Value)} {i : Nat} {p : Key × Value}, KV ks vs → vs[i]? = some p → ∃ q, ks[i]? = some q ∧ q.1 = p.1 ∧ RelV q.2 p.2
  | _, _, _, _, .nil, h => by simp at h
  | _, _, 0, _, .cons a _, h => by simp at h; subst h; exact ⟨_, rfl, a.1, a.2⟩
  | _, _, i + 1, p, .cons _ t, h => by
    obtain ⟨q, h1, h2⟩ := kv_at (i := i) (p := p) t (by simpa using h)
    exact ⟨q, by simpa using h1, h2⟩
/-! ### zip -/
def zipT (xs ys : List T) : List T := List.zipWith (fun x y => T.tup [x, y]) xs ys
def iZp (a : WA) : WI := fun τ C R χ => a τ C (fun vs C1 => (∃ xs ys, vs = [.tup xs, .tup ys] ∧ xs.length = ys.length ∧ R (zipT xs ys) (fun _ => True) C1) ∨
  ∃ xs ys l, vs = [.tup xs, .ref l] ∧ C1 l = some (.lst ys) ∧ xs.length = ys.length ∧ R (zipT xs ys) (fun C2 => C2 l = some (.lst ys)) C1) χ
theorem zipT_at {xs ys : List T} {i : Nat} {x y : T} (hx : xs[i]? = some x) (hy : ys[i]? = some y) : (zipT xs ys)[i]? = some (.tup [x, y]) := by
  unfold zipT; rw [List.getElem?_zipWith, hx, hy]
theorem it_zip {K : PySem.W.Frag} {F H0 : Hp} (b : Bool) {l1 l2 : Addr} {ys1 : List V} {xs ys : List T} {ok : Hw → Prop} (h1 : SqT K H0 l1 ys1) (r1 : Reps K H0 ys1 xs) (hl : xs.length = ys.length)
    (h2 : ∀ H C, Rl K F H C → Tx H0 H → ok C → ∃ ys2, SqX b K H l2 ys2 ∧ Reps K H ys2 ys) : ItRel K F H0 (Itz b K l1 l2) (zipT xs ys) ok := fun i H C R t hok => by
  have q1 := t.sqt h1
  have r1' := r1.tx t
  obtain ⟨ys2, q2, r2⟩ := h2 H C R t hok
  have hlz : (zipT xs ys).length = xs.length := by unfold zipT; simp; omega
  have e1 := r1'.length
  have e2 := r2.length
  refine ⟨fun hi => ?_, fun hi => ⟨ys1, ys2, q1, q2, by omega, by omega⟩⟩
  rw [hlz] at hi
  refine ⟨⟨ys1, ys2, q1, q2, by omega, by omega⟩, fun x H' h => ?_⟩
  obtain ⟨u, v, Tt, hu, hv, rfl, hT, rfl⟩ := h
  obtain ⟨x, hx, rx⟩ := r1'.get' (hu ys1 q1)
  obtain ⟨y, hy, ry⟩ := r2.get' (hv ys2 q2)
  exact ⟨_, zipT_at hx hy, R.hid hT, Tx.new hT, rep_tup (SqT.of upd_same) (reps_cons (rx.tx (Tx.new hT)) (reps_cons (ry.tx (Tx.new hT)) reps_nil))⟩
theorem di_zip {elts : List Expr} {ek : Nat} {epos : Pos} (hg : Gl X "zip") (hm : X.mg "zip" = none) (ha : SdA X [a, b] wA) (hs : starEach [a, b] X.env = (false, eval a X.env) :: starEach [b] X.env := by rfl) (hp : (backTo pos (starEach [b] X.env)).any (·.1) = false := by rfl) :
    SdI X (.Tuple elts ek epos) (.Call (.Name "zip" p) [a, b] [] pos) (iZp wA) := by
  obtain ⟨t, p1, s⟩ := ha
  refine ⟨_, pi_zip hg hm p1 hs hp, fun F H C σ τ R R' χ Rr S h q => ?_⟩
  refine s F H C σ τ _ _ χ Rr S h fun xs vs H1 C1 R1 t1 rs h1 => ?_
  rcases h1 with ⟨ts, us, rfl, hl, h1⟩ | ⟨ts, us, l, rfl, hC, hl, h1⟩
  · obtain ⟨x, y, rfl, rx, ry⟩ := of_two rs
    obtain ⟨l1, y1, rfl, q1, r1⟩ := of_tup rx
    obtain ⟨l2, y2, rfl, q2, r2⟩ := of_tup ry
    exact ⟨false, l1, l2, y1, y2, rfl, q1, q2, q _ H1 _ _ C1 R1 t1 (fun F' => it_zip false q1 r1 hl fun H C _ t _ => ⟨y2, t.sqt q2, r2.tx t⟩) h1⟩
  · obtain ⟨x, y, rfl, rx, ry⟩ := of_two rs
    obtain ⟨l1, y1, rfl, q1, r1⟩ := of_tup rx
    cases of_ref ry
    obtain ⟨y2, hy, r2⟩ := R1.lst hC
    refine ⟨true, l1, l, y1, y2, rfl, q1, SqL.of hy, q _ H1 _ _ C1 R1 t1 (fun F' => it_zip true q1 r1 hl fun H C R' t hok => ?_) h1⟩
    obtain ⟨y3, hy3, r3⟩ := R'.lst hok
    exact ⟨y3, SqL.of hy3, r3⟩
end
end WL
set_option Elab.async false
set_option linter.all false
set_option maxRecDepth 100000
set_option maxHeartbeats 4000000
/-! the second level: dicts that are read, walked -/
namespace WL
open PySem PySem.Spec PyProof.Rows L2
/-- a dict that may be read -/
def RdC (C : Hw) (a : Addr) (kvs : List (Key × T)) : Prop := C a = some (.dic kvs) ∨ C a = some (.fdic kvs)
theorem Rl.rd {K : PySem.W.Frag} {F H : Hp} {C : Hw} (R : Rl K F H C) {a : Addr} {kvs : List (Key × T)} (h : RdC C a kvs) : ∃ ks, Rd H a (.dK ks) ∧ PR K H ks kvs := by
  rcases h with h | h
  · obtain ⟨ks, hH, pr⟩ := R.dic h; exact ⟨ks, .inl hH, pr⟩
  · exact R.obj a _ h
def rD (kvs : List (Key × T)) : List T := kvs.map fun kv => tK kv.1
theorem rep_tK {K : PySem.W.Frag} {H : Hp} (k : Key) : Rep K H (kV k) (tK k) := by
  cases k with
  | inl i => exact rep_int
  | inr x => exact rep_str
section
variable {X : Cx} {e o a b c f i : Expr} {we wo wa wb wi wd : WE} {wA : WA} {p p2 pos pos2 apos cpos : Pos} {tg : Expr}
/-! reading -/
def wRget : W2 := fun x y C Q => ∃ a kvs k v, x = .ref a ∧ kT y = some k ∧ RdC C a kvs ∧ getT kvs k = some v ∧ Q v C
def wRinG (neg : Bool) : W2 := fun y x C Q => ∃ a kvs k, x = .ref a ∧ kT y = some k ∧ RdC C a kvs ∧ Q (.bl (if neg then !(getT kvs k).isSome else (getT kvs k).isSome)) C
abbrev wRin : W2 := wRinG false
abbrev wRnotin : W2 := wRinG true
def eRget2 (o i d : WE) : WE := fun τ C Q χ => o τ C (fun x C1 => (∃ a kvs, x = .ref a ∧ RdC C1 a kvs) ∧ i τ C1 (fun y C2 => d τ C2 (fun z C3 => ∃ a kvs k, x = .ref a ∧ kT y = some k ∧ RdC C3 a kvs ∧ Q ((getT kvs k).getD z) C3) χ) χ) χ
theorem d_rget (hu : X.A.units + 150 < cLine) (ha : SdE X a wa) (hb : SdE X b wb) (hs : NoSl b) : SdE X (.Subscript a b pos) (eBin wRget wa wb) := by
  obtain ⟨ta, p1, s1⟩ := ha
  obtain ⟨tb, p2, s2⟩ := hb
  refine ⟨_, pe_dget (by omega) p1 p2 hs, fun F H C σ τ Q Q' χ R S h q => ?_⟩
  refine s1 F H C σ τ _ _ χ R S h fun x v H1 C1 R1 t1 rx h1 => ?_
  refine s2 F H1 C1 σ τ _ _ χ R1 (S.tx t1) h1 fun y u H2 C2 R2 t2 ry h2 => ?_
  obtain ⟨l, kvs, k, w, rfl, hk, hC, hg, h2⟩ := h2
  cases of_ref rx
  obtain ⟨ks, hH, pr⟩ := R2.rd hC
  obtain ⟨z, hz, rz⟩ := (PR.get pr k).2 w hg
  cases rep_key hk ry
  exact ⟨l, z, rfl, .inl ⟨ks, k, hH, rfl, hz.symm⟩, q _ _ H2 C2 R2 (t1.trans t2) rz h2⟩
theorem o_rinG (neg : Bool) (hu : X.A.units + 150 < cLine) : OpS X (compareOp (if neg then .NotIn else .In)) (wRinG neg) := ⟨_, op_dir, fun F H C y x u v Q Q' R ry rx h q pins s σ u' v' I r1 r2 => by
  obtain ⟨l, kvs, k, rfl, hk, hC, h⟩ := h
  cases of_ref rx
  cases r2
  obtain ⟨ks, hH, pr⟩ := R.rd hC
  cases rep_key hk ry
  have e : (valV ks k).isSome = (getT kvs k).isSome := by
    cases hg : getT kvs k with
    | none => rw [(PR.get pr k).1 hg]; rfl
    | some w => obtain ⟨z, hz, _⟩ := (PR.get pr k).2 w hg; rw [hz]; rfl
  have fin := q _ _ H C R (Tx.refl H) rep_bl h
  rw [← e] at fin
  have g : DGet H l (kV k) (valV ks k) := .inl ⟨ks, k, hH, rfl, rfl⟩
  cases neg with
  | true => exact d_notIn (by omega) I g r1 fun s' I' => ⟨.bl _, H, I', rfl, fin⟩
  | false => exact d_in (by omega) I g r1 fun s' I' => ⟨.bl _, H, I', rfl, fin⟩⟩
theorem o_rin (hu : X.A.units + 150 < cLine) : OpS X (compareOp .In) wRin := o_rinG false hu
theorem call_dictR : CallR X (.type "dict") (fun xs H Q => ∃ (p : Addr) (kvs : List (Key × V)), xs = [.ref p] ∧ Rd H p (.dK kvs) ∧ ∀ r, H r = none → Q (.ref r) (upd H r (.dK kvs))) := by
  intro pins s σ H xs us Q I r h
  obtain ⟨p, kvs, rfl, hp, q⟩ := h
  obtain ⟨u, rfl, ru⟩ := vals1 r
  cases ru
  exact d_copyOf I hp fun r s2 hr I2 => ⟨.ref r, _, I2, rfl, q r hr⟩
def bDictR : List T → Hw → WK → Prop := fun vs C Q => ∃ (a : Addr) (kvs : List (Key × T)), vs = [.ref a] ∧ RdC C a kvs ∧ ∀ p, C p = none → Q (.ref p) (up C p (.dic kvs))
theorem b_dictR : CallS X (.type "dict") bDictR := ⟨_, call_dictR, fun F H C xs vs Q Q' R rs h q => by
  obtain ⟨a, kvs, rfl, hC, h⟩ := h
  obtain ⟨x, rfl, rx⟩ := of_one rs
  cases of_ref rx
  obtain ⟨ks, hH, pr⟩ := R.rd hC
  exact ⟨a, ks, rfl, hH, fun r hr => q _ _ _ _ (R.newD hr pr) (Tx.new hr) rep_ref (h r (R.free hr))⟩⟩
def wReqG (neg : Bool) : W2 := fun x y C Q => ∃ a b ka kb, x = .ref a ∧ y = .ref b ∧ RdC C a ka ∧ RdC C b kb ∧
  ((ka.length ≠ kb.length ∧ Q (.bl neg) C) ∨ (ka = kb ∧ (∀ kv ∈ ka, isFlat kv.2) ∧ Q (.bl (!neg)) C))
abbrev wReq : W2 := wReqG false
abbrev wRne : W2 := wReqG true
theorem o_reqG (neg : Bool) (hu : X.A.units + 150 < cLine) : OpS X (compareOp (if neg then .NotEq else .Eq)) (wReqG neg) := ⟨_, op_dir, fun F H C x y u v Q Q' R rx ry h q pins s σ u' v' I r1 r2 => by
  obtain ⟨a, b, ka, kb, rfl, rfl, ha, hb, h⟩ := h
  cases of_ref rx
  cases of_ref ry
  cases r1
  cases r2
  obtain ⟨ks, hH, pr⟩ := R.rd ha
  obtain ⟨ls, hL, pl⟩ := R.rd hb
  obtain ⟨z1, sa, va, rela, oa, ea, pa, hoa, xa, da, kka, pra, na⟩ := dk_rd I.hok hH
  obtain ⟨z2, sb, vb, relb, ob, eb, pb, hob, xb, db, kkb, prb, nb⟩ := dk_rd I.hok hL
  have hsa : ea.size = ka.length := by rw [← PR.length pr, rela.length, ← Pairs.length pra]; simp
  have hsb : eb.size = kb.length := by rw [← PR.length pl, relb.length, ← Pairs.length prb]; simp
  have Ta : s.TypeIs (.ref a) "dict" := ⟨_, hoa, xa.1⟩
  have Tb : s.TypeIs (.ref b) "dict" := ⟨_, hob, xb.1⟩
  have fin : ∀ k : Bool, (∀ (E : Value → Shared → Prop) (id : String) (Q : Bool → Shared → Prop), Q k s → wpAny (model X.prog X.w) X.A.in1 (Builtin.Dict.samePairs id a b) Q E s) → Q (.bl (if neg then !k else k)) H →
      wpAny (model X.prog X.w) X.A (compareOp (if neg then .NotEq else .Eq) (.ref a) (.ref b)) (EP X pins σ Q) X.xe s := fun k hs hq => by
    cases neg with
    | true => exact dict_ne (k := k) (by omega) Ta Tb hs ⟨.bl (!k), H, I, by cases k <;> rfl, hq⟩
    | false => exact dict_eq (k := k) (by omega) Ta Tb hs ⟨.bl k, H, I, by cases k <;> rfl, hq⟩
  rcases h with ⟨hne, h⟩ | ⟨rfl, hfl, h⟩
  · refine fin false (fun E id Q' q' => sp_diff sa sb hoa da hob db (by simp [hsa, hsb, hne]) q') ?_
    have := q _ _ H C R (Tx.refl H) rep_bl h
    cases neg <;> exact this
  · refine fin true (fun E id Q' q' => sp_same sa sb hoa da hob db kkb (by rw [hsa, hsb]) (fun i h1 h2 => ?_) q') ?_
    · obtain ⟨kva, e1, e2, e3⟩ := pairs_at (i := i) (e := ea[i]) pra (by simp [h1])
      obtain ⟨kvb, f1, f2, f3⟩ := pairs_at (i := i) (e := eb[i]) prb (by simp [h2])
      obtain ⟨qa, g1, g2, g3⟩ := kv_at rela e1
      obtain ⟨qb, g4, g5, g6⟩ := kv_at relb f1
      obtain ⟨ta, j1, j2, j3⟩ := pr_at pr g1
      obtain ⟨tb, j4, j5, j6⟩ := pr_at pl g4
      rw [j1] at j4
      cases j4
      have ek : kva.1 = kvb.1 := by rw [← g2, ← g5, j2, j5]
      obtain ⟨k', hk1, hk2⟩ := kka ea[i] (Array.getElem_mem h1)
      have := (mixKind X.prog X.w).inj _ _ _ hk1 e2
      subst this
      refine ⟨kva.1, e2, hk2, by rw [ek]; exact find_at prb nb f1 h2, ?_⟩
      have hf := hfl ta (List.mem_of_getElem? j1)
      have := eqAtT I 100 (A := X.A.in1) hf hf j3 j6 g3 g6 (show X.A.units + 1 + 100 < cLine by omega)
      rw [eqT_refl ta.2 hf] at this
      rw [e3, f3]; exact this
    · have := q _ _ H C R (Tx.refl H) rep_bl h
      cases neg <;> exact this⟩
theorem o_req (hu : X.A.units + 150 < cLine) : OpS X (compareOp .Eq) wReq := o_reqG false hu
/-! ### for k in a dict -/
def iDc (e : WE) : WI := fun τ C R χ => e τ C (fun x C1 => ∃ d kvs, x = .ref d ∧ RdC C1 d kvs ∧ R (rD kvs) (fun C2 => C2 d = some (.fdic kvs)) (up C1 d (.fdic kvs))) χ
theorem Rl.frz {K : PySem.W.Frag} {F H : Hp} {C : Hw} (R : Rl K F H C) {d : Addr} {o : Obj} {ks : List (Key × V)} {kvs : List (Key × T)} (hC : RdC C d kvs) (hH : Rd H d (.dK ks)) (ho : ∀ o', H d = some (.frz o' (.dK ks)) → o' = o) (pr : PR K H ks kvs) :
    Rl K F (upd H d (.frz o (.dK ks))) (up C d (.fdic kvs)) ∧ Tx H (upd H d (.frz o (.dK ks))) := by
  have t : Tx H (upd H d (.frz o (.dK ks))) := fun b u q st => by
    by_cases e : b = d
    · subst e
      rcases hH with h | ⟨o', h⟩
      · rw [h] at q; cases q; exact st.elim
      · rw [h] at q
        cases q
        rw [upd_same, ho o' h]
    · rw [upd_ne e]; exact q
  refine ⟨⟨fun a v e => ?_, fun a v e => ?_⟩, t⟩
  · by_cases q : a = d
    · subst q
      rw [up_same] at e; cases e
      exact ⟨ks, .inr ⟨o, upd_same⟩, pr_tx t pr⟩
    · rw [up_ne q] at e
      exact (R.obj a v e).stay t (upd_ne q)
  · have z := R.frm a v e
    have q : a ≠ d := fun y => by
      subst y
      rcases hC with h | h <;> (rw [h] at z; cases z.2)
    rw [upd_ne q, up_ne q]; exact z
theorem it_dict {K : PySem.W.Frag} {F H0 : Hp} {d : Addr} {o : Obj} {ks : List (Key × V)} {kvs : List (Key × T)} (hH : H0 d = some (.frz o (.dK ks))) (pr : PR K H0 ks kvs) : ItRel K F H0 (Itd o d ks) (rD kvs) (fun C => C d = some (.fdic kvs)) := fun i H C R t ok => by
  have h1 : H d = some (.frz o (.dK ks)) := t d _ hH trivial
  have hl : ks.length = kvs.length := PR.length pr
  have hr : (rD kvs).length = kvs.length := by unfold rD; simp
  refine ⟨fun hi => ⟨⟨h1, by omega⟩, fun x H' h => ?_⟩, fun hi => ⟨h1, by omega⟩⟩
  obtain ⟨rfl, kv, hk, rfl⟩ := h
  obtain ⟨q, h2, h3, _⟩ := pr_at pr hk
  refine ⟨tK kv.1, ?_, R, Tx.refl _, rep_tK _⟩
  unfold rD
  rw [List.getElem?_map, h2, h3]; rfl
theorem di_dict (he : SdE X e we) : SdI X tg e (iDc we) := by
  obtain ⟨t, p1, s⟩ := he
  refine ⟨_, pi_dict p1, fun F H C σ τ R R' χ Rr S h q => ?_⟩
  refine s F H C σ τ _ _ χ Rr S h fun x v H1 C1 R1 t1 rx h1 => ?_
  obtain ⟨d, kvs, rfl, hC, h1⟩ := h1
  cases of_ref rx
  obtain ⟨ks, hH, pr⟩ := R1.rd hC
  refine ⟨d, ks, rfl, hH, fun o ho => ?_⟩
  obtain ⟨R2, t2⟩ := R1.frz hC hH ho pr
  exact q _ _ _ _ _ R2 (t1.trans t2) (fun F' => it_dict upd_same (pr_tx t2 pr)) h1
end
end WL
set_option Elab.async false
set_option linter.all false
set_option maxRecDepth 100000
set_option maxHeartbeats 4000000
/-! the second level: get with one argument of a dict that is read -/
namespace WL
open PySem PySem.Spec PyProof.Rows L2
section
variable {X : Cx} {e o : Expr} {we wo wi : WE} {apos cpos : Pos}
def eRget1 (o i : WE) : WE := fun τ C Q χ => o τ C (fun x C1 => (∃ a kvs, x = .ref a ∧ RdC C1 a kvs) ∧ i τ C1 (fun y C2 => ∃ a kvs k, x = .ref a ∧ kT y = some k ∧ RdC C2 a kvs ∧ Q ((getT kvs k).getD .non) C2) χ) χ
theorem d_rget1 (hu : X.A.units + 150 < cLine) (ho : SdE X o wo) (he : SdE X e wi) (m : M1 X o "get" apos e cpos) : SdE X (.Call (.Attribute o "get" apos) [e] [] cpos) (eRget1 wo wi) := by
  obtain ⟨ta, p1, s1⟩ := ho
  obtain ⟨tb, p2, s2⟩ := he
  refine ⟨_, pe_dget1 (by omega) p1 p2 m, fun F H C σ τ Q Q' χ R S h q => ?_⟩
  refine s1 F H C σ τ _ _ χ R S h fun x v H1 C1 R1 t1 rx h1 => ?_
  obtain ⟨⟨l, kvs0, rfl, hC0⟩, h1⟩ := h1
  cases of_ref rx
  obtain ⟨ks0, hH0, _⟩ := R1.rd hC0
  refine ⟨l, rfl, .inl ⟨ks0, hH0⟩, ?_⟩
  refine s2 F H1 C1 σ τ _ _ χ R1 (S.tx t1) h1 fun y u H2 C2 R2 t2 ry h2 => ?_
  obtain ⟨l', kvs, k, e', hk, hC, h2⟩ := h2
  cases e'
  obtain ⟨ks, hH, pr⟩ := R2.rd hC
  cases rep_key hk ry
  exact ⟨_, .inl ⟨ks, k, hH, rfl, rfl⟩, q _ _ H2 C2 R2 (t1.trans t2) (getD_rep pr k rep_non) h2⟩
end
end WL
set_option Elab.async false
set_option linter.all false
set_option maxRecDepth 100000
set_option maxHeartbeats 4000000
/-! the second level's own words: reading a def, loops, what stays -/
namespace WL
open PySem PySem.Spec PyProof.Rows L2
/-- what stood stands -/
def Ex (C C' : Hw) : Prop := ∀ a o, C a = some o → C' a = some o
theorem Ex.refl (C : Hw) : Ex C C := fun _ _ h => h
theorem Ex.trans {C C1 C2 : Hw} (a : Ex C C1) (b : Ex C1 C2) : Ex C C2 := fun c o h => b c o (a c o h)
theorem cne {C : Hw} {a b : Addr} {o : O} (h : C a = some o) (h' : C b = none) : a ≠ b := fun e => by subst e; rw [h] at h'; cases h'
theorem cne' {C : Hw} {a b : Addr} {o : O} (h : C a = some o) (h' : C b = none) : b ≠ a := fun e => cne h h' e.symm
theorem Ex.new {C : Hw} {p : Addr} {o : O} (h : C p = none) : Ex C (up C p o) := fun a u e => by rw [up_ne (cne e h)]; exact e
theorem Ex.up {C C' : Hw} {p : Addr} {o : O} (e : Ex C C') (h : C p = none) : Ex C (up C' p o) := fun a u q => by rw [up_ne (cne q h)]; exact e a u q
theorem fr1 {C : Hw} {p q : Addr} {o : O} (h : up C p o q = none) : q ≠ p ∧ C q = none := by
  have n : q ≠ p := fun z => by subst z; rw [up_same] at h; cases h
  rw [up_ne n] at h
  exact ⟨n, h⟩
/-- what stood stands, but for one -/
def ExB (p : Addr) (C C' : Hw) : Prop := ∀ a o, a ≠ p → C a = some o → C' a = some o
theorem ExB.refl (p : Addr) (C : Hw) : ExB p C C := fun _ _ _ h => h
theorem ExB.trans {p : Addr} {C C1 C2 : Hw} (a : ExB p C C1) (b : ExB p C1 C2) : ExB p C C2 := fun c o n h => b c o n (a c o n h)
theorem Ex.exB {C C' : Hw} (e : Ex C C') (p : Addr) : ExB p C C' := fun a o _ h => e a o h
theorem ExB.put {p : Addr} {C C' : Hw} {o : O} (e : ExB p C C') : ExB p C (WL.up C' p o) := fun a u n h => by rw [up_ne n]; exact e a u n h
theorem ExB.new {p q : Addr} {C C' : Hw} {o : O} (e : ExB p C C') (h : C q = none) : ExB p C (WL.up C' q o) := fun a u n z => by rw [up_ne (cne z h)]; exact e a u n z
theorem flat_mono : ∀ (v : T) {n m : Nat}, flat v n = true → n ≤ m → flat v m = true := by
  have key : ∀ (n : Nat) (v : T) {m : Nat}, flat v n = true → n ≤ m → flat v m = true := by
    intro n
    induction n with
    | zero =>
      intro v m h _
      cases v with
      | tup xs => unfold flat at h; cases h
      | ref a => unfold flat at h; cases h
      | cl a => unfold flat at h; cases h
      | _ => unfold flat; rfl
    | succ n ih =>
      intro v m h hm
      have fl : ∀ (xs : List T) {m : Nat}, flats xs n = true → n ≤ m → flats xs m = true := by
        intro xs
        induction xs with
        | nil => intro m _ _; unfold flats; rfl
        | cons x xs ihx =>
          intro m h hm
          unfold flats at h ⊢
          rw [Bool.and_eq_true] at h ⊢
          exact ⟨ih x h.1 hm, ihx h.2 hm⟩
      cases v with
      | tup xs =>
        obtain ⟨k, rfl⟩ : ∃ k, m = k + 1 := ⟨m - 1, by omega⟩
        unfold flat at h ⊢
        exact fl xs h (by omega)
      | ref a => unfold flat at h; cases h
      | cl a => unfold flat at h; cases h
      | _ => unfold flat; rfl
  exact fun v {n m} => key n v
theorem flats_iff : ∀ {xs : List T} {n : Nat}, flats xs n = true ↔ ∀ x ∈ xs, flat x n = true
  | [], n => by unfold flats; simp
  | x :: xs, n => by unfold flats; rw [Bool.and_eq_true, flats_iff]; simp
theorem flat_tup {xs : List T} {n : Nat} (h : ∀ x ∈ xs, flat x n = true) : flat (.tup xs) (n + 1) = true := by unfold flat; exact flats_iff.mpr h
theorem flat_str {x : Str} {n : Nat} : flat (.str x) n = true := by unfold flat; rfl
theorem flat_int {x : Int} {n : Nat} : flat (.int x) n = true := by unfold flat; rfl
theorem flat_bl {x : Bool} {n : Nat} : flat (.bl x) n = true := by unfold flat; rfl
theorem isFlat_str {x : Str} : isFlat (.str x) = True := eq_true flat_str
theorem isFlat_int {x : Int} : isFlat (.int x) = True := eq_true flat_int
theorem isFlat_bl {x : Bool} : isFlat (.bl x) = True := eq_true flat_bl
theorem flats_strs {xs : List Str} {n : Nat} : flats (xs.map T.str) n = true := flats_iff.mpr fun x hx => by obtain ⟨y, _, rfl⟩ := List.mem_map.mp hx; exact flat_str
section
variable {n : Bool} {C : Hw} {Q : WK}
theorem wEq_str {a b : Str} : wEqG n (.str a) (.str b) C Q = Q (.bl (if n = true then !(a == b) else a == b)) C := by
  show (isFlat _ ∧ isFlat _ ∧ Q (.bl (if n = true then !eqT (.str a) (.str b) else eqT (.str a) (.str b))) C) = _
  rw [isFlat_str, isFlat_str, true_and, true_and, show eqT (.str a) (.str b) = (a == b) by unfold eqT; rfl]
theorem wEq_int {a b : Int} : wEqG n (.int a) (.int b) C Q = Q (.bl (if n = true then !(a == b) else a == b)) C := by
  show (isFlat _ ∧ isFlat _ ∧ Q (.bl (if n = true then !eqT (.int a) (.int b) else eqT (.int a) (.int b))) C) = _
  rw [isFlat_int, isFlat_int, true_and, true_and, show eqT (.int a) (.int b) = (a == b) by unfold eqT; rfl]
theorem wEq_bl {a b : Bool} : wEqG n (.bl a) (.bl b) C Q = Q (.bl (if n = true then !(a == b) else a == b)) C := by
  show (isFlat _ ∧ isFlat _ ∧ Q (.bl (if n = true then !eqT (.bl a) (.bl b) else eqT (.bl a) (.bl b))) C) = _
  rw [isFlat_bl, isFlat_bl, true_and, true_and, show eqT (.bl a) (.bl b) = (a == b) by unfold eqT; rfl]
end
section
variable {α : Type} {a b c d e : α} {xs : List α}
theorem erase0 : (a :: xs).eraseIdx 0 = xs := rfl
theorem atI_0 : atI (a :: xs) 0 = some a := atI_nat (j := 0) rfl
theorem atI_1 : atI (a :: b :: xs) 1 = some b := atI_nat (j := 1) rfl
theorem atI_2 : atI (a :: b :: c :: xs) 2 = some c := atI_nat (j := 2) rfl
theorem atI_3 : atI (a :: b :: c :: d :: xs) 3 = some d := atI_nat (j := 3) rfl
theorem atI_4 : atI (a :: b :: c :: d :: e :: xs) 4 = some e := atI_nat (j := 4) rfl
theorem atI_m1 : atI [a] (-1) = some a := rfl
theorem atI_m2 : atI [a, b] (-1) = some b := rfl
theorem atI_m3 : atI [a, b, c] (-1) = some c := rfl
theorem atI_m4 : atI [a, b, c, d] (-1) = some d := rfl
end
/-- a loop by what holds of the turns done; N is whatever the next turn wants -/
theorem for_inv {g : WG} {b : WS} {ok : Hw → Prop} {D : We} {xs : List T} (Pv : Nat → Sw → Hw → Prop) {τ : Sw} {C : Hw} (h0 : Pv 0 τ C) (hok : ∀ i τ C, i ≤ xs.length → Pv i τ C → ok C)
    (hs : ∀ i x τ C (N : Sw → Hw → Prop), xs[i]? = some x → Pv i τ C → (∀ τ' C', Pv (i + 1) τ' C' → N τ' C') → g x τ C (fun τ2 C2 => b { D with nx := N, ct := N, bk := D.nx } τ2 C2) D.xc)
    (hd : ∀ τ C, Pv xs.length τ C → D.nx τ C) : forW g b ok D xs τ C := by
  have key : ∀ (k i : Nat) (τ : Sw) (C : Hw), xs.length - i = k → i ≤ xs.length → Pv i τ C → forW g b ok D (xs.drop i) τ C := by
    intro k
    induction k with
    | zero =>
      intro i τ C hk hi hp
      have e : i = xs.length := by omega
      subst e
      rw [List.drop_length]
      exact ⟨hok _ τ C (Nat.le_refl _) hp, hd τ C hp⟩
    | succ k ih =>
      intro i τ C hk hi hp
      have hlt : i < xs.length := by omega
      rw [List.drop_eq_getElem_cons hlt]
      exact ⟨hok i τ C hi hp, hs i _ τ C _ (by simp [hlt]) hp fun τ' C' h => ih (i + 1) τ' C' (by omega) hlt h⟩
  exact key xs.length 0 τ C (by simp) (Nat.zero_le _) h0
theorem rng_len (lo : Int) (n : Nat) : (rng lo n).length = n := by unfold rng; simp
theorem rng_get {lo : Int} {n i : Nat} {x : T} (h : (rng lo n)[i]? = some x) : i < n ∧ x = .int (lo + i) := by
  have hi : i < n := by
    have := (List.getElem?_eq_some_iff.mp h).1
    rw [rng_len] at this; exact this
  unfold rng at h
  rw [List.getElem?_map, List.getElem?_range hi] at h
  cases h
  exact ⟨hi, rfl⟩
/-- over a range -/
theorem for_rng {g : WG} {b : WS} {ok : Hw → Prop} {D : We} {lo : Int} {n : Nat} (Pv : Nat → Sw → Hw → Prop) {τ : Sw} {C : Hw} (h0 : Pv 0 τ C) (hok : ∀ C, ok C)
    (hs : ∀ i τ C (N : Sw → Hw → Prop), i < n → Pv i τ C → (∀ τ' C', Pv (i + 1) τ' C' → N τ' C') → g (.int (lo + i)) τ C (fun τ2 C2 => b { D with nx := N, ct := N, bk := D.nx } τ2 C2) D.xc)
    (hd : ∀ τ C, Pv n τ C → D.nx τ C) : forW g b ok D (rng lo n) τ C := by
  refine for_inv Pv h0 (fun _ _ C _ _ => hok C) (fun i x τ C N hx hp hN => ?_) (fun τ C h => hd τ C (by rw [rng_len] at h; exact h))
  obtain ⟨hi, rfl⟩ := rng_get hx
  exact hs i τ C N hi hp hN
theorem comp_inv {g : WG} {c : WT} {e : WE} {ok : Hw → Prop} {τ : Sw} {Q : List T → Hw → Prop} {χ : WX} {xs : List T} (Pv : Nat → List T → Hw → Prop) {C : Hw} (h0 : Pv 0 [] C) (hok : ∀ i acc C, i ≤ xs.length → Pv i acc C → ok C)
    (hs : ∀ i x acc C (N : List T → Hw → Prop), xs[i]? = some x → Pv i acc C → (∀ acc' C', Pv (i + 1) acc' C' → N acc' C') →
      g x τ C (fun τ2 C2 => c τ2 C2 (fun b C3 => if b = true then e τ2 C3 (fun v C4 => acc.length < sizeLine ∧ N (acc ++ [v]) C4) χ else N acc C3) χ) χ)
    (hd : ∀ acc C, Pv xs.length acc C → Q acc C) : compW g c e ok τ Q χ xs [] C := by
  have key : ∀ (k i : Nat) (acc : List T) (C : Hw), xs.length - i = k → i ≤ xs.length → Pv i acc C → compW g c e ok τ Q χ (xs.drop i) acc C := by
    intro k
    induction k with
    | zero =>
      intro i acc C hk hi hp
      have e : i = xs.length := by omega
      subst e
      rw [List.drop_length]
      exact ⟨hok _ acc C (Nat.le_refl _) hp, hd acc C hp⟩
    | succ k ih =>
      intro i acc C hk hi hp
      have hlt : i < xs.length := by omega
      rw [List.drop_eq_getElem_cons hlt]
      exact ⟨hok i acc C hi hp, hs i _ acc C _ (by simp [hlt]) hp fun acc' C' h => ih (i + 1) acc' C' (by omega) hlt h⟩
  exact key xs.length 0 [] C (by simp) (Nat.zero_le _) h0
/-- each item gives a value or is left out, the heap stays -/
theorem comp_fm {g : WG} {c : WT} {e : WE} {ok : Hw → Prop} {τ : Sw} {Q : List T → Hw → Prop} {χ : WX} {xs : List T} (f : T → Option T) {C : Hw} (hok : ok C) (hl : xs.length ≤ sizeLine)
    (hs : ∀ x ∈ xs, ∀ (R : WK) (N : Hw → Prop), (∀ v, f x = some v → R v C) → (f x = none → N C) → g x τ C (fun τ2 C2 => c τ2 C2 (fun b C3 => if b = true then e τ2 C3 R χ else N C3) χ) χ) (hd : Q (xs.filterMap f) C) : compW g c e ok τ Q χ xs [] C := by
  refine comp_inv (fun i acc C' => C' = C ∧ acc = (xs.take i).filterMap f) ⟨rfl, rfl⟩ (fun i acc C' _ h => by rw [h.1]; exact hok) (fun i x acc C' N hx hp hN => ?_) (fun acc C' h => ?_)
  · obtain ⟨rfl, rfl⟩ := hp
    have hi : i < xs.length := (List.getElem?_eq_some_iff.mp hx).1
    refine hs x (List.mem_of_getElem? hx) _ _ (fun v hv => ⟨?_, hN _ _ ⟨rfl, ?_⟩⟩) (fun hv => hN _ _ ⟨rfl, ?_⟩)
    · have := List.length_filterMap_le f (xs.take i)
      rw [List.length_take] at this
      omega
    · rw [List.take_add_one, hx, List.filterMap_append]
      simp [hv]
    · rw [List.take_add_one, hx, List.filterMap_append]
      simp [hv]
  · obtain ⟨rfl, rfl⟩ := h
    rw [List.take_length]; exact hd
/-- each item gives a value, the heap stays -/
theorem comp_pure {g : WG} {e : WE} {ok : Hw → Prop} {τ : Sw} {Q : List T → Hw → Prop} {χ : WX} {xs : List T} (f : T → T) {C : Hw} (hok : ok C) (hl : xs.length ≤ sizeLine)
    (hs : ∀ x ∈ xs, ∀ R : WK, R (f x) C → g x τ C (fun τ2 C2 => e τ2 C2 R χ) χ) (hd : Q (xs.map f) C) : compW g tYes e ok τ Q χ xs [] C := by
  refine comp_inv (fun i acc C' => C' = C ∧ acc = (xs.take i).map f) ⟨rfl, rfl⟩ (fun i acc C' _ h => by rw [h.1]; exact hok) (fun i x acc C' N hx hp hN => ?_) (fun acc C' h => ?_)
  · obtain ⟨rfl, rfl⟩ := hp
    have hi : i < xs.length := (List.getElem?_eq_some_iff.mp hx).1
    refine hs x (List.mem_of_getElem? hx) _ ⟨?_, hN _ _ ⟨rfl, ?_⟩⟩
    · rw [List.length_map, List.length_take]; omega
    · rw [List.take_add_one, hx, List.map_append]; rfl
  · obtain ⟨rfl, rfl⟩ := h
    rw [List.take_length]; exact hd
theorem sub_len {α : Type} [DecidableEq α] : ∀ {l m : List α}, l.Nodup → (∀ x ∈ l, x ∈ m) → l.length ≤ m.length
  | [], _, _, _ => Nat.zero_le _
  | x :: l, m, hn, hs => by
    have hx : x ∈ m := hs x (by simp)
    have h1 : l.length ≤ (m.erase x).length := sub_len (List.nodup_cons.mp hn).2 fun y hy => by
      have hne : y ≠ x := fun e => by subst e; exact (List.nodup_cons.mp hn).1 hy
      exact (List.mem_erase_of_ne hne).mpr (hs y (by simp [hy]))
    have h2 := List.length_erase_of_mem hx
    have h3 : 0 < m.length := List.length_pos_of_mem hx
    rw [List.length_cons]; omega
theorem inL_strs {z : Str} {zs : List Str} : inL (.str z) (zs.map T.str) = decide (z ∈ zs) := by
  unfold inL
  rw [List.any_map]
  induction zs with
  | nil => rfl
  | cons y ys ih =>
    rw [List.any_cons, ih]
    have e : (((fun y => eqT y (.str z)) ∘ T.str) y) = (y == z) := by show eqT (.str y) (.str z) = _; unfold eqT; rfl
    rw [e]
    by_cases h : y = z
    · subst h; simp
    · have h' : z ≠ y := fun q => h q.symm
      simp [h, h']
theorem wIn_ref {n : Bool} {z : Str} {a : Addr} {zs : List Str} {C : Hw} {Q : WK} (h : C a = some (.lst (zs.map T.str))) (q : Q (.bl (if n = true then !decide (z ∈ zs) else decide (z ∈ zs))) C) : wInG n (.str z) (.ref a) C Q :=
  ⟨zs.map T.str, h, flat_str, flats_strs, by rw [inL_strs]; exact q⟩
theorem atT_ints {ds : List Int} {i : Int} (h0 : 0 ≤ i) (h1 : i < (ds.length : Int)) : ∃ d, atI (ds.map T.int) i = some (.int d) ∧ d ∈ ds := by
  obtain ⟨v, h, m⟩ := atI_in (xs := ds.map T.int) h0 (by simpa using h1)
  obtain ⟨d, hd, rfl⟩ := List.mem_map.mp m
  exact ⟨d, h, hd⟩
theorem atT_strs {ds : List Str} {i : Int} (h0 : 0 ≤ i) (h1 : i < (ds.length : Int)) : ∃ d, atI (ds.map T.str) i = some (.str d) ∧ d ∈ ds := by
  obtain ⟨v, h, m⟩ := atI_in (xs := ds.map T.str) h0 (by simpa using h1)
  obtain ⟨d, hd, rfl⟩ := List.mem_map.mp m
  exact ⟨d, h, hd⟩
theorem popL {ds : List Int} (h : 0 < ds.length) : ∃ d, (ds.map T.int)[(ds.map T.int).length - 1]? = some (.int d) ∧ d ∈ ds ∧ (ds.map T.int).dropLast = ds.dropLast.map T.int ∧ ds.dropLast.length = ds.length - 1 ∧ ∀ x ∈ ds.dropLast, x ∈ ds := by
  have hlt : ds.length - 1 < ds.length := by omega
  refine ⟨ds[ds.length - 1], ?_, List.getElem_mem hlt, ?_, List.length_dropLast, fun x hx => (List.dropLast_sublist ds).subset hx⟩
  · rw [List.length_map, List.getElem?_map, List.getElem?_eq_getElem hlt]; rfl
  · rw [List.map_dropLast]
theorem seq0 {n : Nat} (h : 0 < n) : seqIndex? 0 n = some 0 := by
  have := (ixN_seq (n := n) (i := 0) (j := 0) (by unfold ixN; simp; omega)).1
  exact this
theorem small63 {n : Nat} (h : n ≤ 100000) : n ≤ sizeLine := Nat.le_trans h (by decide)
theorem small63' {n : Nat} (h : n ≤ 100000) : n < sizeLine := Nat.lt_of_le_of_lt h (by decide)
end WL
set_option Elab.async false
set_option linter.all false
set_option maxRecDepth 100000
set_option maxHeartbeats 4000000
namespace K30
open PySem PySem.Spec PyProof.Rows L2 WL
/-- slots: 0:term 1:given 2:sort -/
def w_with_parts (P : Calls) : WS :=
    (sSeq (sAsg (eBin wIdx (eVar 0) (eC (.int 0))) (gNm 2))
    (sSeq (sIf (tBl (eBin wEq (eVar 2) (eC (.str "does")))) (sRet (eTup (aCons (eC (.str "does")) (aCons (eBin wIdx (eVar 0) (eC (.int 1))) (aCons (eBin wIdx (eVar 1) (eC (.int 0))) (aCons (eBin wIdx (eVar 1) (eC (.int 1))) aNil)))))) sPass)
    (sSeq (sIf (tOr' (tBl (eBin wEq (eVar 2) (eC (.str "call")))) (tBl (eBin wEq (eVar 2) (eC (.str "first"))))) (sRet (eTup (aCons (eVar 2) (aCons (eBin wIdx (eVar 1) (eC (.int 0))) (aCons (eBin wIdx (eVar 1) (eC (.int 1))) aNil))))) sPass)
    (sSeq (sIf (tBl (eBin wEq (eVar 2) (eC (.str "fun")))) (sRet (eTup (aCons (eC (.str "fun")) (aCons (eBin wIdx (eVar 0) (eC (.int 1))) (aCons (eBin wIdx (eVar 1) (eC (.int 0))) aNil))))) sPass)
    (sSeq (sIf (tBl (eBin wEq (eVar 2) (eC (.str "let")))) (sRet (eTup (aCons (eC (.str "let")) (aCons (eCall P 1 (aCons (eBin wIdx (eVar 0) (eC (.int 1))) (aCons (eSl (eVar 1) oNo (oSome (eUn wNeg (eC (.int 1))))) aNil))) (aCons (eBin wIdx (eVar 1) (eUn wNeg (eC (.int 1)))) aNil))))) sPass)
    (sSeq (sIf (tBl (eBin wEq (eVar 2) (eC (.str "shape")))) (sRet (eTup (aCons (eC (.str "shape")) (aCons (eBin wIdx (eVar 0) (eC (.int 1))) (aCons (eBi bTuple (aCons (eVar 1) aNil)) aNil))))) sPass)
    (sSeq (sIf (tBl (eBin wEq (eVar 2) (eC (.str "choose")))) (sRet (eTup (aCons (eC (.str "choose")) (aCons (eBin wIdx (eVar 1) (eC (.int 0))) (aCons (eCall P 1 (aCons (eBin wIdx (eVar 0) (eC (.int 2))) (aCons (eSl (eVar 1) (oSome (eC (.int 1))) oNo) aNil))) aNil))))) sPass)
    (sSeq (sIf (tBl (eBin wEq (eVar 2) (eC (.str "rows")))) (sRet (eTup (aCons (eC (.str "rows")) (aCons (eBin wIdx (eVar 1) (eC (.int 0))) (aCons (eCall P 1 (aCons (eBin wIdx (eVar 0) (eC (.int 2))) (aCons (eSl (eVar 1) (oSome (eC (.int 1))) oNo) aNil))) aNil))))) sPass)
    (sRet (eVar 0))))))))))
/-- slots: 0:tuples 1:lasts -/
def w_with_lasts (P : Calls) : WS :=
    (sRet (eBi bTuple (aCons (eComp [none, none] (iZp (aCons (eVar 0) (aCons (eVar 1) aNil))) (gTp (gsCons (gNm 0) (gsCons (gNm 1) gsNil))) tYes (eBin wAdd (eSl (eVar 0) oNo (oSome (eUn wNeg (eC (.int 1))))) (eTup (aCons (eVar 1) aNil)))) aNil)))
/-- slots: 0:term 1:sort -/
def w_scopes (P : Calls) : WS :=
    (sSeq (sAsg (eBin wIdx (eVar 0) (eC (.int 0))) (gNm 1))
    (sSeq (sIf (tBl (eBin wEq (eVar 1) (eC (.str "does")))) (sRet (eLst (aCons (eTup (aCons (eTup aNil) (aCons (eBin wIdx (eVar 0) (eC (.int 2))) aNil))) (aCons (eTup (aCons (eTup aNil) (aCons (eBin wIdx (eVar 0) (eC (.int 3))) aNil))) aNil)))) sPass)
    (sSeq (sIf (tOr' (tBl (eBin wEq (eVar 1) (eC (.str "call")))) (tBl (eBin wEq (eVar 1) (eC (.str "first"))))) (sRet (eLst (aCons (eTup (aCons (eTup aNil) (aCons (eBin wIdx (eVar 0) (eC (.int 1))) aNil))) (aCons (eTup (aCons (eTup aNil) (aCons (eBin wIdx (eVar 0) (eC (.int 2))) aNil))) aNil)))) sPass)
    (sSeq (sIf (tBl (eBin wEq (eVar 1) (eC (.str "fun")))) (sRet (eLst (aCons (eTup (aCons (eTup (aCons (eBin wIdx (eVar 0) (eC (.int 1))) aNil)) (aCons (eBin wIdx (eVar 0) (eC (.int 2))) aNil))) aNil))) sPass)
    (sSeq (sIf (tBl (eBin wEq (eVar 1) (eC (.str "let")))) (sRet (eCall P 3 (aCons (eBin wIdx (eVar 0) (eC (.int 1))) (aCons (eBin wIdx (eVar 0) (eC (.int 2))) aNil)))) sPass)
    (sSeq (sIf (tBl (eBin wEq (eVar 1) (eC (.str "shape")))) (sRet (eComp [none] (iSeq (eBin wIdx (eVar 0) (eC (.int 2)))) (gNm 0) tYes (eTup (aCons (eTup aNil) (aCons (eVar 0) aNil))))) sPass)
    (sSeq (sIf (tBl (eBin wEq (eVar 1) (eC (.str "choose")))) (sRet (eBin wAdd (eLst (aCons (eTup (aCons (eTup aNil) (aCons (eBin wIdx (eVar 0) (eC (.int 1))) aNil))) aNil)) (eComp [none, none, none] (iSeq (eBin wIdx (eVar 0) (eC (.int 2)))) (gTp (gsCons (gNm 0) (gsCons (gNm 1) (gsCons (gNm 2) gsNil)))) tYes (eTup (aCons (eVar 1) (aCons (eVar 2) aNil)))))) sPass)
    (sSeq (sIf (tBl (eBin wEq (eVar 1) (eC (.str "rows")))) (sRet (eCall P 4 (aCons (eBin wIdx (eVar 0) (eC (.int 1))) (aCons (eBin wIdx (eVar 0) (eC (.int 2))) aNil)))) sPass)
    (sRet (eLst aNil))))))))))
/-- slots: 0:pairs 1:body 2:names -/
def w_let_scopes (P : Calls) : WS :=
    (sSeq (sAsg (eBi bTuple (aCons (eComp [none, none] (iSeq (eVar 0)) (gTp (gsCons (gNm 0) (gsCons (gNm 1) gsNil))) tYes (eVar 0)) aNil)) (gNm 2))
    (sRet (eBin wAdd (eComp [none, none, some 2] (iSeq (eVar 0)) (gTp (gsCons (gNm 0) (gsCons (gNm 1) gsNil))) tYes (eTup (aCons (eVar 2) (aCons (eVar 1) aNil)))) (eLst (aCons (eTup (aCons (eVar 2) (aCons (eVar 1) aNil))) aNil)))))
/-- slots: 0:body 1:steps 2:bound 3:behind 4:step -/
def w_rows_scopes (P : Calls) : WS :=
    (sSeq (sAsg (eTup aNil) (gNm 2))
    (sSeq (sAsg (eLst aNil) (gNm 3))
    (sSeq (sFor (iSeq (eVar 1)) (gNm 4)
    (sSeq (sExpr (eMt tyL' mAppend (eVar 3) (aCons (eTup (aCons (eVar 2) (aCons (eBin wIdx (eVar 4) (eUn wNeg (eC (.int 1)))) aNil))) aNil)))
    (sAsg (eBin wAdd (eVar 2) (eSl (eVar 4) (oSome (eC (.int 1))) (oSome (eUn wNeg (eC (.int 1)))))) (gNm 2))))
    (sRet (eBin wAdd (eLst (aCons (eTup (aCons (eVar 2) (aCons (eVar 0) aNil))) aNil)) (eVar 3))))))
/-- slots: 0:term 1:marks 2:given -/
def w_put (P : Calls) : WS :=
    (sSeq (sAsg (eCall P 6 (aCons (eVar 0) (aCons (eVar 1) aNil))) (gNm 2))
    (sRet (eIf (tBl (eBin wIsN (eVar 2) (eC (.non)))) (eVar 0) (eVar 2))))
def w_changed_t1 (P : Calls) : WS :=
    (sRet (eIf (tTru (eVar 2)) (eC (.non)) (eCall P 0 (aCons (eVar 0) (aCons (eVar 3) aNil)))))
def w_changed_t2 (P : Calls) : WS :=
    (sSeq (sAsg (eC (.bl true)) (gNm 2))
    (sSeq (sAsg (eLst aNil) (gNm 3))
    (sSeq (sFor (iSeq (eCall P 2 (aCons (eVar 0) aNil))) (gTp (gsCons (gNm 4) (gsCons (gNm 5) gsNil)))
    (sSeq (sAsg (eIf (tBl (eBin wEq (eVar 4) (eTup aNil))) (eVar 1) (eCall P 7 (aCons (eVar 1) (aCons (eVar 4) aNil)))) (gNm 6))
    (sSeq (sAsg (eIf (tBl (eBin wReq (eVar 6) eDict0)) (eC (.non)) (eCall P 6 (aCons (eVar 5) (aCons (eVar 6) aNil)))) (gNm 7))
    (sSeq (sIf (tBl (eBin wNotN (eVar 7) (eC (.non)))) (sAsg (eC (.bl false)) (gNm 2)) sPass)
    (sExpr (eMt tyL' mAppend (eVar 3) (aCons (eIf (tBl (eBin wIsN (eVar 7) (eC (.non)))) (eVar 5) (eVar 7)) aNil)))))))
    (w_changed_t1 P))))
/-- slots: 0:term 1:marks 2:stays 3:given 4:names 5:part 6:left 7:one -/
def w_changed (P : Calls) : WS :=
    (sSeq (sIf (tBl (eBin wEq (eBin wIdx (eVar 0) (eC (.int 0))) (eC (.str "name")))) (sRet (eRget1 (eVar 1) (eBin wIdx (eVar 0) (eC (.int 1))))) sPass)
    (w_changed_t2 P))
/-- slots: 0:marks 1:names 2:left 3:name -/
def w_without (P : Calls) : WS :=
    (sSeq (sIf (tNo (tTru (eBi bAny (aCons (eComp [none, some 0] (iSeq (eVar 1)) (gNm 0) tYes (eBin wRin (eVar 0) (eVar 1))) aNil)))) (sRet (eVar 0)) sPass)
    (sSeq (sAsg (eBi bDictR (aCons (eVar 0) aNil)) (gNm 2))
    (sSeq (sFor (iSeq (eVar 1)) (gNm 3)
    (sExpr (eDpop2 (eVar 2) (eVar 3) (eC (.non)))))
    (sRet (eVar 2)))))
/-- slots: 0:_law_script 1:_law_many_here 2:_law_found 3:_law_k 4:_law_cell -/
def w__law_draws (P : Calls) : WS :=
    (sSeq (sAsg (eLst aNil) (gNm 2))
    (sSeq (sFor (iR1 (aCons (eVar 1) aNil)) (gNm 3)
    (sSeq (sAsg (eC (.int 0)) (gNm 4))
    (sSeq (sIf (tBl (eBin wGt (eBi bLen (aCons (eVar 0) aNil)) (eC (.int 0)))) (sAsg (eBin wMod (eBin wIdx (eVar 0) (eBin wMod (eVar 3) (eBi bLen (aCons (eVar 0) aNil)))) (eBin wPow (eC (.int 10)) (eC (.int 18)))) (gNm 4)) sPass)
    (sExpr (eMt tyL' mAppend (eVar 2) (aCons (eBin wAdd (eVar 4) (eBin wMul (eC (.int 7919)) (eBin wDiv (eVar 3) (eBi bMax (aCons (eC (.int 1)) (aCons (eBi bLen (aCons (eVar 0) aNil)) aNil)))))) aNil))))))
    (sRet (eVar 2))))
/-- slots: 0:_law_draw 1:_law_signs 2:_law_name_here 3:_law_k 4:_law_at -/
def w__law_name (P : Calls) : WS :=
    (sSeq (sAsg (eC (.str "abcdefghijklmnopqrstuvwxyz0123456789")) (gNm 1))
    (sSeq (sAsg (eBin wIdx (eVar 1) (eBin wMod (eVar 0) (eC (.int 26)))) (gNm 2))
    (sSeq (sFor (iR1 (aCons (eBin wMod (eBin wDiv (eVar 0) (eC (.int 26))) (eC (.int 8))) aNil)) (gNm 3)
    (sSeq (sAsg (eBin wAdd (eBin wAdd (eBin wDiv (eVar 0) (eC (.int 208))) (eBin wMul (eBin wMul (eC (.int 11)) (eVar 3)) (eVar 3))) (eBin wMul (eBin wMod (eBin wDiv (eVar 0) (eC (.int 7488))) (eC (.int 36))) (eVar 3))) (gNm 4))
    (sAsg (eBin wAdd (eVar 2) (eBin wIdx (eVar 1) (eBin wMod (eVar 4) (eC (.int 36))))) (gNm 2))))
    (sSeq (sIf (tBl (eBin wIn (eVar 2) (eLst (aCons (eC (.str "fun")) (aCons (eC (.str "let")) (aCons (eC (.str "choose")) (aCons (eC (.str "first")) (aCons (eC (.str "stop")) (aCons (eC (.str "rows")) (aCons (eC (.str "in")) (aCons (eC (.str "when")) (aCons (eC (.str "be")) aNil)))))))))))) (sRet (eBin wAdd (eVar 2) (eC (.str "0")))) sPass)
    (sRet (eVar 2))))))
/-- slots: 0:_law_draw 1:_law_many_here 2:_law_pool 3:_law_names 4:_law_k 5:_law_name_here 6:_law_spare -/
def w__law_unlike (P : Calls) : WS :=
    (sSeq (sAsg (eLst aNil) (gNm 3))
    (sSeq (sFor (iR1 (aCons (eVar 1) aNil)) (gNm 4)
    (sSeq (sAsg (eBin wIdx (eVar 2) (eBin wMod (eBin wDiv (eVar 0) (eBin wAdd (eBin wMul (eC (.int 5)) (eVar 4)) (eC (.int 1)))) (eBi bLen (aCons (eVar 2) aNil)))) (gNm 5))
    (sSeq (sIf (tBl (eBin wIn (eVar 5) (eVar 3))) (sSeq (sAsg (eLst (aCons (eC (.str "q1")) (aCons (eC (.str "q2")) (aCons (eC (.str "q3")) (aCons (eC (.str "q4")) (aCons (eC (.str "q5")) (aCons (eC (.str "q6")) aNil))))))) (gNm 6))
    (sAsg (eBin wIdx (eComp [none, some 3] (iSeq (eVar 6)) (gNm 0) (tBl (eBin wNotIn (eVar 0) (eVar 1))) (eVar 0)) (eC (.int 0))) (gNm 5))) sPass)
    (sExpr (eMt tyL' mAppend (eVar 3) (aCons (eVar 5) aNil))))))
    (sRet (eVar 3))))
/-- slots: 0:_law_draw 1:_law_pool 2:_law_number -/
def w__law_mark (P : Calls) : WS :=
    (sSeq (sAsg (eBin wMod (eBin wMul (eBin wDiv (eVar 0) (eC (.int 3))) (eC (.int 982451653))) (eBin wPow (eC (.int 10)) (eC (.int 18)))) (gNm 2))
    (sSeq (sIf (tBl (eBin wEq (eBin wMod (eVar 0) (eC (.int 3))) (eC (.int 0)))) (sRet (eTup (aCons (eC (.str "at")) (aCons (eVar 2) aNil)))) sPass)
    (sSeq (sIf (tBl (eBin wEq (eBin wMod (eVar 0) (eC (.int 3))) (eC (.int 1)))) (sRet (eTup (aCons (eC (.str "shut")) (aCons (eVar 2) (aCons (eTup (aCons (eC (.str "name")) (aCons (eBin wIdx (eVar 1) (eBin wMod (eBin wDiv (eVar 0) (eC (.int 3))) (eBi bLen (aCons (eVar 1) aNil)))) aNil))) aNil))))) sPass)
    (sRet (eTup (aCons (eC (.str "ring")) (aCons (eVar 2) (aCons (eC (.int 0)) (aCons (eTup (aCons (eTup (aCons (eBin wIdx (eVar 1) (eBin wMod (eBin wDiv (eVar 0) (eC (.int 3))) (eBi bLen (aCons (eVar 1) aNil)))) (aCons (eTup (aCons (eC (.str "name")) (aCons (eBin wIdx (eVar 1) (eBin wMod (eBin wDiv (eVar 0) (eC (.int 5))) (eBi bLen (aCons (eVar 1) aNil)))) aNil))) aNil))) aNil)) aNil)))))))))
/-- slots: 0:_law_draw 1:_law_pool -/
def w__law_leaf (P : Calls) : WS :=
    (sSeq (sIf (tBl (eBin wEq (eBin wMod (eVar 0) (eC (.int 7))) (eC (.int 6)))) (sRet (eCall P 11 (aCons (eBin wDiv (eVar 0) (eC (.int 7))) (aCons (eVar 1) aNil)))) sPass)
    (sSeq (sIf (tBl (eBin wEq (eBin wMod (eVar 0) (eC (.int 7))) (eC (.int 5)))) (sRet (eBin wIdx (eLst (aCons (eTup (aCons (eC (.str "number")) (aCons (eBin wMod (eBin wMul (eVar 0) (eC (.int 982451653))) (eBin wPow (eC (.int 10)) (eC (.int 18)))) aNil))) (aCons (eTup (aCons (eC (.str "shape")) (aCons (eC (.str "Nil")) (aCons (eTup aNil) aNil)))) aNil))) (eBin wMod (eBin wDiv (eVar 0) (eC (.int 7))) (eC (.int 2))))) sPass)
    (sSeq (sIf (tBl (eBin wEq (eBin wMod (eVar 0) (eC (.int 7))) (eC (.int 4)))) (sRet (eTup (aCons (eC (.str "stop")) (aCons (eBin wIdx (eVar 1) (eBin wMod (eBin wDiv (eVar 0) (eC (.int 7))) (eBi bLen (aCons (eVar 1) aNil)))) aNil)))) sPass)
    (sRet (eTup (aCons (eC (.str "name")) (aCons (eBin wIdx (eVar 1) (eBin wMod (eBin wDiv (eVar 0) (eC (.int 7))) (eBi bLen (aCons (eVar 1) aNil)))) aNil)))))))
/-- slots: 0:_law_draw 1:_law_some 2:_law_pool -/
def w__law_chosen (P : Calls) : WS :=
    (sSeq (sIf (tBl (eBin wEq (eBin wMod (eVar 0) (eC (.int 3))) (eC (.int 0)))) (sRet (eTup (aCons (eTup (aCons (eC (.str "Nil")) (aCons (eTup aNil) (aCons (eBin wIdx (eVar 1) (eC (.int 1))) aNil)))) (aCons (eTup (aCons (eC (.str "Cons")) (aCons (eBi bTuple (aCons (eCall P 10 (aCons (eBin wDiv (eVar 0) (eC (.int 3))) (aCons (eC (.int 2)) (aCons (eVar 2) aNil)))) aNil)) (aCons (eBin wIdx (eVar 1) (eC (.int 2))) aNil)))) aNil)))) sPass)
    (sSeq (sIf (tBl (eBin wEq (eBin wMod (eVar 0) (eC (.int 3))) (eC (.int 1)))) (sRet (eTup (aCons (eTup (aCons (eC (.str "No")) (aCons (eTup aNil) (aCons (eBin wIdx (eVar 1) (eC (.int 1))) aNil)))) (aCons (eTup (aCons (eC (.str "Yes")) (aCons (eTup aNil) (aCons (eBin wIdx (eVar 1) (eC (.int 2))) aNil)))) aNil)))) sPass)
    (sRet (eTup (aCons (eTup (aCons (eC (.str "Pair")) (aCons (eBi bTuple (aCons (eCall P 10 (aCons (eBin wDiv (eVar 0) (eC (.int 3))) (aCons (eC (.int 2)) (aCons (eVar 2) aNil)))) aNil)) (aCons (eBin wIdx (eVar 1) (eC (.int 1))) aNil)))) aNil)))))
/-- slots: 0:_law_draw 1:_law_some 2:_law_pool 3:_law_steps 4:_law_k 5:_law_way -/
def w__law_rows (P : Calls) : WS :=
    (sSeq (sAsg (eLst aNil) (gNm 3))
    (sSeq (sFor (iR1 (aCons (eBin wSub (eBi bLen (aCons (eVar 1) aNil)) (eC (.int 1))) aNil)) (gNm 4)
    (sSeq (sAsg (eBin wMod (eBin wDiv (eVar 0) (eBin wAdd (eBin wMul (eC (.int 3)) (eVar 4)) (eC (.int 1)))) (eC (.int 3))) (gNm 5))
    (sIf (tBl (eBin wEq (eVar 5) (eC (.int 0)))) (sExpr (eMt tyL' mAppend (eVar 3) (aCons (eTup (aCons (eC (.str "when")) (aCons (eBin wIdx (eVar 1) (eBin wAdd (eC (.int 1)) (eVar 4))) aNil))) aNil))) (sExpr (eMt tyL' mAppend (eVar 3) (aCons (eTup (aCons (eBin wIdx (eLst (aCons (eC (.str "in")) (aCons (eC (.str "be")) aNil))) (eBin wSub (eVar 5) (eC (.int 1)))) (aCons (eBin wIdx (eVar 2) (eBin wMod (eBin wDiv (eVar 0) (eBin wAdd (eBin wMul (eC (.int 7)) (eVar 4)) (eC (.int 3)))) (eBi bLen (aCons (eVar 2) aNil)))) (aCons (eBin wIdx (eVar 1) (eBin wAdd (eC (.int 1)) (eVar 4))) aNil)))) aNil))))))
    (sRet (eTup (aCons (eC (.str "rows")) (aCons (eBin wIdx (eVar 1) (eC (.int 0))) (aCons (eBi bTuple (aCons (eVar 3) aNil)) aNil)))))))
/-- slots: 0:_law_sort 1:_law_draw 2:_law_some 3:_law_pool 4:_law_names -/
def w__law_joined (P : Calls) : WS :=
    (sSeq (sIf (tBl (eBin wEq (eVar 0) (eC (.int 1)))) (sRet (eTup (aCons (eC (.str "does")) (aCons (eBin wIdx (eC (.str "+-*<=")) (eBin wMod (eVar 1) (eC (.int 5)))) (aCons (eBin wIdx (eVar 2) (eC (.int 0))) (aCons (eBin wIdx (eVar 2) (eC (.int 1))) aNil)))))) sPass)
    (sSeq (sIf (tBl (eBin wEq (eVar 0) (eC (.int 2)))) (sRet (eTup (aCons (eC (.str "fun")) (aCons (eBin wIdx (eVar 3) (eBin wMod (eVar 1) (eBi bLen (aCons (eVar 3) aNil)))) (aCons (eBin wIdx (eVar 2) (eC (.int 0))) aNil))))) sPass)
    (sSeq (sIf (tBl (eBin wEq (eVar 0) (eC (.int 3)))) (sRet (eTup (aCons (eC (.str "call")) (aCons (eBin wIdx (eVar 2) (eC (.int 0))) (aCons (eBin wIdx (eVar 2) (eC (.int 1))) aNil))))) sPass)
    (sSeq (sIf (tBl (eBin wEq (eVar 0) (eC (.int 4)))) (sSeq (sAsg (eCall P 10 (aCons (eVar 1) (aCons (eBin wSub (eBi bLen (aCons (eVar 2) aNil)) (eC (.int 1))) (aCons (eVar 3) aNil)))) (gNm 4))
    (sRet (eTup (aCons (eC (.str "let")) (aCons (eBi bTuple (aCons (eComp [none, some 4, some 2] (iR1 (aCons (eBi bLen (aCons (eVar 4) aNil)) aNil)) (gNm 0) tYes (eTup (aCons (eBin wIdx (eVar 1) (eVar 0)) (aCons (eBin wIdx (eVar 2) (eVar 0)) aNil)))) aNil)) (aCons (eBin wIdx (eVar 2) (eUn wNeg (eC (.int 1)))) aNil)))))) sPass)
    (sSeq (sIf (tBl (eBin wEq (eVar 0) (eC (.int 5)))) (sRet (eTup (aCons (eC (.str "shape")) (aCons (eBin wIdx (eLst (aCons (eC (.str "Cons")) (aCons (eC (.str "Pair")) aNil))) (eBin wMod (eVar 1) (eC (.int 2)))) (aCons (eTup (aCons (eBin wIdx (eVar 2) (eC (.int 0))) (aCons (eBin wIdx (eVar 2) (eC (.int 1))) aNil))) aNil))))) sPass)
    (sSeq (sIf (tBl (eBin wEq (eVar 0) (eC (.int 6)))) (sRet (eTup (aCons (eC (.str "choose")) (aCons (eBin wIdx (eVar 2) (eC (.int 0))) (aCons (eCall P 13 (aCons (eVar 1) (aCons (eVar 2) (aCons (eVar 3) aNil)))) aNil))))) sPass)
    (sSeq (sIf (tBl (eBin wEq (eVar 0) (eC (.int 7)))) (sRet (eTup (aCons (eC (.str "first")) (aCons (eBin wIdx (eVar 2) (eC (.int 0))) (aCons (eBin wIdx (eVar 2) (eC (.int 1))) aNil))))) sPass)
    (sRet (eCall P 14 (aCons (eVar 1) (aCons (eVar 2) (aCons (eVar 3) aNil))))))))))))
/-- slots: 0:_law_sort 1:_law_draw -/
def w__law_many (P : Calls) : WS :=
    (sSeq (sIf (tBl (eBin wEq (eVar 0) (eC (.int 4)))) (sRet (eBin wAdd (eC (.int 2)) (eBin wMod (eBin wDiv (eVar 1) (eC (.int 7))) (eC (.int 5))))) sPass)
    (sSeq (sIf (tBl (eBin wEq (eVar 0) (eC (.int 6)))) (sRet (eBin wIdx (eLst (aCons (eC (.int 3)) (aCons (eC (.int 3)) (aCons (eC (.int 2)) aNil)))) (eBin wMod (eVar 1) (eC (.int 3))))) sPass)
    (sSeq (sIf (tBl (eBin wEq (eVar 0) (eC (.int 8)))) (sRet (eBin wAdd (eC (.int 1)) (eBin wMod (eBin wDiv (eVar 1) (eC (.int 7))) (eC (.int 4))))) sPass)
    (sRet (eBin wIdx (eLst (aCons (eC (.int 0)) (aCons (eC (.int 2)) (aCons (eC (.int 1)) (aCons (eC (.int 2)) (aCons (eC (.int 0)) (aCons (eC (.int 2)) (aCons (eC (.int 0)) (aCons (eC (.int 2)) aNil))))))))) (eVar 0))))))
def w__law_term_t1 (P : Calls) : WS :=
    (sRet (eCall P 15 (aCons (eVar 4) (aCons (eBin wDiv (eVar 3) (eC (.int 9))) (aCons (eVar 5) (aCons (eVar 2) aNil))))))
def w__law_term_t2 (P : Calls) : WS :=
    (sSeq (sAsg (eLst aNil) (gNm 5))
    (sSeq (sFor (iR1 (aCons (eCall P 16 (aCons (eVar 4) (aCons (eBin wDiv (eVar 3) (eC (.int 9))) aNil))) aNil)) (gNm 6)
    (sExpr (eMt tyL' mAppend (eVar 5) (aCons (eCall P 17 (aCons (eVar 0) (aCons (eBin wSub (eVar 1) (eC (.int 1))) (aCons (eVar 2) aNil)))) aNil))))
    (w__law_term_t1 P)))
def w__law_term_t3 (P : Calls) : WS :=
    (sSeq (sAsg (eBin wMod (eVar 3) (eC (.int 9))) (gNm 4))
    (sSeq (sIf (tOr' (tBl (eBin wLe (eVar 1) (eC (.int 1)))) (tOr' (tBl (eBin wEq (eBi bLen (aCons (eVar 0) aNil)) (eC (.int 0)))) (tBl (eBin wEq (eVar 4) (eC (.int 0)))))) (sRet (eCall P 12 (aCons (eBin wDiv (eVar 3) (eC (.int 9))) (aCons (eVar 2) aNil)))) sPass)
    (w__law_term_t2 P)))
/-- slots: 0:_law_draws_here 1:_law_deep 2:_law_pool 3:_law_draw 4:_law_sort 5:_law_some 6:_law_k -/
def w__law_term (P : Calls) : WS :=
    (sSeq (sAsg (eC (.int 0)) (gNm 3))
    (sSeq (sIf (tBl (eBin wGt (eBi bLen (aCons (eVar 0) aNil)) (eC (.int 0)))) (sAsg (eMt tyL' mPopAt (eVar 0) (aCons (eC (.int 0)) aNil)) (gNm 3)) sPass)
    (w__law_term_t3 P)))
/-- slots: 0:_law_term_here 1:_law_draw 2:_law_pool 3:_law_k 4:_law_way -/
def w__law_wrapped (P : Calls) : WS :=
    (sSeq (sFor (iR1 (aCons (eBin wMod (eVar 1) (eC (.int 12))) aNil)) (gNm 3)
    (sSeq (sAsg (eBin wMod (eBin wDiv (eVar 1) (eBin wAdd (eC (.int 12)) (eBin wMul (eC (.int 3)) (eVar 3)))) (eC (.int 3))) (gNm 4))
    (sIf (tBl (eBin wEq (eVar 4) (eC (.int 0)))) (sAsg (eTup (aCons (eC (.str "fun")) (aCons (eBin wIdx (eVar 2) (eBin wMod (eBin wDiv (eVar 1) (eBin wAdd (eC (.int 17)) (eVar 3))) (eBi bLen (aCons (eVar 2) aNil)))) (aCons (eVar 0) aNil)))) (gNm 0)) (sIf (tBl (eBin wEq (eVar 4) (eC (.int 1)))) (sAsg (eTup (aCons (eC (.str "call")) (aCons (eVar 0) (aCons (eCall P 12 (aCons (eBin wDiv (eVar 1) (eBin wAdd (eC (.int 19)) (eVar 3))) (aCons (eVar 2) aNil))) aNil)))) (gNm 0)) (sAsg (eTup (aCons (eC (.str "shape")) (aCons (eC (.str "Cons")) (aCons (eTup (aCons (eCall P 12 (aCons (eBin wDiv (eVar 1) (eBin wAdd (eC (.int 23)) (eVar 3))) (aCons (eVar 2) aNil))) (aCons (eVar 0) aNil))) aNil)))) (gNm 0))))))
    (sRet (eVar 0)))
/-- slots: 0:_law_marks 1:_law_names 2:_law_found 3:_law_name_here -/
def w__law_less (P : Calls) : WS :=
    (sSeq (sAsg eDict0 (gNm 2))
    (sSeq (sFor (iDc (eVar 0)) (gNm 3)
    (sIf (tBl (eBin wNotIn (eVar 3) (eVar 1))) (sAsg (eBin wRget (eVar 0) (eVar 3)) (gSd (eVar 2) (eVar 3))) sPass))
    (sRet (eVar 2))))
def w__law_all_t1 (P : Calls) : WS :=
    (sRet (eC (.bl true)))
def w__law_all_t2 (P : Calls) : WS :=
    (sSeq (sFor (iR1 (aCons (eBi bLen (aCons (eVar 0) aNil)) aNil)) (gNm 3)
    (sIf (tNo (tTru (eCall P 23 (aCons (eBin wIdx (eVar 0) (eVar 3)) (aCons (eBin wIdx (eVar 1) (eVar 3)) (aCons (eVar 2) aNil)))))) (sRet (eC (.bl false))) sPass))
    (w__law_all_t1 P))
/-- slots: 0:_law_olds 1:_law_news 2:_law_marks 3:_law_k -/
def w__law_all (P : Calls) : WS :=
    (sSeq (sIf (tBl (eBin wNe (eBi bLen (aCons (eVar 0) aNil)) (eBi bLen (aCons (eVar 1) aNil)))) (sRet (eC (.bl false))) sPass)
    (w__law_all_t2 P))
def w__law_rows_meet_t1 (P : Calls) : WS :=
    (sRet (eCall P 23 (aCons (eBin wIdx (eVar 0) (eC (.int 1))) (aCons (eBin wIdx (eVar 1) (eC (.int 1))) (aCons (eVar 2) aNil)))))
def w__law_rows_meet_t2 (P : Calls) : WS :=
    (sSeq (sFor (iZp (aCons (eBin wIdx (eVar 0) (eC (.int 2))) (aCons (eBin wIdx (eVar 1) (eC (.int 2))) aNil))) (gTp (gsCons (gNm 3) (gsCons (gNm 4) gsNil)))
    (sSeq (sIf (tOr' (tNo (tTru (eIsi (eVar 4) "tuple"))) (tOr' (tBl (eBin wNe (eSl (eVar 3) oNo (oSome (eUn wNeg (eC (.int 1))))) (eSl (eVar 4) oNo (oSome (eUn wNeg (eC (.int 1))))))) (tNo (tTru (eCall P 23 (aCons (eBin wIdx (eVar 3) (eUn wNeg (eC (.int 1)))) (aCons (eBin wIdx (eVar 4) (eUn wNeg (eC (.int 1)))) (aCons (eVar 2) aNil)))))))) (sRet (eC (.bl false))) sPass)
    (sIf (tBl (eBin wNe (eBin wIdx (eVar 3) (eC (.int 0))) (eC (.str "when")))) (sAsg (eCall P 19 (aCons (eVar 2) (aCons (eLst (aCons (eBin wIdx (eVar 3) (eC (.int 1))) aNil)) aNil))) (gNm 2)) sPass)))
    (w__law_rows_meet_t1 P))
/-- slots: 0:_law_old 1:_law_new 2:_law_marks 3:_law_one 4:_law_other -/
def w__law_rows_meet (P : Calls) : WS :=
    (sSeq (sIf (tOr' (tNo (tTru (eIsi (eBin wIdx (eVar 1) (eC (.int 2))) "tuple"))) (tBl (eBin wNe (eBi bLen (aCons (eBin wIdx (eVar 1) (eC (.int 2))) aNil)) (eBi bLen (aCons (eBin wIdx (eVar 0) (eC (.int 2))) aNil))))) (sRet (eC (.bl false))) sPass)
    (w__law_rows_meet_t2 P))
def w__law_choice_meets_t1 (P : Calls) : WS :=
    (sRet (eC (.bl true)))
def w__law_choice_meets_t2 (P : Calls) : WS :=
    (sSeq (sFor (iZp (aCons (eBin wIdx (eVar 0) (eC (.int 2))) (aCons (eBin wIdx (eVar 1) (eC (.int 2))) aNil))) (gTp (gsCons (gNm 3) (gsCons (gNm 4) gsNil)))
    (sSeq (sIf (tOr' (tNo (tTru (eIsi (eVar 4) "tuple"))) (tBl (eBin wNe (eSl (eVar 3) oNo (oSome (eC (.int 2)))) (eSl (eVar 4) oNo (oSome (eC (.int 2))))))) (sRet (eC (.bl false))) sPass)
    (sIf (tNo (tTru (eCall P 23 (aCons (eBin wIdx (eVar 3) (eC (.int 2))) (aCons (eBin wIdx (eVar 4) (eC (.int 2))) (aCons (eCall P 19 (aCons (eVar 2) (aCons (eBin wIdx (eVar 3) (eC (.int 1))) aNil))) aNil)))))) (sRet (eC (.bl false))) sPass)))
    (w__law_choice_meets_t1 P))
/-- slots: 0:_law_old 1:_law_new 2:_law_marks 3:_law_one 4:_law_other -/
def w__law_choice_meets (P : Calls) : WS :=
    (sSeq (sIf (tOr' (tNo (tTru (eIsi (eBin wIdx (eVar 1) (eC (.int 2))) "tuple"))) (tOr' (tBl (eBin wNe (eBi bLen (aCons (eBin wIdx (eVar 1) (eC (.int 2))) aNil)) (eBi bLen (aCons (eBin wIdx (eVar 0) (eC (.int 2))) aNil)))) (tNo (tTru (eCall P 23 (aCons (eBin wIdx (eVar 0) (eC (.int 1))) (aCons (eBin wIdx (eVar 1) (eC (.int 1))) (aCons (eVar 2) aNil)))))))) (sRet (eC (.bl false))) sPass)
    (w__law_choice_meets_t2 P))
def w__law_meets_t1 (P : Calls) : WS :=
    (sSeq (sAsg (eBin wAdd (eComp [none] (iSeq (eBin wIdx (eVar 0) (eC (.int 1)))) (gNm 0) tYes (eBin wIdx (eVar 0) (eC (.int 1)))) (eLst (aCons (eBin wIdx (eVar 0) (eC (.int 2))) aNil))) (gNm 4))
    (sRet (eCall P 20 (aCons (eVar 4) (aCons (eBin wAdd (eComp [none] (iSeq (eBin wIdx (eVar 1) (eC (.int 1)))) (gNm 0) tYes (eBin wIdx (eVar 0) (eC (.int 1)))) (eLst (aCons (eBin wIdx (eVar 1) (eC (.int 2))) aNil))) (aCons (eVar 3) aNil))))))
def w__law_meets_t2 (P : Calls) : WS :=
    (sSeq (sAsg (eCall P 19 (aCons (eVar 2) (aCons (eComp [none] (iSeq (eBin wIdx (eVar 0) (eC (.int 1)))) (gNm 0) tYes (eBin wIdx (eVar 0) (eC (.int 0)))) aNil))) (gNm 3))
    (sSeq (sIf (tOr' (tNo (tTru (eIsi (eBin wIdx (eVar 1) (eC (.int 1))) "tuple"))) (tBl (eBin wNe (eComp [none] (iSeq (eBin wIdx (eVar 1) (eC (.int 1)))) (gNm 0) tYes (eBin wIdx (eVar 0) (eC (.int 0)))) (eComp [none] (iSeq (eBin wIdx (eVar 0) (eC (.int 1)))) (gNm 0) tYes (eBin wIdx (eVar 0) (eC (.int 0))))))) (sRet (eC (.bl false))) sPass)
    (w__law_meets_t1 P)))
def w__law_meets_t3 (P : Calls) : WS :=
    (sSeq (sIf (tBl (eBin wNe (eBin wIdx (eVar 0) (eC (.int 0))) (eC (.str "let")))) (sRet (eBin wEq (eVar 1) (eVar 0))) sPass)
    (w__law_meets_t2 P))
def w__law_meets_t4 (P : Calls) : WS :=
    (sSeq (sIf (tBl (eBin wEq (eBin wIdx (eVar 0) (eC (.int 0))) (eC (.str "rows")))) (sRet (eCall P 21 (aCons (eVar 0) (aCons (eVar 1) (aCons (eVar 2) aNil))))) sPass)
    (w__law_meets_t3 P))
def w__law_meets_t5 (P : Calls) : WS :=
    (sSeq (sIf (tBl (eBin wEq (eBin wIdx (eVar 0) (eC (.int 0))) (eC (.str "choose")))) (sRet (eCall P 22 (aCons (eVar 0) (aCons (eVar 1) (aCons (eVar 2) aNil))))) sPass)
    (w__law_meets_t4 P))
def w__law_meets_t6 (P : Calls) : WS :=
    (sSeq (sIf (tBl (eBin wEq (eBin wIdx (eVar 0) (eC (.int 0))) (eC (.str "shape")))) (sRet (eAnd (eBin wEq (eBin wIdx (eVar 1) (eC (.int 1))) (eBin wIdx (eVar 0) (eC (.int 1)))) (eAnd (eIsi (eBin wIdx (eVar 1) (eC (.int 2))) "tuple") (eCall P 20 (aCons (eBin wIdx (eVar 0) (eC (.int 2))) (aCons (eBin wIdx (eVar 1) (eC (.int 2))) (aCons (eVar 2) aNil))))))) sPass)
    (w__law_meets_t5 P))
def w__law_meets_t7 (P : Calls) : WS :=
    (sSeq (sIf (tOr' (tBl (eBin wEq (eBin wIdx (eVar 0) (eC (.int 0))) (eC (.str "call")))) (tBl (eBin wEq (eBin wIdx (eVar 0) (eC (.int 0))) (eC (.str "first"))))) (sRet (eCall P 20 (aCons (eSl (eVar 0) (oSome (eC (.int 1))) oNo) (aCons (eSl (eVar 1) (oSome (eC (.int 1))) oNo) (aCons (eVar 2) aNil))))) sPass)
    (w__law_meets_t6 P))
def w__law_meets_t8 (P : Calls) : WS :=
    (sSeq (sIf (tBl (eBin wEq (eBin wIdx (eVar 0) (eC (.int 0))) (eC (.str "fun")))) (sRet (eAnd (eBin wEq (eBin wIdx (eVar 1) (eC (.int 1))) (eBin wIdx (eVar 0) (eC (.int 1)))) (eCall P 23 (aCons (eBin wIdx (eVar 0) (eC (.int 2))) (aCons (eBin wIdx (eVar 1) (eC (.int 2))) (aCons (eCall P 19 (aCons (eVar 2) (aCons (eLst (aCons (eBin wIdx (eVar 0) (eC (.int 1))) aNil)) aNil))) aNil)))))) sPass)
    (w__law_meets_t7 P))
def w__law_meets_t9 (P : Calls) : WS :=
    (sSeq (sIf (tBl (eBin wEq (eBin wIdx (eVar 0) (eC (.int 0))) (eC (.str "does")))) (sRet (eAnd (eBin wEq (eBin wIdx (eVar 1) (eC (.int 1))) (eBin wIdx (eVar 0) (eC (.int 1)))) (eCall P 20 (aCons (eSl (eVar 0) (oSome (eC (.int 2))) oNo) (aCons (eSl (eVar 1) (oSome (eC (.int 2))) oNo) (aCons (eVar 2) aNil)))))) sPass)
    (w__law_meets_t8 P))
def w__law_meets_t10 (P : Calls) : WS :=
    (sSeq (sIf (tOr' (tNo (tTru (eIsi (eVar 1) "tuple"))) (tOr' (tBl (eBin wNe (eBi bLen (aCons (eVar 1) aNil)) (eBi bLen (aCons (eVar 0) aNil)))) (tBl (eBin wNe (eBin wIdx (eVar 1) (eC (.int 0))) (eBin wIdx (eVar 0) (eC (.int 0))))))) (sRet (eC (.bl false))) sPass)
    (w__law_meets_t9 P))
/-- slots: 0:_law_old 1:_law_new 2:_law_marks 3:_law_inner 4:_law_olds -/
def w__law_meets (P : Calls) : WS :=
    (sSeq (sIf (tAn (tBl (eBin wEq (eBin wIdx (eVar 0) (eC (.int 0))) (eC (.str "name")))) (tBl (eBin wRin (eBin wIdx (eVar 0) (eC (.int 1))) (eVar 2)))) (sRet (eBin wEq (eVar 1) (eBin wRget (eVar 2) (eBin wIdx (eVar 0) (eC (.int 1)))))) sPass)
    (w__law_meets_t10 P))
def w_law_t1 (P : Calls) : WS :=
    (sSeq (sAsg (eMt tyL' mPopAt (eVar 1) (aCons (eC (.int 0)) aNil)) (gNm 5))
    (sSeq (sAsg (eCall P 18 (aCons (eCall P 17 (aCons (eVar 1) (aCons (eC (.int 4)) (aCons (eVar 2) aNil)))) (aCons (eVar 5) (aCons (eVar 2) aNil)))) (gNm 6))
    (sSeq (sAsg (eBi bDictR (aCons (eVar 3) aNil)) (gNm 7))
    (sSeq (sAsg (eCall P 5 (aCons (eVar 6) (aCons (eVar 7) aNil))) (gNm 8))
    (sRet (eAnd (eCall P 23 (aCons (eVar 6) (aCons (eVar 8) (aCons (eVar 3) aNil)))) (eAnd (eBin wReq (eVar 7) (eVar 3)) (eBin wEq (eCall P 5 (aCons (eVar 6) (aCons (eVar 7) aNil))) (eVar 8)))))))))
/-- slots: 0:_law_script 1:_law_draws_here 2:_law_pool 3:_law_marks 4:_law_k 5:_law_draw 6:_law_term_here 7:_law_handed 8:_law_found -/
def w_law (P : Calls) : WS :=
    (sSeq (sAsg (eCall P 8 (aCons (eVar 0) (aCons (eC (.int 47)) aNil))) (gNm 1))
    (sSeq (sAsg (eLst (aCons (eCall P 9 (aCons (eMt tyL' mPop (eVar 1) aNil) aNil)) (aCons (eCall P 9 (aCons (eMt tyL' mPop (eVar 1) aNil) aNil)) (aCons (eCall P 9 (aCons (eMt tyL' mPop (eVar 1) aNil) aNil)) (aCons (eCall P 9 (aCons (eMt tyL' mPop (eVar 1) aNil) aNil)) aNil))))) (gNm 2))
    (sSeq (sAsg eDict0 (gNm 3))
    (sSeq (sFor (iR1 (aCons (eBin wMod (eMt tyL' mPop (eVar 1) aNil) (eC (.int 5))) aNil)) (gNm 4)
    (sAsg (eCall P 11 (aCons (eBin wIdx (eVar 1) (eVar 4)) (aCons (eVar 2) aNil))) (gSd (eVar 3) (eBin wIdx (eVar 2) (eBin wMod (eVar 4) (eC (.int 4)))))))
    (w_law_t1 P)))))
abbrev i_with_parts : Nat := 0
abbrev i_with_lasts : Nat := 1
abbrev i_scopes : Nat := 2
abbrev i_let_scopes : Nat := 3
abbrev i_rows_scopes : Nat := 4
abbrev i_put : Nat := 5
abbrev i_changed : Nat := 6
abbrev i_without : Nat := 7
abbrev i__law_draws : Nat := 8
abbrev i__law_name : Nat := 9
abbrev i__law_unlike : Nat := 10
abbrev i__law_mark : Nat := 11
abbrev i__law_leaf : Nat := 12
abbrev i__law_chosen : Nat := 13
abbrev i__law_rows : Nat := 14
abbrev i__law_joined : Nat := 15
abbrev i__law_many : Nat := 16
abbrev i__law_term : Nat := 17
abbrev i__law_wrapped : Nat := 18
abbrev i__law_less : Nat := 19
abbrev i__law_all : Nat := 20
abbrev i__law_rows_meet : Nat := 21
abbrev i__law_choice_meets : Nat := 22
abbrev i__law_meets : Nat := 23
abbrev i_law : Nat := 24
def pr : List Df := [⟨3, 2, w_with_parts⟩, ⟨2, 2, w_with_lasts⟩, ⟨2, 1, w_scopes⟩, ⟨3, 2, w_let_scopes⟩, ⟨5, 2, w_rows_scopes⟩, ⟨3, 2, w_put⟩, ⟨8, 2, w_changed⟩, ⟨4, 2, w_without⟩, ⟨5, 2, w__law_draws⟩, ⟨5, 1, w__law_name⟩, ⟨7, 3, w__law_unlike⟩, ⟨3, 2, w__law_mark⟩, ⟨2, 2, w__law_leaf⟩, ⟨3, 3, w__law_chosen⟩, ⟨6, 3, w__law_rows⟩, ⟨5, 4, w__law_joined⟩, ⟨2, 2, w__law_many⟩, ⟨7, 3, w__law_term⟩, ⟨5, 3, w__law_wrapped⟩, ⟨4, 2, w__law_less⟩, ⟨4, 3, w__law_all⟩, ⟨5, 3, w__law_rows_meet⟩, ⟨5, 3, w__law_choice_meets⟩, ⟨5, 3, w__law_meets⟩, ⟨9, 1, w_law⟩]
theorem u_with_parts {n : Nat} {vs : List T} {C : Hw} {Q : WK} {χ : WX} (hl : vs.length = 2) (h : w_with_parts (wpc pr n) { nx := fun _ C' => Q .non C', rt := Q, xc := χ } (vs.map some ++ List.replicate 1 none) C) : wpc pr (n + 1) 0 vs C Q χ := ⟨_, rfl, hl, h⟩
theorem u_with_lasts {n : Nat} {vs : List T} {C : Hw} {Q : WK} {χ : WX} (hl : vs.length = 2) (h : w_with_lasts (wpc pr n) { nx := fun _ C' => Q .non C', rt := Q, xc := χ } (vs.map some ++ List.replicate 0 none) C) : wpc pr (n + 1) 1 vs C Q χ := ⟨_, rfl, hl, h⟩
theorem u_scopes {n : Nat} {vs : List T} {C : Hw} {Q : WK} {χ : WX} (hl : vs.length = 1) (h : w_scopes (wpc pr n) { nx := fun _ C' => Q .non C', rt := Q, xc := χ } (vs.map some ++ List.replicate 1 none) C) : wpc pr (n + 1) 2 vs C Q χ := ⟨_, rfl, hl, h⟩
theorem u_let_scopes {n : Nat} {vs : List T} {C : Hw} {Q : WK} {χ : WX} (hl : vs.length = 2) (h : w_let_scopes (wpc pr n) { nx := fun _ C' => Q .non C', rt := Q, xc := χ } (vs.map some ++ List.replicate 1 none) C) : wpc pr (n + 1) 3 vs C Q χ := ⟨_, rfl, hl, h⟩
theorem u_rows_scopes {n : Nat} {vs : List T} {C : Hw} {Q : WK} {χ : WX} (hl : vs.length = 2) (h : w_rows_scopes (wpc pr n) { nx := fun _ C' => Q .non C', rt := Q, xc := χ } (vs.map some ++ List.replicate 3 none) C) : wpc pr (n + 1) 4 vs C Q χ := ⟨_, rfl, hl, h⟩
theorem u_put {n : Nat} {vs : List T} {C : Hw} {Q : WK} {χ : WX} (hl : vs.length = 2) (h : w_put (wpc pr n) { nx := fun _ C' => Q .non C', rt := Q, xc := χ } (vs.map some ++ List.replicate 1 none) C) : wpc pr (n + 1) 5 vs C Q χ := ⟨_, rfl, hl, h⟩
theorem u_changed {n : Nat} {vs : List T} {C : Hw} {Q : WK} {χ : WX} (hl : vs.length = 2) (h : w_changed (wpc pr n) { nx := fun _ C' => Q .non C', rt := Q, xc := χ } (vs.map some ++ List.replicate 6 none) C) : wpc pr (n + 1) 6 vs C Q χ := ⟨_, rfl, hl, h⟩
theorem u_without {n : Nat} {vs : List T} {C : Hw} {Q : WK} {χ : WX} (hl : vs.length = 2) (h : w_without (wpc pr n) { nx := fun _ C' => Q .non C', rt := Q, xc := χ } (vs.map some ++ List.replicate 2 none) C) : wpc pr (n + 1) 7 vs C Q χ := ⟨_, rfl, hl, h⟩
theorem u__law_draws {n : Nat} {vs : List T} {C : Hw} {Q : WK} {χ : WX} (hl : vs.length = 2) (h : w__law_draws (wpc pr n) { nx := fun _ C' => Q .non C', rt := Q, xc := χ } (vs.map some ++ List.replicate 3 none) C) : wpc pr (n + 1) 8 vs C Q χ := ⟨_, rfl, hl, h⟩
theorem u__law_name {n : Nat} {vs : List T} {C : Hw} {Q : WK} {χ : WX} (hl : vs.length = 1) (h : w__law_name (wpc pr n) { nx := fun _ C' => Q .non C', rt := Q, xc := χ } (vs.map some ++ List.replicate 4 none) C) : wpc pr (n + 1) 9 vs C Q χ := ⟨_, rfl, hl, h⟩
theorem u__law_unlike {n : Nat} {vs : List T} {C : Hw} {Q : WK} {χ : WX} (hl : vs.length = 3) (h : w__law_unlike (wpc pr n) { nx := fun _ C' => Q .non C', rt := Q, xc := χ } (vs.map some ++ List.replicate 4 none) C) : wpc pr (n + 1) 10 vs C Q χ := ⟨_, rfl, hl, h⟩
theorem u__law_mark {n : Nat} {vs : List T} {C : Hw} {Q : WK} {χ : WX} (hl : vs.length = 2) (h : w__law_mark (wpc pr n) { nx := fun _ C' => Q .non C', rt := Q, xc := χ } (vs.map some ++ List.replicate 1 none) C) : wpc pr (n + 1) 11 vs C Q χ := ⟨_, rfl, hl, h⟩
theorem u__law_leaf {n : Nat} {vs : List T} {C : Hw} {Q : WK} {χ : WX} (hl : vs.length = 2) (h : w__law_leaf (wpc pr n) { nx := fun _ C' => Q .non C', rt := Q, xc := χ } (vs.map some ++ List.replicate 0 none) C) : wpc pr (n + 1) 12 vs C Q χ := ⟨_, rfl, hl, h⟩
theorem u__law_chosen {n : Nat} {vs : List T} {C : Hw} {Q : WK} {χ : WX} (hl : vs.length = 3) (h : w__law_chosen (wpc pr n) { nx := fun _ C' => Q .non C', rt := Q, xc := χ } (vs.map some ++ List.replicate 0 none) C) : wpc pr (n + 1) 13 vs C Q χ := ⟨_, rfl, hl, h⟩
theorem u__law_rows {n : Nat} {vs : List T} {C : Hw} {Q : WK} {χ : WX} (hl : vs.length = 3) (h : w__law_rows (wpc pr n) { nx := fun _ C' => Q .non C', rt := Q, xc := χ } (vs.map some ++ List.replicate 3 none) C) : wpc pr (n + 1) 14 vs C Q χ := ⟨_, rfl, hl, h⟩
theorem u__law_joined {n : Nat} {vs : List T} {C : Hw} {Q : WK} {χ : WX} (hl : vs.length = 4) (h : w__law_joined (wpc pr n) { nx := fun _ C' => Q .non C', rt := Q, xc := χ } (vs.map some ++ List.replicate 1 none) C) : wpc pr (n + 1) 15 vs C Q χ := ⟨_, rfl, hl, h⟩
theorem u__law_many {n : Nat} {vs : List T} {C : Hw} {Q : WK} {χ : WX} (hl : vs.length = 2) (h : w__law_many (wpc pr n) { nx := fun _ C' => Q .non C', rt := Q, xc := χ } (vs.map some ++ List.replicate 0 none) C) : wpc pr (n + 1) 16 vs C Q χ := ⟨_, rfl, hl, h⟩
theorem u__law_term {n : Nat} {vs : List T} {C : Hw} {Q : WK} {χ : WX} (hl : vs.length = 3) (h : w__law_term (wpc pr n) { nx := fun _ C' => Q .non C', rt := Q, xc := χ } (vs.map some ++ List.replicate 4 none) C) : wpc pr (n + 1) 17 vs C Q χ := ⟨_, rfl, hl, h⟩
theorem u__law_wrapped {n : Nat} {vs : List T} {C : Hw} {Q : WK} {χ : WX} (hl : vs.length = 3) (h : w__law_wrapped (wpc pr n) { nx := fun _ C' => Q .non C', rt := Q, xc := χ } (vs.map some ++ List.replicate 2 none) C) : wpc pr (n + 1) 18 vs C Q χ := ⟨_, rfl, hl, h⟩
theorem u__law_less {n : Nat} {vs : List T} {C : Hw} {Q : WK} {χ : WX} (hl : vs.length = 2) (h : w__law_less (wpc pr n) { nx := fun _ C' => Q .non C', rt := Q, xc := χ } (vs.map some ++ List.replicate 2 none) C) : wpc pr (n + 1) 19 vs C Q χ := ⟨_, rfl, hl, h⟩
theorem u__law_all {n : Nat} {vs : List T} {C : Hw} {Q : WK} {χ : WX} (hl : vs.length = 3) (h : w__law_all (wpc pr n) { nx := fun _ C' => Q .non C', rt := Q, xc := χ } (vs.map some ++ List.replicate 1 none) C) : wpc pr (n + 1) 20 vs C Q χ := ⟨_, rfl, hl, h⟩
theorem u__law_rows_meet {n : Nat} {vs : List T} {C : Hw} {Q : WK} {χ : WX} (hl : vs.length = 3) (h : w__law_rows_meet (wpc pr n) { nx := fun _ C' => Q .non C', rt := Q, xc := χ } (vs.map some ++ List.replicate 2 none) C) : wpc pr (n + 1) 21 vs C Q χ := ⟨_, rfl, hl, h⟩
theorem u__law_choice_meets {n : Nat} {vs : List T} {C : Hw} {Q : WK} {χ : WX} (hl : vs.length = 3) (h : w__law_choice_meets (wpc pr n) { nx := fun _ C' => Q .non C', rt := Q, xc := χ } (vs.map some ++ List.replicate 2 none) C) : wpc pr (n + 1) 22 vs C Q χ := ⟨_, rfl, hl, h⟩
theorem u__law_meets {n : Nat} {vs : List T} {C : Hw} {Q : WK} {χ : WX} (hl : vs.length = 3) (h : w__law_meets (wpc pr n) { nx := fun _ C' => Q .non C', rt := Q, xc := χ } (vs.map some ++ List.replicate 2 none) C) : wpc pr (n + 1) 23 vs C Q χ := ⟨_, rfl, hl, h⟩
theorem u_law {n : Nat} {vs : List T} {C : Hw} {Q : WK} {χ : WX} (hl : vs.length = 1) (h : w_law (wpc pr n) { nx := fun _ C' => Q .non C', rt := Q, xc := χ } (vs.map some ++ List.replicate 8 none) C) : wpc pr (n + 1) 24 vs C Q χ := ⟨_, rfl, hl, h⟩
end K30
set_option Elab.async false
set_option linter.all false
set_option maxRecDepth 100000
set_option maxHeartbeats 4000000
namespace K30
open PySem PySem.Spec PyProof.Rows L2 WL
def top (i : Nat) : Stmt := PySem.Challenge.pw_idlegraph_k30_put.main.body.getD i (.Pass ⟨0, 0, 0, 0⟩)
structure Txt (K : PySem.W.Frag) (mg : Str → Option Value) : Prop where
  n_any : mg "any" = none
  n_dict : mg "dict" = none
  n_isinstance : mg "isinstance" = none
  n_len : mg "len" = none
  n_max : mg "max" = none
  n_range : mg "range" = none
  n_tuple : mg "tuple" = none
  n_zip : mg "zip" = none
structure Cs (Pg : Program) (w : World) (K : PySem.W.Frag) (mg : Str → Option Value) (base : Heap) (n : Nat) : Prop where
  c_with_parts : Ca Pg w K mg base n "with_parts" ["term", "given"] (spW K pr n 0)
  c_with_lasts : Ca Pg w K mg base n "with_lasts" ["tuples", "lasts"] (spW K pr n 1)
  c_scopes : Ca Pg w K mg base n "scopes" ["term"] (spW K pr n 2)
  c_let_scopes : Ca Pg w K mg base n "let_scopes" ["pairs", "body"] (spW K pr n 3)
  c_rows_scopes : Ca Pg w K mg base n "rows_scopes" ["body", "steps"] (spW K pr n 4)
  c_put : Ca Pg w K mg base n "put" ["term", "marks"] (spW K pr n 5)
  c_changed : Ca Pg w K mg base n "changed" ["term", "marks"] (spW K pr n 6)
  c_without : Ca Pg w K mg base n "without" ["marks", "names"] (spW K pr n 7)
  c__law_draws : Ca Pg w K mg base n "_law_draws" ["_law_script", "_law_many_here"] (spW K pr n 8)
  c__law_name : Ca Pg w K mg base n "_law_name" ["_law_draw"] (spW K pr n 9)
  c__law_unlike : Ca Pg w K mg base n "_law_unlike" ["_law_draw", "_law_many_here", "_law_pool"] (spW K pr n 10)
  c__law_mark : Ca Pg w K mg base n "_law_mark" ["_law_draw", "_law_pool"] (spW K pr n 11)
  c__law_leaf : Ca Pg w K mg base n "_law_leaf" ["_law_draw", "_law_pool"] (spW K pr n 12)
  c__law_chosen : Ca Pg w K mg base n "_law_chosen" ["_law_draw", "_law_some", "_law_pool"] (spW K pr n 13)
  c__law_rows : Ca Pg w K mg base n "_law_rows" ["_law_draw", "_law_some", "_law_pool"] (spW K pr n 14)
  c__law_joined : Ca Pg w K mg base n "_law_joined" ["_law_sort", "_law_draw", "_law_some", "_law_pool"] (spW K pr n 15)
  c__law_many : Ca Pg w K mg base n "_law_many" ["_law_sort", "_law_draw"] (spW K pr n 16)
  c__law_term : Ca Pg w K mg base n "_law_term" ["_law_draws_here", "_law_deep", "_law_pool"] (spW K pr n 17)
  c__law_wrapped : Ca Pg w K mg base n "_law_wrapped" ["_law_term_here", "_law_draw", "_law_pool"] (spW K pr n 18)
  c__law_less : Ca Pg w K mg base n "_law_less" ["_law_marks", "_law_names"] (spW K pr n 19)
  c__law_all : Ca Pg w K mg base n "_law_all" ["_law_olds", "_law_news", "_law_marks"] (spW K pr n 20)
  c__law_rows_meet : Ca Pg w K mg base n "_law_rows_meet" ["_law_old", "_law_new", "_law_marks"] (spW K pr n 21)
  c__law_choice_meets : Ca Pg w K mg base n "_law_choice_meets" ["_law_old", "_law_new", "_law_marks"] (spW K pr n 22)
  c__law_meets : Ca Pg w K mg base n "_law_meets" ["_law_old", "_law_new", "_law_marks"] (spW K pr n 23)
  c_law : Ca Pg w K mg base n "law" ["_law_script"] (spW K pr n 24)
section
variable {Pg : Program} {w : World} {K : PySem.W.Frag} {mg : Str → Option Value} {base : Heap} {f : Addr} {fd : FuncData} {n : Nat}
abbrev st_with_parts : Stmt := top 1
theorem sc_with_parts : FnScope ["term", "given", "sort"] ["term", "given"] (defScope st_with_parts) := ⟨rfl, rfl, rfl, by decide +kernel, rfl, by decide +kernel, by decide +kernel⟩
theorem ok_with_parts (T : Txt K mg) (S : Cs Pg w K mg base n) (F : Fun K "with_parts" "with_parts" st_with_parts f fd) : FnOk Pg w K mg base CX0 (n + 1) f fd ["term", "given"] (spW K pr (n + 1) 0) := fn_ok F sc_with_parts rfl rfl rfl fun cdv A outer s H E hr => by
    have nd := sc_with_parts.nd
    have hu := hu150 hr
    show SdB _ (defBody st_with_parts) (w_with_parts (wpc pr n))
    unfold w_with_parts
    exact (db_cons (ds_set (i := 2) nd (d_ix (d_var 0) d_int (fun _ _ => rfl)))
      (db_cons (ds_if (dt_cmp (o_eq hu) (d_var 2) d_str (nomark _)) (db_one (ds_ret (d_tup (da_cons d_str (da_cons (d_ix (d_var 0) d_int (fun _ _ => rfl)) (da_cons (d_ix (d_var 1) d_int (fun _ _ => rfl)) (da_cons (d_ix (d_var 1) d_int (fun _ _ => rfl)) da_nil))))))) db_nil)
      (db_cons (ds_if (dt_w (dw_or (dt_cmp (o_eq hu) (d_var 2) d_str (nomark _)) (dw_or1 (dt_cmp (o_eq hu) (d_var 2) d_str (nomark _))))) (db_one (ds_ret (d_tup (da_cons (d_var 2) (da_cons (d_ix (d_var 1) d_int (fun _ _ => rfl)) (da_cons (d_ix (d_var 1) d_int (fun _ _ => rfl)) da_nil)))))) db_nil)
      (db_cons (ds_if (dt_cmp (o_eq hu) (d_var 2) d_str (nomark _)) (db_one (ds_ret (d_tup (da_cons d_str (da_cons (d_ix (d_var 0) d_int (fun _ _ => rfl)) (da_cons (d_ix (d_var 1) d_int (fun _ _ => rfl)) da_nil)))))) db_nil)
      (db_cons (ds_if (dt_cmp (o_eq hu) (d_var 2) d_str (nomark _)) (db_one (ds_ret (d_tup (da_cons d_str (da_cons (d_call S.c_with_lasts hr (by rfl) (da_cons (d_ix (d_var 0) d_int (fun _ _ => rfl)) (da_cons (d_sl (d_var 1) do_none (do_some (d_neg d_int))) da_nil))) (da_cons (d_ix (d_var 1) (d_neg d_int) (fun _ _ => rfl)) da_nil)))))) db_nil)
      (db_cons (ds_if (dt_cmp (o_eq hu) (d_var 2) d_str (nomark _)) (db_one (ds_ret (d_tup (da_cons d_str (da_cons (d_ix (d_var 0) d_int (fun _ _ => rfl)) (da_cons (d_ty b_tuple (by rfl) T.n_tuple bt_tuple (da_cons (d_var 1) da_nil)) da_nil)))))) db_nil)
      (db_cons (ds_if (dt_cmp (o_eq hu) (d_var 2) d_str (nomark _)) (db_one (ds_ret (d_tup (da_cons d_str (da_cons (d_ix (d_var 1) d_int (fun _ _ => rfl)) (da_cons (d_call S.c_with_lasts hr (by rfl) (da_cons (d_ix (d_var 0) d_int (fun _ _ => rfl)) (da_cons (d_sl (d_var 1) (do_some d_int) do_none) da_nil))) da_nil)))))) db_nil)
      (db_cons (ds_if (dt_cmp (o_eq hu) (d_var 2) d_str (nomark _)) (db_one (ds_ret (d_tup (da_cons d_str (da_cons (d_ix (d_var 1) d_int (fun _ _ => rfl)) (da_cons (d_call S.c_with_lasts hr (by rfl) (da_cons (d_ix (d_var 0) d_int (fun _ _ => rfl)) (da_cons (d_sl (d_var 1) (do_some d_int) do_none) da_nil))) da_nil)))))) db_nil)
      (db_one (ds_ret (d_var 0)))))))))))
abbrev st_with_lasts : Stmt := top 2
theorem sc_with_lasts : FnScope ["tuples", "lasts"] ["tuples", "lasts"] (defScope st_with_lasts) := ⟨rfl, rfl, rfl, by decide +kernel, rfl, by decide +kernel, by decide +kernel⟩
theorem ok_with_lasts (T : Txt K mg) (S : Cs Pg w K mg base n) (F : Fun K "with_lasts" "with_lasts" st_with_lasts f fd) : FnOk Pg w K mg base CX0 (n + 1) f fd ["tuples", "lasts"] (spW K pr (n + 1) 1) := fn_ok F sc_with_lasts rfl rfl rfl fun cdv A outer s H E hr => by
    have nd := sc_with_lasts.nd
    have hu := hu150 hr
    show SdB _ (defBody st_with_lasts) (w_with_lasts (wpc pr n))
    unfold w_with_lasts
    exact (db_one (ds_ret (d_ty b_tuple (by rfl) T.n_tuple bt_tuple (da_cons (d_comp (cN := ["one", "last"]) (cap := [none, none]) (cl := []) (js := ([0] ++ ([1] ++ []))) (g := (gTup _ 2 (gCons (gName 0) (gCons (gName 1) gNil)))) ⟨rfl, (fun _ => compOk0 rfl (by decide +kernel) (by decide +kernel) rfl (by decide)), (di_zip (by rfl) T.n_zip (da_cons (d_var 0) (da_cons (d_var 1) da_nil))), (fun _ _ _ => pg_tup (n := 2) rfl (pgs_cons (pg_name (i := 0) (show (["one", "last"] : List Str).Nodup by decide +kernel) rfl (Or.inl rfl)) (pgs_cons (pg_name (i := 1) (show (["one", "last"] : List Str).Nodup by decide +kernel) rfl (Or.inl rfl)) pgs_nil))), (gm_tup (gm_cons gm_name (gm_cons gm_name gm_nil))), (gk_tup (gk_cons gk_name gm_name (gk_cons gk_name gm_name gk_nil gm_nil) (gm_cons gm_name gm_nil))), (sg_tup (sg_cons sg_name (sg_cons sg_name sg_nil)) (gl_cons1 (gl_cons1 gl_nil))), by decide +kernel, fun _ _ _ => dif_nil, fun _ _ _ => (d_op o_add (d_sl (d_var 0) do_none (do_some (d_neg d_int))) (d_tup (da_cons (d_var 1) da_nil))), fun _ => rfl⟩) da_nil))))
abbrev st_scopes : Stmt := top 4
theorem sc_scopes : FnScope ["term", "sort"] ["term"] (defScope st_scopes) := ⟨rfl, rfl, rfl, by decide +kernel, rfl, by decide +kernel, by decide +kernel⟩
theorem ok_scopes (T : Txt K mg) (S : Cs Pg w K mg base n) (F : Fun K "scopes" "scopes" st_scopes f fd) : FnOk Pg w K mg base CX0 (n + 1) f fd ["term"] (spW K pr (n + 1) 2) := fn_ok F sc_scopes rfl rfl rfl fun cdv A outer s H E hr => by
    have nd := sc_scopes.nd
    have hu := hu150 hr
    show SdB _ (defBody st_scopes) (w_scopes (wpc pr n))
    unfold w_scopes
    exact (db_cons (ds_set (i := 1) nd (d_ix (d_var 0) d_int (fun _ _ => rfl)))
      (db_cons (ds_if (dt_cmp (o_eq hu) (d_var 1) d_str (nomark _)) (db_one (ds_ret (d_lst (da_cons (d_tup (da_cons (d_tup da_nil) (da_cons (d_ix (d_var 0) d_int (fun _ _ => rfl)) da_nil))) (da_cons (d_tup (da_cons (d_tup da_nil) (da_cons (d_ix (d_var 0) d_int (fun _ _ => rfl)) da_nil))) da_nil))))) db_nil)
      (db_cons (ds_if (dt_w (dw_or (dt_cmp (o_eq hu) (d_var 1) d_str (nomark _)) (dw_or1 (dt_cmp (o_eq hu) (d_var 1) d_str (nomark _))))) (db_one (ds_ret (d_lst (da_cons (d_tup (da_cons (d_tup da_nil) (da_cons (d_ix (d_var 0) d_int (fun _ _ => rfl)) da_nil))) (da_cons (d_tup (da_cons (d_tup da_nil) (da_cons (d_ix (d_var 0) d_int (fun _ _ => rfl)) da_nil))) da_nil))))) db_nil)
      (db_cons (ds_if (dt_cmp (o_eq hu) (d_var 1) d_str (nomark _)) (db_one (ds_ret (d_lst (da_cons (d_tup (da_cons (d_tup (da_cons (d_ix (d_var 0) d_int (fun _ _ => rfl)) da_nil)) (da_cons (d_ix (d_var 0) d_int (fun _ _ => rfl)) da_nil))) da_nil)))) db_nil)
      (db_cons (ds_if (dt_cmp (o_eq hu) (d_var 1) d_str (nomark _)) (db_one (ds_ret (d_call S.c_let_scopes hr (by rfl) (da_cons (d_ix (d_var 0) d_int (fun _ _ => rfl)) (da_cons (d_ix (d_var 0) d_int (fun _ _ => rfl)) da_nil))))) db_nil)
      (db_cons (ds_if (dt_cmp (o_eq hu) (d_var 1) d_str (nomark _)) (db_one (ds_ret (d_comp (cN := ["part"]) (cap := [none]) (cl := []) (js := [0]) (g := (gName 0)) ⟨rfl, (fun _ => compOk0 rfl (by decide +kernel) (by decide +kernel) rfl (by decide)), (di_seq (d_ix (d_var 0) d_int (fun _ _ => rfl))), (fun _ _ _ => pg_name (i := 0) (show (["part"] : List Str).Nodup by decide +kernel) rfl (Or.inl rfl)), gm_name, gk_name, sg_name, by decide +kernel, fun _ _ _ => dif_nil, fun _ _ _ => (d_tup (da_cons (d_tup da_nil) (da_cons (d_var 0) da_nil))), fun _ => rfl⟩))) db_nil)
      (db_cons (ds_if (dt_cmp (o_eq hu) (d_var 1) d_str (nomark _)) (db_one (ds_ret (d_op o_add (d_lst (da_cons (d_tup (da_cons (d_tup da_nil) (da_cons (d_ix (d_var 0) d_int (fun _ _ => rfl)) da_nil))) da_nil)) (d_comp (cN := ["shape", "names", "body"]) (cap := [none, none, none]) (cl := []) (js := ([0] ++ ([1] ++ ([2] ++ [])))) (g := (gTup _ 3 (gCons (gName 0) (gCons (gName 1) (gCons (gName 2) gNil))))) ⟨rfl, (fun _ => compOk0 rfl (by decide +kernel) (by decide +kernel) rfl (by decide)), (di_seq (d_ix (d_var 0) d_int (fun _ _ => rfl))), (fun _ _ _ => pg_tup (n := 3) rfl (pgs_cons (pg_name (i := 0) (show (["shape", "names", "body"] : List Str).Nodup by decide +kernel) rfl (Or.inl rfl)) (pgs_cons (pg_name (i := 1) (show (["shape", "names", "body"] : List Str).Nodup by decide +kernel) rfl (Or.inl rfl)) (pgs_cons (pg_name (i := 2) (show (["shape", "names", "body"] : List Str).Nodup by decide +kernel) rfl (Or.inl rfl)) pgs_nil)))), (gm_tup (gm_cons gm_name (gm_cons gm_name (gm_cons gm_name gm_nil)))), (gk_tup (gk_cons gk_name gm_name (gk_cons gk_name gm_name (gk_cons gk_name gm_name gk_nil gm_nil) (gm_cons gm_name gm_nil)) (gm_cons gm_name (gm_cons gm_name gm_nil)))), (sg_tup (sg_cons sg_name (sg_cons sg_name (sg_cons sg_name sg_nil))) (gl_cons1 (gl_cons1 (gl_cons1 gl_nil)))), by decide +kernel, fun _ _ _ => dif_nil, fun _ _ _ => (d_tup (da_cons (d_var 1) (da_cons (d_var 2) da_nil))), fun _ => rfl⟩)))) db_nil)
      (db_cons (ds_if (dt_cmp (o_eq hu) (d_var 1) d_str (nomark _)) (db_one (ds_ret (d_call S.c_rows_scopes hr (by rfl) (da_cons (d_ix (d_var 0) d_int (fun _ _ => rfl)) (da_cons (d_ix (d_var 0) d_int (fun _ _ => rfl)) da_nil))))) db_nil)
      (db_one (ds_ret (d_lst da_nil)))))))))))
abbrev st_let_scopes : Stmt := top 5
theorem sc_let_scopes : FnScope ["pairs", "body", "names"] ["pairs", "body"] (defScope st_let_scopes) := ⟨rfl, rfl, rfl, by decide +kernel, rfl, by decide +kernel, by decide +kernel⟩
theorem ok_let_scopes (T : Txt K mg) (S : Cs Pg w K mg base n) (F : Fun K "let_scopes" "let_scopes" st_let_scopes f fd) : FnOk Pg w K mg base CX0 (n + 1) f fd ["pairs", "body"] (spW K pr (n + 1) 3) := fn_ok F sc_let_scopes rfl rfl rfl fun cdv A outer s H E hr => by
    have nd := sc_let_scopes.nd
    have hu := hu150 hr
    show SdB _ (defBody st_let_scopes) (w_let_scopes (wpc pr n))
    unfold w_let_scopes
    exact (db_cons (ds_set (i := 2) nd (d_ty b_tuple (by rfl) T.n_tuple bt_tuple (da_cons (d_comp (cN := ["name", "part"]) (cap := [none, none]) (cl := []) (js := ([0] ++ ([1] ++ []))) (g := (gTup _ 2 (gCons (gName 0) (gCons (gName 1) gNil)))) ⟨rfl, (fun _ => compOk0 rfl (by decide +kernel) (by decide +kernel) rfl (by decide)), (di_seq (d_var 0)), (fun _ _ _ => pg_tup (n := 2) rfl (pgs_cons (pg_name (i := 0) (show (["name", "part"] : List Str).Nodup by decide +kernel) rfl (Or.inl rfl)) (pgs_cons (pg_name (i := 1) (show (["name", "part"] : List Str).Nodup by decide +kernel) rfl (Or.inl rfl)) pgs_nil))), (gm_tup (gm_cons gm_name (gm_cons gm_name gm_nil))), (gk_tup (gk_cons gk_name gm_name (gk_cons gk_name gm_name gk_nil gm_nil) (gm_cons gm_name gm_nil))), (sg_tup (sg_cons sg_name (sg_cons sg_name sg_nil)) (gl_cons1 (gl_cons1 gl_nil))), by decide +kernel, fun _ _ _ => dif_nil, fun _ _ _ => (d_var 0), fun _ => rfl⟩) da_nil)))
      (db_one (ds_ret (d_op o_add (d_comp (cN := ["name", "part", "names"]) (cap := [none, none, some 2]) (cl := (closOf _ _ [])) (js := ([0] ++ ([1] ++ []))) (g := (gTup _ 2 (gCons (gName 0) (gCons (gName 1) gNil)))) ⟨rfl, (fun ok => compOkN ok rfl (by decide +kernel) (by decide +kernel) rfl rfl rfl), (di_seq (d_var 0)), (fun _ _ _ => pg_tup (n := 2) rfl (pgs_cons (pg_name (i := 0) (show (["name", "part", "names"] : List Str).Nodup by decide +kernel) rfl (Or.inl rfl)) (pgs_cons (pg_name (i := 1) (show (["name", "part", "names"] : List Str).Nodup by decide +kernel) rfl (Or.inl rfl)) pgs_nil))), (gm_tup (gm_cons gm_name (gm_cons gm_name gm_nil))), (gk_tup (gk_cons gk_name gm_name (gk_cons gk_name gm_name gk_nil gm_nil) (gm_cons gm_name gm_nil))), (sg_tup (sg_cons sg_name (sg_cons sg_name sg_nil)) (gl_cons1 (gl_cons1 gl_nil))), by decide +kernel, fun _ _ _ => dif_nil, fun _ _ _ => (d_tup (da_cons (d_var 2) (da_cons (d_var 1) da_nil))), fun _ => rfl⟩) (d_lst (da_cons (d_tup (da_cons (d_var 2) (da_cons (d_var 1) da_nil))) da_nil))))))
abbrev st_rows_scopes : Stmt := top 6
theorem sc_rows_scopes : FnScope ["body", "steps", "bound", "behind", "step"] ["body", "steps"] (defScope st_rows_scopes) := ⟨rfl, rfl, rfl, by decide +kernel, rfl, by decide +kernel, by decide +kernel⟩
theorem ok_rows_scopes (T : Txt K mg) (S : Cs Pg w K mg base n) (F : Fun K "rows_scopes" "rows_scopes" st_rows_scopes f fd) : FnOk Pg w K mg base CX0 (n + 1) f fd ["body", "steps"] (spW K pr (n + 1) 4) := fn_ok F sc_rows_scopes rfl rfl rfl fun cdv A outer s H E hr => by
    have nd := sc_rows_scopes.nd
    have hu := hu150 hr
    show SdB _ (defBody st_rows_scopes) (w_rows_scopes (wpc pr n))
    unfold w_rows_scopes
    exact (db_cons (ds_set (i := 2) nd (d_tup da_nil))
      (db_cons (ds_set (i := 3) nd (d_lst da_nil))
      (db_cons (ds_for PassesOwn.never rfl (di_seq (d_var 1)) (dg_name (i := 4) nd)
      (db_cons (ds_expr (d_mt PySem.F.plainAttrs_list PySem.F.slot_list_append PySem.F.type_list_append ty_list m_append (d_var 3) (da_cons (d_tup (da_cons (d_var 2) (da_cons (d_ix (d_var 4) (d_neg d_int) (fun _ _ => rfl)) da_nil))) da_nil)))
      (db_one (ds_set (i := 2) nd (d_op o_add (d_var 2) (d_sl (d_var 4) (do_some d_int) (do_some (d_neg d_int))))))))
      (db_one (ds_ret (d_op o_add (d_lst (da_cons (d_tup (da_cons (d_var 2) (da_cons (d_var 0) da_nil))) da_nil)) (d_var 3)))))))
abbrev st_put : Stmt := top 8
theorem sc_put : FnScope ["term", "marks", "given"] ["term", "marks"] (defScope st_put) := ⟨rfl, rfl, rfl, by decide +kernel, rfl, by decide +kernel, by decide +kernel⟩
theorem ok_put (T : Txt K mg) (S : Cs Pg w K mg base n) (F : Fun K "put" "put" st_put f fd) : FnOk Pg w K mg base CX0 (n + 1) f fd ["term", "marks"] (spW K pr (n + 1) 5) := fn_ok F sc_put rfl rfl rfl fun cdv A outer s H E hr => by
    have nd := sc_put.nd
    have hu := hu150 hr
    show SdB _ (defBody st_put) (w_put (wpc pr n))
    unfold w_put
    exact (db_cons (ds_set (i := 2) nd (d_call S.c_changed hr (by rfl) (da_cons (d_var 0) (da_cons (d_var 1) da_nil))))
      (db_one (ds_ret (d_ife (dt_cmp o_isN (d_var 2) d_non (nomark _)) (d_var 0) (d_var 2)))))
abbrev st_changed : Stmt := top 9
theorem sc_changed : FnScope ["term", "marks", "stays", "given", "names", "part", "left", "one"] ["term", "marks"] (defScope st_changed) := ⟨rfl, rfl, rfl, by decide +kernel, rfl, by decide +kernel, by decide +kernel⟩
theorem ok_changed (T : Txt K mg) (S : Cs Pg w K mg base n) (F : Fun K "changed" "changed" st_changed f fd) : FnOk Pg w K mg base CX0 (n + 1) f fd ["term", "marks"] (spW K pr (n + 1) 6) := fn_ok F sc_changed rfl rfl rfl fun cdv A outer s H E hr => by
    have nd := sc_changed.nd
    have hu := hu150 hr
    show SdB _ (defBody st_changed) (w_changed (wpc pr n))
    unfold w_changed w_changed_t2 w_changed_t1
    exact (db_cons (ds_if (dt_cmp (o_eq hu) (d_ix (d_var 0) d_int (fun _ _ => rfl)) d_str (nomark _)) (db_one (ds_ret (d_rget1 hu (d_var 1) (d_ix (d_var 0) d_int (fun _ _ => rfl)) ⟨rfl, rfl, rfl, rfl⟩))) db_nil)
      (db_cons (ds_set (i := 2) nd d_bl)
      (db_cons (ds_set (i := 3) nd (d_lst da_nil))
      (db_cons (ds_for PassesOwn.never rfl (di_seq (d_call S.c_scopes hr (by rfl) (da_cons (d_var 0) da_nil))) (dg_tup (n := 2) rfl (dg_cons (dg_name (i := 4) nd) (dg_cons (dg_name (i := 5) nd) dg_nil)) (gl_cons1 (gl_cons1 gl_nil)))
      (db_cons (ds_set (i := 6) nd (d_ife (dt_cmp (o_eq hu) (d_var 4) (d_tup da_nil) (nomark _)) (d_var 1) (d_call S.c_without hr (by rfl) (da_cons (d_var 1) (da_cons (d_var 4) da_nil)))))
      (db_cons (ds_set (i := 7) nd (d_ife (dt_cmp (o_req hu) (d_var 6) d_dict0 (nomark _)) d_non (d_call S.c_changed hr (by rfl) (da_cons (d_var 5) (da_cons (d_var 6) da_nil)))))
      (db_cons (ds_if (dt_cmp o_notN (d_var 7) d_non (nomark _)) (db_one (ds_set (i := 2) nd d_bl)) db_nil)
      (db_one (ds_expr (d_mt PySem.F.plainAttrs_list PySem.F.slot_list_append PySem.F.type_list_append ty_list m_append (d_var 3) (da_cons (d_ife (dt_cmp o_isN (d_var 7) d_non (nomark _)) (d_var 5) (d_var 7)) da_nil))))))))
      (db_one (ds_ret (d_ife (dt_tru (d_var 2)) d_non (d_call S.c_with_parts hr (by rfl) (da_cons (d_var 0) (da_cons (d_var 3) da_nil))))))))))
abbrev st_without : Stmt := top 10
theorem sc_without : FnScope ["marks", "names", "left", "name"] ["marks", "names"] (defScope st_without) := ⟨rfl, rfl, rfl, by decide +kernel, rfl, by decide +kernel, by decide +kernel⟩
theorem ok_without (T : Txt K mg) (S : Cs Pg w K mg base n) (F : Fun K "without" "without" st_without f fd) : FnOk Pg w K mg base CX0 (n + 1) f fd ["marks", "names"] (spW K pr (n + 1) 7) := fn_ok F sc_without rfl rfl rfl fun cdv A outer s H E hr => by
    have nd := sc_without.nd
    have hu := hu150 hr
    show SdB _ (defBody st_without) (w_without (wpc pr n))
    unfold w_without
    exact (db_cons (ds_if (dt_not (dt_tru (d_bi (b_any rfl) (by rfl) T.n_any bt_any (da_cons (d_comp (cN := ["name", "marks"]) (cap := [none, some 0]) (cl := (closOf _ _ [])) (js := [0]) (g := (gName 0)) ⟨rfl, (fun ok => compOkN ok rfl (by decide +kernel) (by decide +kernel) rfl rfl rfl), (di_seq (d_var 1)), (fun _ _ _ => pg_name (i := 0) (show (["name", "marks"] : List Str).Nodup by decide +kernel) rfl (Or.inl rfl)), gm_name, gk_name, sg_name, by decide +kernel, fun _ _ _ => dif_nil, fun _ _ _ => (d_cmp (o_rin hu) (d_var 0) (d_var 1) (by rfl)), fun _ => rfl⟩) da_nil)))) (db_one (ds_ret (d_var 0))) db_nil)
      (db_cons (ds_set (i := 2) nd (d_ty b_dictR (by rfl) T.n_dict bt_dict (da_cons (d_var 0) da_nil)))
      (db_cons (ds_for PassesOwn.never rfl (di_seq (d_var 1)) (dg_name (i := 3) nd)
      (db_one (ds_expr (d_dpop2 (d_var 2) (d_var 3) d_non ⟨rfl, rfl, rfl, rfl⟩))))
      (db_one (ds_ret (d_var 2))))))
abbrev st__law_draws : Stmt := top 12
theorem sc__law_draws : FnScope ["_law_script", "_law_many_here", "_law_found", "_law_k", "_law_cell"] ["_law_script", "_law_many_here"] (defScope st__law_draws) := ⟨rfl, rfl, rfl, by decide +kernel, rfl, by decide +kernel, by decide +kernel⟩
theorem ok__law_draws (T : Txt K mg) (S : Cs Pg w K mg base n) (F : Fun K "_law_draws" "_law_draws" st__law_draws f fd) : FnOk Pg w K mg base CX0 (n + 1) f fd ["_law_script", "_law_many_here"] (spW K pr (n + 1) 8) := fn_ok F sc__law_draws rfl rfl rfl fun cdv A outer s H E hr => by
    have nd := sc__law_draws.nd
    have hu := hu150 hr
    show SdB _ (defBody st__law_draws) (w__law_draws (wpc pr n))
    unfold w__law_draws
    exact (db_cons (ds_set (i := 2) nd (d_lst da_nil))
      (db_cons (ds_for PassesOwn.never rfl (di_r1 (by rfl) T.n_range (da_cons (d_var 1) da_nil)) (dg_name (i := 3) nd)
      (db_cons (ds_set (i := 4) nd d_int)
      (db_cons (ds_if (dt_cmp o_gt (d_bi b_len (by rfl) T.n_len PySem.boot_len (da_cons (d_var 0) da_nil)) d_int (nomark _)) (db_one (ds_set (i := 4) nd (d_op o_mod (d_ix (d_var 0) (d_op o_mod (d_var 3) (d_bi b_len (by rfl) T.n_len PySem.boot_len (da_cons (d_var 0) da_nil))) (fun _ _ => rfl)) (d_op o_pow d_int d_int)))) db_nil)
      (db_one (ds_expr (d_mt PySem.F.plainAttrs_list PySem.F.slot_list_append PySem.F.type_list_append ty_list m_append (d_var 2) (da_cons (d_op o_add (d_var 4) (d_op o_mul d_int (d_op o_div (d_var 3) (d_bi (b_max rfl) (by rfl) T.n_max bt_max (da_cons d_int (da_cons (d_bi b_len (by rfl) T.n_len PySem.boot_len (da_cons (d_var 0) da_nil)) da_nil)))))) da_nil)))))))
      (db_one (ds_ret (d_var 2)))))
abbrev st__law_name : Stmt := top 13
theorem sc__law_name : FnScope ["_law_draw", "_law_signs", "_law_name_here", "_law_k", "_law_at"] ["_law_draw"] (defScope st__law_name) := ⟨rfl, rfl, rfl, by decide +kernel, rfl, by decide +kernel, by decide +kernel⟩
theorem ok__law_name (T : Txt K mg) (S : Cs Pg w K mg base n) (F : Fun K "_law_name" "_law_name" st__law_name f fd) : FnOk Pg w K mg base CX0 (n + 1) f fd ["_law_draw"] (spW K pr (n + 1) 9) := fn_ok F sc__law_name rfl rfl rfl fun cdv A outer s H E hr => by
    have nd := sc__law_name.nd
    have hu := hu150 hr
    show SdB _ (defBody st__law_name) (w__law_name (wpc pr n))
    unfold w__law_name
    exact (db_cons (ds_set (i := 1) nd d_str)
      (db_cons (ds_set (i := 2) nd (d_ix (d_var 1) (d_op o_mod (d_var 0) d_int) (fun _ _ => rfl)))
      (db_cons (ds_for PassesOwn.never rfl (di_r1 (by rfl) T.n_range (da_cons (d_op o_mod (d_op o_div (d_var 0) d_int) d_int) da_nil)) (dg_name (i := 3) nd)
      (db_cons (ds_set (i := 4) nd (d_op o_add (d_op o_add (d_op o_div (d_var 0) d_int) (d_op o_mul (d_op o_mul d_int (d_var 3)) (d_var 3))) (d_op o_mul (d_op o_mod (d_op o_div (d_var 0) d_int) d_int) (d_var 3))))
      (db_one (ds_set (i := 2) nd (d_op o_add (d_var 2) (d_ix (d_var 1) (d_op o_mod (d_var 4) d_int) (fun _ _ => rfl)))))))
      (db_cons (ds_if (dt_cmp (o_in hu) (d_var 2) (d_lst (da_cons d_str (da_cons d_str (da_cons d_str (da_cons d_str (da_cons d_str (da_cons d_str (da_cons d_str (da_cons d_str (da_cons d_str da_nil)))))))))) (by rfl)) (db_one (ds_ret (d_op o_add (d_var 2) d_str))) db_nil)
      (db_one (ds_ret (d_var 2)))))))
abbrev st__law_unlike : Stmt := top 14
theorem sc__law_unlike : FnScope ["_law_draw", "_law_many_here", "_law_pool", "_law_names", "_law_k", "_law_name_here", "_law_spare"] ["_law_draw", "_law_many_here", "_law_pool"] (defScope st__law_unlike) := ⟨rfl, rfl, rfl, by decide +kernel, rfl, by decide +kernel, by decide +kernel⟩
theorem ok__law_unlike (T : Txt K mg) (S : Cs Pg w K mg base n) (F : Fun K "_law_unlike" "_law_unlike" st__law_unlike f fd) : FnOk Pg w K mg base CX0 (n + 1) f fd ["_law_draw", "_law_many_here", "_law_pool"] (spW K pr (n + 1) 10) := fn_ok F sc__law_unlike rfl rfl rfl fun cdv A outer s H E hr => by
    have nd := sc__law_unlike.nd
    have hu := hu150 hr
    show SdB _ (defBody st__law_unlike) (w__law_unlike (wpc pr n))
    unfold w__law_unlike
    exact (db_cons (ds_set (i := 3) nd (d_lst da_nil))
      (db_cons (ds_for PassesOwn.never rfl (di_r1 (by rfl) T.n_range (da_cons (d_var 1) da_nil)) (dg_name (i := 4) nd)
      (db_cons (ds_set (i := 5) nd (d_ix (d_var 2) (d_op o_mod (d_op o_div (d_var 0) (d_op o_add (d_op o_mul d_int (d_var 4)) d_int)) (d_bi b_len (by rfl) T.n_len PySem.boot_len (da_cons (d_var 2) da_nil))) (fun _ _ => rfl)))
      (db_cons (ds_if (dt_cmp (o_in hu) (d_var 5) (d_var 3) (by rfl)) (db_cons (ds_set (i := 6) nd (d_lst (da_cons d_str (da_cons d_str (da_cons d_str (da_cons d_str (da_cons d_str (da_cons d_str da_nil))))))))
      (db_one (ds_set (i := 5) nd (d_ix (d_comp (cN := ["_law_one", "_law_names"]) (cap := [none, some 3]) (cl := (closOf _ _ [])) (js := [0]) (g := (gName 0)) ⟨rfl, (fun ok => compOkN ok rfl (by decide +kernel) (by decide +kernel) rfl rfl rfl), (di_seq (d_var 6)), (fun _ _ _ => pg_name (i := 0) (show (["_law_one", "_law_names"] : List Str).Nodup by decide +kernel) rfl (Or.inl rfl)), gm_name, gk_name, sg_name, by decide +kernel, fun _ _ _ => (dif_one (dt_cmp (o_notIn hu) (d_var 0) (d_var 1) (by rfl))), fun _ _ _ => (d_var 0), fun _ => rfl⟩) d_int (fun _ _ => rfl))))) db_nil)
      (db_one (ds_expr (d_mt PySem.F.plainAttrs_list PySem.F.slot_list_append PySem.F.type_list_append ty_list m_append (d_var 3) (da_cons (d_var 5) da_nil)))))))
      (db_one (ds_ret (d_var 3)))))
abbrev st__law_mark : Stmt := top 15
theorem sc__law_mark : FnScope ["_law_draw", "_law_pool", "_law_number"] ["_law_draw", "_law_pool"] (defScope st__law_mark) := ⟨rfl, rfl, rfl, by decide +kernel, rfl, by decide +kernel, by decide +kernel⟩
theorem ok__law_mark (T : Txt K mg) (S : Cs Pg w K mg base n) (F : Fun K "_law_mark" "_law_mark" st__law_mark f fd) : FnOk Pg w K mg base CX0 (n + 1) f fd ["_law_draw", "_law_pool"] (spW K pr (n + 1) 11) := fn_ok F sc__law_mark rfl rfl rfl fun cdv A outer s H E hr => by
    have nd := sc__law_mark.nd
    have hu := hu150 hr
    show SdB _ (defBody st__law_mark) (w__law_mark (wpc pr n))
    unfold w__law_mark
    exact (db_cons (ds_set (i := 2) nd (d_op o_mod (d_op o_mul (d_op o_div (d_var 0) d_int) d_int) (d_op o_pow d_int d_int)))
      (db_cons (ds_if (dt_cmp (o_eq hu) (d_op o_mod (d_var 0) d_int) d_int (nomark _)) (db_one (ds_ret (d_tup (da_cons d_str (da_cons (d_var 2) da_nil))))) db_nil)
      (db_cons (ds_if (dt_cmp (o_eq hu) (d_op o_mod (d_var 0) d_int) d_int (nomark _)) (db_one (ds_ret (d_tup (da_cons d_str (da_cons (d_var 2) (da_cons (d_tup (da_cons d_str (da_cons (d_ix (d_var 1) (d_op o_mod (d_op o_div (d_var 0) d_int) (d_bi b_len (by rfl) T.n_len PySem.boot_len (da_cons (d_var 1) da_nil))) (fun _ _ => rfl)) da_nil))) da_nil)))))) db_nil)
      (db_one (ds_ret (d_tup (da_cons d_str (da_cons (d_var 2) (da_cons d_int (da_cons (d_tup (da_cons (d_tup (da_cons (d_ix (d_var 1) (d_op o_mod (d_op o_div (d_var 0) d_int) (d_bi b_len (by rfl) T.n_len PySem.boot_len (da_cons (d_var 1) da_nil))) (fun _ _ => rfl)) (da_cons (d_tup (da_cons d_str (da_cons (d_ix (d_var 1) (d_op o_mod (d_op o_div (d_var 0) d_int) (d_bi b_len (by rfl) T.n_len PySem.boot_len (da_cons (d_var 1) da_nil))) (fun _ _ => rfl)) da_nil))) da_nil))) da_nil)) da_nil))))))))))
abbrev st__law_leaf : Stmt := top 16
theorem sc__law_leaf : FnScope ["_law_draw", "_law_pool"] ["_law_draw", "_law_pool"] (defScope st__law_leaf) := ⟨rfl, rfl, rfl, by decide +kernel, rfl, by decide +kernel, by decide +kernel⟩
theorem ok__law_leaf (T : Txt K mg) (S : Cs Pg w K mg base n) (F : Fun K "_law_leaf" "_law_leaf" st__law_leaf f fd) : FnOk Pg w K mg base CX0 (n + 1) f fd ["_law_draw", "_law_pool"] (spW K pr (n + 1) 12) := fn_ok F sc__law_leaf rfl rfl rfl fun cdv A outer s H E hr => by
    have nd := sc__law_leaf.nd
    have hu := hu150 hr
    show SdB _ (defBody st__law_leaf) (w__law_leaf (wpc pr n))
    unfold w__law_leaf
    exact (db_cons (ds_if (dt_cmp (o_eq hu) (d_op o_mod (d_var 0) d_int) d_int (nomark _)) (db_one (ds_ret (d_call S.c__law_mark hr (by rfl) (da_cons (d_op o_div (d_var 0) d_int) (da_cons (d_var 1) da_nil))))) db_nil)
      (db_cons (ds_if (dt_cmp (o_eq hu) (d_op o_mod (d_var 0) d_int) d_int (nomark _)) (db_one (ds_ret (d_ix (d_lst (da_cons (d_tup (da_cons d_str (da_cons (d_op o_mod (d_op o_mul (d_var 0) d_int) (d_op o_pow d_int d_int)) da_nil))) (da_cons (d_tup (da_cons d_str (da_cons d_str (da_cons (d_tup da_nil) da_nil)))) da_nil))) (d_op o_mod (d_op o_div (d_var 0) d_int) d_int) (fun _ _ => rfl)))) db_nil)
      (db_cons (ds_if (dt_cmp (o_eq hu) (d_op o_mod (d_var 0) d_int) d_int (nomark _)) (db_one (ds_ret (d_tup (da_cons d_str (da_cons (d_ix (d_var 1) (d_op o_mod (d_op o_div (d_var 0) d_int) (d_bi b_len (by rfl) T.n_len PySem.boot_len (da_cons (d_var 1) da_nil))) (fun _ _ => rfl)) da_nil))))) db_nil)
      (db_one (ds_ret (d_tup (da_cons d_str (da_cons (d_ix (d_var 1) (d_op o_mod (d_op o_div (d_var 0) d_int) (d_bi b_len (by rfl) T.n_len PySem.boot_len (da_cons (d_var 1) da_nil))) (fun _ _ => rfl)) da_nil))))))))
abbrev st__law_chosen : Stmt := top 17
theorem sc__law_chosen : FnScope ["_law_draw", "_law_some", "_law_pool"] ["_law_draw", "_law_some", "_law_pool"] (defScope st__law_chosen) := ⟨rfl, rfl, rfl, by decide +kernel, rfl, by decide +kernel, by decide +kernel⟩
theorem ok__law_chosen (T : Txt K mg) (S : Cs Pg w K mg base n) (F : Fun K "_law_chosen" "_law_chosen" st__law_chosen f fd) : FnOk Pg w K mg base CX0 (n + 1) f fd ["_law_draw", "_law_some", "_law_pool"] (spW K pr (n + 1) 13) := fn_ok F sc__law_chosen rfl rfl rfl fun cdv A outer s H E hr => by
    have nd := sc__law_chosen.nd
    have hu := hu150 hr
    show SdB _ (defBody st__law_chosen) (w__law_chosen (wpc pr n))
    unfold w__law_chosen
    exact (db_cons (ds_if (dt_cmp (o_eq hu) (d_op o_mod (d_var 0) d_int) d_int (nomark _)) (db_one (ds_ret (d_tup (da_cons (d_tup (da_cons d_str (da_cons (d_tup da_nil) (da_cons (d_ix (d_var 1) d_int (fun _ _ => rfl)) da_nil)))) (da_cons (d_tup (da_cons d_str (da_cons (d_ty b_tuple (by rfl) T.n_tuple bt_tuple (da_cons (d_call S.c__law_unlike hr (by rfl) (da_cons (d_op o_div (d_var 0) d_int) (da_cons d_int (da_cons (d_var 2) da_nil)))) da_nil)) (da_cons (d_ix (d_var 1) d_int (fun _ _ => rfl)) da_nil)))) da_nil))))) db_nil)
      (db_cons (ds_if (dt_cmp (o_eq hu) (d_op o_mod (d_var 0) d_int) d_int (nomark _)) (db_one (ds_ret (d_tup (da_cons (d_tup (da_cons d_str (da_cons (d_tup da_nil) (da_cons (d_ix (d_var 1) d_int (fun _ _ => rfl)) da_nil)))) (da_cons (d_tup (da_cons d_str (da_cons (d_tup da_nil) (da_cons (d_ix (d_var 1) d_int (fun _ _ => rfl)) da_nil)))) da_nil))))) db_nil)
      (db_one (ds_ret (d_tup (da_cons (d_tup (da_cons d_str (da_cons (d_ty b_tuple (by rfl) T.n_tuple bt_tuple (da_cons (d_call S.c__law_unlike hr (by rfl) (da_cons (d_op o_div (d_var 0) d_int) (da_cons d_int (da_cons (d_var 2) da_nil)))) da_nil)) (da_cons (d_ix (d_var 1) d_int (fun _ _ => rfl)) da_nil)))) da_nil))))))
abbrev st__law_rows : Stmt := top 18
theorem sc__law_rows : FnScope ["_law_draw", "_law_some", "_law_pool", "_law_steps", "_law_k", "_law_way"] ["_law_draw", "_law_some", "_law_pool"] (defScope st__law_rows) := ⟨rfl, rfl, rfl, by decide +kernel, rfl, by decide +kernel, by decide +kernel⟩
theorem ok__law_rows (T : Txt K mg) (S : Cs Pg w K mg base n) (F : Fun K "_law_rows" "_law_rows" st__law_rows f fd) : FnOk Pg w K mg base CX0 (n + 1) f fd ["_law_draw", "_law_some", "_law_pool"] (spW K pr (n + 1) 14) := fn_ok F sc__law_rows rfl rfl rfl fun cdv A outer s H E hr => by
    have nd := sc__law_rows.nd
    have hu := hu150 hr
    show SdB _ (defBody st__law_rows) (w__law_rows (wpc pr n))
    unfold w__law_rows
    exact (db_cons (ds_set (i := 3) nd (d_lst da_nil))
      (db_cons (ds_for PassesOwn.never rfl (di_r1 (by rfl) T.n_range (da_cons (d_op o_sub (d_bi b_len (by rfl) T.n_len PySem.boot_len (da_cons (d_var 1) da_nil)) d_int) da_nil)) (dg_name (i := 4) nd)
      (db_cons (ds_set (i := 5) nd (d_op o_mod (d_op o_div (d_var 0) (d_op o_add (d_op o_mul d_int (d_var 4)) d_int)) d_int))
      (db_one (ds_if (dt_cmp (o_eq hu) (d_var 5) d_int (nomark _)) (db_one (ds_expr (d_mt PySem.F.plainAttrs_list PySem.F.slot_list_append PySem.F.type_list_append ty_list m_append (d_var 3) (da_cons (d_tup (da_cons d_str (da_cons (d_ix (d_var 1) (d_op o_add d_int (d_var 4)) (fun _ _ => rfl)) da_nil))) da_nil)))) (db_one (ds_expr (d_mt PySem.F.plainAttrs_list PySem.F.slot_list_append PySem.F.type_list_append ty_list m_append (d_var 3) (da_cons (d_tup (da_cons (d_ix (d_lst (da_cons d_str (da_cons d_str da_nil))) (d_op o_sub (d_var 5) d_int) (fun _ _ => rfl)) (da_cons (d_ix (d_var 2) (d_op o_mod (d_op o_div (d_var 0) (d_op o_add (d_op o_mul d_int (d_var 4)) d_int)) (d_bi b_len (by rfl) T.n_len PySem.boot_len (da_cons (d_var 2) da_nil))) (fun _ _ => rfl)) (da_cons (d_ix (d_var 1) (d_op o_add d_int (d_var 4)) (fun _ _ => rfl)) da_nil)))) da_nil))))))))
      (db_one (ds_ret (d_tup (da_cons d_str (da_cons (d_ix (d_var 1) d_int (fun _ _ => rfl)) (da_cons (d_ty b_tuple (by rfl) T.n_tuple bt_tuple (da_cons (d_var 3) da_nil)) da_nil))))))))
abbrev st__law_joined : Stmt := top 19
theorem sc__law_joined : FnScope ["_law_sort", "_law_draw", "_law_some", "_law_pool", "_law_names"] ["_law_sort", "_law_draw", "_law_some", "_law_pool"] (defScope st__law_joined) := ⟨rfl, rfl, rfl, by decide +kernel, rfl, by decide +kernel, by decide +kernel⟩
theorem ok__law_joined (T : Txt K mg) (S : Cs Pg w K mg base n) (F : Fun K "_law_joined" "_law_joined" st__law_joined f fd) : FnOk Pg w K mg base CX0 (n + 1) f fd ["_law_sort", "_law_draw", "_law_some", "_law_pool"] (spW K pr (n + 1) 15) := fn_ok F sc__law_joined rfl rfl rfl fun cdv A outer s H E hr => by
    have nd := sc__law_joined.nd
    have hu := hu150 hr
    show SdB _ (defBody st__law_joined) (w__law_joined (wpc pr n))
    unfold w__law_joined
    exact (db_cons (ds_if (dt_cmp (o_eq hu) (d_var 0) d_int (nomark _)) (db_one (ds_ret (d_tup (da_cons d_str (da_cons (d_ix d_str (d_op o_mod (d_var 1) d_int) (fun _ _ => rfl)) (da_cons (d_ix (d_var 2) d_int (fun _ _ => rfl)) (da_cons (d_ix (d_var 2) d_int (fun _ _ => rfl)) da_nil))))))) db_nil)
      (db_cons (ds_if (dt_cmp (o_eq hu) (d_var 0) d_int (nomark _)) (db_one (ds_ret (d_tup (da_cons d_str (da_cons (d_ix (d_var 3) (d_op o_mod (d_var 1) (d_bi b_len (by rfl) T.n_len PySem.boot_len (da_cons (d_var 3) da_nil))) (fun _ _ => rfl)) (da_cons (d_ix (d_var 2) d_int (fun _ _ => rfl)) da_nil)))))) db_nil)
      (db_cons (ds_if (dt_cmp (o_eq hu) (d_var 0) d_int (nomark _)) (db_one (ds_ret (d_tup (da_cons d_str (da_cons (d_ix (d_var 2) d_int (fun _ _ => rfl)) (da_cons (d_ix (d_var 2) d_int (fun _ _ => rfl)) da_nil)))))) db_nil)
      (db_cons (ds_if (dt_cmp (o_eq hu) (d_var 0) d_int (nomark _)) (db_cons (ds_set (i := 4) nd (d_call S.c__law_unlike hr (by rfl) (da_cons (d_var 1) (da_cons (d_op o_sub (d_bi b_len (by rfl) T.n_len PySem.boot_len (da_cons (d_var 2) da_nil)) d_int) (da_cons (d_var 3) da_nil)))))
      (db_one (ds_ret (d_tup (da_cons d_str (da_cons (d_ty b_tuple (by rfl) T.n_tuple bt_tuple (da_cons (d_comp (cN := ["_law_k", "_law_names", "_law_some"]) (cap := [none, some 4, some 2]) (cl := (closOf _ _ [])) (js := [0]) (g := (gName 0)) ⟨rfl, (fun ok => compOkN ok rfl (by decide +kernel) (by decide +kernel) rfl rfl rfl), (di_r1 (by rfl) T.n_range (da_cons (d_bi b_len (by rfl) T.n_len PySem.boot_len (da_cons (d_var 4) da_nil)) da_nil)), (fun _ _ _ => pg_name (i := 0) (show (["_law_k", "_law_names", "_law_some"] : List Str).Nodup by decide +kernel) rfl (Or.inl rfl)), gm_name, gk_name, sg_name, by decide +kernel, fun _ _ _ => dif_nil, fun _ _ _ => (d_tup (da_cons (d_ix (d_var 1) (d_var 0) (fun _ _ => rfl)) (da_cons (d_ix (d_var 2) (d_var 0) (fun _ _ => rfl)) da_nil))), fun _ => rfl⟩) da_nil)) (da_cons (d_ix (d_var 2) (d_neg d_int) (fun _ _ => rfl)) da_nil))))))) db_nil)
      (db_cons (ds_if (dt_cmp (o_eq hu) (d_var 0) d_int (nomark _)) (db_one (ds_ret (d_tup (da_cons d_str (da_cons (d_ix (d_lst (da_cons d_str (da_cons d_str da_nil))) (d_op o_mod (d_var 1) d_int) (fun _ _ => rfl)) (da_cons (d_tup (da_cons (d_ix (d_var 2) d_int (fun _ _ => rfl)) (da_cons (d_ix (d_var 2) d_int (fun _ _ => rfl)) da_nil))) da_nil)))))) db_nil)
      (db_cons (ds_if (dt_cmp (o_eq hu) (d_var 0) d_int (nomark _)) (db_one (ds_ret (d_tup (da_cons d_str (da_cons (d_ix (d_var 2) d_int (fun _ _ => rfl)) (da_cons (d_call S.c__law_chosen hr (by rfl) (da_cons (d_var 1) (da_cons (d_var 2) (da_cons (d_var 3) da_nil)))) da_nil)))))) db_nil)
      (db_cons (ds_if (dt_cmp (o_eq hu) (d_var 0) d_int (nomark _)) (db_one (ds_ret (d_tup (da_cons d_str (da_cons (d_ix (d_var 2) d_int (fun _ _ => rfl)) (da_cons (d_ix (d_var 2) d_int (fun _ _ => rfl)) da_nil)))))) db_nil)
      (db_one (ds_ret (d_call S.c__law_rows hr (by rfl) (da_cons (d_var 1) (da_cons (d_var 2) (da_cons (d_var 3) da_nil)))))))))))))
abbrev st__law_many : Stmt := top 20
theorem sc__law_many : FnScope ["_law_sort", "_law_draw"] ["_law_sort", "_law_draw"] (defScope st__law_many) := ⟨rfl, rfl, rfl, by decide +kernel, rfl, by decide +kernel, by decide +kernel⟩
theorem ok__law_many (T : Txt K mg) (S : Cs Pg w K mg base n) (F : Fun K "_law_many" "_law_many" st__law_many f fd) : FnOk Pg w K mg base CX0 (n + 1) f fd ["_law_sort", "_law_draw"] (spW K pr (n + 1) 16) := fn_ok F sc__law_many rfl rfl rfl fun cdv A outer s H E hr => by
    have nd := sc__law_many.nd
    have hu := hu150 hr
    show SdB _ (defBody st__law_many) (w__law_many (wpc pr n))
    unfold w__law_many
    exact (db_cons (ds_if (dt_cmp (o_eq hu) (d_var 0) d_int (nomark _)) (db_one (ds_ret (d_op o_add d_int (d_op o_mod (d_op o_div (d_var 1) d_int) d_int)))) db_nil)
      (db_cons (ds_if (dt_cmp (o_eq hu) (d_var 0) d_int (nomark _)) (db_one (ds_ret (d_ix (d_lst (da_cons d_int (da_cons d_int (da_cons d_int da_nil)))) (d_op o_mod (d_var 1) d_int) (fun _ _ => rfl)))) db_nil)
      (db_cons (ds_if (dt_cmp (o_eq hu) (d_var 0) d_int (nomark _)) (db_one (ds_ret (d_op o_add d_int (d_op o_mod (d_op o_div (d_var 1) d_int) d_int)))) db_nil)
      (db_one (ds_ret (d_ix (d_lst (da_cons d_int (da_cons d_int (da_cons d_int (da_cons d_int (da_cons d_int (da_cons d_int (da_cons d_int (da_cons d_int da_nil))))))))) (d_var 0) (fun _ _ => rfl)))))))
abbrev st__law_term : Stmt := top 21
theorem sc__law_term : FnScope ["_law_draws_here", "_law_deep", "_law_pool", "_law_draw", "_law_sort", "_law_some", "_law_k"] ["_law_draws_here", "_law_deep", "_law_pool"] (defScope st__law_term) := ⟨rfl, rfl, rfl, by decide +kernel, rfl, by decide +kernel, by decide +kernel⟩
theorem ok__law_term (T : Txt K mg) (S : Cs Pg w K mg base n) (F : Fun K "_law_term" "_law_term" st__law_term f fd) : FnOk Pg w K mg base CX0 (n + 1) f fd ["_law_draws_here", "_law_deep", "_law_pool"] (spW K pr (n + 1) 17) := fn_ok F sc__law_term rfl rfl rfl fun cdv A outer s H E hr => by
    have nd := sc__law_term.nd
    have hu := hu150 hr
    show SdB _ (defBody st__law_term) (w__law_term (wpc pr n))
    unfold w__law_term w__law_term_t3 w__law_term_t2 w__law_term_t1
    exact (db_cons (ds_set (i := 3) nd d_int)
      (db_cons (ds_if (dt_cmp o_gt (d_bi b_len (by rfl) T.n_len PySem.boot_len (da_cons (d_var 0) da_nil)) d_int (nomark _)) (db_one (ds_set (i := 3) nd (d_mt PySem.F.plainAttrs_list PySem.F.slot_list_pop PySem.F.type_list_pop ty_list m_popAt (d_var 0) (da_cons d_int da_nil)))) db_nil)
      (db_cons (ds_set (i := 4) nd (d_op o_mod (d_var 3) d_int))
      (db_cons (ds_if (dt_w (dw_or (dt_cmp o_le (d_var 1) d_int (nomark _)) (dw_or (dt_cmp (o_eq hu) (d_bi b_len (by rfl) T.n_len PySem.boot_len (da_cons (d_var 0) da_nil)) d_int (nomark _)) (dw_or1 (dt_cmp (o_eq hu) (d_var 4) d_int (nomark _)))))) (db_one (ds_ret (d_call S.c__law_leaf hr (by rfl) (da_cons (d_op o_div (d_var 3) d_int) (da_cons (d_var 2) da_nil))))) db_nil)
      (db_cons (ds_set (i := 5) nd (d_lst da_nil))
      (db_cons (ds_for PassesOwn.never rfl (di_r1 (by rfl) T.n_range (da_cons (d_call S.c__law_many hr (by rfl) (da_cons (d_var 4) (da_cons (d_op o_div (d_var 3) d_int) da_nil))) da_nil)) (dg_name (i := 6) nd)
      (db_one (ds_expr (d_mt PySem.F.plainAttrs_list PySem.F.slot_list_append PySem.F.type_list_append ty_list m_append (d_var 5) (da_cons (d_call S.c__law_term hr (by rfl) (da_cons (d_var 0) (da_cons (d_op o_sub (d_var 1) d_int) (da_cons (d_var 2) da_nil)))) da_nil)))))
      (db_one (ds_ret (d_call S.c__law_joined hr (by rfl) (da_cons (d_var 4) (da_cons (d_op o_div (d_var 3) d_int) (da_cons (d_var 5) (da_cons (d_var 2) da_nil)))))))))))))
abbrev st__law_wrapped : Stmt := top 22
theorem sc__law_wrapped : FnScope ["_law_term_here", "_law_draw", "_law_pool", "_law_k", "_law_way"] ["_law_term_here", "_law_draw", "_law_pool"] (defScope st__law_wrapped) := ⟨rfl, rfl, rfl, by decide +kernel, rfl, by decide +kernel, by decide +kernel⟩
theorem ok__law_wrapped (T : Txt K mg) (S : Cs Pg w K mg base n) (F : Fun K "_law_wrapped" "_law_wrapped" st__law_wrapped f fd) : FnOk Pg w K mg base CX0 (n + 1) f fd ["_law_term_here", "_law_draw", "_law_pool"] (spW K pr (n + 1) 18) := fn_ok F sc__law_wrapped rfl rfl rfl fun cdv A outer s H E hr => by
    have nd := sc__law_wrapped.nd
    have hu := hu150 hr
    show SdB _ (defBody st__law_wrapped) (w__law_wrapped (wpc pr n))
    unfold w__law_wrapped
    exact (db_cons (ds_for PassesOwn.never rfl (di_r1 (by rfl) T.n_range (da_cons (d_op o_mod (d_var 1) d_int) da_nil)) (dg_name (i := 3) nd)
      (db_cons (ds_set (i := 4) nd (d_op o_mod (d_op o_div (d_var 1) (d_op o_add d_int (d_op o_mul d_int (d_var 3)))) d_int))
      (db_one (ds_if (dt_cmp (o_eq hu) (d_var 4) d_int (nomark _)) (db_one (ds_set (i := 0) nd (d_tup (da_cons d_str (da_cons (d_ix (d_var 2) (d_op o_mod (d_op o_div (d_var 1) (d_op o_add d_int (d_var 3))) (d_bi b_len (by rfl) T.n_len PySem.boot_len (da_cons (d_var 2) da_nil))) (fun _ _ => rfl)) (da_cons (d_var 0) da_nil)))))) (db_one (ds_if (dt_cmp (o_eq hu) (d_var 4) d_int (nomark _)) (db_one (ds_set (i := 0) nd (d_tup (da_cons d_str (da_cons (d_var 0) (da_cons (d_call S.c__law_leaf hr (by rfl) (da_cons (d_op o_div (d_var 1) (d_op o_add d_int (d_var 3))) (da_cons (d_var 2) da_nil))) da_nil)))))) (db_one (ds_set (i := 0) nd (d_tup (da_cons d_str (da_cons d_str (da_cons (d_tup (da_cons (d_call S.c__law_leaf hr (by rfl) (da_cons (d_op o_div (d_var 1) (d_op o_add d_int (d_var 3))) (da_cons (d_var 2) da_nil))) (da_cons (d_var 0) da_nil))) da_nil))))))))))))
      (db_one (ds_ret (d_var 0))))
abbrev st__law_less : Stmt := top 23
theorem sc__law_less : FnScope ["_law_marks", "_law_names", "_law_found", "_law_name_here"] ["_law_marks", "_law_names"] (defScope st__law_less) := ⟨rfl, rfl, rfl, by decide +kernel, rfl, by decide +kernel, by decide +kernel⟩
theorem ok__law_less (T : Txt K mg) (S : Cs Pg w K mg base n) (F : Fun K "_law_less" "_law_less" st__law_less f fd) : FnOk Pg w K mg base CX0 (n + 1) f fd ["_law_marks", "_law_names"] (spW K pr (n + 1) 19) := fn_ok F sc__law_less rfl rfl rfl fun cdv A outer s H E hr => by
    have nd := sc__law_less.nd
    have hu := hu150 hr
    show SdB _ (defBody st__law_less) (w__law_less (wpc pr n))
    unfold w__law_less
    exact (db_cons (ds_set (i := 2) nd d_dict0)
      (db_cons (ds_for PassesOwn.never rfl (di_dict (d_var 0)) (dg_name (i := 3) nd)
      (db_one (ds_if (dt_cmp (o_notIn hu) (d_var 3) (d_var 1) (by rfl)) (db_one (ds_asg (d_rget hu (d_var 0) (d_var 3) (fun _ _ => rfl)) (dg_subD hu (d_var 2) (d_var 3)))) db_nil)))
      (db_one (ds_ret (d_var 2)))))
abbrev st__law_all : Stmt := top 24
theorem sc__law_all : FnScope ["_law_olds", "_law_news", "_law_marks", "_law_k"] ["_law_olds", "_law_news", "_law_marks"] (defScope st__law_all) := ⟨rfl, rfl, rfl, by decide +kernel, rfl, by decide +kernel, by decide +kernel⟩
theorem ok__law_all (T : Txt K mg) (S : Cs Pg w K mg base n) (F : Fun K "_law_all" "_law_all" st__law_all f fd) : FnOk Pg w K mg base CX0 (n + 1) f fd ["_law_olds", "_law_news", "_law_marks"] (spW K pr (n + 1) 20) := fn_ok F sc__law_all rfl rfl rfl fun cdv A outer s H E hr => by
    have nd := sc__law_all.nd
    have hu := hu150 hr
    show SdB _ (defBody st__law_all) (w__law_all (wpc pr n))
    unfold w__law_all w__law_all_t2 w__law_all_t1
    exact (db_cons (ds_if (dt_cmp (o_ne hu) (d_bi b_len (by rfl) T.n_len PySem.boot_len (da_cons (d_var 0) da_nil)) (d_bi b_len (by rfl) T.n_len PySem.boot_len (da_cons (d_var 1) da_nil)) (nomark _)) (db_one (ds_ret d_bl)) db_nil)
      (db_cons (ds_for PassesOwn.never rfl (di_r1 (by rfl) T.n_range (da_cons (d_bi b_len (by rfl) T.n_len PySem.boot_len (da_cons (d_var 0) da_nil)) da_nil)) (dg_name (i := 3) nd)
      (db_one (ds_if (dt_not (dt_tru (d_call S.c__law_meets hr (by rfl) (da_cons (d_ix (d_var 0) (d_var 3) (fun _ _ => rfl)) (da_cons (d_ix (d_var 1) (d_var 3) (fun _ _ => rfl)) (da_cons (d_var 2) da_nil)))))) (db_one (ds_ret d_bl)) db_nil)))
      (db_one (ds_ret d_bl))))
abbrev st__law_rows_meet : Stmt := top 25
theorem sc__law_rows_meet : FnScope ["_law_old", "_law_new", "_law_marks", "_law_one", "_law_other"] ["_law_old", "_law_new", "_law_marks"] (defScope st__law_rows_meet) := ⟨rfl, rfl, rfl, by decide +kernel, rfl, by decide +kernel, by decide +kernel⟩
theorem ok__law_rows_meet (T : Txt K mg) (S : Cs Pg w K mg base n) (F : Fun K "_law_rows_meet" "_law_rows_meet" st__law_rows_meet f fd) : FnOk Pg w K mg base CX0 (n + 1) f fd ["_law_old", "_law_new", "_law_marks"] (spW K pr (n + 1) 21) := fn_ok F sc__law_rows_meet rfl rfl rfl fun cdv A outer s H E hr => by
    have nd := sc__law_rows_meet.nd
    have hu := hu150 hr
    show SdB _ (defBody st__law_rows_meet) (w__law_rows_meet (wpc pr n))
    unfold w__law_rows_meet w__law_rows_meet_t2 w__law_rows_meet_t1
    exact (db_cons (ds_if (dt_w (dw_or (dt_not (dt_tru (d_isi (by rfl) T.n_isinstance (by rfl) T.n_tuple bt_tuple (by decide) (d_ix (d_var 1) d_int (fun _ _ => rfl))))) (dw_or1 (dt_cmp (o_ne hu) (d_bi b_len (by rfl) T.n_len PySem.boot_len (da_cons (d_ix (d_var 1) d_int (fun _ _ => rfl)) da_nil)) (d_bi b_len (by rfl) T.n_len PySem.boot_len (da_cons (d_ix (d_var 0) d_int (fun _ _ => rfl)) da_nil)) (nomark _))))) (db_one (ds_ret d_bl)) db_nil)
      (db_cons (ds_for PassesOwn.never rfl (di_zip (by rfl) T.n_zip (da_cons (d_ix (d_var 0) d_int (fun _ _ => rfl)) (da_cons (d_ix (d_var 1) d_int (fun _ _ => rfl)) da_nil))) (dg_tup (n := 2) rfl (dg_cons (dg_name (i := 3) nd) (dg_cons (dg_name (i := 4) nd) dg_nil)) (gl_cons1 (gl_cons1 gl_nil)))
      (db_cons (ds_if (dt_w (dw_or (dt_not (dt_tru (d_isi (by rfl) T.n_isinstance (by rfl) T.n_tuple bt_tuple (by decide) (d_var 4)))) (dw_or (dt_cmp (o_ne hu) (d_sl (d_var 3) do_none (do_some (d_neg d_int))) (d_sl (d_var 4) do_none (do_some (d_neg d_int))) (nomark _)) (dw_or1 (dt_not (dt_tru (d_call S.c__law_meets hr (by rfl) (da_cons (d_ix (d_var 3) (d_neg d_int) (fun _ _ => rfl)) (da_cons (d_ix (d_var 4) (d_neg d_int) (fun _ _ => rfl)) (da_cons (d_var 2) da_nil)))))))))) (db_one (ds_ret d_bl)) db_nil)
      (db_one (ds_if (dt_cmp (o_ne hu) (d_ix (d_var 3) d_int (fun _ _ => rfl)) d_str (nomark _)) (db_one (ds_set (i := 2) nd (d_call S.c__law_less hr (by rfl) (da_cons (d_var 2) (da_cons (d_lst (da_cons (d_ix (d_var 3) d_int (fun _ _ => rfl)) da_nil)) da_nil))))) db_nil))))
      (db_one (ds_ret (d_call S.c__law_meets hr (by rfl) (da_cons (d_ix (d_var 0) d_int (fun _ _ => rfl)) (da_cons (d_ix (d_var 1) d_int (fun _ _ => rfl)) (da_cons (d_var 2) da_nil))))))))
abbrev st__law_choice_meets : Stmt := top 26
theorem sc__law_choice_meets : FnScope ["_law_old", "_law_new", "_law_marks", "_law_one", "_law_other"] ["_law_old", "_law_new", "_law_marks"] (defScope st__law_choice_meets) := ⟨rfl, rfl, rfl, by decide +kernel, rfl, by decide +kernel, by decide +kernel⟩
theorem ok__law_choice_meets (T : Txt K mg) (S : Cs Pg w K mg base n) (F : Fun K "_law_choice_meets" "_law_choice_meets" st__law_choice_meets f fd) : FnOk Pg w K mg base CX0 (n + 1) f fd ["_law_old", "_law_new", "_law_marks"] (spW K pr (n + 1) 22) := fn_ok F sc__law_choice_meets rfl rfl rfl fun cdv A outer s H E hr => by
    have nd := sc__law_choice_meets.nd
    have hu := hu150 hr
    show SdB _ (defBody st__law_choice_meets) (w__law_choice_meets (wpc pr n))
    unfold w__law_choice_meets w__law_choice_meets_t2 w__law_choice_meets_t1
    exact (db_cons (ds_if (dt_w (dw_or (dt_not (dt_tru (d_isi (by rfl) T.n_isinstance (by rfl) T.n_tuple bt_tuple (by decide) (d_ix (d_var 1) d_int (fun _ _ => rfl))))) (dw_or (dt_cmp (o_ne hu) (d_bi b_len (by rfl) T.n_len PySem.boot_len (da_cons (d_ix (d_var 1) d_int (fun _ _ => rfl)) da_nil)) (d_bi b_len (by rfl) T.n_len PySem.boot_len (da_cons (d_ix (d_var 0) d_int (fun _ _ => rfl)) da_nil)) (nomark _)) (dw_or1 (dt_not (dt_tru (d_call S.c__law_meets hr (by rfl) (da_cons (d_ix (d_var 0) d_int (fun _ _ => rfl)) (da_cons (d_ix (d_var 1) d_int (fun _ _ => rfl)) (da_cons (d_var 2) da_nil)))))))))) (db_one (ds_ret d_bl)) db_nil)
      (db_cons (ds_for PassesOwn.never rfl (di_zip (by rfl) T.n_zip (da_cons (d_ix (d_var 0) d_int (fun _ _ => rfl)) (da_cons (d_ix (d_var 1) d_int (fun _ _ => rfl)) da_nil))) (dg_tup (n := 2) rfl (dg_cons (dg_name (i := 3) nd) (dg_cons (dg_name (i := 4) nd) dg_nil)) (gl_cons1 (gl_cons1 gl_nil)))
      (db_cons (ds_if (dt_w (dw_or (dt_not (dt_tru (d_isi (by rfl) T.n_isinstance (by rfl) T.n_tuple bt_tuple (by decide) (d_var 4)))) (dw_or1 (dt_cmp (o_ne hu) (d_sl (d_var 3) do_none (do_some d_int)) (d_sl (d_var 4) do_none (do_some d_int)) (nomark _))))) (db_one (ds_ret d_bl)) db_nil)
      (db_one (ds_if (dt_not (dt_tru (d_call S.c__law_meets hr (by rfl) (da_cons (d_ix (d_var 3) d_int (fun _ _ => rfl)) (da_cons (d_ix (d_var 4) d_int (fun _ _ => rfl)) (da_cons (d_call S.c__law_less hr (by rfl) (da_cons (d_var 2) (da_cons (d_ix (d_var 3) d_int (fun _ _ => rfl)) da_nil))) da_nil)))))) (db_one (ds_ret d_bl)) db_nil))))
      (db_one (ds_ret d_bl))))
abbrev st__law_meets : Stmt := top 27
theorem sc__law_meets : FnScope ["_law_old", "_law_new", "_law_marks", "_law_inner", "_law_olds"] ["_law_old", "_law_new", "_law_marks"] (defScope st__law_meets) := ⟨rfl, rfl, rfl, by decide +kernel, rfl, by decide +kernel, by decide +kernel⟩
theorem ok__law_meets (T : Txt K mg) (S : Cs Pg w K mg base n) (F : Fun K "_law_meets" "_law_meets" st__law_meets f fd) : FnOk Pg w K mg base CX0 (n + 1) f fd ["_law_old", "_law_new", "_law_marks"] (spW K pr (n + 1) 23) := fn_ok F sc__law_meets rfl rfl rfl fun cdv A outer s H E hr => by
    have nd := sc__law_meets.nd
    have hu := hu150 hr
    show SdB _ (defBody st__law_meets) (w__law_meets (wpc pr n))
    unfold w__law_meets w__law_meets_t10 w__law_meets_t9 w__law_meets_t8 w__law_meets_t7 w__law_meets_t6 w__law_meets_t5 w__law_meets_t4 w__law_meets_t3 w__law_meets_t2 w__law_meets_t1
    exact (db_cons (ds_if (dt_w (dw_and (dt_cmp (o_eq hu) (d_ix (d_var 0) d_int (fun _ _ => rfl)) d_str (nomark _)) (dw_and1 (dt_cmp (o_rin hu) (d_ix (d_var 0) d_int (fun _ _ => rfl)) (d_var 2) (by rfl))))) (db_one (ds_ret (d_cmp (o_eq hu) (d_var 1) (d_rget hu (d_var 2) (d_ix (d_var 0) d_int (fun _ _ => rfl)) (fun _ _ => rfl)) (nomark _)))) db_nil)
      (db_cons (ds_if (dt_w (dw_or (dt_not (dt_tru (d_isi (by rfl) T.n_isinstance (by rfl) T.n_tuple bt_tuple (by decide) (d_var 1)))) (dw_or (dt_cmp (o_ne hu) (d_bi b_len (by rfl) T.n_len PySem.boot_len (da_cons (d_var 1) da_nil)) (d_bi b_len (by rfl) T.n_len PySem.boot_len (da_cons (d_var 0) da_nil)) (nomark _)) (dw_or1 (dt_cmp (o_ne hu) (d_ix (d_var 1) d_int (fun _ _ => rfl)) (d_ix (d_var 0) d_int (fun _ _ => rfl)) (nomark _)))))) (db_one (ds_ret d_bl)) db_nil)
      (db_cons (ds_if (dt_cmp (o_eq hu) (d_ix (d_var 0) d_int (fun _ _ => rfl)) d_str (nomark _)) (db_one (ds_ret (d_and (d_cmp (o_eq hu) (d_ix (d_var 1) d_int (fun _ _ => rfl)) (d_ix (d_var 0) d_int (fun _ _ => rfl)) (nomark _)) (d_one (d_call S.c__law_all hr (by rfl) (da_cons (d_sl (d_var 0) (do_some d_int) do_none) (da_cons (d_sl (d_var 1) (do_some d_int) do_none) (da_cons (d_var 2) da_nil)))))))) db_nil)
      (db_cons (ds_if (dt_cmp (o_eq hu) (d_ix (d_var 0) d_int (fun _ _ => rfl)) d_str (nomark _)) (db_one (ds_ret (d_and (d_cmp (o_eq hu) (d_ix (d_var 1) d_int (fun _ _ => rfl)) (d_ix (d_var 0) d_int (fun _ _ => rfl)) (nomark _)) (d_one (d_call S.c__law_meets hr (by rfl) (da_cons (d_ix (d_var 0) d_int (fun _ _ => rfl)) (da_cons (d_ix (d_var 1) d_int (fun _ _ => rfl)) (da_cons (d_call S.c__law_less hr (by rfl) (da_cons (d_var 2) (da_cons (d_lst (da_cons (d_ix (d_var 0) d_int (fun _ _ => rfl)) da_nil)) da_nil))) da_nil)))))))) db_nil)
      (db_cons (ds_if (dt_w (dw_or (dt_cmp (o_eq hu) (d_ix (d_var 0) d_int (fun _ _ => rfl)) d_str (nomark _)) (dw_or1 (dt_cmp (o_eq hu) (d_ix (d_var 0) d_int (fun _ _ => rfl)) d_str (nomark _))))) (db_one (ds_ret (d_call S.c__law_all hr (by rfl) (da_cons (d_sl (d_var 0) (do_some d_int) do_none) (da_cons (d_sl (d_var 1) (do_some d_int) do_none) (da_cons (d_var 2) da_nil)))))) db_nil)
      (db_cons (ds_if (dt_cmp (o_eq hu) (d_ix (d_var 0) d_int (fun _ _ => rfl)) d_str (nomark _)) (db_one (ds_ret (d_and (d_cmp (o_eq hu) (d_ix (d_var 1) d_int (fun _ _ => rfl)) (d_ix (d_var 0) d_int (fun _ _ => rfl)) (nomark _)) (d_and (d_isi (by rfl) T.n_isinstance (by rfl) T.n_tuple bt_tuple (by decide) (d_ix (d_var 1) d_int (fun _ _ => rfl))) (d_one (d_call S.c__law_all hr (by rfl) (da_cons (d_ix (d_var 0) d_int (fun _ _ => rfl)) (da_cons (d_ix (d_var 1) d_int (fun _ _ => rfl)) (da_cons (d_var 2) da_nil))))))))) db_nil)
      (db_cons (ds_if (dt_cmp (o_eq hu) (d_ix (d_var 0) d_int (fun _ _ => rfl)) d_str (nomark _)) (db_one (ds_ret (d_call S.c__law_choice_meets hr (by rfl) (da_cons (d_var 0) (da_cons (d_var 1) (da_cons (d_var 2) da_nil)))))) db_nil)
      (db_cons (ds_if (dt_cmp (o_eq hu) (d_ix (d_var 0) d_int (fun _ _ => rfl)) d_str (nomark _)) (db_one (ds_ret (d_call S.c__law_rows_meet hr (by rfl) (da_cons (d_var 0) (da_cons (d_var 1) (da_cons (d_var 2) da_nil)))))) db_nil)
      (db_cons (ds_if (dt_cmp (o_ne hu) (d_ix (d_var 0) d_int (fun _ _ => rfl)) d_str (nomark _)) (db_one (ds_ret (d_cmp (o_eq hu) (d_var 1) (d_var 0) (nomark _)))) db_nil)
      (db_cons (ds_set (i := 3) nd (d_call S.c__law_less hr (by rfl) (da_cons (d_var 2) (da_cons (d_comp (cN := ["_law_pair"]) (cap := [none]) (cl := []) (js := [0]) (g := (gName 0)) ⟨rfl, (fun _ => compOk0 rfl (by decide +kernel) (by decide +kernel) rfl (by decide)), (di_seq (d_ix (d_var 0) d_int (fun _ _ => rfl))), (fun _ _ _ => pg_name (i := 0) (show (["_law_pair"] : List Str).Nodup by decide +kernel) rfl (Or.inl rfl)), gm_name, gk_name, sg_name, by decide +kernel, fun _ _ _ => dif_nil, fun _ _ _ => (d_ix (d_var 0) d_int (fun _ _ => rfl)), fun _ => rfl⟩) da_nil))))
      (db_cons (ds_if (dt_w (dw_or (dt_not (dt_tru (d_isi (by rfl) T.n_isinstance (by rfl) T.n_tuple bt_tuple (by decide) (d_ix (d_var 1) d_int (fun _ _ => rfl))))) (dw_or1 (dt_cmp (o_ne hu) (d_comp (cN := ["_law_pair"]) (cap := [none]) (cl := []) (js := [0]) (g := (gName 0)) ⟨rfl, (fun _ => compOk0 rfl (by decide +kernel) (by decide +kernel) rfl (by decide)), (di_seq (d_ix (d_var 1) d_int (fun _ _ => rfl))), (fun _ _ _ => pg_name (i := 0) (show (["_law_pair"] : List Str).Nodup by decide +kernel) rfl (Or.inl rfl)), gm_name, gk_name, sg_name, by decide +kernel, fun _ _ _ => dif_nil, fun _ _ _ => (d_ix (d_var 0) d_int (fun _ _ => rfl)), fun _ => rfl⟩) (d_comp (cN := ["_law_pair"]) (cap := [none]) (cl := []) (js := [0]) (g := (gName 0)) ⟨rfl, (fun _ => compOk0 rfl (by decide +kernel) (by decide +kernel) rfl (by decide)), (di_seq (d_ix (d_var 0) d_int (fun _ _ => rfl))), (fun _ _ _ => pg_name (i := 0) (show (["_law_pair"] : List Str).Nodup by decide +kernel) rfl (Or.inl rfl)), gm_name, gk_name, sg_name, by decide +kernel, fun _ _ _ => dif_nil, fun _ _ _ => (d_ix (d_var 0) d_int (fun _ _ => rfl)), fun _ => rfl⟩) (nomark _))))) (db_one (ds_ret d_bl)) db_nil)
      (db_cons (ds_set (i := 4) nd (d_op o_add (d_comp (cN := ["_law_pair"]) (cap := [none]) (cl := []) (js := [0]) (g := (gName 0)) ⟨rfl, (fun _ => compOk0 rfl (by decide +kernel) (by decide +kernel) rfl (by decide)), (di_seq (d_ix (d_var 0) d_int (fun _ _ => rfl))), (fun _ _ _ => pg_name (i := 0) (show (["_law_pair"] : List Str).Nodup by decide +kernel) rfl (Or.inl rfl)), gm_name, gk_name, sg_name, by decide +kernel, fun _ _ _ => dif_nil, fun _ _ _ => (d_ix (d_var 0) d_int (fun _ _ => rfl)), fun _ => rfl⟩) (d_lst (da_cons (d_ix (d_var 0) d_int (fun _ _ => rfl)) da_nil))))
      (db_one (ds_ret (d_call S.c__law_all hr (by rfl) (da_cons (d_var 4) (da_cons (d_op o_add (d_comp (cN := ["_law_pair"]) (cap := [none]) (cl := []) (js := [0]) (g := (gName 0)) ⟨rfl, (fun _ => compOk0 rfl (by decide +kernel) (by decide +kernel) rfl (by decide)), (di_seq (d_ix (d_var 1) d_int (fun _ _ => rfl))), (fun _ _ _ => pg_name (i := 0) (show (["_law_pair"] : List Str).Nodup by decide +kernel) rfl (Or.inl rfl)), gm_name, gk_name, sg_name, by decide +kernel, fun _ _ _ => dif_nil, fun _ _ _ => (d_ix (d_var 0) d_int (fun _ _ => rfl)), fun _ => rfl⟩) (d_lst (da_cons (d_ix (d_var 1) d_int (fun _ _ => rfl)) da_nil))) (da_cons (d_var 3) da_nil))))))))))))))))))
abbrev st_law : Stmt := top 28
theorem sc_law : FnScope ["_law_script", "_law_draws_here", "_law_pool", "_law_marks", "_law_k", "_law_draw", "_law_term_here", "_law_handed", "_law_found"] ["_law_script"] (defScope st_law) := ⟨rfl, rfl, rfl, by decide +kernel, rfl, by decide +kernel, by decide +kernel⟩
theorem ok_law (T : Txt K mg) (S : Cs Pg w K mg base n) (F : Fun K "law" "law" st_law f fd) : FnOk Pg w K mg base CX0 (n + 1) f fd ["_law_script"] (spW K pr (n + 1) 24) := fn_ok F sc_law rfl rfl rfl fun cdv A outer s H E hr => by
    have nd := sc_law.nd
    have hu := hu150 hr
    show SdB _ (defBody st_law) (w_law (wpc pr n))
    unfold w_law w_law_t1
    exact (db_cons (ds_set (i := 1) nd (d_call S.c__law_draws hr (by rfl) (da_cons (d_var 0) (da_cons d_int da_nil))))
      (db_cons (ds_set (i := 2) nd (d_lst (da_cons (d_call S.c__law_name hr (by rfl) (da_cons (d_mt0 PySem.F.plainAttrs_list PySem.F.slot_list_pop PySem.F.type_list_pop ty_list m_pop (d_var 1)) da_nil)) (da_cons (d_call S.c__law_name hr (by rfl) (da_cons (d_mt0 PySem.F.plainAttrs_list PySem.F.slot_list_pop PySem.F.type_list_pop ty_list m_pop (d_var 1)) da_nil)) (da_cons (d_call S.c__law_name hr (by rfl) (da_cons (d_mt0 PySem.F.plainAttrs_list PySem.F.slot_list_pop PySem.F.type_list_pop ty_list m_pop (d_var 1)) da_nil)) (da_cons (d_call S.c__law_name hr (by rfl) (da_cons (d_mt0 PySem.F.plainAttrs_list PySem.F.slot_list_pop PySem.F.type_list_pop ty_list m_pop (d_var 1)) da_nil)) da_nil))))))
      (db_cons (ds_set (i := 3) nd d_dict0)
      (db_cons (ds_for PassesOwn.never rfl (di_r1 (by rfl) T.n_range (da_cons (d_op o_mod (d_mt0 PySem.F.plainAttrs_list PySem.F.slot_list_pop PySem.F.type_list_pop ty_list m_pop (d_var 1)) d_int) da_nil)) (dg_name (i := 4) nd)
      (db_one (ds_asg (d_call S.c__law_mark hr (by rfl) (da_cons (d_ix (d_var 1) (d_var 4) (fun _ _ => rfl)) (da_cons (d_var 2) da_nil))) (dg_subD hu (d_var 3) (d_ix (d_var 2) (d_op o_mod (d_var 4) d_int) (fun _ _ => rfl))))))
      (db_cons (ds_set (i := 5) nd (d_mt PySem.F.plainAttrs_list PySem.F.slot_list_pop PySem.F.type_list_pop ty_list m_popAt (d_var 1) (da_cons d_int da_nil)))
      (db_cons (ds_set (i := 6) nd (d_call S.c__law_wrapped hr (by rfl) (da_cons (d_call S.c__law_term hr (by rfl) (da_cons (d_var 1) (da_cons d_int (da_cons (d_var 2) da_nil)))) (da_cons (d_var 5) (da_cons (d_var 2) da_nil)))))
      (db_cons (ds_set (i := 7) nd (d_ty b_dictR (by rfl) T.n_dict bt_dict (da_cons (d_var 3) da_nil)))
      (db_cons (ds_set (i := 8) nd (d_call S.c_put hr (by rfl) (da_cons (d_var 6) (da_cons (d_var 7) da_nil))))
      (db_one (ds_ret (d_and (d_call S.c__law_meets hr (by rfl) (da_cons (d_var 6) (da_cons (d_var 8) (da_cons (d_var 3) da_nil)))) (d_and (d_cmp (o_req hu) (d_var 7) (d_var 3) (nomark _)) (d_one (d_cmp (o_eq hu) (d_call S.c_put hr (by rfl) (da_cons (d_var 6) (da_cons (d_var 7) da_nil))) (d_var 8) (nomark _)))))))))))))))
end
theorem all_mk {l : PySem.W.OpenLaw} {w : World} {K : PySem.W.Frag} {h : Heap} {mg : Str → Option Value} {fa f0 f1 f2 f3 f4 f5 f6 f7 f8 f9 f10 f11 f12 f13 f14 f15 f16 f17 f18 f19 f20 f21 f22 f23 f24 : Addr} (X : K.In h) (G : h.Ns mainGlobals mg) (hfa : mg "law" = some (.ref fa))
    {od0 an0 od1 an1 od2 an2 od3 an3 od4 an4 od5 an5 od6 an6 od7 an7 od8 an8 od9 an9 od10 an10 od11 an11 od12 an12 od13 an13 od14 an14 od15 an15 od16 an16 od17 an17 od18 an18 od19 an19 od20 an20 od21 an21 od22 an22 od23 an23 od24 an24 : Option Addr} {sl0 sl1 sl2 sl3 sl4 sl5 sl6 sl7 sl8 sl9 sl10 sl11 sl12 sl13 sl14 sl15 sl16 sl17 sl18 sl19 sl20 sl21 sl22 sl23 sl24 : Array (Option Value)} {oc0 kV0 dc0 pm0 cd0 ct0 oc1 kV1 dc1 pm1 cd1 ct1 oc2 kV2 dc2 pm2 cd2 ct2 oc3 kV3 dc3 pm3 cd3 ct3 oc4 kV4 dc4 pm4 cd4 ct4 oc5 kV5 dc5 pm5 cd5 ct5 oc6 kV6 dc6 pm6 cd6 ct6 oc7 kV7 dc7 pm7 cd7 ct7 oc8 kV8 dc8 pm8 cd8 ct8 oc9 kV9 dc9 pm9 cd9 ct9 oc10 kV10 dc10 pm10 cd10 ct10 oc11 kV11 dc11 pm11 cd11 ct11 oc12 kV12 dc12 pm12 cd12 ct12 oc13 kV13 dc13 pm13 cd13 ct13 oc14 kV14 dc14 pm14 cd14 ct14 oc15 kV15 dc15 pm15 cd15 ct15 oc16 kV16 dc16 pm16 cd16 ct16 oc17 kV17 dc17 pm17 cd17 ct17 oc18 kV18 dc18 pm18 cd18 ct18 oc19 kV19 dc19 pm19 cd19 ct19 oc20 kV20 dc20 pm20 cd20 ct20 oc21 kV21 dc21 pm21 cd21 ct21 oc22 kV22 dc22 pm22 cd22 ct22 oc23 kV23 dc23 pm23 cd23 ct23 oc24 kV24 dc24 pm24 cd24 ct24 : Value}
    (a0 : PySem.W.nsIn K mainGlobals "with_parts" = some (some (.ref f0))) (l0 : K.lookup f0 = some ⟨oc0, od0, .func (PySem.W.fnOf "with_parts" "with_parts" (defArgs st_with_parts) (defBody st_with_parts) (defScope st_with_parts) .none kV0 dc0 pm0 an0 cd0 ct0), sl0⟩) (c0 : PySem.W.codeIn K cd0 "with_parts" = true) (k0 : PySem.W.keepIn K (.ref f0) = true)
    (a1 : PySem.W.nsIn K mainGlobals "with_lasts" = some (some (.ref f1))) (l1 : K.lookup f1 = some ⟨oc1, od1, .func (PySem.W.fnOf "with_lasts" "with_lasts" (defArgs st_with_lasts) (defBody st_with_lasts) (defScope st_with_lasts) .none kV1 dc1 pm1 an1 cd1 ct1), sl1⟩) (c1 : PySem.W.codeIn K cd1 "with_lasts" = true) (k1 : PySem.W.keepIn K (.ref f1) = true)
    (a2 : PySem.W.nsIn K mainGlobals "scopes" = some (some (.ref f2))) (l2 : K.lookup f2 = some ⟨oc2, od2, .func (PySem.W.fnOf "scopes" "scopes" (defArgs st_scopes) (defBody st_scopes) (defScope st_scopes) .none kV2 dc2 pm2 an2 cd2 ct2), sl2⟩) (c2 : PySem.W.codeIn K cd2 "scopes" = true) (k2 : PySem.W.keepIn K (.ref f2) = true)
    (a3 : PySem.W.nsIn K mainGlobals "let_scopes" = some (some (.ref f3))) (l3 : K.lookup f3 = some ⟨oc3, od3, .func (PySem.W.fnOf "let_scopes" "let_scopes" (defArgs st_let_scopes) (defBody st_let_scopes) (defScope st_let_scopes) .none kV3 dc3 pm3 an3 cd3 ct3), sl3⟩) (c3 : PySem.W.codeIn K cd3 "let_scopes" = true) (k3 : PySem.W.keepIn K (.ref f3) = true)
    (a4 : PySem.W.nsIn K mainGlobals "rows_scopes" = some (some (.ref f4))) (l4 : K.lookup f4 = some ⟨oc4, od4, .func (PySem.W.fnOf "rows_scopes" "rows_scopes" (defArgs st_rows_scopes) (defBody st_rows_scopes) (defScope st_rows_scopes) .none kV4 dc4 pm4 an4 cd4 ct4), sl4⟩) (c4 : PySem.W.codeIn K cd4 "rows_scopes" = true) (k4 : PySem.W.keepIn K (.ref f4) = true)
    (a5 : PySem.W.nsIn K mainGlobals "put" = some (some (.ref f5))) (l5 : K.lookup f5 = some ⟨oc5, od5, .func (PySem.W.fnOf "put" "put" (defArgs st_put) (defBody st_put) (defScope st_put) .none kV5 dc5 pm5 an5 cd5 ct5), sl5⟩) (c5 : PySem.W.codeIn K cd5 "put" = true) (k5 : PySem.W.keepIn K (.ref f5) = true)
    (a6 : PySem.W.nsIn K mainGlobals "changed" = some (some (.ref f6))) (l6 : K.lookup f6 = some ⟨oc6, od6, .func (PySem.W.fnOf "changed" "changed" (defArgs st_changed) (defBody st_changed) (defScope st_changed) .none kV6 dc6 pm6 an6 cd6 ct6), sl6⟩) (c6 : PySem.W.codeIn K cd6 "changed" = true) (k6 : PySem.W.keepIn K (.ref f6) = true)
    (a7 : PySem.W.nsIn K mainGlobals "without" = some (some (.ref f7))) (l7 : K.lookup f7 = some ⟨oc7, od7, .func (PySem.W.fnOf "without" "without" (defArgs st_without) (defBody st_without) (defScope st_without) .none kV7 dc7 pm7 an7 cd7 ct7), sl7⟩) (c7 : PySem.W.codeIn K cd7 "without" = true) (k7 : PySem.W.keepIn K (.ref f7) = true)
    (a8 : PySem.W.nsIn K mainGlobals "_law_draws" = some (some (.ref f8))) (l8 : K.lookup f8 = some ⟨oc8, od8, .func (PySem.W.fnOf "_law_draws" "_law_draws" (defArgs st__law_draws) (defBody st__law_draws) (defScope st__law_draws) .none kV8 dc8 pm8 an8 cd8 ct8), sl8⟩) (c8 : PySem.W.codeIn K cd8 "_law_draws" = true) (k8 : PySem.W.keepIn K (.ref f8) = true)
    (a9 : PySem.W.nsIn K mainGlobals "_law_name" = some (some (.ref f9))) (l9 : K.lookup f9 = some ⟨oc9, od9, .func (PySem.W.fnOf "_law_name" "_law_name" (defArgs st__law_name) (defBody st__law_name) (defScope st__law_name) .none kV9 dc9 pm9 an9 cd9 ct9), sl9⟩) (c9 : PySem.W.codeIn K cd9 "_law_name" = true) (k9 : PySem.W.keepIn K (.ref f9) = true)
    (a10 : PySem.W.nsIn K mainGlobals "_law_unlike" = some (some (.ref f10))) (l10 : K.lookup f10 = some ⟨oc10, od10, .func (PySem.W.fnOf "_law_unlike" "_law_unlike" (defArgs st__law_unlike) (defBody st__law_unlike) (defScope st__law_unlike) .none kV10 dc10 pm10 an10 cd10 ct10), sl10⟩) (c10 : PySem.W.codeIn K cd10 "_law_unlike" = true) (k10 : PySem.W.keepIn K (.ref f10) = true)
    (a11 : PySem.W.nsIn K mainGlobals "_law_mark" = some (some (.ref f11))) (l11 : K.lookup f11 = some ⟨oc11, od11, .func (PySem.W.fnOf "_law_mark" "_law_mark" (defArgs st__law_mark) (defBody st__law_mark) (defScope st__law_mark) .none kV11 dc11 pm11 an11 cd11 ct11), sl11⟩) (c11 : PySem.W.codeIn K cd11 "_law_mark" = true) (k11 : PySem.W.keepIn K (.ref f11) = true)
    (a12 : PySem.W.nsIn K mainGlobals "_law_leaf" = some (some (.ref f12))) (l12 : K.lookup f12 = some ⟨oc12, od12, .func (PySem.W.fnOf "_law_leaf" "_law_leaf" (defArgs st__law_leaf) (defBody st__law_leaf) (defScope st__law_leaf) .none kV12 dc12 pm12 an12 cd12 ct12), sl12⟩) (c12 : PySem.W.codeIn K cd12 "_law_leaf" = true) (k12 : PySem.W.keepIn K (.ref f12) = true)
    (a13 : PySem.W.nsIn K mainGlobals "_law_chosen" = some (some (.ref f13))) (l13 : K.lookup f13 = some ⟨oc13, od13, .func (PySem.W.fnOf "_law_chosen" "_law_chosen" (defArgs st__law_chosen) (defBody st__law_chosen) (defScope st__law_chosen) .none kV13 dc13 pm13 an13 cd13 ct13), sl13⟩) (c13 : PySem.W.codeIn K cd13 "_law_chosen" = true) (k13 : PySem.W.keepIn K (.ref f13) = true)
    (a14 : PySem.W.nsIn K mainGlobals "_law_rows" = some (some (.ref f14))) (l14 : K.lookup f14 = some ⟨oc14, od14, .func (PySem.W.fnOf "_law_rows" "_law_rows" (defArgs st__law_rows) (defBody st__law_rows) (defScope st__law_rows) .none kV14 dc14 pm14 an14 cd14 ct14), sl14⟩) (c14 : PySem.W.codeIn K cd14 "_law_rows" = true) (k14 : PySem.W.keepIn K (.ref f14) = true)
    (a15 : PySem.W.nsIn K mainGlobals "_law_joined" = some (some (.ref f15))) (l15 : K.lookup f15 = some ⟨oc15, od15, .func (PySem.W.fnOf "_law_joined" "_law_joined" (defArgs st__law_joined) (defBody st__law_joined) (defScope st__law_joined) .none kV15 dc15 pm15 an15 cd15 ct15), sl15⟩) (c15 : PySem.W.codeIn K cd15 "_law_joined" = true) (k15 : PySem.W.keepIn K (.ref f15) = true)
    (a16 : PySem.W.nsIn K mainGlobals "_law_many" = some (some (.ref f16))) (l16 : K.lookup f16 = some ⟨oc16, od16, .func (PySem.W.fnOf "_law_many" "_law_many" (defArgs st__law_many) (defBody st__law_many) (defScope st__law_many) .none kV16 dc16 pm16 an16 cd16 ct16), sl16⟩) (c16 : PySem.W.codeIn K cd16 "_law_many" = true) (k16 : PySem.W.keepIn K (.ref f16) = true)
    (a17 : PySem.W.nsIn K mainGlobals "_law_term" = some (some (.ref f17))) (l17 : K.lookup f17 = some ⟨oc17, od17, .func (PySem.W.fnOf "_law_term" "_law_term" (defArgs st__law_term) (defBody st__law_term) (defScope st__law_term) .none kV17 dc17 pm17 an17 cd17 ct17), sl17⟩) (c17 : PySem.W.codeIn K cd17 "_law_term" = true) (k17 : PySem.W.keepIn K (.ref f17) = true)
    (a18 : PySem.W.nsIn K mainGlobals "_law_wrapped" = some (some (.ref f18))) (l18 : K.lookup f18 = some ⟨oc18, od18, .func (PySem.W.fnOf "_law_wrapped" "_law_wrapped" (defArgs st__law_wrapped) (defBody st__law_wrapped) (defScope st__law_wrapped) .none kV18 dc18 pm18 an18 cd18 ct18), sl18⟩) (c18 : PySem.W.codeIn K cd18 "_law_wrapped" = true) (k18 : PySem.W.keepIn K (.ref f18) = true)
    (a19 : PySem.W.nsIn K mainGlobals "_law_less" = some (some (.ref f19))) (l19 : K.lookup f19 = some ⟨oc19, od19, .func (PySem.W.fnOf "_law_less" "_law_less" (defArgs st__law_less) (defBody st__law_less) (defScope st__law_less) .none kV19 dc19 pm19 an19 cd19 ct19), sl19⟩) (c19 : PySem.W.codeIn K cd19 "_law_less" = true) (k19 : PySem.W.keepIn K (.ref f19) = true)
    (a20 : PySem.W.nsIn K mainGlobals "_law_all" = some (some (.ref f20))) (l20 : K.lookup f20 = some ⟨oc20, od20, .func (PySem.W.fnOf "_law_all" "_law_all" (defArgs st__law_all) (defBody st__law_all) (defScope st__law_all) .none kV20 dc20 pm20 an20 cd20 ct20), sl20⟩) (c20 : PySem.W.codeIn K cd20 "_law_all" = true) (k20 : PySem.W.keepIn K (.ref f20) = true)
    (a21 : PySem.W.nsIn K mainGlobals "_law_rows_meet" = some (some (.ref f21))) (l21 : K.lookup f21 = some ⟨oc21, od21, .func (PySem.W.fnOf "_law_rows_meet" "_law_rows_meet" (defArgs st__law_rows_meet) (defBody st__law_rows_meet) (defScope st__law_rows_meet) .none kV21 dc21 pm21 an21 cd21 ct21), sl21⟩) (c21 : PySem.W.codeIn K cd21 "_law_rows_meet" = true) (k21 : PySem.W.keepIn K (.ref f21) = true)
    (a22 : PySem.W.nsIn K mainGlobals "_law_choice_meets" = some (some (.ref f22))) (l22 : K.lookup f22 = some ⟨oc22, od22, .func (PySem.W.fnOf "_law_choice_meets" "_law_choice_meets" (defArgs st__law_choice_meets) (defBody st__law_choice_meets) (defScope st__law_choice_meets) .none kV22 dc22 pm22 an22 cd22 ct22), sl22⟩) (c22 : PySem.W.codeIn K cd22 "_law_choice_meets" = true) (k22 : PySem.W.keepIn K (.ref f22) = true)
    (a23 : PySem.W.nsIn K mainGlobals "_law_meets" = some (some (.ref f23))) (l23 : K.lookup f23 = some ⟨oc23, od23, .func (PySem.W.fnOf "_law_meets" "_law_meets" (defArgs st__law_meets) (defBody st__law_meets) (defScope st__law_meets) .none kV23 dc23 pm23 an23 cd23 ct23), sl23⟩) (c23 : PySem.W.codeIn K cd23 "_law_meets" = true) (k23 : PySem.W.keepIn K (.ref f23) = true)
    (a24 : PySem.W.nsIn K mainGlobals "law" = some (some (.ref f24))) (l24 : K.lookup f24 = some ⟨oc24, od24, .func (PySem.W.fnOf "law" "law" (defArgs st_law) (defBody st_law) (defScope st_law) .none kV24 dc24 pm24 an24 cd24 ct24), sl24⟩) (c24 : PySem.W.codeIn K cd24 "law" = true) (k24 : PySem.W.keepIn K (.ref f24) = true)
    (z_any : PySem.W.nsIn K mainGlobals "any" = some none)
    (z_dict : PySem.W.nsIn K mainGlobals "dict" = some none)
    (z_isinstance : PySem.W.nsIn K mainGlobals "isinstance" = some none)
    (z_len : PySem.W.nsIn K mainGlobals "len" = some none)
    (z_max : PySem.W.nsIn K mainGlobals "max" = some none)
    (z_range : PySem.W.nsIn K mainGlobals "range" = some none)
    (z_tuple : PySem.W.nsIn K mainGlobals "tuple" = some none)
    (z_zip : PySem.W.nsIn K mainGlobals "zip" = some none)
    : ∃ fd : FuncData, (∀ (s : Shared) (v : Value), BindsTo s fd ⟨[v], []⟩ [("_law_script", v)]) ∧ ∀ base : Heap, K.In base → base.Ns mainGlobals mg → FnOk l.prog w K mg base CX0 60 fa fd ["_law_script"] (spW K pr 60 24) := by
  have e := hfa.symm.trans (PySem.W.mg_of X G a24)
  cases e
  have T : Txt K mg := ⟨PySem.W.mg_none_of X G z_any, PySem.W.mg_none_of X G z_dict, PySem.W.mg_none_of X G z_isinstance, PySem.W.mg_none_of X G z_len, PySem.W.mg_none_of X G z_max, PySem.W.mg_none_of X G z_range, PySem.W.mg_none_of X G z_tuple, PySem.W.mg_none_of X G z_zip⟩
  have F0 := fun_mk (st := st_with_parts) l0 c0 k0
  have B0 : Binds K _ ["term", "given"] [] := F0.binds (fun _ _ _ _ _ _ us hl => match us, hl with | [_, _], _ => rfl)
  have M0 := PySem.W.mg_of X G a0
  have F1 := fun_mk (st := st_with_lasts) l1 c1 k1
  have B1 : Binds K _ ["tuples", "lasts"] [] := F1.binds (fun _ _ _ _ _ _ us hl => match us, hl with | [_, _], _ => rfl)
  have M1 := PySem.W.mg_of X G a1
  have F2 := fun_mk (st := st_scopes) l2 c2 k2
  have B2 : Binds K _ ["term"] [] := F2.binds (fun _ _ _ _ _ _ us hl => match us, hl with | [_], _ => rfl)
  have M2 := PySem.W.mg_of X G a2
  have F3 := fun_mk (st := st_let_scopes) l3 c3 k3
  have B3 : Binds K _ ["pairs", "body"] [] := F3.binds (fun _ _ _ _ _ _ us hl => match us, hl with | [_, _], _ => rfl)
  have M3 := PySem.W.mg_of X G a3
  have F4 := fun_mk (st := st_rows_scopes) l4 c4 k4
  have B4 : Binds K _ ["body", "steps"] [] := F4.binds (fun _ _ _ _ _ _ us hl => match us, hl with | [_, _], _ => rfl)
  have M4 := PySem.W.mg_of X G a4
  have F5 := fun_mk (st := st_put) l5 c5 k5
  have B5 : Binds K _ ["term", "marks"] [] := F5.binds (fun _ _ _ _ _ _ us hl => match us, hl with | [_, _], _ => rfl)
  have M5 := PySem.W.mg_of X G a5
  have F6 := fun_mk (st := st_changed) l6 c6 k6
  have B6 : Binds K _ ["term", "marks"] [] := F6.binds (fun _ _ _ _ _ _ us hl => match us, hl with | [_, _], _ => rfl)
  have M6 := PySem.W.mg_of X G a6
  have F7 := fun_mk (st := st_without) l7 c7 k7
  have B7 : Binds K _ ["marks", "names"] [] := F7.binds (fun _ _ _ _ _ _ us hl => match us, hl with | [_, _], _ => rfl)
  have M7 := PySem.W.mg_of X G a7
  have F8 := fun_mk (st := st__law_draws) l8 c8 k8
  have B8 : Binds K _ ["_law_script", "_law_many_here"] [] := F8.binds (fun _ _ _ _ _ _ us hl => match us, hl with | [_, _], _ => rfl)
  have M8 := PySem.W.mg_of X G a8
  have F9 := fun_mk (st := st__law_name) l9 c9 k9
  have B9 : Binds K _ ["_law_draw"] [] := F9.binds (fun _ _ _ _ _ _ us hl => match us, hl with | [_], _ => rfl)
  have M9 := PySem.W.mg_of X G a9
  have F10 := fun_mk (st := st__law_unlike) l10 c10 k10
  have B10 : Binds K _ ["_law_draw", "_law_many_here", "_law_pool"] [] := F10.binds (fun _ _ _ _ _ _ us hl => match us, hl with | [_, _, _], _ => rfl)
  have M10 := PySem.W.mg_of X G a10
  have F11 := fun_mk (st := st__law_mark) l11 c11 k11
  have B11 : Binds K _ ["_law_draw", "_law_pool"] [] := F11.binds (fun _ _ _ _ _ _ us hl => match us, hl with | [_, _], _ => rfl)
  have M11 := PySem.W.mg_of X G a11
  have F12 := fun_mk (st := st__law_leaf) l12 c12 k12
  have B12 : Binds K _ ["_law_draw", "_law_pool"] [] := F12.binds (fun _ _ _ _ _ _ us hl => match us, hl with | [_, _], _ => rfl)
  have M12 := PySem.W.mg_of X G a12
  have F13 := fun_mk (st := st__law_chosen) l13 c13 k13
  have B13 : Binds K _ ["_law_draw", "_law_some", "_law_pool"] [] := F13.binds (fun _ _ _ _ _ _ us hl => match us, hl with | [_, _, _], _ => rfl)
  have M13 := PySem.W.mg_of X G a13
  have F14 := fun_mk (st := st__law_rows) l14 c14 k14
  have B14 : Binds K _ ["_law_draw", "_law_some", "_law_pool"] [] := F14.binds (fun _ _ _ _ _ _ us hl => match us, hl with | [_, _, _], _ => rfl)
  have M14 := PySem.W.mg_of X G a14
  have F15 := fun_mk (st := st__law_joined) l15 c15 k15
  have B15 : Binds K _ ["_law_sort", "_law_draw", "_law_some", "_law_pool"] [] := F15.binds (fun _ _ _ _ _ _ us hl => match us, hl with | [_, _, _, _], _ => rfl)
  have M15 := PySem.W.mg_of X G a15
  have F16 := fun_mk (st := st__law_many) l16 c16 k16
  have B16 : Binds K _ ["_law_sort", "_law_draw"] [] := F16.binds (fun _ _ _ _ _ _ us hl => match us, hl with | [_, _], _ => rfl)
  have M16 := PySem.W.mg_of X G a16
  have F17 := fun_mk (st := st__law_term) l17 c17 k17
  have B17 : Binds K _ ["_law_draws_here", "_law_deep", "_law_pool"] [] := F17.binds (fun _ _ _ _ _ _ us hl => match us, hl with | [_, _, _], _ => rfl)
  have M17 := PySem.W.mg_of X G a17
  have F18 := fun_mk (st := st__law_wrapped) l18 c18 k18
  have B18 : Binds K _ ["_law_term_here", "_law_draw", "_law_pool"] [] := F18.binds (fun _ _ _ _ _ _ us hl => match us, hl with | [_, _, _], _ => rfl)
  have M18 := PySem.W.mg_of X G a18
  have F19 := fun_mk (st := st__law_less) l19 c19 k19
  have B19 : Binds K _ ["_law_marks", "_law_names"] [] := F19.binds (fun _ _ _ _ _ _ us hl => match us, hl with | [_, _], _ => rfl)
  have M19 := PySem.W.mg_of X G a19
  have F20 := fun_mk (st := st__law_all) l20 c20 k20
  have B20 : Binds K _ ["_law_olds", "_law_news", "_law_marks"] [] := F20.binds (fun _ _ _ _ _ _ us hl => match us, hl with | [_, _, _], _ => rfl)
  have M20 := PySem.W.mg_of X G a20
  have F21 := fun_mk (st := st__law_rows_meet) l21 c21 k21
  have B21 : Binds K _ ["_law_old", "_law_new", "_law_marks"] [] := F21.binds (fun _ _ _ _ _ _ us hl => match us, hl with | [_, _, _], _ => rfl)
  have M21 := PySem.W.mg_of X G a21
  have F22 := fun_mk (st := st__law_choice_meets) l22 c22 k22
  have B22 : Binds K _ ["_law_old", "_law_new", "_law_marks"] [] := F22.binds (fun _ _ _ _ _ _ us hl => match us, hl with | [_, _, _], _ => rfl)
  have M22 := PySem.W.mg_of X G a22
  have F23 := fun_mk (st := st__law_meets) l23 c23 k23
  have B23 : Binds K _ ["_law_old", "_law_new", "_law_marks"] [] := F23.binds (fun _ _ _ _ _ _ us hl => match us, hl with | [_, _, _], _ => rfl)
  have M23 := PySem.W.mg_of X G a23
  have F24 := fun_mk (st := st_law) l24 c24 k24
  have B24 : Binds K _ ["_law_script"] [] := F24.binds (fun _ _ _ _ _ _ us hl => match us, hl with | [_], _ => rfl)
  have M24 := PySem.W.mg_of X G a24
  refine ⟨PySem.W.fnOf "law" "law" (defArgs st_law) (defBody st_law) (defScope st_law) .none kV24 dc24 pm24 an24 cd24 ct24, fun s v => .of_eq rfl, fun base _ _ => ?_⟩
  have CS : ∀ n, Cs l.prog w K mg base n := fun n => by
    induction n with
    | zero => exact ⟨ca_zero F0 B0 M0, ca_zero F1 B1 M1, ca_zero F2 B2 M2, ca_zero F3 B3 M3, ca_zero F4 B4 M4, ca_zero F5 B5 M5, ca_zero F6 B6 M6, ca_zero F7 B7 M7, ca_zero F8 B8 M8, ca_zero F9 B9 M9, ca_zero F10 B10 M10, ca_zero F11 B11 M11, ca_zero F12 B12 M12, ca_zero F13 B13 M13, ca_zero F14 B14 M14, ca_zero F15 B15 M15, ca_zero F16 B16 M16, ca_zero F17 B17 M17, ca_zero F18 B18 M18, ca_zero F19 B19 M19, ca_zero F20 B20 M20, ca_zero F21 B21 M21, ca_zero F22 B22 M22, ca_zero F23 B23 M23, ca_zero F24 B24 M24⟩
    | succ n ih => exact ⟨ca_succ F0 B0 M0 (ok_with_parts T ih F0), ca_succ F1 B1 M1 (ok_with_lasts T ih F1), ca_succ F2 B2 M2 (ok_scopes T ih F2), ca_succ F3 B3 M3 (ok_let_scopes T ih F3), ca_succ F4 B4 M4 (ok_rows_scopes T ih F4), ca_succ F5 B5 M5 (ok_put T ih F5), ca_succ F6 B6 M6 (ok_changed T ih F6), ca_succ F7 B7 M7 (ok_without T ih F7), ca_succ F8 B8 M8 (ok__law_draws T ih F8), ca_succ F9 B9 M9 (ok__law_name T ih F9), ca_succ F10 B10 M10 (ok__law_unlike T ih F10), ca_succ F11 B11 M11 (ok__law_mark T ih F11), ca_succ F12 B12 M12 (ok__law_leaf T ih F12), ca_succ F13 B13 M13 (ok__law_chosen T ih F13), ca_succ F14 B14 M14 (ok__law_rows T ih F14), ca_succ F15 B15 M15 (ok__law_joined T ih F15), ca_succ F16 B16 M16 (ok__law_many T ih F16), ca_succ F17 B17 M17 (ok__law_term T ih F17), ca_succ F18 B18 M18 (ok__law_wrapped T ih F18), ca_succ F19 B19 M19 (ok__law_less T ih F19), ca_succ F20 B20 M20 (ok__law_all T ih F20), ca_succ F21 B21 M21 (ok__law_rows_meet T ih F21), ca_succ F22 B22 M22 (ok__law_choice_meets T ih F22), ca_succ F23 B23 M23 (ok__law_meets T ih F23), ca_succ F24 B24 M24 (ok_law T ih F24)⟩
  exact ok_law T (CS (59)) F24
end K30
set_option Elab.async false
set_option linter.all false
set_option maxRecDepth 100000
set_option maxHeartbeats 4000000
namespace K30
open PySem PySem.Spec PyProof.Rows L2 WL
local macro_rules | `(tactic| walk_at "ws") => `(tactic| try simp (config := { decide := true }) only [eVar, eC, eBin, eUn, aNil, aCons, eTup, eLst, eCall, eBi, eMt, eIf, eAnd, eOr, eNot, tTru, tBl, tAn, tOr', tNo, eChain, wAdd, wSub, wMul, wDiv, wMod, wPow, wNeg, wLt, wLe, wGt, wGe, wIsN, wNotN, wIdx, oNo, oSome, wSl, eSl, bLen, bMax, bMin, bTuple, bList, eIsi, tyN, gNm, gsNil, gsCons, gTp, gSb, sPass, sSeq, sExpr, sRet, sRetN, sIf, sAsg, sBrk, sCont, sNever, sFor, iSeq, iR1, iR2, iEn, capW, tYes, eComp, tyL', tyS, mAppend, mPop, mPopAt, wEq, wNe, wIn, wNotIn, wEq_str, wEq_int, erase0, atI_0, atI_1, atI_2, atI_3, atI_4, atI_m1, atI_m2, atI_m3, atI_m4, wEq_bl,
  List.map_cons, List.map_nil, List.length_cons, List.length_nil, List.replicate, List.cons_append, List.nil_append, List.getElem?_cons_zero, List.getElem?_cons_succ, List.set_cons_zero, List.set_cons_succ, Option.some.injEq, T.int.injEq, T.str.injEq, T.bl.injEq, T.ref.injEq, T.tup.injEq, T.cl.injEq, exists_eq_left', exists_eq_left, exists_eq', exists_and_left, and_assoc, List.cons.injEq, and_true, true_and, reduceCtorEq, false_and, exists_false, List.append_nil, if_true, if_false, Bool.not_not, decide_eq_true_eq, Bool.not_eq_true', decide_eq_false_iff_not, Bool.false_eq_true, List.nil_eq, Option.bind_none, Option.bind_some, Option.join_some, Nat.reduceAdd, Nat.reduceSub, Nat.sub_self, Nat.zero_add, Nat.sub_zero, beq_iff_eq, Bool.not_false, Bool.not_true])
/-! tests by a word or a number, one after another: what is not taken is not walked -/
section
variable {A B : WS} {D : We} {τ : Sw} {C : Hw} {i k : Nat} {v : T} {r : List T} {s s' w : Str} {x y : Int}
theorem k_a0 (h : τ[0]? = some (some (.tup (v :: r)))) (q : B D (τ.set k (some v)) C) : sSeq (sAsg (eBin wIdx (eVar 0) (eC (.int 0))) (gNm k)) B D τ C := ⟨_, h, _, atI_0, q⟩
theorem k_yes (h : τ[i]? = some (some (.str w))) (hw : w = s) (q : A { D with nx := B D } τ C) : sSeq (sIf (tBl (eBin wEq (eVar i) (eC (.str s)))) A sPass) B D τ C := by
  refine ⟨_, h, ?_⟩
  simp only [eC]
  rw [wEq, wEq_str, hw]
  refine ⟨true, by simp, ?_⟩
  rw [if_pos rfl]; exact q
theorem k_no (h : τ[i]? = some (some (.str w))) (hw : w ≠ s) (q : B D τ C) : sSeq (sIf (tBl (eBin wEq (eVar i) (eC (.str s)))) A sPass) B D τ C := by
  refine ⟨_, h, ?_⟩
  simp only [eC]
  rw [wEq, wEq_str]
  refine ⟨false, by simp [hw], ?_⟩
  rw [if_neg (by decide)]; exact q
theorem k_yes2 (h : τ[i]? = some (some (.str w))) (hw : w = s ∨ w = s') (q : A { D with nx := B D } τ C) : sSeq (sIf (tOr' (tBl (eBin wEq (eVar i) (eC (.str s)))) (tBl (eBin wEq (eVar i) (eC (.str s'))))) A sPass) B D τ C := by
  refine ⟨_, h, ?_⟩
  simp only [eC]
  rw [wEq, wEq_str]
  by_cases c : w = s
  · refine ⟨true, by simp [c], ?_⟩
    rw [if_pos rfl]; exact q
  · refine ⟨false, by simp [c], ?_⟩
    rw [if_neg (by decide)]
    refine ⟨_, h, ?_⟩
    simp only [eC]
    rw [wEq_str]
    have c' : w = s' := hw.resolve_left c
    refine ⟨true, by simp [c'], ?_⟩
    rw [if_pos rfl]; exact q
theorem k_no2 (h : τ[i]? = some (some (.str w))) (hw : w ≠ s) (hw' : w ≠ s') (q : B D τ C) : sSeq (sIf (tOr' (tBl (eBin wEq (eVar i) (eC (.str s)))) (tBl (eBin wEq (eVar i) (eC (.str s'))))) A sPass) B D τ C := by
  refine ⟨_, h, ?_⟩
  simp only [eC]
  rw [wEq, wEq_str]
  refine ⟨false, by simp [hw], ?_⟩
  rw [if_neg (by decide)]
  refine ⟨_, h, ?_⟩
  simp only [eC]
  rw [wEq_str]
  refine ⟨false, by simp [hw'], ?_⟩
  rw [if_neg (by decide)]; exact q
theorem k_yesI (h : τ[i]? = some (some (.int x))) (hw : x = y) (q : A { D with nx := B D } τ C) : sSeq (sIf (tBl (eBin wEq (eVar i) (eC (.int y)))) A sPass) B D τ C := by
  refine ⟨_, h, ?_⟩
  simp only [eC]
  rw [wEq, wEq_int, hw]
  refine ⟨true, by simp, ?_⟩
  rw [if_pos rfl]; exact q
theorem k_noI (h : τ[i]? = some (some (.int x))) (hw : x ≠ y) (q : B D τ C) : sSeq (sIf (tBl (eBin wEq (eVar i) (eC (.int y)))) A sPass) B D τ C := by
  refine ⟨_, h, ?_⟩
  simp only [eC]
  rw [wEq, wEq_int]
  refine ⟨false, by simp [hw], ?_⟩
  rw [if_neg (by decide)]; exact q
/-- the first word of the first variable -/
theorem k_yesX (h : τ[0]? = some (some (.tup (.str w :: r)))) (hw : w = s) (q : A { D with nx := B D } τ C) : sSeq (sIf (tBl (eBin wEq (eBin wIdx (eVar 0) (eC (.int 0))) (eC (.str s)))) A sPass) B D τ C := by
  refine ⟨_, h, _, atI_0, ?_⟩
  simp only [eC]
  rw [wEq, wEq_str, hw]
  refine ⟨true, by simp, ?_⟩
  rw [if_pos rfl]; exact q
theorem k_noX (h : τ[0]? = some (some (.tup (.str w :: r)))) (hw : w ≠ s) (q : B D τ C) : sSeq (sIf (tBl (eBin wEq (eBin wIdx (eVar 0) (eC (.int 0))) (eC (.str s)))) A sPass) B D τ C := by
  refine ⟨_, h, _, atI_0, ?_⟩
  simp only [eC]
  rw [wEq, wEq_str]
  refine ⟨false, by simp [hw], ?_⟩
  rw [if_neg (by decide)]; exact q
theorem k_noX2 (h : τ[0]? = some (some (.tup (.str w :: r)))) (hw : w ≠ s) (hw' : w ≠ s') (q : B D τ C) : sSeq (sIf (tOr' (tBl (eBin wEq (eBin wIdx (eVar 0) (eC (.int 0))) (eC (.str s)))) (tBl (eBin wEq (eBin wIdx (eVar 0) (eC (.int 0))) (eC (.str s'))))) A sPass) B D τ C := by
  refine ⟨_, h, _, atI_0, ?_⟩
  simp only [eC]
  rw [wEq, wEq_str]
  refine ⟨false, by simp [hw], ?_⟩
  rw [if_neg (by decide)]
  refine ⟨_, h, _, atI_0, ?_⟩
  simp only [eC]
  rw [wEq_str]
  refine ⟨false, by simp [hw'], ?_⟩
  rw [if_neg (by decide)]; exact q
theorem k_yesX2 (h : τ[0]? = some (some (.tup (.str w :: r)))) (hw : w = s ∨ w = s') (q : A { D with nx := B D } τ C) : sSeq (sIf (tOr' (tBl (eBin wEq (eBin wIdx (eVar 0) (eC (.int 0))) (eC (.str s)))) (tBl (eBin wEq (eBin wIdx (eVar 0) (eC (.int 0))) (eC (.str s'))))) A sPass) B D τ C := by
  refine ⟨_, h, _, atI_0, ?_⟩
  simp only [eC]
  rw [wEq, wEq_str]
  by_cases c : w = s
  · refine ⟨true, by simp [c], ?_⟩
    rw [if_pos rfl]; exact q
  · refine ⟨false, by simp [c], ?_⟩
    rw [if_neg (by decide)]
    refine ⟨_, h, _, atI_0, ?_⟩
    simp only [eC]
    rw [wEq_str]
    have c' : w = s' := hw.resolve_left c
    refine ⟨true, by simp [c'], ?_⟩
    rw [if_pos rfl]; exact q
end
/-! ### what the program's own defs give -/
def rowsSc : List T → List (T × List T × T) → List (List T × T)
  | _, [] => []
  | b, z :: r => (b, z.2.2) :: rowsSc (b ++ z.2.1) r
def mids : List (T × List T × T) → List T
  | [] => []
  | z :: r => z.2.1 ++ mids r
theorem rowsSc_len : ∀ (b : List T) (zs : List (T × List T × T)), (rowsSc b zs).length = zs.length
  | _, [] => rfl
  | b, z :: r => by simp [rowsSc, rowsSc_len (b ++ z.2.1) r]
theorem rowsSc_snd : ∀ (b : List T) (zs : List (T × List T × T)), (rowsSc b zs).map (·.2) = zs.map (·.2.2)
  | _, [] => rfl
  | b, z :: r => by simp [rowsSc, rowsSc_snd (b ++ z.2.1) r]
theorem rowsSc_app : ∀ (b : List T) (zs : List (T × List T × T)) (z : T × List T × T), rowsSc b (zs ++ [z]) = rowsSc b zs ++ [(b ++ mids zs, z.2.2)]
  | b, [], z => by simp [rowsSc, mids]
  | b, y :: r, z => by simp [rowsSc, mids, rowsSc_app (b ++ y.2.1) r z]
theorem mids_app : ∀ (zs : List (T × List T × T)) (z : T × List T × T), mids (zs ++ [z]) = mids zs ++ z.2.1
  | [], z => by simp [mids]
  | y :: r, z => by simp [mids, mids_app r z]
def sorts : List Str := ["does", "call", "first", "fun", "let", "shape", "choose", "rows"]
/-- a term's own tuple: the names bound in each part, and the part; how many steps it has, where it is rows -/
inductive Sc : T → Option Nat → List (List T × T) → Prop
  | does {o A B : T} : Sc (.tup [.str "does", o, A, B]) none [([], A), ([], B)]
  | call {A B : T} : Sc (.tup [.str "call", A, B]) none [([], A), ([], B)]
  | first {A B : T} : Sc (.tup [.str "first", A, B]) none [([], A), ([], B)]
  | fun_ {x B : T} : Sc (.tup [.str "fun", x, B]) none [([x], B)]
  | let_ {B : T} {xs : List (T × T)} (h : xs.length ≤ 1000) : Sc (.tup [.str "let", .tup (xs.map fun x => .tup [x.1, x.2]), B]) none (xs.map (fun x => (xs.map (·.1), x.2)) ++ [(xs.map (·.1), B)])
  | shape {c : T} {ps : List T} (h : ps.length ≤ 1000) : Sc (.tup [.str "shape", c, .tup ps]) none (ps.map fun x => ([], x))
  | choose {E : T} {ys : List (T × List T × T)} (h : ys.length ≤ 1000) : Sc (.tup [.str "choose", E, .tup (ys.map fun y => .tup [y.1, .tup y.2.1, y.2.2])]) none (([], E) :: ys.map (·.2))
  | rows {E : T} {zs : List (T × List T × T)} (h : zs.length ≤ 1000) (hm : ∀ z ∈ zs, z.2.1.length ≤ 1) : Sc (.tup [.str "rows", E, .tup (zs.map fun z => .tup (z.1 :: (z.2.1 ++ [z.2.2])))]) (some zs.length) ((mids zs, E) :: rowsSc [] zs)
  | other {w : Str} {rest : List T} (h : w ∉ sorts) : Sc (.tup (.str w :: rest)) none []
def scT (s : List T × T) : T := .tup [.tup s.1, s.2]
section
variable {C : Hw} {Q : WK} {χ : WX} {n : Nat}
theorem s_let_scopes {B : T} {xs : List (T × T)} (h : xs.length ≤ 1000) (q : ∀ p C', Ex C C' → C p = none → C' p = some (.lst ((xs.map (fun x => (xs.map (·.1), x.2)) ++ [(xs.map (·.1), B)]).map scT)) → Q (.ref p) C') :
    wpc pr (n + 1) i_let_scopes [.tup (xs.map fun x => .tup [x.1, x.2]), B] C Q χ := by
  refine u_let_scopes rfl ?_
  unfold w_let_scopes
  walk_at "ws"
  have hl : (xs.map fun x : T × T => T.tup [x.1, x.2]).length ≤ sizeLine := by rw [List.length_map]; exact small63 (by omega)
  refine comp_pure (fun t => match t with | .tup [a, _] => a | _ => .non) trivial hl (fun x hx R hR => ?_) fun p hp => ?_
  · obtain ⟨y, _, rfl⟩ := List.mem_map.mp hx
    walk_at "ws"
    exact hR
  refine ⟨_, up_same, ?_⟩
  have e : (xs.map fun x : T × T => T.tup [x.1, x.2]).map (fun t => match t with | .tup [a, _] => a | _ => T.non) = xs.map (·.1) := by rw [List.map_map]; rfl
  rw [e]
  refine comp_pure (fun t => match t with | .tup [_, b] => .tup [.tup (xs.map (·.1)), b] | _ => .non) trivial hl (fun x hx R hR => ?_) fun p2 hp2 => ?_
  · obtain ⟨y, _, rfl⟩ := List.mem_map.mp hx
    walk_at "ws"
    exact hR
  intro p3 hp3
  obtain ⟨n2, e2⟩ := fr1 hp2
  obtain ⟨n32, h32⟩ := fr1 hp3
  obtain ⟨n31, e3⟩ := fr1 h32
  refine ⟨_, by rw [up_ne n32.symm]; exact up_same, _, up_same, ?_, fun p4 hp4 => ?_⟩
  · rw [List.length_map, List.length_map]; exact small63 (by show xs.length + 1 ≤ 100000; omega)
  · obtain ⟨n43, h43⟩ := fr1 hp4
    obtain ⟨n42, h42⟩ := fr1 h43
    obtain ⟨n41, e4⟩ := fr1 h42
    refine q p4 _ ((((Ex.new hp).up e2).up e3).up e4) e4 ?_
    rw [up_same, List.map_append, List.map_map, List.map_map]
    rfl
theorem cut_mid {a z : T} {m : List T} (h : m.length ≤ 1) : cut (a :: (m ++ [z])) (some 1) (some (-1)) = m := by
  match m, h with
  | [], _ => rfl
  | [x], _ => rfl
theorem not_whole {a z : T} {m : List T} (h : m.length ≤ 1) : ¬ (HT.sIx (a :: (m ++ [z])).length 0 (some 1) = 0 ∧ HT.sIx (a :: (m ++ [z])).length (a :: (m ++ [z])).length (some (-1)) = (a :: (m ++ [z])).length) := by
  match m, h with
  | [], _ => show ¬ (HT.sIx 2 0 (some 1) = 0 ∧ HT.sIx 2 2 (some (-1)) = 2); decide
  | [x], _ => show ¬ (HT.sIx 3 0 (some 1) = 0 ∧ HT.sIx 3 3 (some (-1)) = 3); decide
theorem last_at {a z : T} {m : List T} (h : m.length ≤ 1) : atI (a :: (m ++ [z])) (-1) = some z := by
  match m, h with
  | [], _ => rfl
  | [x], _ => rfl
theorem mids_len : ∀ {zs : List (T × List T × T)}, (∀ z ∈ zs, z.2.1.length ≤ 1) → (mids zs).length ≤ zs.length
  | [], _ => Nat.le_refl _
  | z :: r, h => by
    have h1 := mids_len (zs := r) fun y hy => h y (by simp [hy])
    have h2 := h z (by simp)
    simp only [mids, List.length_append, List.length_cons]; omega
theorem s_rows_scopes {E : T} {zs : List (T × List T × T)} (h : zs.length ≤ 1000) (hm : ∀ z ∈ zs, z.2.1.length ≤ 1) (q : ∀ p C', Ex C C' → C p = none → C' p = some (.lst (((mids zs, E) :: rowsSc [] zs).map scT)) → Q (.ref p) C') :
    wpc pr (n + 1) i_rows_scopes [E, .tup (zs.map fun z => .tup (z.1 :: (z.2.1 ++ [z.2.2])))] C Q χ := by
  refine u_rows_scopes rfl ?_
  unfold w_rows_scopes
  walk_at "ws"
  intro p hp
  refine for_inv (fun i τ C' => ∃ x4, τ = [some E, some (.tup (zs.map fun z => .tup (z.1 :: (z.2.1 ++ [z.2.2])))), some (.tup (mids (zs.take i))), some (.ref p), x4] ∧ C' = up C p (.lst ((rowsSc [] (zs.take i)).map scT))) ⟨none, rfl, rfl⟩ (fun _ _ _ _ _ => trivial) ?_ ?_
  · rintro i x τ C' N hx ⟨x4, rfl, rfl⟩ hN
    rw [List.getElem?_map] at hx
    cases hz : zs[i]? with
    | none => rw [hz] at hx; cases hx
    | some z =>
      rw [hz] at hx
      cases hx
      have hi : i < zs.length := (List.getElem?_eq_some_iff.mp hz).1
      have hz1 := hm z (List.mem_of_getElem? hz)
      have ml : (mids (zs.take i)).length ≤ 1000 := by
        have := mids_len (zs := zs.take i) fun y hy => hm y (List.mem_of_mem_take hy)
        rw [List.length_take] at this; omega
      walk_at "ws"
      refine ⟨⟨_, up_same⟩, z.2.2, last_at hz1, _, up_same, ?_, ?_⟩
      · rw [List.length_map, rowsSc_len, List.length_take]; exact small63' (by omega)
      · refine ⟨not_whole (a := z.1) hz1, ?_, hN _ _ ⟨some (.tup (z.1 :: (z.2.1 ++ [z.2.2]))), ?_, ?_⟩⟩
        · rw [cut_mid hz1]; exact small63 (by omega)
        · rw [cut_mid hz1, List.take_add_one, hz, show (some z).toList = [z] from rfl, mids_app]
        · rw [up_up, List.take_add_one, hz, show (some z).toList = [z] from rfl, rowsSc_app, List.map_append]
          rfl
  · rintro τ C' ⟨x4, rfl, rfl⟩
    rw [List.length_map, List.take_length]
    walk_at "ws"
    intro p2 hp2
    obtain ⟨n2, e2⟩ := fr1 hp2
    refine ⟨_, up_same, _, by rw [up_ne n2.symm]; exact up_same, ?_, fun p3 hp3 => ?_⟩
    · rw [List.length_map, rowsSc_len]; exact small63 (by show 1 + _ ≤ _; omega)
    · obtain ⟨n32, h32⟩ := fr1 hp3
      obtain ⟨n31, e3⟩ := fr1 h32
      refine q p3 _ (((Ex.new hp).up e2).up e3) e3 ?_
      rw [up_same]; rfl
theorem s_scopes {t : T} {e : Option Nat} {ss : List (List T × T)} (h : Sc t e ss) (q : ∀ p C', Ex C C' → C p = none → C' p = some (.lst (ss.map scT)) → Q (.ref p) C') : wpc pr (n + 2) i_scopes [t] C Q χ := by
  refine u_scopes rfl ?_
  unfold w_scopes
  cases h with
  | does => refine k_a0 rfl (k_yes rfl rfl ?_); walk_at "ws"; exact fun p hp => q p _ (Ex.new hp) hp up_same
  | call => refine k_a0 rfl (k_no rfl (by decide +kernel) (k_yes2 rfl (.inl rfl) ?_)); walk_at "ws"; exact fun p hp => q p _ (Ex.new hp) hp up_same
  | first => refine k_a0 rfl (k_no rfl (by decide +kernel) (k_yes2 rfl (.inr rfl) ?_)); walk_at "ws"; exact fun p hp => q p _ (Ex.new hp) hp up_same
  | fun_ => refine k_a0 rfl (k_no rfl (by decide +kernel) (k_no2 rfl (by decide +kernel) (by decide +kernel) (k_yes rfl rfl ?_))); walk_at "ws"; exact fun p hp => q p _ (Ex.new hp) hp up_same
  | let_ h => refine k_a0 rfl (k_no rfl (by decide +kernel) (k_no2 rfl (by decide +kernel) (by decide +kernel) (k_no rfl (by decide +kernel) (k_yes rfl rfl ?_)))); walk_at "ws"; exact s_let_scopes h q
  | shape h =>
    refine k_a0 rfl (k_no rfl (by decide +kernel) (k_no2 rfl (by decide +kernel) (by decide +kernel) (k_no rfl (by decide +kernel) (k_no rfl (by decide +kernel) (k_yes rfl rfl ?_)))))
    walk_at "ws"
    refine comp_pure (fun t => .tup [.tup [], t]) trivial (small63 (by omega)) (fun x hx R hR => ?_) fun p hp => q p _ (Ex.new hp) hp ?_
    · walk_at "ws"
      exact hR
    · rw [up_same, List.map_map]; rfl
  | @choose E ys h =>
    refine k_a0 rfl (k_no rfl (by decide +kernel) (k_no2 rfl (by decide +kernel) (by decide +kernel) (k_no rfl (by decide +kernel) (k_no rfl (by decide +kernel) (k_no rfl (by decide +kernel) (k_yes rfl rfl ?_))))))
    walk_at "ws"
    intro p hp
    refine comp_pure (fun t => match t with | .tup [_, a, b] => .tup [a, b] | _ => .non) trivial (by rw [List.length_map]; exact small63 (by omega)) (fun x hx R hR => ?_) fun p2 hp2 => ?_
    · obtain ⟨y, _, rfl⟩ := List.mem_map.mp hx
      walk_at "ws"
      exact hR
    obtain ⟨n2, e2⟩ := fr1 hp2
    refine ⟨_, by rw [up_ne n2.symm]; exact up_same, _, up_same, ?_, fun p3 hp3 => ?_⟩
    · rw [List.length_map, List.length_map]; exact small63 (by show 1 + _ ≤ _; omega)
    · obtain ⟨n32, h32⟩ := fr1 hp3
      obtain ⟨n31, e3⟩ := fr1 h32
      refine q p3 _ (((Ex.new hp).up e2).up e3) e3 ?_
      rw [up_same, List.map_cons, List.map_map, List.map_map]; rfl
  | rows h hm =>
    refine k_a0 rfl (k_no rfl (by decide +kernel) (k_no2 rfl (by decide +kernel) (by decide +kernel) (k_no rfl (by decide +kernel) (k_no rfl (by decide +kernel) (k_no rfl (by decide +kernel) (k_no rfl (by decide +kernel) (k_yes rfl rfl ?_)))))))
    walk_at "ws"; exact s_rows_scopes h hm q
  | @other w rest h =>
    have hw : ∀ s ∈ sorts, w ≠ s := fun s hs z => h (z ▸ hs)
    refine k_a0 rfl (k_no rfl (hw "does" (by decide)) (k_no2 rfl (hw "call" (by decide)) (hw "first" (by decide)) (k_no rfl (hw "fun" (by decide)) (k_no rfl (hw "let" (by decide)) (k_no rfl (hw "shape" (by decide)) (k_no rfl (hw "choose" (by decide)) (k_no rfl (hw "rows" (by decide)) ?_)))))))
    walk_at "ws"
    exact fun p hp => q p _ (Ex.new hp) hp up_same
end
section
variable {C : Hw} {Q : WK} {χ : WX} {n : Nat}
theorem s_draws {ns : List Int} {m : Nat} (h63 : ns.length ≤ 63) (hm : m ≤ 100) (q : ∀ p (ds : List Int), C p = none → ds.length = m → (∀ d ∈ ds, 0 ≤ d) → Q (.ref p) (up C p (.lst (ds.map T.int)))) :
    wpc pr (n + 1) i__law_draws [.cl (ns.map T.int), .int m] C Q χ := by
  refine u__law_draws rfl ?_
  unfold w__law_draws
  walk_at "ws"
  intro p hp
  refine ⟨by omega, by omega, ?_⟩
  refine for_rng (fun i τ C' => ∃ x3 x4, ∃ ds : List Int, τ = [some (.cl (ns.map T.int)), some (.int m), some (.ref p), x3, x4] ∧ C' = up C p (.lst (ds.map T.int)) ∧ ds.length = i ∧ ∀ d ∈ ds, 0 ≤ d) ⟨none, none, [], rfl, rfl, rfl, by simp⟩ (fun _ => trivial) ?_ ?_
  · rintro i τ C' N hi ⟨x3, x4, ds, rfl, rfl, hd, hn⟩ hN
    walk_at "ws"
    have hlen : ((ns.map T.int).length : Int) = (ns.length : Int) := by rw [List.length_map]
    have hdv : (0 : Int) ≤ (0 + (i : Int)) / (if ((ns.map T.int).length : Int) > 1 then ((ns.map T.int).length : Int) else 1) := Int.ediv_nonneg (by omega) (by split <;> omega)
    have app : ∀ v : Int, 0 ≤ v → ∀ x3 x4, N [some (.cl (ns.map T.int)), some (.int m), some (.ref p), x3, x4] (up (up C p (.lst (ds.map T.int))) p (.lst (ds.map T.int ++ [.int v]))) := fun v hv x3 x4 => by
      refine hN _ _ ⟨x3, x4, ds ++ [v], rfl, ?_, by rw [List.length_append, hd]; rfl, ?_⟩
      · rw [up_up, List.map_append]; rfl
      · intro x hx
        rcases List.mem_append.mp hx with hx | hx
        · exact hn x hx
        · rw [List.mem_singleton.mp hx]; exact hv
    refine ite2 (fun c => ?_) fun c => ?_
    · obtain ⟨d, h1, h2⟩ := atT_ints (ds := ns) (i := (0 + (i : Int)) % ((ns.map T.int).length : Int)) (Int.emod_nonneg _ (by omega)) (by rw [hlen]; exact Int.emod_lt_of_pos _ (by omega))
      refine ⟨c, _, h1, ⟨by decide, by decide, by decide⟩, by decide, ⟨_, up_same⟩, ⟨by split <;> omega, by split <;> omega⟩, .inl ⟨by decide, by decide⟩, _, up_same, small63' (by rw [List.length_map]; omega), app _ ?_ _ _⟩
      have := Int.emod_nonneg d (b := 10 ^ Int.toNat 18) (by decide)
      generalize d % 10 ^ Int.toNat 18 = u at this ⊢
      generalize (0 + (i : Int)) / (if ((ns.map T.int).length : Int) > 1 then ((ns.map T.int).length : Int) else 1) = t at hdv ⊢
      omega
    · refine ⟨⟨_, up_same⟩, ⟨by split <;> omega, by split <;> omega⟩, .inl ⟨by decide, by decide⟩, _, up_same, small63' (by rw [List.length_map]; omega), app _ ?_ _ _⟩
      generalize (0 + (i : Int)) / (if ((ns.map T.int).length : Int) > 1 then ((ns.map T.int).length : Int) else 1) = t at hdv ⊢
      omega
  · rintro τ C' ⟨x3, x4, ds, rfl, rfl, hd, hn⟩
    walk_at "ws"
    exact q p ds hp hd hn
end
section
variable {C : Hw} {Q : WK} {χ : WX} {n : Nat}
theorem s_name {d : Int} (h0 : 0 ≤ d) (q : ∀ z C', Ex C C' → z.length ≤ 9 → Q (.str z) C') : wpc pr (n + 1) i__law_name [.int d] C Q χ := by
  refine u__law_name rfl ?_
  unfold w__law_name
  walk_at "ws"
  have e1 : (Str.ofString "abcdefghijklmnopqrstuvwxyz0123456789").cps.toList.length = 36 := by decide +kernel
  have l1 : (Str.ofString "abcdefghijklmnopqrstuvwxyz0123456789").length ≤ sizeLine := small63 (by decide +kernel)
  obtain ⟨c1, h1, _⟩ := atI_in (xs := (Str.ofString "abcdefghijklmnopqrstuvwxyz0123456789").cps.toList) (i := d % 26) (by omega) (by rw [e1]; omega)
  refine ⟨c1, h1, ⟨by decide, by decide⟩, by omega, by omega, ?_⟩
  refine for_rng (fun i τ C' => ∃ x3 x4, ∃ z : Str, τ = [some (.int d), some (.str "abcdefghijklmnopqrstuvwxyz0123456789"), some (.str z), x3, x4] ∧ C' = C ∧ z.length = i + 1) ⟨none, none, _, rfl, rfl, rfl⟩ (fun _ => trivial) ?_ ?_
  · rintro i τ C' N hi ⟨x3, x4, z, rfl, rfl, hz⟩ hN
    walk_at "ws"
    obtain ⟨c2, h2, _⟩ := atI_in (xs := (Str.ofString "abcdefghijklmnopqrstuvwxyz0123456789").cps.toList) (i := (d / 208 + 11 * (0 + (i : Int)) * (0 + (i : Int)) + d / 7488 % 36 * (0 + (i : Int))) % 36) (by omega) (by rw [e1]; omega)
    have hap : (z ++ (⟨#[c2]⟩ : Str)).length = z.length + 1 := PySem.Str.length_append z _
    refine ⟨⟨by decide, by decide⟩, .inl ⟨by decide, by decide⟩, .inl ⟨by omega, by omega⟩, ⟨by decide, by decide⟩, .inl ⟨by omega, by omega⟩, c2, h2, small63 (by show z.length + 1 ≤ 100000; omega), hN _ _ ⟨_, _, _, rfl, rfl, by omega⟩⟩
  · rintro τ C' ⟨x3, x4, z, rfl, rfl, hz⟩
    walk_at "ws"
    intro p hp
    refine wIn_ref (zs := ["fun", "let", "choose", "first", "stop", "rows", "in", "when", "be"]) up_same ?_
    have hz8 : z.length ≤ 8 := by omega
    have hap : (z ++ Str.ofString "0").length = z.length + 1 := PySem.Str.length_append z _
    refine ⟨_, rfl, ite2 (fun _ => ⟨small63 (by show z.length + 1 ≤ 100000; omega), q _ _ (Ex.new hp) (by omega)⟩) fun _ => q _ _ (Ex.new hp) (by omega)⟩
def spare : List Str := ["q1", "q2", "q3", "q4", "q5", "q6"]
theorem s_unlike {d : Int} {m : Nat} {a : Addr} {ps : List Str} (h0 : 0 ≤ d) (hm : m ≤ 6) (ha : C a = some (.lst (ps.map T.str))) (hps : ps ≠ []) (hp9 : ps.length ≤ 9)
    (q : ∀ p C' (zs : List Str), Ex C C' → C p = none → C' p = some (.lst (zs.map T.str)) → zs.length = m → zs.Nodup → (∀ z ∈ zs, z ∈ ps ∨ z ∈ spare) → Q (.ref p) C') : wpc pr (n + 1) i__law_unlike [.int d, .int m, .ref a] C Q χ := by
  refine u__law_unlike rfl ?_
  unfold w__law_unlike
  walk_at "ws"
  intro p hp
  refine ⟨by omega, by omega, ?_⟩
  have hpl : 0 < ps.length := List.length_pos_iff.mpr hps
  refine for_rng (fun i τ C' => ∃ x4 x5 x6, ∃ zs : List Str, τ = [some (.int d), some (.int m), some (.ref a), some (.ref p), x4, x5, x6] ∧ Ex C C' ∧ C' p = some (.lst (zs.map T.str)) ∧ zs.length = i ∧ zs.Nodup ∧ ∀ z ∈ zs, z ∈ ps ∨ z ∈ spare) ⟨none, none, none, [], rfl, Ex.new hp, up_same, rfl, List.nodup_nil, by simp⟩ (fun _ => trivial) ?_ ?_
  · rintro i τ C' N hi ⟨x4, x5, x6, zs, rfl, hE, hz, hl, hn, hs⟩ hN
    walk_at "ws"
    have ha' := hE _ _ ha
    obtain ⟨x, hx, mx⟩ := atT_strs (ds := ps) (i := d / (5 * (0 + (i : Int)) + 1) % ((ps.map T.str).length : Int)) (Int.emod_nonneg _ (by rw [List.length_map]; omega)) (by rw [List.length_map]; exact Int.emod_lt_of_pos _ (by omega))
    have app : ∀ (x : Str) (C2 : Hw), Ex C' C2 → x ∉ zs → (x ∈ ps ∨ x ∈ spare) → ∀ x4 x5 x6, N [some (.int d), some (.int m), some (.ref a), some (.ref p), x4, x5, x6] (up C2 p (.lst (zs.map T.str ++ [.str x]))) := fun x C2 h2 hx hs' x4 x5 x6 => by
      refine hN _ _ ⟨x4, x5, x6, zs ++ [x], rfl, (hE.trans h2).up hp, by rw [up_same, List.map_append]; rfl, by rw [List.length_append, hl]; rfl, ?_, ?_⟩
      · rw [List.nodup_append]
        refine ⟨hn, by simp, fun y hy z hz' => ?_⟩
        rw [List.mem_singleton] at hz'
        subst hz'
        exact fun e => hx (e ▸ hy)
      · intro y hy
        rcases List.mem_append.mp hy with hy | hy
        · exact hs y hy
        · rw [List.mem_singleton.mp hy]; exact hs'
    refine ⟨.inl ⟨by decide, by decide⟩, ⟨by omega, by omega⟩, _, ha', by rw [List.length_map]; omega, _, ha', _, hx, ?_⟩
    refine wIn_ref hz ?_
    refine ⟨_, rfl, ite2 (fun c => ?_) fun c => ⟨⟨_, hz⟩, _, hz, small63' (by rw [List.length_map]; omega), app x C' (Ex.refl _) (by simpa using c) (.inl mx) _ _ _⟩⟩
    intro p2 hp2
    have hz2 : ∀ {o}, up C' p2 o p = some (.lst (zs.map T.str)) := fun {o} => by rw [up_ne (cne hz hp2)]; exact hz
    refine ⟨_, up_same, ?_⟩
    refine comp_fm (xs := spare.map T.str) (fun t => match t with | .str y => if y ∈ zs then none else some (.str y) | _ => none) up_same (by decide) (fun t ht R N' h1 h2 => ?_) ?_
    · obtain ⟨y, _, rfl⟩ := List.mem_map.mp ht
      walk_at "ws"
      refine wIn_ref hz2 ?_
      refine ⟨_, rfl, ?_⟩
      by_cases hy : y ∈ zs
      · rw [if_neg (by simp [hy])]
        exact h2 (by simp [hy])
      · rw [if_pos (by simp [hy])]
        exact h1 _ (by simp [hy])
    · intro p3 hp3
      have hf : (spare.map T.str).filterMap (fun t => match t with | .str y => if y ∈ zs then none else some (.str y) | _ => none) = (spare.filter fun y => decide (y ∉ zs)).map T.str := by
        rw [List.filterMap_map, ← List.filterMap_eq_map, ← List.filterMap_eq_filter, List.filterMap_filterMap]
        congr 1
        funext y
        by_cases hy : y ∈ zs <;> simp [hy, Option.guard]
      rw [hf]
      have hne : spare.filter (fun y => decide (y ∉ zs)) ≠ [] := fun e => by
        have hall : ∀ y ∈ spare, y ∈ zs := fun y hy => by
          by_cases h : y ∈ zs
          · exact h
          · have : y ∈ spare.filter (fun y => decide (y ∉ zs)) := List.mem_filter.mpr ⟨hy, by simpa using h⟩
            rw [e] at this; cases this
        have := sub_len (show spare.Nodup by decide +kernel) hall
        have h6 : spare.length = 6 := rfl
        omega
      obtain ⟨y, ys, ey⟩ := List.exists_cons_of_ne_nil hne
      have hy : y ∈ spare.filter (fun y => decide (y ∉ zs)) := by rw [ey]; simp
      obtain ⟨hy1, hy2⟩ := List.mem_filter.mp hy
      rw [ey]
      obtain ⟨n32, e32⟩ := fr1 hp3
      obtain ⟨n3, e3⟩ := fr1 hp3
      refine ⟨_, up_same, _, atI_0, ⟨_, by rw [up_ne (cne hz2 hp3)]; exact hz2⟩, _, by rw [up_ne (cne hz2 hp3)]; exact hz2, small63' (by rw [List.length_map]; omega), app y _ ((Ex.new hp2).trans (Ex.new hp3)) (by simpa using hy2) (.inr hy1) _ _ _⟩
  · rintro τ C' ⟨x4, x5, x6, zs, rfl, hE, hz, hl, hn, hs⟩
    walk_at "ws"
    exact q p C' zs hE hp hz hl hn hs
end
set_option Elab.async false
set_option linter.all false
set_option maxRecDepth 100000
set_option maxHeartbeats 4000000
open PySem PySem.Spec PyProof.Rows L2 WL
/-- a mark -/
def Mk (t : T) : Prop := ∃ w r, t = .tup (.str w :: r) ∧ w ∈ (["at", "shut", "ring"] : List Str) ∧ flat t 6 = true
inductive Lf (ps : List Str) : T → Prop
  | num {v : Int} : Lf ps (.tup [.str "number", .int v])
  | shp : Lf ps (.tup [.str "shape", .str "Nil", .tup []])
  | stop {w : Str} (h : w ∈ ps) : Lf ps (.tup [.str "stop", .str w])
  | name {w : Str} (h : w ∈ ps) : Lf ps (.tup [.str "name", .str w])
  | mark {t : T} (h : Mk t) : Lf ps t
theorem Mk.other {t : T} (h : Mk t) : ∃ w r, t = .tup (.str w :: r) ∧ w ∉ sorts ∧ w ≠ "name" := by
  obtain ⟨w, r, rfl, h, _⟩ := h
  refine ⟨w, r, rfl, ?_, ?_⟩
  · simp only [List.mem_cons, List.not_mem_nil, or_false] at h; rcases h with rfl | rfl | rfl <;> decide +kernel
  · simp only [List.mem_cons, List.not_mem_nil, or_false] at h; rcases h with rfl | rfl | rfl <;> decide +kernel
theorem Lf.sc {ps : List Str} {t : T} (h : Lf ps t) : Sc t none [] := by
  cases h with
  | num => exact .other (by decide +kernel)
  | shp => exact .shape (ps := []) (by decide)
  | stop => exact .other (by decide +kernel)
  | name => exact .other (by decide +kernel)
  | mark h => obtain ⟨w, r, rfl, h, _⟩ := h.other; exact .other h
theorem Lf.flat {ps : List Str} {t : T} (h : Lf ps t) : WL.flat t 6 = true := by
  cases h with
  | num => simp [WL.flat, flats]
  | shp => simp [WL.flat, flats]
  | stop => simp [WL.flat, flats]
  | name => simp [WL.flat, flats]
  | mark h => obtain ⟨_, _, _, _, h⟩ := h; exact h
section
variable {C : Hw} {Q : WK} {χ : WX} {n : Nat}
theorem s_mark {d : Int} {a : Addr} {ps : List Str} (h0 : 0 ≤ d) (ha : C a = some (.lst (ps.map T.str))) (hps : ps ≠ []) (q : ∀ t, Mk t → Q t C) : wpc pr (n + 1) i__law_mark [.int d, .ref a] C Q χ := by
  refine u__law_mark rfl ?_
  unfold w__law_mark
  walk_at "ws"
  have hpl : 0 < ps.length := List.length_pos_iff.mpr hps
  have pick : ∀ i : Int, ∃ x, atI (ps.map T.str) (i % ((ps.map T.str).length : Int)) = some (.str x) ∧ x ∈ ps := fun i => atT_strs (Int.emod_nonneg _ (by rw [List.length_map]; omega)) (by rw [List.length_map]; exact Int.emod_lt_of_pos _ (by omega))
  have hl : (0 : Int) < ((ps.map T.str).length : Int) := by rw [List.length_map]; omega
  refine ⟨⟨by decide, by decide⟩, .inr ⟨by decide, by decide⟩, ⟨by decide, by decide, by decide⟩, ite2 (fun c => q _ ⟨_, _, rfl, by decide +kernel, by simp [WL.flat, flats]⟩) fun c => ite2 (fun c => ?_) fun c => ?_⟩
  · obtain ⟨x, hx, mx⟩ := pick (d / 3)
    exact ⟨⟨by decide, by decide⟩, _, ha, hl, _, ha, _, hx, q _ ⟨_, _, rfl, by decide +kernel, by simp [WL.flat, flats]⟩⟩
  · obtain ⟨x, hx, mx⟩ := pick (d / 3)
    obtain ⟨y, hy, my⟩ := pick (d / 5)
    exact ⟨⟨by decide, by decide⟩, _, ha, hl, _, ha, _, hx, ⟨by decide, by decide⟩, _, ha, hl, _, ha, _, hy, q _ ⟨_, _, rfl, by decide +kernel, by simp [WL.flat, flats]⟩⟩
theorem s_leaf {d : Int} {a : Addr} {ps : List Str} (h0 : 0 ≤ d) (ha : C a = some (.lst (ps.map T.str))) (hps : ps ≠ []) (q : ∀ t C', Ex C C' → Lf ps t → Q t C') : wpc pr (n + 2) i__law_leaf [.int d, .ref a] C Q χ := by
  refine u__law_leaf rfl ?_
  unfold w__law_leaf
  walk_at "ws"
  have hpl : 0 < ps.length := List.length_pos_iff.mpr hps
  have pick : ∀ i : Int, ∃ x, atI (ps.map T.str) (i % ((ps.map T.str).length : Int)) = some (.str x) ∧ x ∈ ps := fun i => atT_strs (Int.emod_nonneg _ (by rw [List.length_map]; omega)) (by rw [List.length_map]; exact Int.emod_lt_of_pos _ (by omega))
  have hl : (0 : Int) < ((ps.map T.str).length : Int) := by rw [List.length_map]; omega
  refine ite2 (fun c => ⟨⟨by decide, by decide⟩, s_mark (by omega) ha hps fun t ht => q t C (Ex.refl _) (.mark ht)⟩) fun c => ite2 (fun c => ?_) fun c => ite2 (fun c => ?_) fun c => ?_
  · refine ⟨.inr ⟨by decide, by decide⟩, ⟨by decide, by decide, by decide⟩, fun p hp => ⟨⟨by decide, by decide⟩, ?_⟩⟩
    have hc : d / 7 % 2 = 0 ∨ d / 7 % 2 = 1 := by omega
    rcases hc with hc | hc <;> rw [hc]
    · exact ⟨_, up_same, _, atI_0, q _ _ (Ex.new hp) .num⟩
    · exact ⟨_, up_same, _, atI_1, q _ _ (Ex.new hp) .shp⟩
  · obtain ⟨x, hx, mx⟩ := pick (d / 7)
    exact ⟨⟨by decide, by decide⟩, _, ha, hl, _, ha, _, hx, q _ _ (Ex.refl _) (.stop mx)⟩
  · obtain ⟨x, hx, mx⟩ := pick (d / 7)
    exact ⟨⟨by decide, by decide⟩, _, ha, hl, _, ha, _, hx, q _ _ (Ex.refl _) (.name mx)⟩
end
def ops : List Str := ["+", "-", "*", "<", "="]
def stT (z : T × List T × T) : T := .tup (z.1 :: (z.2.1 ++ [z.2.2]))
def StepOk (ps : List Str) (z : T × List T × T) : Prop := (z.1 = .str "when" ∧ z.2.1 = []) ∨ ∃ w x, w ∈ (["in", "be"] : List Str) ∧ x ∈ ps ∧ z.1 = .str w ∧ z.2.1 = [.str x]
/-- what is made of some terms, by the sort and a draw -/
inductive Jn (ps : List Str) : Int → Int → List T → T → Prop
  | does {d : Int} {op : Str} {A B : T} {r : List T} (h : op ∈ ops) : Jn ps 1 d (A :: B :: r) (.tup [.str "does", .str op, A, B])
  | fun_ {d : Int} {x : Str} {A : T} {r : List T} (h : x ∈ ps) : Jn ps 2 d (A :: r) (.tup [.str "fun", .str x, A])
  | call {d : Int} {A B : T} {r : List T} : Jn ps 3 d (A :: B :: r) (.tup [.str "call", A, B])
  | let_ {d : Int} {zs : List Str} {ts : List T} {B : T} (h : zs.Nodup) (hz : ∀ z ∈ zs, z ∈ ps ∨ z ∈ spare) (hl : zs.length = ts.length) (h1 : 1 ≤ ts.length) (h5 : ts.length ≤ 5) :
      Jn ps 4 d (ts ++ [B]) (.tup [.str "let", .tup ((zs.zip ts).map fun x => .tup [.str x.1, x.2]), B])
  | shape {d : Int} {c : Str} {A B : T} {r : List T} (h : c ∈ (["Cons", "Pair"] : List Str)) : Jn ps 5 d (A :: B :: r) (.tup [.str "shape", .str c, .tup [A, B]])
  | ch0 {d : Int} {x y : Str} {E A B : T} {r : List T} (hd : d % 3 = 0) (hx : x ∈ ps ∨ x ∈ spare) (hy : y ∈ ps ∨ y ∈ spare) (hn : x ≠ y) :
      Jn ps 6 d (E :: A :: B :: r) (.tup [.str "choose", E, .tup [.tup [.str "Nil", .tup [], A], .tup [.str "Cons", .tup [.str x, .str y], B]]])
  | ch1 {d : Int} {E A B : T} {r : List T} (hd : d % 3 = 1) : Jn ps 6 d (E :: A :: B :: r) (.tup [.str "choose", E, .tup [.tup [.str "No", .tup [], A], .tup [.str "Yes", .tup [], B]]])
  | ch2 {d : Int} {x y : Str} {E A : T} {r : List T} (hd : d % 3 = 2) (hx : x ∈ ps ∨ x ∈ spare) (hy : y ∈ ps ∨ y ∈ spare) (hn : x ≠ y) :
      Jn ps 6 d (E :: A :: r) (.tup [.str "choose", E, .tup [.tup [.str "Pair", .tup [.str x, .str y], A]]])
  | first {d : Int} {A B : T} {r : List T} : Jn ps 7 d (A :: B :: r) (.tup [.str "first", A, B])
  | rows {d : Int} {E : T} {zs : List (T × List T × T)} (h : ∀ z ∈ zs, StepOk ps z) (hl : zs.length ≤ 3) : Jn ps 8 d (E :: zs.map (·.2.2)) (.tup [.str "rows", E, .tup (zs.map stT)])
def Fit (s d : Int) (ts : List T) : Prop := (s = 1 ∧ 2 ≤ ts.length) ∨ (s = 2 ∧ 1 ≤ ts.length) ∨ (s = 3 ∧ 2 ≤ ts.length) ∨ (s = 4 ∧ 2 ≤ ts.length ∧ ts.length ≤ 6) ∨ (s = 5 ∧ 2 ≤ ts.length) ∨
  (s = 6 ∧ (d % 3 = 2 → 2 ≤ ts.length) ∧ (d % 3 ≠ 2 → 3 ≤ ts.length)) ∨ (s = 7 ∧ 2 ≤ ts.length) ∨ (s = 8 ∧ 1 ≤ ts.length ∧ ts.length ≤ 4)
theorem two_of {zs : List Str} (h : zs.length = 2) : ∃ x y, zs = [x, y] := by
  match zs, h with
  | [x, y], _ => exact ⟨x, y, rfl⟩
theorem atT_nat {ts : List T} {k : Nat} (h : k < ts.length) : atI ts (k : Int) = some ts[k] := atI_nat (by simp [h])
section
variable {C : Hw} {Q : WK} {χ : WX} {n : Nat}
theorem s_chosen {d : Int} {a b : Addr} {ps : List Str} {E : T} {ts : List T} (h0 : 0 ≤ d) (ha : C a = some (.lst (ps.map T.str))) (hps : ps ≠ []) (hp9 : ps.length ≤ 9) (hb : C b = some (.lst ts)) (he : ts[0]? = some E) (hf : Fit 6 d ts)
    (q : ∀ t C', Ex C C' → Jn ps 6 d ts (.tup [.str "choose", E, t]) → Q t C') : wpc pr (n + 2) i__law_chosen [.int d, .ref b, .ref a] C Q χ := by
  refine u__law_chosen rfl ?_
  unfold w__law_chosen
  walk_at "ws"
  have hf' : (d % 3 = 2 → 2 ≤ ts.length) ∧ (d % 3 ≠ 2 → 3 ≤ ts.length) := by
    rcases hf with h | h | h | h | h | h | h | h
    · exact absurd h.1 (by decide)
    · exact absurd h.1 (by decide)
    · exact absurd h.1 (by decide)
    · exact absurd h.1 (by decide)
    · exact absurd h.1 (by decide)
    · exact h.2
    · exact absurd h.1 (by decide)
    · exact absurd h.1 (by decide)
  have hd3 : CDiv d 3 := ⟨by decide, by decide⟩
  have hm3 : (0 : Int) ≤ d / 3 := by omega
  by_cases c0 : d % 3 = 2
  · have hl := hf'.1 c0
    match ts, hl with
    | E' :: A :: r, _ =>
      cases he
      have c1 : ¬ d % 3 = 0 := by omega
      have c2 : ¬ d % 3 = 1 := by omega
      simp only [c1, c2, if_false]
      refine ⟨hd3, s_unlike (n := n) (m := 2) hm3 (by decide) ha hps hp9 fun p C' zs hE hp hz hl hn hs => ?_⟩
      obtain ⟨x, y, rfl⟩ := two_of hl
      have hn' : x ≠ y := by simpa using hn
      refine ⟨_, hz, _, hE _ _ hb, _, atI_1, q _ _ hE ?_⟩
      exact .ch2 c0 (hs x (by simp)) (hs y (by simp)) hn'
  · have hl := hf'.2 c0
    match ts, hl with
    | E' :: A :: B :: r, _ =>
      cases he
      refine ite2 (fun c => ?_) fun c1 => ?_
      · refine ⟨_, hb, _, atI_1, hd3, s_unlike (n := n) (m := 2) hm3 (by decide) ha hps hp9 fun p C' zs hE hp hz hl hn hs => ?_⟩
        obtain ⟨x, y, rfl⟩ := two_of hl
        have hn' : x ≠ y := by simpa using hn
        refine ⟨_, hz, _, hE _ _ hb, _, atI_2, q _ _ hE ?_⟩
        exact .ch0 c (hs x (by simp)) (hs y (by simp)) hn'
      · have c2 : d % 3 = 1 := by omega
        simp only [c2, if_true]
        exact ⟨_, hb, _, atI_1, _, hb, _, atI_2, q _ _ (Ex.refl _) (.ch1 c2)⟩
theorem s_rows {d : Int} {a b : Addr} {ps : List Str} {E : T} {ts : List T} (h0 : 0 ≤ d) (ha : C a = some (.lst (ps.map T.str))) (hps : ps ≠ []) (hb : C b = some (.lst (E :: ts))) (hl : ts.length ≤ 3)
    (q : ∀ t C', Ex C C' → Jn ps 8 d (E :: ts) t → Q t C') : wpc pr (n + 1) i__law_rows [.int d, .ref b, .ref a] C Q χ := by
  refine u__law_rows rfl ?_
  unfold w__law_rows
  walk_at "ws"
  intro p hp
  have nb : b ≠ p := cne hb hp
  have na : a ≠ p := cne ha hp
  have hpl : 0 < ps.length := List.length_pos_iff.mpr hps
  have pick : ∀ i : Int, ∃ x, atI (ps.map T.str) (i % ((ps.map T.str).length : Int)) = some (.str x) ∧ x ∈ ps := fun i => atT_strs (Int.emod_nonneg _ (by rw [List.length_map]; omega)) (by rw [List.length_map]; exact Int.emod_lt_of_pos _ (by omega))
  have hlp : (0 : Int) < ((ps.map T.str).length : Int) := by rw [List.length_map]; omega
  refine ⟨_, by rw [up_ne nb]; exact hb, ?_⟩
  have e0 : ((E :: ts).length : Int) - 1 = (ts.length : Int) := by rw [List.length_cons]; omega
  refine ⟨by omega, by omega, ?_⟩
  refine for_rng (fun i τ C' => ∃ x4 x5, ∃ zs : List (T × List T × T), τ = [some (.int d), some (.ref b), some (.ref a), some (.ref p), x4, x5] ∧ Ex C C' ∧ C' p = some (.lst (zs.map stT)) ∧ zs.map (·.2.2) = ts.take i ∧ ∀ z ∈ zs, StepOk ps z) ⟨none, none, [], rfl, Ex.new hp, up_same, rfl, by simp⟩ (fun _ => trivial) ?_ ?_
  · rintro i τ C' N hi ⟨x4, x5, zs, rfl, hE, hz, hs, hk⟩ hN
    walk_at "ws"
    have hi' : i < ts.length := by omega
    have hb' := hE _ _ hb
    have ha' := hE _ _ ha
    have hzl : zs.length ≤ 3 := by have := congrArg List.length hs; rw [List.length_map, List.length_take] at this; omega
    have ei : atI (E :: ts) (1 + (0 + (i : Int))) = some ts[i] := by
      have e : (1 + (0 + (i : Int))) = ((i + 1 : Nat) : Int) := by omega
      rw [e]; exact atI_nat (by simp [hi'])
    have app : ∀ (z : T × List T × T) (C2 : Hw), Ex C' C2 → z.2.2 = ts[i] → StepOk ps z → ∀ x4 x5, N [some (.int d), some (.ref b), some (.ref a), some (.ref p), x4, x5] (up C2 p (.lst (zs.map stT ++ [stT z]))) := fun z C2 h2 ez hz' x4 x5 => by
      refine hN _ _ ⟨x4, x5, zs ++ [z], rfl, (hE.trans h2).up hp, by rw [up_same, List.map_append]; rfl, ?_, ?_⟩
      · rw [List.map_append, hs, List.take_add_one, List.getElem?_eq_getElem hi']; simp [ez]
      · intro y hy
        rcases List.mem_append.mp hy with hy | hy
        · exact hk y hy
        · rw [List.mem_singleton.mp hy]; exact hz'
    refine ⟨.inl ⟨by decide, by decide⟩, ⟨by omega, by omega⟩, ite2 (fun c => ?_) fun c => ?_⟩
    · exact ⟨⟨_, hz⟩, _, hb', _, ei, _, hz, small63' (by rw [List.length_map]; omega), app (.str "when", [], ts[i]) C' (Ex.refl _) rfl (.inl ⟨rfl, rfl⟩) _ _⟩
    · refine ⟨⟨_, hz⟩, fun p2 hp2 => ?_⟩
      obtain ⟨w, hw, mw⟩ := atT_strs (ds := ["in", "be"]) (i := d / (3 * (0 + (i : Int)) + 1) % 3 - 1) (by omega) (by show _ < (2 : Int); omega)
      obtain ⟨x, hx, mx⟩ := pick (d / (7 * (0 + (i : Int)) + 3))
      have hE2 : Ex C' (up C' p2 (.lst [.str "in", .str "be"])) := Ex.new hp2
      refine ⟨_, up_same, _, hw, .inl ⟨by decide, by decide⟩, ⟨by omega, by omega⟩, _, hE2 _ _ ha', hlp, _, hE2 _ _ ha', _, hx, _, hE2 _ _ hb', _, ei, _, hE2 _ _ hz, small63' (by rw [List.length_map]; omega), ?_⟩
      exact app (.str w, [.str x], ts[i]) _ hE2 rfl (.inr ⟨w, x, mw, mx, rfl, rfl⟩) _ _
  · rintro τ C' ⟨x4, x5, zs, rfl, hE, hz, hs, hk⟩
    have e1 : (((E :: ts).length : Int) - 1).toNat = ts.length := by rw [e0]; omega
    rw [e1, List.take_length] at hs
    walk_at "ws"
    refine ⟨_, hE _ _ hb, _, atI_0, _, hz, q _ _ hE ?_⟩
    subst hs
    exact .rows hk (by rw [List.length_map] at hl; exact hl)
theorem s_joined {s d : Int} {a b : Addr} {ps : List Str} {ts : List T} (h0 : 0 ≤ d) (ha : C a = some (.lst (ps.map T.str))) (hps : ps ≠ []) (hp9 : ps.length ≤ 9) (hb : C b = some (.lst ts)) (hf : Fit s d ts)
    (q : ∀ t C', Ex C C' → Jn ps s d ts t → Q t C') : wpc pr (n + 3) i__law_joined [.int s, .int d, .ref b, .ref a] C Q χ := by
  refine u__law_joined rfl ?_
  unfold w__law_joined
  have hpl : 0 < ps.length := List.length_pos_iff.mpr hps
  have pick : ∀ i : Int, ∃ x, atI (ps.map T.str) (i % ((ps.map T.str).length : Int)) = some (.str x) ∧ x ∈ ps := fun i => atT_strs (Int.emod_nonneg _ (by rw [List.length_map]; omega)) (by rw [List.length_map]; exact Int.emod_lt_of_pos _ (by omega))
  have hlp : (0 : Int) < ((ps.map T.str).length : Int) := by rw [List.length_map]; omega
  have hf0 := hf
  rcases hf with ⟨rfl, hl⟩ | ⟨rfl, hl⟩ | ⟨rfl, hl⟩ | ⟨rfl, hl, hl2⟩ | ⟨rfl, hl⟩ | ⟨rfl, hl⟩ | ⟨rfl, hl⟩ | ⟨rfl, hl, hl2⟩
  · match ts, hl with
    | A :: B :: r, _ =>
      refine k_yesI rfl rfl ?_
      walk_at "ws"
      obtain ⟨c, hc, mc⟩ := atI_in (xs := (Str.ofString "+-*<=").cps.toList) (i := d % 5) (by omega) (by rw [show (Str.ofString "+-*<=").cps.toList.length = 5 by decide +kernel]; omega)
      refine ⟨c, hc, _, hb, _, atI_0, _, hb, _, atI_1, q _ _ (Ex.refl _) (.does ?_)⟩
      rw [show (Str.ofString "+-*<=").cps.toList = [43, 45, 42, 60, 61] by decide +kernel] at mc
      simp only [List.mem_cons, List.not_mem_nil, or_false] at mc
      rcases mc with rfl | rfl | rfl | rfl | rfl <;> decide +kernel
  · match ts, hl with
    | A :: r, _ =>
      refine k_noI rfl (by decide) (k_yesI rfl rfl ?_)
      walk_at "ws"
      obtain ⟨x, hx, mx⟩ := pick d
      exact ⟨_, ha, hlp, _, ha, _, hx, _, hb, _, atI_0, q _ _ (Ex.refl _) (.fun_ mx)⟩
  · match ts, hl with
    | A :: B :: r, _ =>
      refine k_noI rfl (by decide) (k_noI rfl (by decide) (k_yesI rfl rfl ?_))
      walk_at "ws"
      exact ⟨_, hb, _, atI_0, _, hb, _, atI_1, q _ _ (Ex.refl _) .call⟩
  · obtain ⟨us, B, rfl⟩ : ∃ us B, ts = us ++ [B] := ⟨ts.dropLast, ts.getLast (by intro e; rw [e] at hl; simp at hl), (List.dropLast_concat_getLast _).symm⟩
    refine k_noI rfl (by decide) (k_noI rfl (by decide) (k_noI rfl (by decide) (k_yesI rfl rfl ?_)))
    walk_at "ws"
    have e1 : (((us ++ [B]).length : Nat) : Int) - 1 = ((us.length : Nat) : Int) := by rw [List.length_append, List.length_singleton]; omega
    have hu5 : us.length ≤ 5 := by rw [List.length_append, List.length_singleton] at hl2; omega
    have hu1 : 1 ≤ us.length := by rw [List.length_append, List.length_singleton] at hl; omega
    refine ⟨_, hb, ?_⟩
    rw [e1]
    refine s_unlike (n := n + 1) (m := us.length) h0 (by omega) ha hps hp9 fun p C' zs hE hp hz hzl hn hs => ?_
    have hb' := hE _ _ hb
    refine ⟨_, hz, by rw [List.length_map]; omega, by rw [List.length_map]; omega, ?_⟩
    rw [List.length_map, show ((zs.length : Nat) : Int).toNat = zs.length by omega]
    refine comp_inv (fun i acc C2 => C2 = C' ∧ acc = ((zs.zip us).take i).map fun x => .tup [.str x.1, x.2]) ⟨rfl, rfl⟩ (fun _ _ _ _ _ => trivial) ?_ ?_
    · rintro i x acc C2 N hx ⟨rfl, rfl⟩ hN
      obtain ⟨hi, rfl⟩ := rng_get hx
      walk_at "ws"
      have hi2 : i < us.length := by omega
      have g1 : atI (zs.map T.str) (0 + (i : Int)) = some (.str zs[i]) := by rw [Int.zero_add]; exact atI_nat (by simp [hi])
      have g2 : atI (us ++ [B]) (0 + (i : Int)) = some us[i] := by rw [Int.zero_add]; exact atI_nat (by rw [List.getElem?_append_left hi2]; simp [hi2])
      have gz : (zs.zip us)[i]? = some (zs[i], us[i]) := by rw [List.getElem?_zip_eq_some]; exact ⟨by simp [hi], by simp [hi2]⟩
      refine ⟨_, hz, _, g1, _, hb', _, g2, ?_, hN _ _ ⟨rfl, ?_⟩⟩
      · rw [List.length_map, List.length_take]; exact small63' (by omega)
      · rw [List.take_add_one, gz, List.map_append]; rfl
    · rintro acc C2 ⟨rfl, rfl⟩
      rw [rng_len, List.take_of_length_le (by rw [List.length_zip]; omega)]
      intro p2 hp2
      have g3 : atI (us ++ [B]) (-1) = some B := atI_last us B
      exact ⟨_, up_same, _, (Ex.new hp2) _ _ hb', _, g3, q _ _ (hE.trans (Ex.new hp2)) (.let_ hn hs hzl hu1 hu5)⟩
  · match ts, hl with
    | A :: B :: r, _ =>
      refine k_noI rfl (by decide) (k_noI rfl (by decide) (k_noI rfl (by decide) (k_noI rfl (by decide) (k_yesI rfl rfl ?_))))
      walk_at "ws"
      intro p hp
      obtain ⟨c, hc, mc⟩ := atT_strs (ds := ["Cons", "Pair"]) (i := d % 2) (by omega) (by show _ < (2 : Int); omega)
      exact ⟨_, up_same, _, hc, _, (Ex.new hp) _ _ hb, _, atI_0, _, (Ex.new hp) _ _ hb, _, atI_1, q _ _ (Ex.new hp) (.shape mc)⟩
  · have hne : 0 < ts.length := by
      by_cases c : d % 3 = 2
      · have := hl.1 c; omega
      · have := hl.2 c; omega
    match ts, hne with
    | E :: r, _ =>
      refine k_noI rfl (by decide) (k_noI rfl (by decide) (k_noI rfl (by decide) (k_noI rfl (by decide) (k_noI rfl (by decide) (k_yesI rfl rfl ?_)))))
      walk_at "ws"
      exact ⟨_, hb, _, atI_0, s_chosen h0 ha hps hp9 hb rfl hf0 fun t C' hE hJ => q _ _ hE hJ⟩
  · match ts, hl with
    | A :: B :: r, _ =>
      refine k_noI rfl (by decide) (k_noI rfl (by decide) (k_noI rfl (by decide) (k_noI rfl (by decide) (k_noI rfl (by decide) (k_noI rfl (by decide) (k_yesI rfl rfl ?_))))))
      walk_at "ws"
      exact ⟨_, hb, _, atI_0, _, hb, _, atI_1, q _ _ (Ex.refl _) .first⟩
  · match ts, hl with
    | E :: r, _ =>
      refine k_noI rfl (by decide) (k_noI rfl (by decide) (k_noI rfl (by decide) (k_noI rfl (by decide) (k_noI rfl (by decide) (k_noI rfl (by decide) (k_noI rfl (by decide) (?_)))))))
      walk_at "ws"
      exact s_rows h0 ha hps hb (by rw [List.length_cons] at hl2; omega) q
end
/-- how many are made -/
def MF (s d : Int) (m : Nat) : Prop := (s = 1 → m = 2) ∧ (s = 2 → m = 1) ∧ (s = 3 → m = 2) ∧ (s = 4 → 2 ≤ m ∧ m ≤ 6) ∧ (s = 5 → m = 2) ∧ (s = 6 → (d % 3 = 2 → m = 2) ∧ (d % 3 ≠ 2 → m = 3)) ∧ (s = 7 → m = 2) ∧ (s = 8 → 1 ≤ m ∧ m ≤ 4) ∧ m ≤ 6
theorem MF.fit {s d : Int} {m : Nat} (h : MF s d m) (h1 : 1 ≤ s) (h8 : s ≤ 8) {ts : List T} (e : ts.length = m) : Fit s d ts := by
  obtain ⟨a1, a2, a3, a4, a5, a6, a7, a8, _⟩ := h
  have hs : s = 1 ∨ s = 2 ∨ s = 3 ∨ s = 4 ∨ s = 5 ∨ s = 6 ∨ s = 7 ∨ s = 8 := by omega
  subst e
  unfold Fit
  rcases hs with rfl | rfl | rfl | rfl | rfl | rfl | rfl | rfl
  · exact .inl ⟨rfl, by have := a1 rfl; omega⟩
  · exact .inr (.inl ⟨rfl, by have := a2 rfl; omega⟩)
  · exact .inr (.inr (.inl ⟨rfl, by have := a3 rfl; omega⟩))
  · exact .inr (.inr (.inr (.inl ⟨rfl, a4 rfl⟩)))
  · exact .inr (.inr (.inr (.inr (.inl ⟨rfl, by have := a5 rfl; omega⟩))))
  · exact .inr (.inr (.inr (.inr (.inr (.inl ⟨rfl, fun c => by have := (a6 rfl).1 c; omega, fun c => by have := (a6 rfl).2 c; omega⟩)))))
  · exact .inr (.inr (.inr (.inr (.inr (.inr (.inl ⟨rfl, by have := a7 rfl; omega⟩))))))
  · exact .inr (.inr (.inr (.inr (.inr (.inr (.inr ⟨rfl, a8 rfl⟩))))))
section
variable {C : Hw} {Q : WK} {χ : WX} {n : Nat}
theorem s_many {s d : Int} (h0 : 0 ≤ d) (h1 : 1 ≤ s) (h8 : s ≤ 8) (q : ∀ (m : Nat) C', Ex C C' → MF s d m → Q (.int m) C') : wpc pr (n + 1) i__law_many [.int s, .int d] C Q χ := by
  refine u__law_many rfl ?_
  unfold w__law_many
  have hs : s = 1 ∨ s = 2 ∨ s = 3 ∨ s = 4 ∨ s = 5 ∨ s = 6 ∨ s = 7 ∨ s = 8 := by omega
  have fin : ∀ (m : Nat) (v : Int) C', v = (m : Int) → Ex C C' → MF s d m → Q (.int v) C' := fun m v C' e hE hM => by subst e; exact q m C' hE hM
  rcases hs with rfl | rfl | rfl | rfl | rfl | rfl | rfl | rfl
  · walk_at "ws"; exact fun p hp => ⟨_, up_same, _, atI_nat (j := 1) rfl, fin 2 _ _ rfl (Ex.new hp) (by unfold MF; omega)⟩
  · walk_at "ws"; exact fun p hp => ⟨_, up_same, _, atI_nat (j := 2) rfl, fin 1 _ _ rfl (Ex.new hp) (by unfold MF; omega)⟩
  · walk_at "ws"; exact fun p hp => ⟨_, up_same, _, atI_nat (j := 3) rfl, fin 2 _ _ rfl (Ex.new hp) (by unfold MF; omega)⟩
  · walk_at "ws"; exact ⟨⟨by decide, by decide⟩, fin (2 + (d / 7 % 5).toNat) _ _ (by omega) (Ex.refl _) (by unfold MF; omega)⟩
  · walk_at "ws"; exact fun p hp => ⟨_, up_same, _, atI_nat (j := 5) rfl, fin 2 _ _ rfl (Ex.new hp) (by unfold MF; omega)⟩
  · walk_at "ws"
    intro p hp
    by_cases c : d % 3 = 2
    · rw [c]; exact ⟨_, up_same, _, atI_2, fin 2 _ _ rfl (Ex.new hp) (by unfold MF; omega)⟩
    · by_cases c1 : d % 3 = 0
      · rw [c1]; exact ⟨_, up_same, _, atI_0, fin 3 _ _ rfl (Ex.new hp) (by unfold MF; omega)⟩
      · rw [show d % 3 = 1 by omega]; exact ⟨_, up_same, _, atI_1, fin 3 _ _ rfl (Ex.new hp) (by unfold MF; omega)⟩
  · walk_at "ws"; exact fun p hp => ⟨_, up_same, _, atI_nat (j := 7) rfl, fin 2 _ _ rfl (Ex.new hp) (by unfold MF; omega)⟩
  · walk_at "ws"; exact ⟨⟨by decide, by decide⟩, fin (1 + (d / 7 % 4).toNat) _ _ (by omega) (Ex.refl _) (by unfold MF; omega)⟩
end
theorem zip_snd {zs : List Str} {ts : List T} (h : zs.length = ts.length) : ((zs.zip ts).map fun x => (T.str x.1, x.2)).map (·.2) = ts := by
  rw [List.map_map]
  show (zs.zip ts).map (fun x => x.2) = ts
  rw [← List.unzip_snd, List.unzip_zip (by omega)]
theorem nil1 {α : Type} {a : α} {r : List α} (h : (a :: r).length = 1) : r = [] := List.eq_nil_of_length_eq_zero (by simpa using h)
theorem nil2 {α : Type} {a b : α} {r : List α} (h : (a :: b :: r).length = 2) : r = [] := List.eq_nil_of_length_eq_zero (by simpa using h)
theorem nil3 {α : Type} {a b c : α} {r : List α} (h : (a :: b :: c :: r).length = 3) : r = [] := List.eq_nil_of_length_eq_zero (by simpa using h)
theorem Jn.sc {ps : List Str} {s d : Int} {ts : List T} {t : T} (h : Jn ps s d ts t) (hm : MF s d ts.length) : ∃ e ss, Sc t e ss ∧ ss.map (·.2) = ts ∧ e = (if s = 8 then some (ts.length - 1) else none) := by
  obtain ⟨a1, a2, a3, a4, a5, a6, a7, a8, _⟩ := hm
  cases h with
  | does h => cases nil2 (a1 rfl); exact ⟨_, _, .does, rfl, rfl⟩
  | fun_ h => cases nil1 (a2 rfl); exact ⟨_, _, .fun_, rfl, rfl⟩
  | call => cases nil2 (a3 rfl); exact ⟨_, _, .call, rfl, rfl⟩
  | @let_ _ zs us B h hz hl h1 h5 =>
    have k := Sc.let_ (B := B) (xs := (zs.zip us).map fun x => (T.str x.1, x.2)) (by rw [List.length_map, List.length_zip]; omega)
    rw [List.map_map] at k
    refine ⟨none, _, k, ?_, rfl⟩
    rw [List.map_append, List.map_map]
    show ((zs.zip us).map fun x => (T.str x.1, x.2)).map (fun x => x.2) ++ [B] = us ++ [B]
    rw [zip_snd hl]
  | shape h => cases nil2 (a5 rfl); exact ⟨_, _, .shape (by simp), rfl, rfl⟩
  | @ch0 _ x y E A B r hd hx hy hn =>
    cases nil3 ((a6 rfl).2 (by omega))
    exact ⟨_, _, .choose (ys := [(.str "Nil", [], A), (.str "Cons", [.str x, .str y], B)]) (by simp), rfl, rfl⟩
  | @ch1 _ E A B r hd =>
    cases nil3 ((a6 rfl).2 (by omega))
    exact ⟨_, _, .choose (ys := [(.str "No", [], A), (.str "Yes", [], B)]) (by simp), rfl, rfl⟩
  | @ch2 _ x y E A r hd hx hy hn =>
    cases nil2 ((a6 rfl).1 hd)
    exact ⟨_, _, .choose (ys := [(.str "Pair", [.str x, .str y], A)]) (by simp), rfl, rfl⟩
  | first => cases nil2 (a7 rfl); exact ⟨_, _, .first, rfl, rfl⟩
  | @rows _ E zs h hl =>
    refine ⟨_, _, .rows (by omega) (fun z hz => ?_), ?_, ?_⟩
    · rcases h z hz with ⟨_, e⟩ | ⟨_, _, _, _, _, e⟩ <;> rw [e] <;> simp
    · rw [List.map_cons, rowsSc_snd]
    · rw [if_pos rfl, List.length_cons, List.length_map]; rfl
theorem Jn.flat {ps : List Str} {s d : Int} {ts : List T} {t : T} {k : Nat} (h : Jn ps s d ts t) (hk : 1 ≤ k) (hf : ∀ x ∈ ts, flat x k = true) : flat t (k + 3) = true := by
  obtain ⟨j, rfl⟩ : ∃ j, k = j + 1 := ⟨k - 1, by omega⟩
  have g : ∀ x ∈ ts, ∀ m, j + 1 ≤ m → WL.flat x m = true := fun x hx m hm => flat_mono x (hf x hx) hm
  cases h with
  | does h => simp [WL.flat, flats, g]
  | fun_ h => simp [WL.flat, flats, g]
  | call => simp [WL.flat, flats, g]
  | first => simp [WL.flat, flats, g]
  | @let_ _ zs us B h hz hl h1 h5 =>
    have e : flats ((zs.zip us).map fun x => T.tup [.str x.1, x.2]) (j + 2) = true := flats_iff.mpr fun y hy => by
      obtain ⟨z, hz', rfl⟩ := List.mem_map.mp hy
      have := g z.2 (List.mem_append_left _ (List.of_mem_zip hz').2) (j + 1) (by omega)
      simp [WL.flat, flats, this]
    simp [WL.flat, flats, g, e]
  | shape h => simp [WL.flat, flats, g]
  | ch0 hd hx hy hn => simp [WL.flat, flats, g]
  | ch1 hd => simp [WL.flat, flats, g]
  | ch2 hd hx hy hn => simp [WL.flat, flats, g]
  | @rows _ E zs h hl =>
    have e : flats (zs.map stT) (j + 2) = true := flats_iff.mpr fun y hy => by
      obtain ⟨z, hz', rfl⟩ := List.mem_map.mp hy
      have := g z.2.2 (by simp; exact .inr ⟨z.1, z.2.1, hz'⟩) (j + 1) (by omega)
      unfold stT
      rcases h z hz' with ⟨e1, e2⟩ | ⟨_, _, _, _, e1, e2⟩ <;> rw [e1, e2] <;> simp [WL.flat, flats, this]
    simp [WL.flat, flats, g, e]
set_option Elab.async false
set_option linter.all false
set_option maxRecDepth 100000
set_option maxHeartbeats 4000000
open PySem PySem.Spec PyProof.Rows L2 WL
/-- a term that the law builds: a leaf, or put together of such -/
def Wt (ps : List Str) : Nat → T → Prop
  | 0, t => Lf ps t
  | n + 1, t => Wt ps n t ∨ ∃ s d ts, Jn ps s d ts t ∧ ∀ x ∈ ts, Wt ps n x
theorem Wt.mono {ps : List Str} {t : T} : ∀ {n m : Nat}, Wt ps n t → n ≤ m → Wt ps m t := by
  intro n m h hl
  induction m with
  | zero => have : n = 0 := by omega
            subst this; exact h
  | succ m ih =>
    by_cases c : n = m + 1
    · subst c; exact h
    · exact .inl (ih (by omega))
theorem Wt.leaf {ps : List Str} {t : T} (h : Lf ps t) (n : Nat) : Wt ps n t := Wt.mono (n := 0) h (Nat.zero_le _)
section
variable {χ : WX}
theorem s_term {a p : Addr} {ps : List Str} (hps : ps ≠ []) (hp9 : ps.length ≤ 9) (pa : a ≠ p) : ∀ (k : Nat) {n : Nat} {C : Hw} {Q : WK} {r : List Int}, C a = some (.lst (ps.map T.str)) → C p = some (.lst (r.map T.int)) → (∀ x ∈ r, 0 ≤ x) →
    (∀ t C' (r' : List Int), ExB p C C' → C' p = some (.lst (r'.map T.int)) → (∀ x ∈ r', 0 ≤ x) → r'.length ≤ r.length → Wt ps k t → Q t C') → wpc pr (n + k + 5) i__law_term [.ref p, .int ((k : Int) + 1), .ref a] C Q χ := by
  intro k
  induction k with
  | zero =>
    intro n C Q r ha hp hr0 q
    refine u__law_term rfl ?_
    unfold w__law_term
    walk_at "ws"
    have fin : ∀ (v : Int) (C1 : Hw) (r2 : List Int) x4 x5 x6, 0 ≤ v → ExB p C C1 → C1 p = some (.lst (r2.map T.int)) → (∀ x ∈ r2, 0 ≤ x) → r2.length ≤ r.length →
        w__law_term_t3 (wpc pr (n + 4)) { nx := fun _ C' => Q .non C', rt := Q, xc := χ } [some (.ref p), some (.int ((0 : Nat) + 1)), some (.ref a), some (.int v), x4, x5, x6] C1 := fun v C1 r2 x4 x5 x6 hv hE hp1 hr2 hl => by
      unfold w__law_term_t3
      walk_at "ws"
      exact ⟨⟨by decide, by decide⟩, s_leaf (n := n + 2) (by omega) (hE _ _ pa ha) hps fun t C2 hE2 hL => q t C2 r2 (hE.trans (hE2.exB p)) (hE2 _ _ hp1) hr2 hl hL⟩
    cases r with
    | nil =>
      refine ⟨_, hp, ?_⟩
      walk_at "ws"
      exact fin 0 C [] _ _ _ (by decide) (ExB.refl _ _) hp (by simp) (Nat.le_refl _)
    | cons v r2 =>
      refine ⟨_, hp, ?_⟩
      rw [if_pos (by simp only [List.map_cons, List.length_cons]; omega)]
      refine ⟨⟨_, hp⟩, _, hp, _, seq0 (by simp), _, rfl, ?_⟩
      walk_at "ws"
      exact fin v _ r2 _ _ _ (hr0 v (by simp)) (ExB.refl _ _).put up_same (fun x hx => hr0 x (by simp [hx])) (by simp)
  | succ k ih =>
    intro n C Q r ha hp hr0 q
    refine u__law_term rfl ?_
    unfold w__law_term
    walk_at "ws"
    have fin : ∀ (v : Int) (C1 : Hw) (r2 : List Int) x4 x5 x6, 0 ≤ v → ExB p C C1 → C1 p = some (.lst (r2.map T.int)) → (∀ x ∈ r2, 0 ≤ x) → r2.length ≤ r.length →
        w__law_term_t3 (wpc pr (n + k + 5)) { nx := fun _ C' => Q .non C', rt := Q, xc := χ } [some (.ref p), some (.int (((k + 1 : Nat) : Int) + 1)), some (.ref a), some (.int v), x4, x5, x6] C1 := fun v C1 r2 x4 x5 x6 hv hE hp1 hr2 hl => by
      unfold w__law_term_t3
      walk_at "ws"
      have lf : CDiv v 9 ∧ wpc pr (n + k + 5) i__law_leaf [.int (v / 9), .ref a] C1 Q χ := ⟨⟨by decide, by decide⟩, s_leaf (n := n + k + 3) (by omega) (hE _ _ pa ha) hps fun t C2 hE2 hL => q t C2 r2 (hE.trans (hE2.exB p)) (hE2 _ _ hp1) hr2 hl (Wt.leaf hL _)⟩
      refine ite2 (fun c => lf) fun c => ⟨_, hp1, ite2 (fun c => lf) fun c => ite2 (fun c => lf) fun c9 => ?_⟩
      unfold w__law_term_t2
      walk_at "ws"
      intro b hb
      have bp : b ≠ p := cne' hp1 hb
      have ba : b ≠ a := cne' (hE _ _ pa ha) hb
      refine ⟨⟨by decide, by decide⟩, s_many (n := n + k + 4) (by omega) (by omega) (by omega) fun m C2 hE2 hM => ?_⟩
      walk_at "ws"
      have hm6 : m ≤ 6 := hM.2.2.2.2.2.2.2.2
      have hEb : Ex C1 (up C1 b (.lst [])) := Ex.new hb
      refine ⟨by omega, by omega, ?_⟩
      refine for_rng (fun i τ C' => ∃ x6 ts, ∃ r' : List Int, τ = [some (.ref p), some (.int (((k + 1 : Nat) : Int) + 1)), some (.ref a), some (.int v), some (.int (v % 9)), some (.ref b), x6] ∧ ExB p C C' ∧ C' a = some (.lst (ps.map T.str)) ∧ C' p = some (.lst (r'.map T.int)) ∧ (∀ x ∈ r', 0 ≤ x) ∧ r'.length ≤ r.length ∧ C' b = some (.lst ts) ∧ ts.length = i ∧ ∀ x ∈ ts, Wt ps k x)
        ⟨x6, [], r2, rfl, (hE.trans (hEb.exB p)).trans (hE2.exB p), hE2 _ _ (hEb _ _ (hE _ _ pa ha)), hE2 _ _ (hEb _ _ hp1), hr2, hl, hE2 _ _ up_same, rfl, by simp⟩ (fun _ => trivial) ?_ ?_
      · rintro i τ C' N hi ⟨x6, ts, r', rfl, hE', ha', hp', hr', hrl, hb', htl, htw⟩ hN
        walk_at "ws"
        refine ⟨⟨_, hb'⟩, ?_⟩
        rw [show (((k + 1 : Nat) : Int) + 1 - 1) = (k : Int) + 1 by omega]
        refine ih (n := n) ha' hp' hr' fun t C3 r3 hE3 hp3 hr3 hl3 hW => ?_
        have hb3 := hE3 _ _ bp hb'
        refine ⟨_, hb3, small63' (by omega), hN _ _ ⟨_, ts ++ [t], r3, rfl, ?_, ?_, ?_, hr3, by omega, up_same, by rw [List.length_append, htl]; rfl, ?_⟩⟩
        · intro x o hx ho
          rw [up_ne (cne' (hE _ _ hx ho) hb).symm]
          exact hE3 _ _ hx (hE' _ _ hx ho)
        · rw [up_ne ba.symm]; exact hE3 _ _ pa ha'
        · rw [up_ne bp.symm]; exact hp3
        · intro x hx
          rcases List.mem_append.mp hx with hx | hx
          · exact htw x hx
          · rw [List.mem_singleton.mp hx]; exact hW
      · rintro τ C' ⟨x6, ts, r', rfl, hE', ha', hp', hr', hrl, hb', htl, htw⟩
        unfold w__law_term_t1
        walk_at "ws"
        have htl' : ts.length = m := by omega
        refine ⟨⟨by decide, by decide⟩, s_joined (n := n + k + 2) (by omega) ha' hps hp9 hb' (hM.fit (by omega) (by omega) htl') fun t C8 hE8 hJ => ?_⟩
        exact q t C8 r' (hE'.trans (hE8.exB p)) (hE8 _ _ hp') hr' hrl (.inr ⟨_, _, ts, hJ, htw⟩)
    cases r with
    | nil =>
      refine ⟨_, hp, ?_⟩
      walk_at "ws"
      exact fin 0 C [] _ _ _ (by decide) (ExB.refl _ _) hp (by simp) (Nat.le_refl _)
    | cons v r2 =>
      refine ⟨_, hp, ?_⟩
      rw [if_pos (by simp only [List.map_cons, List.length_cons]; omega)]
      refine ⟨⟨_, hp⟩, _, hp, _, seq0 (by simp), _, rfl, ?_⟩
      walk_at "ws"
      exact fin v _ r2 _ _ _ (hr0 v (by simp)) (ExB.refl _ _).put up_same (fun x hx => hr0 x (by simp [hx])) (by simp)
end
section
variable {C : Hw} {Q : WK} {χ : WX} {n : Nat}
theorem s_wrappedP {d : Int} {t : T} {a : Addr} {ps : List Str} (Pv : Nat → T → Prop) (h0 : 0 ≤ d) (ha : C a = some (.lst (ps.map T.str))) (hps : ps ≠ []) (hW : Pv 0 t) (hf : ∀ i t x, x ∈ ps → Pv i t → Pv (i + 1) (.tup [.str "fun", .str x, t]))
    (hc : ∀ i t u, Lf ps u → Pv i t → Pv (i + 1) (.tup [.str "call", t, u])) (hs : ∀ i t u, Lf ps u → Pv i t → Pv (i + 1) (.tup [.str "shape", .str "Cons", .tup [u, t]]))
    (q : ∀ t' i C', Ex C C' → i ≤ 11 → Pv i t' → Q t' C') : wpc pr (n + 3) i__law_wrapped [t, .int d, .ref a] C Q χ := by
  refine u__law_wrapped rfl ?_
  unfold w__law_wrapped
  walk_at "ws"
  have hpl : 0 < ps.length := List.length_pos_iff.mpr hps
  have pick : ∀ i : Int, ∃ x, atI (ps.map T.str) (i % ((ps.map T.str).length : Int)) = some (.str x) ∧ x ∈ ps := fun i => atT_strs (Int.emod_nonneg _ (by rw [List.length_map]; omega)) (by rw [List.length_map]; exact Int.emod_lt_of_pos _ (by omega))
  have hlp : (0 : Int) < ((ps.map T.str).length : Int) := by rw [List.length_map]; omega
  refine ⟨by omega, by omega, ?_⟩
  refine for_rng (fun i τ C' => ∃ x3 x4 t', τ = [some t', some (.int d), some (.ref a), x3, x4] ∧ Ex C C' ∧ Pv i t') ⟨none, none, t, rfl, Ex.refl _, hW⟩ (fun _ => trivial) ?_ ?_
  · rintro i τ C' N hi ⟨x3, x4, t', rfl, hE, hW'⟩ hN
    walk_at "ws"
    have ha' := hE _ _ ha
    refine ⟨.inl ⟨by decide, by decide⟩, ⟨by omega, by omega⟩, ite2 (fun c => ?_) fun c => ite2 (fun c => ?_) fun c => ?_⟩
    · obtain ⟨x, hx, mx⟩ := pick (d / (17 + (0 + (i : Int))))
      exact ⟨⟨by omega, by omega⟩, _, ha', hlp, _, ha', _, hx, hN _ _ ⟨_, _, _, rfl, hE, hf i t' x mx hW'⟩⟩
    · exact ⟨⟨by omega, by omega⟩, s_leaf (Int.ediv_nonneg h0 (by omega)) ha' hps fun t1 C2 hE2 hL => hN _ _ ⟨_, _, _, rfl, hE.trans hE2, hc i t' t1 hL hW'⟩⟩
    · exact ⟨⟨by omega, by omega⟩, s_leaf (Int.ediv_nonneg h0 (by omega)) ha' hps fun t1 C2 hE2 hL => hN _ _ ⟨_, _, _, rfl, hE.trans hE2, hs i t' t1 hL hW'⟩⟩
  · rintro τ C' ⟨x3, x4, t', rfl, hE, hW'⟩
    walk_at "ws"
    exact q _ _ _ hE (by omega) hW'
end
set_option Elab.async false
set_option linter.all false
set_option maxRecDepth 100000
set_option maxHeartbeats 4000000
open PySem PySem.Spec PyProof.Rows L2 WL
/-! ### marks for names -/
abbrev Ms := List (Str × T)
def dm (M : Ms) : List (Key × T) := M.map fun kv => ((Sum.inr kv.1 : Key), kv.2)
def less (M : Ms) (ns : List Str) : Ms := M.filter fun kv => decide (kv.1 ∉ ns)
structure MOk (M : Ms) : Prop where
  nd : (M.map (·.1)).Nodup
  mks : ∀ kv ∈ M, Mk kv.2
  l9 : M.length ≤ 9
theorem MOk.less {M : Ms} (h : MOk M) (ns : List Str) : MOk (less M ns) := ⟨List.Nodup.sublist (List.Sublist.map _ List.filter_sublist) h.nd, fun kv hk => h.mks kv (List.mem_filter.mp hk).1, Nat.le_trans (List.length_filter_le _ _) h.l9⟩
theorem less_nil {M : Ms} : less M [] = M := by unfold less; simp
theorem less_less {M : Ms} {a b : List Str} : less (less M a) b = less M (a ++ b) := by
  unfold less
  rw [List.filter_filter]
  refine List.filter_congr fun kv _ => ?_
  simp only [List.mem_append, not_or]
  by_cases h1 : kv.1 ∈ a <;> by_cases h2 : kv.1 ∈ b <;> simp [h1, h2]
theorem dm_get {M : Ms} {x : Str} : getT (dm M) (.inr x) = (M.find? fun kv => decide (kv.1 = x)).map (·.2) := by
  unfold getT dm
  rw [List.find?_map, Option.map_map]
  congr 1
  congr 1
  funext kv
  simp
theorem dm_none {M : Ms} {x : Str} : getT (dm M) (.inr x) = none ↔ x ∉ M.map (·.1) := by
  rw [dm_get, Option.map_eq_none_iff, List.find?_eq_none]
  constructor
  · intro h hx
    obtain ⟨kv, h1, rfl⟩ := List.mem_map.mp hx
    exact h kv h1 (by simp)
  · intro h kv h1 h2
    exact h (List.mem_map.mpr ⟨kv, h1, by simpa using h2⟩)
theorem dm_some {M : Ms} {x : Str} {v : T} (h : getT (dm M) (.inr x) = some v) : ∃ kv ∈ M, kv.2 = v := by
  rw [dm_get, Option.map_eq_some_iff] at h
  obtain ⟨kv, h1, h2⟩ := h
  exact ⟨kv, List.mem_of_find?_eq_some h1, h2⟩
theorem dm_at : ∀ {M : Ms} {i : Nat} {kv : Str × T}, (M.map (·.1)).Nodup → M[i]? = some kv → getT (dm M) (.inr kv.1) = some kv.2
  | [], _, _, _, h => by simp at h
  | z :: M, 0, kv, _, h => by simp at h; subst h; rw [dm_get]; simp
  | z :: M, i + 1, kv, hn, h => by
    rw [List.map_cons, List.nodup_cons] at hn
    have h' : M[i]? = some kv := by simpa using h
    have ne : ¬ z.1 = kv.1 := fun e => hn.1 (e ▸ List.mem_map.mpr ⟨kv, List.mem_of_getElem? h', rfl⟩)
    have ih := dm_at hn.2 h'
    rw [dm_get] at ih ⊢
    rw [List.find?_cons_of_neg (by simpa using ne)]
    exact ih
theorem dm_drop {M : Ms} {x : Str} : dropT (dm M) (.inr x) = dm (less M [x]) := by
  unfold dropT dm less
  rw [List.filter_map]
  congr 1
  refine List.filter_congr fun kv _ => ?_
  simp
theorem less_none {M : Ms} {ns : List Str} (h : ∀ x ∈ ns, x ∉ M.map (·.1)) : less M ns = M := by
  unfold less
  rw [List.filter_eq_self]
  intro kv hk
  simp only [decide_eq_true_eq]
  exact fun hn => h _ hn (List.mem_map.mpr ⟨kv, hk, rfl⟩)
theorem dm_put {L : Ms} {x : Str} {v : T} (h : x ∉ L.map (·.1)) : putT (dm L) (.inr x) v = dm (L ++ [(x, v)]) := by
  unfold putT
  rw [if_neg]
  · unfold dm; rw [List.map_append]; rfl
  · rw [List.any_eq_true]
    rintro ⟨kv, hk, e⟩
    unfold dm at hk
    obtain ⟨z, hz, rfl⟩ := List.mem_map.mp hk
    exact h (List.mem_map.mpr ⟨z, hz, by simpa using e⟩)
theorem dm_len {M : Ms} : (dm M).length = M.length := by unfold dm; simp
theorem dm_nil {M : Ms} : (dm M).length = 0 ↔ M = [] := by rw [dm_len, List.length_eq_zero_iff]
theorem rD_dm {M : Ms} : rD (dm M) = M.map fun kv => T.str kv.1 := by unfold rD dm; rw [List.map_map]; rfl
theorem less_take {M : Ms} {ns : List Str} {i : Nat} {kv : Str × T} (h : M[i]? = some kv) : less (M.take (i + 1)) ns = less (M.take i) ns ++ (if kv.1 ∈ ns then [] else [kv]) := by
  unfold less
  rw [List.take_add_one, h, List.filter_append]
  congr 1
  by_cases c : kv.1 ∈ ns <;> simp [c]
theorem nd_take {M : Ms} {ns : List Str} {i : Nat} {kv : Str × T} (hn : (M.map (·.1)).Nodup) (h : M[i]? = some kv) : kv.1 ∉ (less (M.take i) ns).map (·.1) := by
  intro hm
  obtain ⟨z, hz, e⟩ := List.mem_map.mp hm
  have hz' := (List.mem_filter.mp hz).1
  obtain ⟨j, hj⟩ := List.mem_iff_getElem?.mp hz'
  rw [List.getElem?_take] at hj
  by_cases c : j < i
  · rw [if_pos c] at hj
    have e1 : (M.map (·.1))[j]? = some kv.1 := by rw [List.getElem?_map, hj]; simp [e]
    have e2 : (M.map (·.1))[i]? = some kv.1 := by rw [List.getElem?_map, h]; rfl
    have := (List.getElem?_inj (by rw [List.length_map]; have := (List.getElem?_eq_some_iff.mp h).1; omega) hn).mp (e1.trans e2.symm)
    omega
  · rw [if_neg c] at hj; cases hj
theorem _root_.WL.RdC.ex {C C' : Hw} {a : Addr} {k : List (Key × T)} (h : RdC C a k) (e : Ex C C') : RdC C' a k := h.imp (e _ _) (e _ _)
theorem _root_.WL.RdC.exB {C C' : Hw} {a p : Addr} {k : List (Key × T)} (h : RdC C a k) (e : ExB p C C') (n : a ≠ p) : RdC C' a k := h.imp (e _ _ n) (e _ _ n)
theorem _root_.WL.RdC.inj {C : Hw} {a : Addr} {k k' : List (Key × T)} (h : RdC C a k) (h' : RdC C a k') : k = k' := by
  rcases h with h | h <;> rcases h' with h' | h' <;> rw [h] at h' <;> cases h' <;> rfl
theorem _root_.WL.RdC.ne {C : Hw} {a p : Addr} {k : List (Key × T)} (h : RdC C a k) (hp : C p = none) : a ≠ p := by
  rcases h with h | h <;> exact cne h hp
theorem _root_.WL.RdC.nel {C : Hw} {a p : Addr} {k : List (Key × T)} {xs : List T} (h : RdC C a k) (hp : C p = some (.lst xs)) : p ≠ a := by
  intro e; subst e
  rcases h with h | h <;> rw [h] at hp <;> cases hp
section
variable {C : Hw} {Q : WK} {χ : WX} {n : Nat}
/-- the law's own: the marks but for some names, told in a tuple -/
theorem s_less_t {a : Addr} {M : Ms} {ns : List Str} (hM : MOk M) (ha : RdC C a (dm M)) (q : ∀ p C', C p = none → ExB a C C' → RdC C' a (dm M) → C' p = some (.dic (dm (less M ns))) → Q (.ref p) C') :
    wpc pr (n + 1) i__law_less [.ref a, .tup (ns.map T.str)] C Q χ := by
  refine u__law_less rfl ?_
  unfold w__law_less
  walk_at "ws"
  intro p hp
  simp only [iDc]
  walk_at "ws"
  have ap := ha.ne hp
  refine ⟨dm M, ha.ex (Ex.new hp), ?_⟩
  rw [rD_dm]
  refine for_inv (fun i τ C' => ∃ x3, τ = [some (.ref a), some (.tup (ns.map T.str)), some (.ref p), x3] ∧ ExB a C C' ∧ C' a = some (.fdic (dm M)) ∧ C' p = some (.dic (dm (less (M.take i) ns))))
    ⟨none, rfl, ((Ex.new hp).exB a).put, up_same, by rw [up_ne ap.symm]; exact up_same⟩ (fun i τ C' _ ⟨_, _, _, h, _⟩ => h) ?_ ?_
  · rintro i x τ C' N hx ⟨x3, rfl, hE, ha', hp'⟩ hN
    rw [List.getElem?_map] at hx
    cases hz : M[i]? with
    | none => rw [hz] at hx; cases hx
    | some kv =>
      rw [hz] at hx
      cases hx
      walk_at "ws"
      refine ⟨flat_str, flats_strs, ?_⟩
      rw [inL_strs]
      refine ⟨_, rfl, ?_⟩
      have ht := less_take (ns := ns) hz
      by_cases c : kv.1 ∈ ns
      · rw [if_neg (by simp [c])]
        rw [if_pos c, List.append_nil] at ht
        exact hN _ _ ⟨_, rfl, hE, ha', by rw [ht]; exact hp'⟩
      · rw [if_pos (by simp [c])]
        rw [if_neg c] at ht
        refine ⟨a, dm M, .inr kv.1, kv.2, rfl, rfl, .inr ha', dm_at hM.nd hz, ?_⟩
        simp only [gSd]
        walk_at "ws"
        refine ⟨_, .inr kv.1, rfl, hp', ?_, hN _ _ ⟨_, rfl, ?_, by rw [up_ne ap]; exact ha', ?_⟩⟩
        · rw [dm_len]
          have h1 := List.length_filter_le (fun kv : Str × T => decide (kv.1 ∉ ns)) (M.take i)
          have h2 := hM.l9
          rw [List.length_take] at h1
          exact small63' (by unfold less; omega)
        · exact hE.new hp
        · rw [up_same, dm_put (nd_take hM.nd hz), ht]
  · rintro τ C' ⟨x3, rfl, hE, ha', hp'⟩
    rw [List.length_map, List.take_length] at hp'
    walk_at "ws"
    exact q p C' hp hE (.inr ha') hp'
theorem s_less_l {a b : Addr} {M : Ms} {ns : List Str} (hM : MOk M) (ha : RdC C a (dm M)) (hb : C b = some (.lst (ns.map T.str))) (q : ∀ p C', C p = none → ExB a C C' → RdC C' a (dm M) → C' p = some (.dic (dm (less M ns))) → Q (.ref p) C') :
    wpc pr (n + 1) i__law_less [.ref a, .ref b] C Q χ := by
  refine u__law_less rfl ?_
  unfold w__law_less
  walk_at "ws"
  intro p hp
  simp only [iDc]
  walk_at "ws"
  have ap := ha.ne hp
  have ba := ha.nel hb
  refine ⟨dm M, ha.ex (Ex.new hp), ?_⟩
  rw [rD_dm]
  refine for_inv (fun i τ C' => ∃ x3, τ = [some (.ref a), some (.ref b), some (.ref p), x3] ∧ ExB a C C' ∧ C' a = some (.fdic (dm M)) ∧ C' p = some (.dic (dm (less (M.take i) ns))))
    ⟨none, rfl, ((Ex.new hp).exB a).put, up_same, by rw [up_ne ap.symm]; exact up_same⟩ (fun i τ C' _ ⟨_, _, _, h, _⟩ => h) ?_ ?_
  · rintro i x τ C' N hx ⟨x3, rfl, hE, ha', hp'⟩ hN
    rw [List.getElem?_map] at hx
    cases hz : M[i]? with
    | none => rw [hz] at hx; cases hx
    | some kv =>
      rw [hz] at hx
      cases hx
      walk_at "ws"
      refine wIn_ref (hE _ _ ba hb) ⟨_, rfl, ?_⟩
      have ht := less_take (ns := ns) hz
      by_cases c : kv.1 ∈ ns
      · rw [if_neg (by simp [c])]
        rw [if_pos c, List.append_nil] at ht
        exact hN _ _ ⟨_, rfl, hE, ha', by rw [ht]; exact hp'⟩
      · rw [if_pos (by simp [c])]
        rw [if_neg c] at ht
        refine ⟨a, dm M, .inr kv.1, kv.2, rfl, rfl, .inr ha', dm_at hM.nd hz, ?_⟩
        simp only [gSd]
        walk_at "ws"
        refine ⟨_, .inr kv.1, rfl, hp', ?_, hN _ _ ⟨_, rfl, ?_, by rw [up_ne ap]; exact ha', ?_⟩⟩
        · rw [dm_len]
          have h1 := List.length_filter_le (fun kv : Str × T => decide (kv.1 ∉ ns)) (M.take i)
          have h2 := hM.l9
          rw [List.length_take] at h1
          exact small63' (by unfold less; omega)
        · exact hE.new hp
        · rw [up_same, dm_put (nd_take hM.nd hz), ht]
  · rintro τ C' ⟨x3, rfl, hE, ha', hp'⟩
    rw [List.length_map, List.take_length] at hp'
    walk_at "ws"
    exact q p C' hp hE (.inr ha') hp'
/-- the program's: the marks but for some names -/
theorem s_without {a : Addr} {M : Ms} {ns : List Str} (h5 : ns.length ≤ 1000) (ha : RdC C a (dm M)) (q : ∀ p C', Ex C C' → RdC C' p (dm (less M ns)) → Q (.ref p) C') :
    wpc pr (n + 1) i_without [.ref a, .tup (ns.map T.str)] C Q χ := by
  refine u_without rfl ?_
  unfold w_without
  walk_at "ws"
  refine comp_pure (fun t => match t with | .str x => .bl (getT (dm M) (.inr x)).isSome | _ => .non) trivial (by rw [List.length_map]; exact small63 (by omega)) (fun x hx R hR => ?_) fun p hp => ?_
  · obtain ⟨y, _, rfl⟩ := List.mem_map.mp hx
    walk_at "ws"
    exact ⟨a, dm M, .inr y, rfl, rfl, ha, hR⟩
  have e : (ns.map T.str).map (fun t => match t with | .str x => T.bl (getT (dm M) (.inr x)).isSome | _ => T.non) = (ns.map fun x => (getT (dm M) (.inr x)).isSome).map T.bl := by rw [List.map_map, List.map_map]; rfl
  rw [e]
  refine ⟨p, _, rfl, up_same, _, rfl, ?_⟩
  have ha1 := ha.ex (Ex.new (o := .lst ((ns.map fun x => (getT (dm M) (.inr x)).isSome).map T.bl)) hp)
  by_cases c : ((ns.map fun x => (getT (dm M) (.inr x)).isSome).any id) = true
  · rw [if_neg (by rw [c]; simp)]
    refine ⟨a, dm M, rfl, ha1, fun r hr => ?_⟩
    obtain ⟨nr, hr0⟩ := fr1 hr
    walk_at "ws"
    refine for_inv (fun i τ C' => ∃ x3, τ = [some (.ref a), some (.tup (ns.map T.str)), some (.ref r), x3] ∧ Ex C C' ∧ C' r = some (.dic (dm (less M (ns.take i))))) ⟨none, rfl, (Ex.new hp).up hr0, by rw [List.take_zero, less_nil]; exact up_same⟩ (fun _ _ _ _ _ => trivial) ?_ ?_
    · rintro i x τ C' N hx ⟨x3, rfl, hE, hr'⟩ hN
      rw [List.getElem?_map] at hx
      cases hz : ns[i]? with
      | none => rw [hz] at hx; cases hx
      | some y =>
        rw [hz] at hx
        cases hx
        walk_at "ws"
        simp only [eDpop2]
        walk_at "ws"
        have et : less M (ns.take (i + 1)) = less (less M (ns.take i)) [y] := by rw [less_less, List.take_add_one, hz]; rfl
        refine ⟨⟨_, hr'⟩, _, .inr y, rfl, hr', fun v hv => hN _ _ ⟨_, rfl, hE.up hr0, ?_⟩, fun hv => hN _ _ ⟨_, rfl, hE, ?_⟩⟩
        · rw [up_same, dm_drop, et]
        · rw [et, less_none (M := less M (ns.take i)) (ns := [y])]
          · exact hr'
          · intro x hx
            rw [List.mem_singleton] at hx
            subst hx
            exact dm_none.mp hv
    · rintro τ C' ⟨x3, rfl, hE, hr'⟩
      rw [List.length_map, List.take_length] at hr'
      walk_at "ws"
      exact q r C' hE (.inl hr')
  · rw [if_pos (by rw [Bool.eq_false_iff.mpr c])]
    refine q a _ (Ex.new hp) ?_
    rw [less_none]
    · exact ha1
    · intro x hx
      refine dm_none.mp ?_
      cases hg : getT (dm M) (.inr x) with
      | none => rfl
      | some v =>
        refine absurd ?_ c
        rw [List.any_eq_true]
        exact ⟨true, List.mem_map.mpr ⟨x, hx, by rw [hg]; rfl⟩, rfl⟩
/-- the lasts of some tuples changed -/
theorem s_with_lasts {b : Addr} {xs : List (List T)} {ys : List T} (hb : C b = some (.lst ys)) (hl : xs.length = ys.length) (h1 : xs.length ≤ 1000) (hx : ∀ x ∈ xs, x ≠ [] ∧ x.length ≤ 1000) (q : ∀ C', Ex C C' → Q (.tup ((xs.zip ys).map fun z => .tup (z.1.dropLast ++ [z.2]))) C') :
    wpc pr (n + 1) i_with_lasts [.tup (xs.map T.tup), .ref b] C Q χ := by
  refine u_with_lasts rfl ?_
  unfold w_with_lasts
  walk_at "ws"
  simp only [iZp]
  walk_at "ws"
  refine .inr ⟨ys, hb, by rw [List.length_map]; exact hl, ?_⟩
  have ez : zipT (xs.map T.tup) ys = (xs.zip ys).map fun z => .tup [.tup z.1, z.2] := by
    unfold zipT
    rw [List.zipWith_map_left, List.zip, List.map_zipWith]
  rw [ez]
  refine comp_pure (fun t => match t with | .tup [.tup x, y] => .tup (x.dropLast ++ [y]) | _ => .non) hb (by rw [List.length_map, List.length_zip]; exact small63 (by omega)) (fun x hx' R hR => ?_) fun p hp => ?_
  · obtain ⟨z, hz, rfl⟩ := List.mem_map.mp hx'
    obtain ⟨hz1, hz2⟩ := hx z.1 (List.of_mem_zip hz).1
    walk_at "ws"
    have hpos : 0 < z.1.length := List.length_pos_iff.mpr hz1
    have e : HT.sIx z.1.length z.1.length (some (-1)) = z.1.length - 1 := by unfold HT.sIx; simp; omega
    have e2 : cut z.1 none (some (-1)) = z.1.dropLast := by
      unfold cut
      rw [e, List.dropLast_eq_take]
      simp [HT.sIx]
    refine ⟨fun h => ?_, ?_, ?_⟩
    · have := h.2; rw [e] at this; omega
    · rw [e2]; rw [List.length_dropLast]; exact small63 (by show _ + 1 ≤ _; omega)
    · rw [e2]; exact hR
  · refine ⟨_, up_same, ?_⟩
    rw [List.map_map]
    exact q _ (Ex.new hp)
end
set_option Elab.async false
set_option linter.all false
set_option maxRecDepth 100000
set_option maxHeartbeats 4000000
open PySem PySem.Spec PyProof.Rows L2 WL
/-- put of the term t by the marks M gives t': changed gives it, or None where it is t -/
def PT (f : Nat) (t : T) (M : Ms) (t' : T) : Prop := ∀ {n : Nat} {C : Hw} {Q : WK} {χ : WX} {a : Addr}, RdC C a (dm M) → (∀ o C', Ex C C' → (o = t' ∨ (o = .non ∧ t' = t)) → Q o C') → wpc pr (n + f + 4) i_changed [t, .ref a] C Q χ
def WPt (t : T) (ts : List T) (t' : T) : Prop := ∀ {n : Nat} {C : Hw} {Q : WK} {χ : WX} {b : Addr}, C b = some (.lst ts) → (∀ C', Ex C C' → Q t' C') → wpc pr (n + 2) i_with_parts [t, .ref b] C Q χ
theorem PT.mono {f g : Nat} {t t' : T} {M : Ms} (h : PT f t M t') (hl : f ≤ g) : PT g t M t' := by
  intro n C Q χ a ha q
  rw [show n + g + 4 = (n + (g - f)) + f + 4 by omega]
  exact h ha q
theorem PT.put {f : Nat} {t t' : T} {M : Ms} (h : PT f t M t') (ht : ∃ l, t' = .tup l) {n : Nat} {C : Hw} {Q : WK} {χ : WX} {a : Addr} (ha : RdC C a (dm M)) (q : ∀ C', Ex C C' → Q t' C') : wpc pr (n + f + 5) i_put [t, .ref a] C Q χ := by
  refine u_put rfl ?_
  unfold w_put
  walk_at "ws"
  refine h (n := n) ha fun o C' hE ho => ?_
  obtain ⟨l, rfl⟩ := ht
  rcases ho with rfl | ⟨rfl, rfl⟩
  · walk_at "ws"
    exact q _ hE
  · walk_at "ws"
    exact q _ hE
abbrev Sp := List Str × T
def scS (z : Sp) : List T × T := (z.1.map T.str, z.2)
theorem fl_strs {l : List Str} : isFlat (.tup (l.map T.str)) := flat_tup fun x hx => by obtain ⟨y, _, rfl⟩ := List.mem_map.mp hx; exact flat_str
theorem put_of {f : Nat} {w : Str} {rest : List T} {e : Option Nat} {ss : List Sp} {t' : T} {M : Ms} (g : T → Ms → T) (hM : MOk M) (h : Sc (.tup (.str w :: rest)) e (ss.map scS)) (hw : w ≠ "name") (h5 : ∀ z ∈ ss, z.1.length ≤ 1000) (hl : ss.length ≤ 1000)
    (hP : ∀ z ∈ ss, PT f z.2 (less M z.1) (g z.2 (less M z.1)) ∧ (less M z.1 = [] → g z.2 (less M z.1) = z.2) ∧ ∃ l, g z.2 (less M z.1) = .tup l) (hwp : WPt (.tup (.str w :: rest)) (ss.map fun z => g z.2 (less M z.1)) t')
    (hst : (∀ z ∈ ss, g z.2 (less M z.1) = z.2) → t' = .tup (.str w :: rest)) : PT (f + 1) (.tup (.str w :: rest)) M t' := by
  intro n C Q χ a ha q
  refine u_changed rfl ?_
  unfold w_changed
  walk_at "ws"
  rw [if_neg hw]
  unfold w_changed_t2
  walk_at "ws"
  intro p hp
  refine s_scopes (n := n + f + 2) h fun b C1 hE hb0 hb1 => ?_
  have hE0 : Ex C C1 := (Ex.new hp).trans hE
  have hp1 := hE _ _ (up_same (C := C) (a := p))
  have bp : b ≠ p := (fr1 hb0).1
  refine ⟨_, hb1, ?_⟩
  refine for_inv (fun i τ C' => ∃ x4 x5 x6 x7, ∃ st : Bool, τ = [some (.tup (.str w :: rest)), some (.ref a), some (.bl st), some (.ref p), x4, x5, x6, x7] ∧ Ex C C' ∧ C' b = some (.lst ((ss.map scS).map scT)) ∧ C' p = some (.lst ((ss.take i).map fun z => g z.2 (less M z.1))) ∧ (st = true → ∀ z ∈ ss.take i, g z.2 (less M z.1) = z.2))
    ⟨none, none, none, none, true, rfl, hE0, hb1, hp1, fun _ z hz => by simp at hz⟩ (fun i τ C' _ ⟨_, _, _, _, _, _, _, h, _⟩ => h) ?_ ?_
  · rintro i x τ C' N hx ⟨x4, x5, x6, x7, st, rfl, hE', hb', hp', hs'⟩ hN
    rw [List.map_map, List.getElem?_map] at hx
    cases hz : ss[i]? with
    | none => rw [hz] at hx; cases hx
    | some z =>
      rw [hz] at hx
      cases hx
      have mz := List.mem_of_getElem? hz
      have hi : i < ss.length := (List.getElem?_eq_some_iff.mp hz).1
      show gTp _ (.tup [.tup (z.1.map T.str), z.2]) _ _ _ _
      have fin : ∀ C4, Ex C' C4 → ∀ x4 x5 x6 x7 (s2 : Bool), (s2 = true → st = true ∧ g z.2 (less M z.1) = z.2) → ∃ xs, C4 p = some (.lst xs) ∧ xs.length < sizeLine ∧ N [some (.tup (.str w :: rest)), some (.ref a), some (.bl s2), some (.ref p), x4, x5, x6, x7] (up C4 p (.lst (xs ++ [g z.2 (less M z.1)]))) := fun C4 hE5 x4 x5 x6 x7 s2 h2 => by
        refine ⟨_, hE5 _ _ hp', ?_, hN _ _ ⟨x4, x5, x6, x7, s2, rfl, ?_, ?_, ?_, fun e y hy => ?_⟩⟩
        · rw [List.length_map, List.length_take]; exact small63' (by omega)
        · exact (hE'.trans hE5).up hp
        · rw [up_ne bp]; exact hE5 _ _ hb'
        · rw [up_same, List.take_add_one, hz, List.map_append]; rfl
        · rw [List.take_add_one, hz] at hy
          rcases List.mem_append.mp hy with hy | hy
          · exact hs' (h2 e).1 y hy
          · simp at hy; subst hy; exact (h2 e).2
      have hr : ∀ (l : Addr) (C2 : Hw), Ex C' C2 → RdC C2 l (dm (less M z.1)) → ∀ (D : We), D.nx = N → 
          sSeq (sAsg (eIf (tBl (eBin wReq (eVar 6) eDict0)) (eC (.non)) (eCall (wpc pr (n + (f + 1) + 3)) 6 (aCons (eVar 5) (aCons (eVar 6) aNil)))) (gNm 7))
          (sSeq (sIf (tBl (eBin wNotN (eVar 7) (eC (.non)))) (sAsg (eC (.bl false)) (gNm 2)) sPass)
          (sExpr (eMt tyL' mAppend (eVar 3) (aCons (eIf (tBl (eBin wIsN (eVar 7) (eC (.non)))) (eVar 5) (eVar 7)) aNil)))) D
          [some (.tup (.str w :: rest)), some (.ref a), some (.bl st), some (.ref p), some (.tup (z.1.map T.str)), some z.2, some (.ref l), x7] C2 := by
        intro l C2 hE2 hl2 D hD
        walk_at "ws"
        intro p3 hp3
        have hE3 : Ex C2 (up C2 p3 (.dic [])) := Ex.new hp3
        refine ⟨l, p3, _, [], rfl, rfl, hl2.ex hE3, .inl up_same, ?_⟩
        rw [hD]
        by_cases c : less M z.1 = []
        · refine .inr ⟨by rw [c]; rfl, by rw [c]; simp [dm], _, rfl, ?_⟩
          rw [if_pos (by decide)]
          have hg := (hP z mz).2.1 c
          obtain ⟨xs, h1, h2, h3⟩ := fin _ (hE2.trans hE3) (some (.tup (z.1.map T.str))) (some z.2) (some (.ref l)) (some .non) st fun e => ⟨e, hg⟩
          rw [hg] at h3
          exact ⟨⟨_, h1⟩, _, h1, h2, h3⟩
        · refine .inl ⟨fun hh => c (dm_nil.mp hh), _, rfl, ?_⟩
          rw [if_neg (by decide)]
          refine (hP z mz).1 (n := n) (hl2.ex hE3) fun o C4 hE4 ho => ?_
          obtain ⟨lt, hlt⟩ := (hP z mz).2.2
          rcases ho with rfl | ⟨rfl, hg⟩
          · have := fin C4 (hE2.trans (hE3.trans hE4)) (some (.tup (z.1.map T.str))) (some z.2) (some (.ref l)) (some (g z.2 (less M z.1))) false (by simp)
            rw [hlt] at this ⊢
            obtain ⟨xs, h1, h2, h3⟩ := this
            walk_at "ws"
            exact ⟨⟨_, h1⟩, _, h1, h2, h3⟩
          · obtain ⟨xs, h1, h2, h3⟩ := fin C4 (hE2.trans (hE3.trans hE4)) (some (.tup (z.1.map T.str))) (some z.2) (some (.ref l)) (some .non) st fun e => ⟨e, hg⟩
            rw [hg] at h3
            walk_at "ws"
            exact ⟨⟨_, h1⟩, _, h1, h2, h3⟩
      have key : ∀ (K : WK) (χ : WX), (∀ l C2, Ex C' C2 → RdC C2 l (dm (less M z.1)) → K (.ref l) C2) → eIf (tBl (eBin wEq (eVar 4) (eTup aNil))) (eVar 1) (eCall (wpc pr (n + (f + 1) + 3)) 7 (aCons (eVar 1) (aCons (eVar 4) aNil)))
          [some (.tup (.str w :: rest)), some (.ref a), some (.bl st), some (.ref p), some (.tup (z.1.map T.str)), some z.2, x6, x7] C' K χ := by
        intro K χ hK
        walk_at "ws"
        refine ⟨fl_strs, fl_strs (l := []), _, rfl, ?_⟩
        cases hz1 : z.1 with
        | nil =>
          rw [hz1] at hK
          rw [less_nil] at hK
          exact hK a C' (Ex.refl _) (ha.ex hE')
        | cons y ys =>
          rw [← hz1]
          rw [if_neg (by rw [hz1]; simp [WL.eqT, eqTs])]
          exact s_without (n := n + f + 3) (h5 z mz) (ha.ex hE') hK
      refine ⟨_, rfl, _, _, rfl, _, _, rfl, rfl, ?_⟩
      refine key _ _ ?_
      intro l C2 hE2 hl2
      exact hr l C2 hE2 hl2 _ rfl
  · rintro τ C' ⟨x4, x5, x6, x7, st, rfl, hE', hb', hp', hs'⟩
    rw [List.length_map, List.length_map, List.take_length] at hp' hs'
    unfold w_changed_t1
    walk_at "ws"
    cases st with
    | true =>
      refine ⟨true, rfl, ?_⟩
      rw [if_pos rfl]
      exact q _ _ hE' (.inr ⟨rfl, hst (hs' rfl)⟩)
    | false =>
      refine ⟨false, rfl, ?_⟩
      rw [if_neg (by decide)]
      exact hwp (n := n + f + 2) hp' fun C5 hE5 => q _ C5 (hE'.trans hE5) (.inl rfl)
theorem pt_name {x : Str} {M : Ms} : PT 0 (.tup [.str "name", .str x]) M ((getT (dm M) (.inr x)).getD (.tup [.str "name", .str x])) := by
  intro n C Q χ a ha q
  refine u_changed rfl ?_
  unfold w_changed
  walk_at "ws"
  simp only [eRget1]
  walk_at "ws"
  refine ⟨⟨_, ha⟩, _, .inr x, rfl, ha, q _ _ (Ex.refl _) ?_⟩
  cases getT (dm M) (.inr x) with
  | none => exact .inr ⟨rfl, rfl⟩
  | some v => exact .inl rfl
/-! ### the parts put in -/
section
variable {C : Hw} {Q : WK} {χ : WX} {n : Nat}
theorem s_wl {α : Type} {Z : List α} {pre : α → List T} {o nw : α → T} {b : Addr} (hb : C b = some (.lst (Z.map nw))) (h1 : Z.length ≤ 1000) (hx : ∀ z ∈ Z, (pre z).length ≤ 100) (q : ∀ C', Ex C C' → Q (.tup (Z.map fun z => .tup (pre z ++ [nw z]))) C') :
    wpc pr (n + 1) i_with_lasts [.tup (Z.map fun z => .tup (pre z ++ [o z])), .ref b] C Q χ := by
  have e : (Z.map fun z => T.tup (pre z ++ [o z])) = (Z.map fun z => pre z ++ [o z]).map T.tup := by rw [List.map_map]; rfl
  rw [e]
  refine s_with_lasts hb (by simp) (by simpa using h1) (fun x hx' => ?_) fun C' hE => ?_
  · obtain ⟨z, hz, rfl⟩ := List.mem_map.mp hx'
    have := hx z hz
    exact ⟨by simp, by rw [List.length_append, List.length_singleton]; omega⟩
  · have e2 : (((Z.map fun z => pre z ++ [o z]).zip (Z.map nw)).map fun z => T.tup (z.1.dropLast ++ [z.2])) = Z.map fun z => T.tup (pre z ++ [nw z]) := by
      rw [List.zip_map', List.map_map]
      refine List.map_congr_left fun z _ => ?_
      simp only [Function.comp, List.dropLast_concat]
    rw [e2]
    exact q C' hE
end
theorem wp_does {o A B A' B' : T} : WPt (.tup [.str "does", o, A, B]) [A', B'] (.tup [.str "does", o, A', B']) := by
  intro n C Q χ b hb q
  refine u_with_parts rfl ?_
  unfold w_with_parts
  refine k_a0 rfl (k_yes rfl rfl ?_)
  walk_at "ws"
  exact ⟨_, hb, _, atI_0, _, hb, _, atI_1, q _ (Ex.refl _)⟩
theorem wp_two {w : Str} {A B A' B' : T} (h : w = "call" ∨ w = "first") : WPt (.tup [.str w, A, B]) [A', B'] (.tup [.str w, A', B']) := by
  intro n C Q χ b hb q
  refine u_with_parts rfl ?_
  unfold w_with_parts
  refine k_a0 rfl (k_no rfl (by rcases h with rfl | rfl <;> decide +kernel) (k_yes2 rfl h ?_))
  walk_at "ws"
  exact ⟨_, hb, _, atI_0, _, hb, _, atI_1, q _ (Ex.refl _)⟩
theorem wp_fun {x A A' : T} : WPt (.tup [.str "fun", x, A]) [A'] (.tup [.str "fun", x, A']) := by
  intro n C Q χ b hb q
  refine u_with_parts rfl ?_
  unfold w_with_parts
  refine k_a0 rfl (k_no rfl (by decide +kernel) (k_no2 rfl (by decide +kernel) (by decide +kernel) (k_yes rfl rfl ?_)))
  walk_at "ws"
  exact ⟨_, hb, _, atI_0, q _ (Ex.refl _)⟩
theorem wp_shape {c : T} {ps ps' : List T} : WPt (.tup [.str "shape", c, .tup ps]) ps' (.tup [.str "shape", c, .tup ps']) := by
  intro n C Q χ b hb q
  refine u_with_parts rfl ?_
  unfold w_with_parts
  refine k_a0 rfl (k_no rfl (by decide +kernel) (k_no2 rfl (by decide +kernel) (by decide +kernel) (k_no rfl (by decide +kernel) (k_no rfl (by decide +kernel) (k_yes rfl rfl ?_)))))
  walk_at "ws"
  exact ⟨_, hb, q _ (Ex.refl _)⟩
theorem wp_other {w : Str} {rest ts : List T} (h : w ∉ sorts) : WPt (.tup (.str w :: rest)) ts (.tup (.str w :: rest)) := by
  intro n C Q χ b hb q
  refine u_with_parts rfl ?_
  unfold w_with_parts
  have hw : ∀ s ∈ sorts, w ≠ s := fun s hs z => h (z ▸ hs)
  refine k_a0 rfl (k_no rfl (hw "does" (by decide)) (k_no2 rfl (hw "call" (by decide)) (hw "first" (by decide)) (k_no rfl (hw "fun" (by decide)) (k_no rfl (hw "let" (by decide)) (k_no rfl (hw "shape" (by decide)) (k_no rfl (hw "choose" (by decide)) (k_no rfl (hw "rows" (by decide)) ?_)))))))
  walk_at "ws"
  exact q _ (Ex.refl _)
theorem cutA {α : Type} {a : α} {r : List α} : cut (a :: r) (some 1) none = r := by
  unfold cut
  have e1 : HT.sIx (a :: r).length 0 (some 1) = 1 := by unfold HT.sIx; simp
  have e2 : HT.sIx (a :: r).length (a :: r).length none = (a :: r).length := by unfold HT.sIx; simp
  rw [e1, e2]; simp
theorem cutZ {α : Type} {a : α} {r : List α} : cut (r ++ [a]) none (some (-1)) = r := by
  unfold cut
  have e1 : HT.sIx (r ++ [a]).length 0 none = 0 := by unfold HT.sIx; simp
  have e2 : HT.sIx (r ++ [a]).length (r ++ [a]).length (some (-1)) = r.length := by unfold HT.sIx; simp; omega
  rw [e1, e2]; simp
theorem atZ {a : T} {r : List T} : atI (r ++ [a]) (-1) = some a := by
  unfold atI ixN
  rw [if_neg (by decide), if_pos (by simp; omega)]
  have e : ((-1 : Int) + ((r ++ [a]).length : Nat)).toNat = r.length := by simp; omega
  rw [e]
  simp
theorem wp_let {α : Type} {Z : List α} {x : α → Str} {o nw : α → T} {B B' : T} (h1 : Z.length ≤ 1000) : WPt (.tup [.str "let", .tup (Z.map fun z => .tup [.str (x z), o z]), B]) (Z.map nw ++ [B']) (.tup [.str "let", .tup (Z.map fun z => .tup [.str (x z), nw z]), B']) := by
  intro n C Q χ b hb q
  refine u_with_parts rfl ?_
  unfold w_with_parts
  refine k_a0 rfl (k_no rfl (by decide +kernel) (k_no2 rfl (by decide +kernel) (by decide +kernel) (k_no rfl (by decide +kernel) (k_yes rfl rfl ?_))))
  walk_at "ws"
  refine ⟨_, hb, fun p hp => ?_⟩
  simp only [cutZ]
  refine s_wl (n := n) (pre := fun z => [T.str (x z)]) (o := o) (nw := nw) up_same h1 (by simp) fun C' hE => ?_
  refine ⟨_, hE _ _ ((Ex.new hp) _ _ hb), _, atZ, ?_⟩
  exact q _ ((Ex.new hp).trans hE)
theorem wp_choose {α : Type} {Z : List α} {c : α → Str} {ns : α → List Str} {o nw : α → T} {E E' : T} (h1 : Z.length ≤ 1000) :
    WPt (.tup [.str "choose", E, .tup (Z.map fun z => .tup [.str (c z), .tup ((ns z).map T.str), o z])]) (E' :: Z.map nw) (.tup [.str "choose", E', .tup (Z.map fun z => .tup [.str (c z), .tup ((ns z).map T.str), nw z])]) := by
  intro n C Q χ b hb q
  refine u_with_parts rfl ?_
  unfold w_with_parts
  refine k_a0 rfl (k_no rfl (by decide +kernel) (k_no2 rfl (by decide +kernel) (by decide +kernel) (k_no rfl (by decide +kernel) (k_no rfl (by decide +kernel) (k_no rfl (by decide +kernel) (k_yes rfl rfl ?_))))))
  walk_at "ws"
  refine ⟨_, hb, _, atI_0, _, hb, fun p hp => ?_⟩
  simp only [cutA]
  refine s_wl (n := n) (pre := fun z => [T.str (c z), .tup ((ns z).map T.str)]) (o := o) (nw := nw) up_same h1 (by simp) fun C' hE => ?_
  exact q _ ((Ex.new hp).trans hE)
theorem wp_rows {α : Type} {Z : List α} {w : α → Str} {ns : α → List Str} {o nw : α → T} {E E' : T} (h1 : Z.length ≤ 1000) (hn : ∀ z ∈ Z, (ns z).length ≤ 1) :
    WPt (.tup [.str "rows", E, .tup (Z.map fun z => .tup (.str (w z) :: ((ns z).map T.str ++ [o z])))]) (E' :: Z.map nw) (.tup [.str "rows", E', .tup (Z.map fun z => .tup (.str (w z) :: ((ns z).map T.str ++ [nw z])))]) := by
  intro n C Q χ b hb q
  refine u_with_parts rfl ?_
  unfold w_with_parts
  refine k_a0 rfl (k_no rfl (by decide +kernel) (k_no2 rfl (by decide +kernel) (by decide +kernel) (k_no rfl (by decide +kernel) (k_no rfl (by decide +kernel) (k_no rfl (by decide +kernel) (k_no rfl (by decide +kernel) (k_yes rfl rfl ?_)))))))
  walk_at "ws"
  refine ⟨_, hb, _, atI_0, _, hb, fun p hp => ?_⟩
  simp only [cutA]
  refine s_wl (n := n) (pre := fun z => T.str (w z) :: (ns z).map T.str) (o := o) (nw := nw) up_same h1 (fun z hz => by have := hn z hz; simp; omega) fun C' hE => ?_
  exact q _ ((Ex.new hp).trans hE)
set_option Elab.async false
set_option linter.all false
set_option maxRecDepth 100000
set_option maxHeartbeats 4000000
open PySem PySem.Spec PyProof.Rows L2 WL
/-- by the law's own reckoning t' is t with the marks put in -/
def MT (f : Nat) (t t' : T) (M : Ms) : Prop := ∀ {n : Nat} {C : Hw} {Q : WK} {χ : WX} {a : Addr}, RdC C a (dm M) → (∀ C', ExB a C C' → RdC C' a (dm M) → Q (.bl true) C') → wpc pr (n + 2 * f + 5) i__law_meets [t, t', .ref a] C Q χ
theorem MT.mono {f g : Nat} {t t' : T} {M : Ms} (h : MT f t t' M) (hl : f ≤ g) : MT g t t' M := by
  intro n C Q χ a ha q
  rw [show n + 2 * g + 5 = (n + 2 * (g - f)) + 2 * f + 5 by omega]
  exact h ha q
theorem glue {C C1 C2 : Hw} {a p : Addr} {k k0 k2 : List (Key × T)} (ha : RdC C a k0) (e : ExB a C C1) (r : RdC C1 a k) (h : p = a ∨ C p = none) (r1 : RdC C1 p k2) (e2 : ExB p C1 C2) (r2 : RdC C2 p k2) : ExB a C C2 ∧ RdC C2 a k := by
  rcases h with rfl | h
  · rw [r.inj r1]
    exact ⟨e.trans e2, r2⟩
  · have ap := ha.ne h
    exact ⟨fun b o hb ho => e2 _ _ (cne ho h) (e _ _ hb ho), r.exB e2 ap⟩
section
variable {C : Hw} {Q : WK} {χ : WX} {n : Nat}
theorem wNe_same {l : List T} (hf : isFlat (.tup l)) (q : Q (.bl false) C) : wEqG true (.tup l) (.tup l) C Q := ⟨hf, hf, by rw [eqT_refl _ hf]; exact q⟩
theorem wEq_same {l : List T} (hf : isFlat (.tup l)) (q : Q (.bl true) C) : wEqG false (.tup l) (.tup l) C Q := ⟨hf, hf, by rw [eqT_refl _ hf]; exact q⟩
theorem s_all_t {f : Nat} {a : Addr} {M : Ms} {os ns : List T} (hl : os.length = ns.length) (hs : os.length ≤ 1000) (h : ∀ (i : Nat) (x y : T), os[i]? = some x → ns[i]? = some y → MT f x y M) (ha : RdC C a (dm M)) (q : ∀ C', ExB a C C' → RdC C' a (dm M) → Q (.bl true) C') :
    wpc pr (n + 2 * f + 6) i__law_all [.tup os, .tup ns, .ref a] C Q χ := by
  refine u__law_all rfl ?_
  unfold w__law_all
  walk_at "ws"
  rw [if_neg (by rw [hl]; simp)]
  unfold w__law_all_t2
  walk_at "ws"
  refine ⟨by omega, by omega, ?_⟩
  refine for_rng (fun i τ C' => ∃ x3, τ = [some (.tup os), some (.tup ns), some (.ref a), x3] ∧ ExB a C C' ∧ RdC C' a (dm M)) ⟨none, rfl, ExB.refl _ _, ha⟩ (fun _ => trivial) ?_ ?_
  · rintro i τ C' N hi ⟨x3, rfl, hE, ha'⟩ hN
    walk_at "ws"
    have hi1 : i < os.length := by omega
    have hi2 : i < ns.length := by omega
    refine ⟨_, by rw [Int.zero_add]; exact atT_nat hi1, _, by rw [Int.zero_add]; exact atT_nat hi2, ?_⟩
    refine h i _ _ (by simp [hi1]) (by simp [hi2]) ha' fun C2 hE2 ha2 => ?_
    refine ⟨_, rfl, ?_⟩
    walk_at "ws"
    exact hN _ _ ⟨_, rfl, hE.trans hE2, ha2⟩
  · rintro τ C' ⟨x3, rfl, hE, ha'⟩
    unfold w__law_all_t1
    walk_at "ws"
    exact q C' hE ha'
theorem s_all_l {f : Nat} {a b c : Addr} {M : Ms} {os ns : List T} (hb : C b = some (.lst os)) (hc : C c = some (.lst ns)) (hl : os.length = ns.length) (hs : os.length ≤ 1000) (h : ∀ (i : Nat) (x y : T), os[i]? = some x → ns[i]? = some y → MT f x y M) (ha : RdC C a (dm M)) (q : ∀ C', ExB a C C' → RdC C' a (dm M) → Q (.bl true) C') :
    wpc pr (n + 2 * f + 6) i__law_all [.ref b, .ref c, .ref a] C Q χ := by
  have ba := ha.nel hb
  have ca := ha.nel hc
  refine u__law_all rfl ?_
  unfold w__law_all
  walk_at "ws"
  refine ⟨_, hb, _, hc, ?_⟩
  walk_at "ws"
  rw [if_neg (by rw [hl]; simp)]
  unfold w__law_all_t2
  walk_at "ws"
  refine ⟨_, hb, by omega, by omega, ?_⟩
  refine for_rng (fun i τ C' => ∃ x3, τ = [some (.ref b), some (.ref c), some (.ref a), x3] ∧ ExB a C C' ∧ RdC C' a (dm M)) ⟨none, rfl, ExB.refl _ _, ha⟩ (fun _ => trivial) ?_ ?_
  · rintro i τ C' N hi ⟨x3, rfl, hE, ha'⟩ hN
    walk_at "ws"
    have hi1 : i < os.length := by omega
    have hi2 : i < ns.length := by omega
    refine ⟨_, hE _ _ ba hb, _, by rw [Int.zero_add]; exact atT_nat hi1, _, hE _ _ ca hc, _, by rw [Int.zero_add]; exact atT_nat hi2, ?_⟩
    refine h i _ _ (by simp [hi1]) (by simp [hi2]) ha' fun C2 hE2 ha2 => ?_
    refine ⟨_, rfl, ?_⟩
    walk_at "ws"
    exact hN _ _ ⟨_, rfl, hE.trans hE2, ha2⟩
  · rintro τ C' ⟨x3, rfl, hE, ha'⟩
    unfold w__law_all_t1
    walk_at "ws"
    exact q C' hE ha'
end
theorem isT {C : Hw} : tru (T.bl (isCls "tuple" "tuple")) C true := by
  have h : isCls "tuple" "tuple" = true := by decide +kernel
  rw [h]; rfl
theorem isT2 : isCls "tuple" "tuple" = true := by decide +kernel
theorem two_mt {f : Nat} {A B A' B' : T} {M : Ms} (hA : MT f A A' M) (hB : MT f B B' M) : ∀ (i : Nat) (x y : T), [A, B][i]? = some x → [A', B'][i]? = some y → MT f x y M := by
  intro i x y hx hy
  match i with
  | 0 => simp at hx hy; subst hx; subst hy; exact @hA
  | 1 => simp at hx hy; subst hx; subst hy; exact @hB
  | i + 2 => simp at hx
theorem mh {P : Calls} {D : We} {C : Hw} {w : Str} {ro rn : List T} {a : Addr} (hw : w ≠ "name") (hl : rn.length = ro.length) (q : w__law_meets_t9 P D [some (.tup (.str w :: ro)), some (.tup (.str w :: rn)), some (.ref a), none, none] C) : w__law_meets P D [some (.tup (.str w :: ro)), some (.tup (.str w :: rn)), some (.ref a), none, none] C := by
  unfold w__law_meets
  walk_at "ws"
  rw [if_neg hw]
  unfold w__law_meets_t10
  walk_at "ws"
  refine ⟨true, isT, ?_⟩
  rw [if_neg (by decide)]
  rw [if_neg (by rw [hl]; simp), if_neg (by simp)]
  exact q
theorem m9 {P : Calls} {D : We} {τ : Sw} {C : Hw} {w : Str} {r : List T} (h : τ[0]? = some (some (.tup (.str w :: r)))) (hw : w ≠ "does") (q : w__law_meets_t8 P D τ C) : w__law_meets_t9 P D τ C := by
  unfold w__law_meets_t9
  exact k_noX h hw q
theorem m8 {P : Calls} {D : We} {τ : Sw} {C : Hw} {w : Str} {r : List T} (h : τ[0]? = some (some (.tup (.str w :: r)))) (hw : w ≠ "fun") (q : w__law_meets_t7 P D τ C) : w__law_meets_t8 P D τ C := by
  unfold w__law_meets_t8
  exact k_noX h hw q
theorem m7 {P : Calls} {D : We} {τ : Sw} {C : Hw} {w : Str} {r : List T} (h : τ[0]? = some (some (.tup (.str w :: r)))) (hw : w ≠ "call") (hw' : w ≠ "first") (q : w__law_meets_t6 P D τ C) : w__law_meets_t7 P D τ C := by
  unfold w__law_meets_t7
  exact k_noX2 h hw hw' q
theorem m6 {P : Calls} {D : We} {τ : Sw} {C : Hw} {w : Str} {r : List T} (h : τ[0]? = some (some (.tup (.str w :: r)))) (hw : w ≠ "shape") (q : w__law_meets_t5 P D τ C) : w__law_meets_t6 P D τ C := by
  unfold w__law_meets_t6
  exact k_noX h hw q
theorem m5 {P : Calls} {D : We} {τ : Sw} {C : Hw} {w : Str} {r : List T} (h : τ[0]? = some (some (.tup (.str w :: r)))) (hw : w ≠ "choose") (q : w__law_meets_t4 P D τ C) : w__law_meets_t5 P D τ C := by
  unfold w__law_meets_t5
  exact k_noX h hw q
theorem m4 {P : Calls} {D : We} {τ : Sw} {C : Hw} {w : Str} {r : List T} (h : τ[0]? = some (some (.tup (.str w :: r)))) (hw : w ≠ "rows") (q : w__law_meets_t3 P D τ C) : w__law_meets_t4 P D τ C := by
  unfold w__law_meets_t4
  exact k_noX h hw q
theorem mt_does {f : Nat} {op : Str} {A B A' B' : T} {M : Ms} (hA : MT f A A' M) (hB : MT f B B' M) : MT (f + 1) (.tup [.str "does", .str op, A, B]) (.tup [.str "does", .str op, A', B']) M := by
  intro n C Q χ a ha q
  refine u__law_meets rfl (mh (by decide +kernel) rfl ?_)
  unfold w__law_meets_t9
  refine k_yesX rfl rfl ?_
  walk_at "ws"
  rw [show n + 2 * (f + 1) + 4 = n + 2 * f + 6 by omega]
  exact s_all_t (os := [A, B]) (ns := [A', B']) rfl (by simp) (two_mt @hA @hB) ha q
theorem mt_two {f : Nat} {w : Str} {A B A' B' : T} {M : Ms} (hw : w = "call" ∨ w = "first") (hA : MT f A A' M) (hB : MT f B B' M) : MT (f + 1) (.tup [.str w, A, B]) (.tup [.str w, A', B']) M := by
  intro n C Q χ a ha q
  refine u__law_meets rfl (mh (by rcases hw with rfl | rfl <;> decide +kernel) rfl (m9 rfl (by rcases hw with rfl | rfl <;> decide +kernel) (m8 rfl (by rcases hw with rfl | rfl <;> decide +kernel) ?_)))
  unfold w__law_meets_t7
  refine k_yesX2 rfl hw ?_
  walk_at "ws"
  rw [show n + 2 * (f + 1) + 4 = n + 2 * f + 6 by omega]
  exact s_all_t (os := [A, B]) (ns := [A', B']) rfl (by simp) (two_mt @hA @hB) ha q
theorem mt_fun {f : Nat} {x : Str} {A A' : T} {M : Ms} (hM : MOk M) (hA : MT f A A' (less M [x])) : MT (f + 1) (.tup [.str "fun", .str x, A]) (.tup [.str "fun", .str x, A']) M := by
  intro n C Q χ a ha q
  refine u__law_meets rfl (mh (by decide +kernel) rfl (m9 rfl (by decide +kernel) ?_))
  unfold w__law_meets_t8
  refine k_yesX rfl rfl ?_
  walk_at "ws"
  intro p hp
  refine s_less_l (n := n + 2 * f + 5) (ns := [x]) hM (ha.ex (Ex.new hp)) up_same fun p2 C2 hp2 hE2 ha2 hi2 => ?_
  rw [show n + 2 * (f + 1) + 4 = (n + 1) + 2 * f + 5 by omega]
  refine hA (.inl hi2) fun C3 hE3 hi3 => ?_
  obtain ⟨h1, h2⟩ := glue ha (((Ex.new hp).exB a).trans hE2) ha2 (.inr (fr1 hp2).2) (.inl hi2) hE3 hi3
  exact q C3 h1 h2
theorem mt_shape {f : Nat} {c : Str} {ps ps' : List T} {M : Ms} (hl : ps.length = ps'.length) (hs : ps.length ≤ 1000) (h : ∀ (i : Nat) (x y : T), ps[i]? = some x → ps'[i]? = some y → MT f x y M) : MT (f + 1) (.tup [.str "shape", .str c, .tup ps]) (.tup [.str "shape", .str c, .tup ps']) M := by
  intro n C Q χ a ha q
  refine u__law_meets rfl (mh (by decide +kernel) rfl (m9 rfl (by decide +kernel) (m8 rfl (by decide +kernel) (m7 rfl (by decide +kernel) (by decide +kernel) ?_))))
  unfold w__law_meets_t6
  refine k_yesX rfl rfl ?_
  walk_at "ws"
  rw [show n + 2 * (f + 1) + 4 = n + 2 * f + 6 by omega]
  exact s_all_t hl hs h ha q
theorem mt_name {x : Str} {M : Ms} (hM : MOk M) : MT 0 (.tup [.str "name", .str x]) ((getT (dm M) (.inr x)).getD (.tup [.str "name", .str x])) M := by
  intro n C Q χ a ha q
  refine u__law_meets rfl ?_
  unfold w__law_meets
  cases hg : getT (dm M) (.inr x) with
  | some v =>
    simp only [Option.getD_some]
    obtain ⟨kv, hk, rfl⟩ := dm_some hg
    obtain ⟨w, r, e, _, hf⟩ := hM.mks kv hk
    walk_at "ws"
    refine ⟨a, dm M, .inr x, rfl, rfl, ha, ?_⟩
    rw [hg]
    walk_at "ws"
    refine ⟨a, dm M, .inr x, kv.2, rfl, rfl, ha, hg, ?_⟩
    rw [e]
    rw [e] at hf
    exact wEq_same (flat_mono _ hf (by decide)) (q C (ExB.refl _ _) ha)
  | none =>
    simp only [Option.getD_none]
    walk_at "ws"
    refine ⟨a, dm M, .inr x, rfl, rfl, ha, ?_⟩
    rw [hg]
    walk_at "ws"
    unfold w__law_meets_t10
    walk_at "ws"
    refine ⟨true, isT, ?_⟩
    rw [if_neg (by decide)]
    refine m9 rfl (by decide +kernel) (m8 rfl (by decide +kernel) (m7 rfl (by decide +kernel) (by decide +kernel) (m6 rfl (by decide +kernel) (m5 rfl (by decide +kernel) (m4 rfl (by decide +kernel) ?_)))))
    unfold w__law_meets_t3
    walk_at "ws"
    exact wEq_same (by simp [isFlat, eqDeep, flat, flats]) (q C (ExB.refl _ _) ha)
theorem mt_other {w : Str} {rest : List T} {M : Ms} (hn : w ≠ "name") (hw : w ∉ sorts) (hf : isFlat (.tup (.str w :: rest))) : MT 0 (.tup (.str w :: rest)) (.tup (.str w :: rest)) M := by
  intro n C Q χ a ha q
  have hw : ∀ s ∈ sorts, w ≠ s := fun s hs z => hw (z ▸ hs)
  refine u__law_meets rfl (mh hn rfl (m9 rfl (hw "does" (by decide)) (m8 rfl (hw "fun" (by decide)) (m7 rfl (hw "call" (by decide)) (hw "first" (by decide)) (m6 rfl (hw "shape" (by decide)) (m5 rfl (hw "choose" (by decide)) (m4 rfl (hw "rows" (by decide)) ?_)))))))
  unfold w__law_meets_t3
  walk_at "ws"
  rw [if_pos (beq_eq_false_iff_ne.mpr (hw "let" (by decide)))]
  exact wEq_same hf (q C (ExB.refl _ _) ha)
set_option Elab.async false
set_option linter.all false
set_option maxRecDepth 100000
set_option maxHeartbeats 4000000
open PySem PySem.Spec PyProof.Rows L2 WL
def fst2 : T → T := fun t => match t with | .tup [a, _] => a | _ => .non
def snd2 : T → T := fun t => match t with | .tup [_, b] => b | _ => .non
theorem mt_let {α : Type} {f : Nat} {Z : List α} {x : α → Str} {o nw : α → T} {B B' : T} {M : Ms} (hM : MOk M) (h1 : Z.length ≤ 100) (hZ : ∀ z ∈ Z, MT f (o z) (nw z) (less M (Z.map x))) (hB : MT f B B' (less M (Z.map x))) :
    MT (f + 1) (.tup [.str "let", .tup (Z.map fun z => .tup [.str (x z), o z]), B]) (.tup [.str "let", .tup (Z.map fun z => .tup [.str (x z), nw z]), B']) M := by
  intro n C Q χ a ha q
  refine u__law_meets rfl (mh (by decide +kernel) rfl (m9 rfl (by decide +kernel) (m8 rfl (by decide +kernel) (m7 rfl (by decide +kernel) (by decide +kernel) (m6 rfl (by decide +kernel) (m5 rfl (by decide +kernel) (m4 rfl (by decide +kernel) ?_)))))))
  unfold w__law_meets_t3
  walk_at "ws"
  unfold w__law_meets_t2
  walk_at "ws"
  have hl : ∀ nw : α → T, (Z.map fun z => T.tup [.str (x z), nw z]).length ≤ sizeLine := fun nw => by rw [List.length_map]; exact small63 (by omega)
  have e1 : ∀ nw : α → T, (Z.map fun z => T.tup [.str (x z), nw z]).map fst2 = (Z.map x).map T.str := fun nw => by rw [List.map_map, List.map_map]; rfl
  have e2 : ∀ nw : α → T, (Z.map fun z => T.tup [.str (x z), nw z]).map snd2 = Z.map nw := fun nw => by rw [List.map_map]; rfl
  refine comp_pure fst2 trivial (hl o) (fun y hy R hR => ?_) fun p1 hp1 => ?_
  · obtain ⟨z, _, rfl⟩ := List.mem_map.mp hy
    walk_at "ws"
    exact hR
  rw [e1]
  have hE1 : Ex C (up C p1 (.lst ((Z.map x).map T.str))) := Ex.new hp1
  refine s_less_l (n := n + 2 * f + 5) hM (ha.ex hE1) up_same fun p C2 hp hE2 ha2 hi2 => ?_
  walk_at "ws"
  refine ⟨true, isT, ?_⟩
  rw [if_neg (by decide)]
  refine comp_pure fst2 trivial (hl nw) (fun y hy R hR => ?_) fun p2 hp2 => ?_
  · obtain ⟨z, _, rfl⟩ := List.mem_map.mp hy
    walk_at "ws"
    exact hR
  rw [e1]
  refine comp_pure fst2 trivial (hl o) (fun y hy R hR => ?_) fun p3 hp3 => ?_
  · obtain ⟨z, _, rfl⟩ := List.mem_map.mp hy
    walk_at "ws"
    exact hR
  rw [e1]
  obtain ⟨n32, _⟩ := fr1 hp3
  refine ⟨_, _, by rw [up_ne n32.symm]; exact up_same, up_same, fun _ => ⟨flats_strs, flats_strs⟩, ?_⟩
  rw [eqTs_refl _ (flats_strs (n := 5))]
  walk_at "ws"
  generalize hC4 : up (up C2 p2 (.lst ((Z.map x).map T.str))) p3 (.lst ((Z.map x).map T.str)) = C4
  have hE4 : Ex C2 C4 := hC4 ▸ (Ex.new hp2).trans (Ex.new hp3)
  unfold w__law_meets_t1
  walk_at "ws"
  refine comp_pure snd2 trivial (hl o) (fun y hy R hR => ?_) fun p4 hp4 => ?_
  · obtain ⟨z, _, rfl⟩ := List.mem_map.mp hy
    walk_at "ws"
    exact hR
  rw [e2]
  intro p5 hp5
  obtain ⟨n54, _⟩ := fr1 hp5
  refine ⟨_, by rw [up_ne n54.symm]; exact up_same, _, up_same, ?_, fun p6 hp6 => ?_⟩
  · rw [List.length_map]; exact small63 (by show _ + 1 ≤ _; omega)
  have hE6 : Ex C4 (up (up (up C4 p4 (.lst (Z.map o))) p5 (.lst [B])) p6 (.lst (Z.map o ++ [B]))) := ((Ex.new hp4).trans (Ex.new hp5)).trans (Ex.new hp6)
  have h6 : (up (up (up C4 p4 (.lst (Z.map o))) p5 (.lst [B])) p6 (.lst (Z.map o ++ [B]))) p6 = some (.lst (Z.map o ++ [B])) := up_same
  revert hE6 h6
  generalize up (up (up C4 p4 (.lst (Z.map o))) p5 (.lst [B])) p6 (.lst (Z.map o ++ [B])) = C6
  intro hE6 h6
  walk_at "ws"
  refine comp_pure snd2 trivial (hl nw) (fun y hy R hR => ?_) fun p7 hp7 => ?_
  · obtain ⟨z, _, rfl⟩ := List.mem_map.mp hy
    walk_at "ws"
    exact hR
  rw [e2]
  intro p8 hp8
  obtain ⟨n87, _⟩ := fr1 hp8
  refine ⟨_, by rw [up_ne n87.symm]; exact up_same, _, up_same, ?_, fun p9 hp9 => ?_⟩
  · rw [List.length_map]; exact small63 (by show _ + 1 ≤ _; omega)
  have hE9 : Ex C6 (up (up (up C6 p7 (.lst (Z.map nw))) p8 (.lst [B'])) p9 (.lst (Z.map nw ++ [B']))) := ((Ex.new hp7).trans (Ex.new hp8)).trans (Ex.new hp9)
  have hE := hE4.trans (hE6.trans hE9)
  have hi9 := hE _ _ hi2
  rw [show n + 2 * (f + 1) + 4 = n + 2 * f + 6 by omega]
  refine s_all_l (hE9 _ _ h6) up_same (by simp) (by simp; omega) (fun i y y' hy hy' => ?_) (.inl hi9) fun C10 hE10 hi10 => ?_
  · by_cases c : i < Z.length
    · rw [List.getElem?_append_left (by simpa using c)] at hy hy'
      simp [c] at hy hy'
      subst hy; subst hy'
      exact @(hZ _ (List.getElem_mem c))
    · by_cases c2 : i = Z.length
      · subst c2
        simp at hy hy'
        subst hy; subst hy'
        exact hB
      · rw [List.getElem?_eq_none (by simp; omega)] at hy
        cases hy
  · obtain ⟨h1, h2⟩ := glue ha ((hE1.exB a).trans (hE2.trans (hE.exB a))) (ha2.ex hE) (.inr (fr1 hp).2) (.inl hi9) hE10 hi10
    exact q C10 h1 h2
theorem mt_choose {α : Type} {f : Nat} {Z : List α} {c : α → Str} {ns : α → List Str} {o nw : α → T} {E E' : T} {M : Ms} (hM : MOk M) (h1 : Z.length ≤ 100) (hE : MT f E E' M) (hZ : ∀ z ∈ Z, MT f (o z) (nw z) (less M (ns z))) :
    MT (f + 1) (.tup [.str "choose", E, .tup (Z.map fun z => .tup [.str (c z), .tup ((ns z).map T.str), o z])]) (.tup [.str "choose", E', .tup (Z.map fun z => .tup [.str (c z), .tup ((ns z).map T.str), nw z])]) M := by
  intro n C Q χ a ha q
  refine u__law_meets rfl (mh (by decide +kernel) rfl (m9 rfl (by decide +kernel) (m8 rfl (by decide +kernel) (m7 rfl (by decide +kernel) (by decide +kernel) (m6 rfl (by decide +kernel) ?_)))))
  unfold w__law_meets_t5
  refine k_yesX rfl rfl ?_
  walk_at "ws"
  rw [show n + 2 * (f + 1) + 4 = n + 2 * f + 5 + 1 by omega]
  refine u__law_choice_meets rfl ?_
  unfold w__law_choice_meets
  walk_at "ws"
  refine ⟨true, isT, ?_⟩
  rw [if_neg (by decide)]
  simp only [List.length_map]
  walk_at "ws"
  rw [if_neg (by simp)]
  refine hE ha fun C1 hE1 ha1 => ?_
  refine ⟨true, rfl, ?_⟩
  rw [if_neg (by decide)]
  unfold w__law_choice_meets_t2
  walk_at "ws"
  simp only [iZp]
  walk_at "ws"
  have ez : ∀ os ns' : List T, os.length = ns'.length → True := fun _ _ _ => trivial
  refine .inl ⟨by simp, ?_⟩
  have ez : zipT (Z.map fun z => .tup [.str (c z), .tup ((ns z).map T.str), o z]) (Z.map fun z => .tup [.str (c z), .tup ((ns z).map T.str), nw z]) = Z.map fun z => .tup [.tup [.str (c z), .tup ((ns z).map T.str), o z], .tup [.str (c z), .tup ((ns z).map T.str), nw z]] := by
    unfold zipT
    rw [List.zipWith_map, List.zipWith_self]
  rw [ez]
  refine for_inv (fun i τ C' => ∃ x3 x4, τ = [some (.tup [.str "choose", E, .tup (Z.map fun z => .tup [.str (c z), .tup ((ns z).map T.str), o z])]), some (.tup [.str "choose", E', .tup (Z.map fun z => .tup [.str (c z), .tup ((ns z).map T.str), nw z])]), some (.ref a), x3, x4] ∧ ExB a C C' ∧ RdC C' a (dm M))
    ⟨none, none, rfl, hE1, ha1⟩ (fun _ _ _ _ _ => trivial) ?_ ?_
  · rintro i y τ C' N hy ⟨x3, x4, rfl, hE', ha'⟩ hN
    rw [List.getElem?_map] at hy
    cases hz : Z[i]? with
    | none => rw [hz] at hy; cases hy
    | some z =>
      rw [hz] at hy
      cases hy
      have mz := List.mem_of_getElem? hz
      walk_at "ws"
      refine ⟨true, isT, ?_⟩
      rw [if_neg (by decide)]
      refine wNe_same (l := [.str (c z), .tup ((ns z).map T.str)]) ?_ ⟨false, rfl, ?_⟩
      · refine flat_tup fun y hy => ?_
        simp only [List.mem_cons, List.not_mem_nil, or_false] at hy
        rcases hy with rfl | rfl
        · exact flat_str
        · unfold flat; exact flats_strs
      rw [if_neg (by decide)]
      walk_at "ws"
      refine s_less_t (n := n + 2 * f + 4) hM ha' fun p C2 hp hE2 ha2 hi2 => ?_
      refine hZ z mz (.inl hi2) fun C3 hE3 hi3 => ?_
      obtain ⟨g1, g2⟩ := glue ha' hE2 ha2 (.inr hp) (.inl hi2) hE3 hi3
      refine ⟨true, rfl, ?_⟩
      rw [if_neg (by decide)]
      exact hN _ _ ⟨_, _, rfl, hE'.trans g1, g2⟩
  · rintro τ C' ⟨x3, x4, rfl, hE', ha'⟩
    unfold w__law_choice_meets_t1
    walk_at "ws"
    exact q C' hE' ha'
set_option Elab.async false
set_option linter.all false
set_option maxRecDepth 100000
set_option maxHeartbeats 4000000
open PySem PySem.Spec PyProof.Rows L2 WL
/-- a step: its word, the names that it binds, its part, the part with the marks put in -/
abbrev St := Str × List Str × T × T
def SpOk (z : St) : Prop := (z.1 = "when" ∧ z.2.1 = []) ∨ (z.1 ≠ "when" ∧ ∃ x, z.2.1 = [x])
def bnd (Z : List St) : List Str := Z.flatMap (·.2.1)
def sO (z : St) : T := .tup (.str z.1 :: (z.2.1.map T.str ++ [z.2.2.1]))
def sN (z : St) : T := .tup (.str z.1 :: (z.2.1.map T.str ++ [z.2.2.2]))
theorem freeB {C C2 : Hw} {a p : Addr} {k : List (Key × T)} (e : ExB a C C2) (r : RdC C2 a k) (h : C2 p = none) : C p = none := by
  have pa : p ≠ a := (r.ne h).symm
  cases hc : C p with
  | none => rfl
  | some o => have := e _ _ pa hc; rw [h] at this; cases this
theorem bnd_take {Z : List St} {i : Nat} {z : St} (h : Z[i]? = some z) : bnd (Z.take (i + 1)) = bnd (Z.take i) ++ z.2.1 := by
  unfold bnd
  rw [List.take_add_one, h, List.flatMap_append]; simp
theorem mt_rows {f : Nat} {Z : List St} {E E' : T} {M : Ms} (hM : MOk M) (h1 : Z.length ≤ 100) (hS : ∀ z ∈ Z, SpOk z) (hZ : ∀ (i : Nat) (z : St), Z[i]? = some z → MT f z.2.2.1 z.2.2.2 (less M (bnd (Z.take i)))) (hE : MT f E E' (less M (bnd Z))) :
    MT (f + 1) (.tup [.str "rows", E, .tup (Z.map sO)]) (.tup [.str "rows", E', .tup (Z.map sN)]) M := by
  intro n C Q χ a ha q
  refine u__law_meets rfl (mh (by decide +kernel) rfl (m9 rfl (by decide +kernel) (m8 rfl (by decide +kernel) (m7 rfl (by decide +kernel) (by decide +kernel) (m6 rfl (by decide +kernel) (m5 rfl (by decide +kernel) ?_))))))
  unfold w__law_meets_t4
  refine k_yesX rfl rfl ?_
  walk_at "ws"
  rw [show n + 2 * (f + 1) + 4 = n + 2 * f + 5 + 1 by omega]
  refine u__law_rows_meet rfl ?_
  unfold w__law_rows_meet
  walk_at "ws"
  refine ⟨true, isT, ?_⟩
  rw [if_neg (by decide)]
  simp only [List.length_map]
  walk_at "ws"
  rw [if_neg (by simp)]
  unfold w__law_rows_meet_t2
  walk_at "ws"
  simp only [iZp]
  walk_at "ws"
  refine .inl ⟨by simp, ?_⟩
  have ez : zipT (Z.map sO) (Z.map sN) = Z.map fun z => .tup [sO z, sN z] := by
    unfold zipT
    rw [List.zipWith_map, List.zipWith_self]
  rw [ez]
  refine for_inv (fun i τ C' => ∃ x3 x4 p, τ = [some (.tup [.str "rows", E, .tup (Z.map sO)]), some (.tup [.str "rows", E', .tup (Z.map sN)]), some (.ref p), x3, x4] ∧ ExB a C C' ∧ RdC C' a (dm M) ∧ RdC C' p (dm (less M (bnd (Z.take i)))) ∧ (p = a ∨ C p = none))
    ⟨none, none, a, rfl, ExB.refl _ _, ha, by rw [List.take_zero]; show RdC C a (dm (less M [])); rw [less_nil]; exact ha, .inl rfl⟩ (fun _ _ _ _ _ => trivial) ?_ ?_
  · rintro i y τ C' N hy ⟨x3, x4, p, rfl, hE', ha', hp', hpa⟩ hN
    rw [List.getElem?_map] at hy
    cases hz : Z[i]? with
    | none => rw [hz] at hy; cases hy
    | some z =>
      rw [hz] at hy
      cases hy
      have mz := List.mem_of_getElem? hz
      have ht := bnd_take hz
      obtain ⟨w, ns, o, nw⟩ := z
      rcases hS _ mz with ⟨hw, hn⟩ | ⟨hw, x, hn⟩
      · simp only at hw hn
        subst hw; subst hn
        show gTp _ (.tup [.tup [.str "when", o], .tup [.str "when", nw]]) _ _ _ _
        walk_at "ws"
        refine ⟨true, isT, ?_⟩
        rw [if_neg (by decide)]
        refine wNe_same (l := [.str "when"]) (flat_tup fun y hy => by rw [List.mem_singleton.mp hy]; exact flat_str) ⟨false, rfl, ?_⟩
        rw [if_neg (by decide)]
        walk_at "ws"
        refine hZ i _ hz hp' fun C2 hE2 hp2 => ?_
        obtain ⟨g1, g2⟩ := glue ha hE' ha' hpa hp' hE2 hp2
        refine ⟨true, rfl, ?_⟩
        rw [if_neg (by decide)]
        walk_at "ws"
        refine hN _ _ ⟨_, _, p, rfl, g1, g2, ?_, hpa⟩
        rw [ht, List.append_nil]; exact hp2
      · simp only at hw hn
        subst hn
        show gTp _ (.tup [.tup [.str w, .str x, o], .tup [.str w, .str x, nw]]) _ _ _ _
        walk_at "ws"
        refine ⟨true, isT, ?_⟩
        rw [if_neg (by decide)]
        refine wNe_same (l := [.str w, .str x]) (flat_tup fun y hy => ?_) ⟨false, rfl, ?_⟩
        · simp only [List.mem_cons, List.not_mem_nil, or_false] at hy
          rcases hy with rfl | rfl <;> exact flat_str
        rw [if_neg (by decide)]
        walk_at "ws"
        refine hZ i _ hz hp' fun C2 hE2 hp2 => ?_
        obtain ⟨g1, g2⟩ := glue ha hE' ha' hpa hp' hE2 hp2
        refine ⟨true, rfl, ?_⟩
        rw [if_neg (by decide)]
        walk_at "ws"
        rw [if_pos (beq_eq_false_iff_ne.mpr hw)]
        intro l hl
        have hEl : Ex C2 (up C2 l (.lst [.str x])) := Ex.new hl
        refine s_less_l (n := n + 2 * f + 4) (ns := [x]) (hM.less _) (hp2.ex hEl) up_same fun p3 C3 hp3 hE3 hr3 hi3 => ?_
        obtain ⟨k1, k2⟩ := glue ha (g1.trans (hEl.exB a)) (g2.ex hEl) hpa (hp2.ex hEl) hE3 hr3
        walk_at "ws"
        refine hN _ _ ⟨_, _, p3, rfl, k1, k2, .inl ?_, .inr (freeB g1 g2 (fr1 hp3).2)⟩
        rw [ht, ← less_less]; exact hi3
  · rintro τ C' ⟨x3, x4, p, rfl, hE', ha', hp', hpa⟩
    rw [List.length_map, List.take_length] at hp'
    unfold w__law_rows_meet_t1
    walk_at "ws"
    refine hE hp' fun C2 hE2 hp2 => ?_
    obtain ⟨g1, g2⟩ := glue ha hE' ha' hpa hp' hE2 hp2
    exact q C2 g1 g2
set_option Elab.async false
set_option linter.all false
set_option maxRecDepth 100000
set_option maxHeartbeats 4000000
open PySem PySem.Spec PyProof.Rows L2 WL
structure Rr (f : Nat) (t t' : T) (M : Ms) : Prop where
  pt : PT f t M t'
  mt : MT f t t' M
  id : M = [] → t' = t
  fl : flat t' (3 * f + 6) = true
  tup : ∃ l, t' = .tup l
def R (f : Nat) (t : T) : Prop := ∀ M, MOk M → ∃ t', Rr f t t' M
theorem Rr.mono {f g : Nat} {t t' : T} {M : Ms} (h : Rr f t t' M) (hl : f ≤ g) : Rr g t t' M := ⟨PT.mono h.pt hl, MT.mono h.mt hl, h.id, flat_mono _ h.fl (by omega), h.tup⟩
theorem R.mono {f g : Nat} {t : T} (h : R f t) (hl : f ≤ g) : R g t := fun M hM => by
  obtain ⟨t', h'⟩ := h M hM
  exact ⟨t', h'.mono hl⟩
theorem less_e {M : Ms} {ns : List Str} (h : M = []) : less M ns = [] := by subst h; rfl
abbrev Gd (f : Nat) (g : T → Ms → T) (x : T) : Prop := ∀ M, MOk M → Rr f x (g x M) M
section
variable {f : Nat} {g : T → Ms → T} {M : Ms}
theorem hp_of {ss : List Sp} (hM : MOk M) (h : ∀ z ∈ ss, Gd f g z.2) : ∀ z ∈ ss, PT f z.2 (less M z.1) (g z.2 (less M z.1)) ∧ (less M z.1 = [] → g z.2 (less M z.1) = z.2) ∧ ∃ l, g z.2 (less M z.1) = .tup l := fun z hz => ⟨(h z hz _ (hM.less _)).pt, (h z hz _ (hM.less _)).id, (h z hz _ (hM.less _)).tup⟩
theorem fl_tup {xs : List T} {k : Nat} (h : ∀ x ∈ xs, flat x k = true) {m : Nat} (hm : k + 1 ≤ m) : flat (.tup xs) m = true := flat_mono _ (flat_tup h) hm
theorem r_does {op : Str} {A B : T} (hM : MOk M) (hA : Gd f g A) (hB : Gd f g B) : Rr (f + 1) (.tup [.str "does", .str op, A, B]) (.tup [.str "does", .str op, g A M, g B M]) M := by
  refine ⟨put_of (ss := [([], A), ([], B)]) g hM .does (by decide +kernel) (by simp) (by simp) (hp_of hM (by simpa using ⟨hA, hB⟩)) ?_ (fun hs => by have h1 := hs ([], A) (by simp); have h2 := hs ([], B) (by simp); rw [less_nil] at h1 h2; rw [h1, h2]), mt_does (hA M hM).mt (hB M hM).mt, fun e => by rw [(hA M hM).id e, (hB M hM).id e], ?_, _, rfl⟩
  · show WPt _ [g A (less M []), g B (less M [])] _
    rw [less_nil]; exact wp_does
  · refine fl_tup (k := 3 * f + 6) (fun x hx => ?_) (by omega)
    simp only [List.mem_cons, List.not_mem_nil, or_false] at hx
    rcases hx with rfl | rfl | rfl | rfl
    · exact flat_str
    · exact flat_str
    · exact (hA M hM).fl
    · exact (hB M hM).fl
theorem r_two {w : Str} {A B : T} (hw : w = "call" ∨ w = "first") (hM : MOk M) (hA : Gd f g A) (hB : Gd f g B) : Rr (f + 1) (.tup [.str w, A, B]) (.tup [.str w, g A M, g B M]) M := by
  refine ⟨put_of (ss := [([], A), ([], B)]) (e := none) g hM (by rcases hw with rfl | rfl; exact .call; exact .first) (by rcases hw with rfl | rfl <;> decide +kernel) (by simp) (by simp) (hp_of hM (by simpa using ⟨hA, hB⟩)) ?_ (fun hs => by have h1 := hs ([], A) (by simp); have h2 := hs ([], B) (by simp); rw [less_nil] at h1 h2; rw [h1, h2]), mt_two hw (hA M hM).mt (hB M hM).mt, fun e => by rw [(hA M hM).id e, (hB M hM).id e], ?_, _, rfl⟩
  · show WPt _ [g A (less M []), g B (less M [])] _
    rw [less_nil]; exact wp_two hw
  · refine fl_tup (k := 3 * f + 6) (fun x hx => ?_) (by omega)
    simp only [List.mem_cons, List.not_mem_nil, or_false] at hx
    rcases hx with rfl | rfl | rfl
    · exact flat_str
    · exact (hA M hM).fl
    · exact (hB M hM).fl
theorem r_fun {x : Str} {A : T} (hM : MOk M) (hA : Gd f g A) : Rr (f + 1) (.tup [.str "fun", .str x, A]) (.tup [.str "fun", .str x, g A (less M [x])]) M := by
  refine ⟨put_of (ss := [([x], A)]) g hM .fun_ (by decide +kernel) (by simp) (by simp) (hp_of hM (by simpa using hA)) wp_fun (fun hs => by have h1 := hs ([x], A) (by simp); simp only at h1 ⊢; rw [h1]), mt_fun hM (hA _ (hM.less _)).mt, fun e => by rw [(hA _ (hM.less _)).id (less_e e)], ?_, _, rfl⟩
  · refine fl_tup (k := 3 * f + 6) (fun x hx => ?_) (by omega)
    simp only [List.mem_cons, List.not_mem_nil, or_false] at hx
    rcases hx with rfl | rfl | rfl
    · exact flat_str
    · exact flat_str
    · exact (hA _ (hM.less _)).fl
theorem map_same {α : Type} {l : List α} {p q : α → T} (h : ∀ x ∈ l, p x = q x) : l.map p = l.map q := List.map_congr_left h
theorem r_shape {c : Str} {ps : List T} (hM : MOk M) (h1 : ps.length ≤ 100) (h : ∀ x ∈ ps, Gd f g x) : Rr (f + 1) (.tup [.str "shape", .str c, .tup ps]) (.tup [.str "shape", .str c, .tup (ps.map fun x => g x M)]) M := by
  refine ⟨put_of (ss := ps.map fun x => ([], x)) (e := none) g hM ?_ (by decide +kernel) ?_ (by simp; omega) (hp_of hM ?_) ?_ (fun hs => ?_), mt_shape (by simp) (by omega) ?_, fun e => ?_, ?_, _, rfl⟩
  · rw [List.map_map]
    exact .shape (by omega)
  · intro z hz; obtain ⟨x, _, rfl⟩ := List.mem_map.mp hz; simp
  · intro z hz; obtain ⟨x, hx, rfl⟩ := List.mem_map.mp hz; exact h x hx
  · rw [List.map_map]
    have e : (ps.map ((fun z : Sp => g z.2 (less M z.1)) ∘ fun x => ([], x))) = ps.map fun x => g x M := map_same fun x _ => by simp [less_nil]
    rw [e]
    exact @wp_shape (.str c) ps (ps.map fun x => g x M)
  · have : (ps.map fun x => g x M) = ps.map fun x => x := map_same fun x hx => by
      have := hs ([], x) (List.mem_map.mpr ⟨x, hx, rfl⟩)
      rwa [less_nil] at this
    rw [this, List.map_id']
  · intro i x y hx hy
    rw [List.getElem?_map, hx] at hy
    cases hy
    exact (h x (List.mem_of_getElem? hx) M hM).mt
  · have : (ps.map fun x => g x M) = ps.map fun x => x := map_same fun x hx => (h x hx M hM).id e
    rw [this, List.map_id']
  · refine fl_tup (k := 3 * f + 7) (fun x hx => ?_) (by omega)
    simp only [List.mem_cons, List.not_mem_nil, or_false] at hx
    rcases hx with rfl | rfl | rfl
    · exact flat_str
    · exact flat_str
    · refine fl_tup (k := 3 * f + 6) (fun y hy => ?_) (by omega)
      obtain ⟨z, hz, rfl⟩ := List.mem_map.mp hy
      exact (h z hz M hM).fl
theorem r_let {Z : List (Str × T)} {B : T} (hM : MOk M) (h1 : Z.length ≤ 100) (h : ∀ z ∈ Z, Gd f g z.2) (hB : Gd f g B) :
    Rr (f + 1) (.tup [.str "let", .tup (Z.map fun z => .tup [.str z.1, z.2]), B]) (.tup [.str "let", .tup (Z.map fun z => .tup [.str z.1, g z.2 (less M (Z.map (·.1)))]), g B (less M (Z.map (·.1)))]) M := by
  refine ⟨put_of (ss := Z.map (fun z => (Z.map (·.1), z.2)) ++ [(Z.map (·.1), B)]) (e := none) g hM ?_ (by decide +kernel) ?_ (by simp; omega) (hp_of hM ?_) ?_ (fun hs => ?_), mt_let (x := fun z : Str × T => z.1) (o := fun z => z.2) hM (by omega) (fun z hz => (h z hz _ (hM.less _)).mt) (hB _ (hM.less _)).mt, fun e => ?_, ?_, _, rfl⟩
  · have e1 : (Z.map fun z => T.tup [.str z.1, z.2]) = (Z.map fun z => (T.str z.1, z.2)).map fun x => T.tup [x.1, x.2] := by rw [List.map_map]; rfl
    have e2 : ((Z.map (fun z => (Z.map (·.1), z.2)) ++ [(Z.map (·.1), B)]).map scS) = ((Z.map fun z => (T.str z.1, z.2)).map (fun x => ((Z.map fun z => (T.str z.1, z.2)).map (·.1), x.2)) ++ [((Z.map fun z => (T.str z.1, z.2)).map (·.1), B)]) := by
      simp [List.map_map, scS, Function.comp]
    rw [e1, e2]
    exact .let_ (by simp; omega)
  · intro z hz
    rcases List.mem_append.mp hz with hz | hz
    · obtain ⟨x, _, rfl⟩ := List.mem_map.mp hz; simp; omega
    · rw [List.mem_singleton.mp hz]; simp; omega
  · intro z hz
    rcases List.mem_append.mp hz with hz | hz
    · obtain ⟨x, hx, rfl⟩ := List.mem_map.mp hz; exact h x hx
    · rw [List.mem_singleton.mp hz]; exact hB
  · rw [List.map_append, List.map_map]
    exact wp_let (x := fun z : Str × T => z.1) (o := fun z => z.2) (by omega)
  · have : (Z.map fun z => T.tup [.str z.1, g z.2 (less M (Z.map (·.1)))]) = Z.map fun z => T.tup [.str z.1, z.2] := map_same fun z hz => by
      have := hs (Z.map (·.1), z.2) (List.mem_append.mpr (.inl (List.mem_map.mpr ⟨z, hz, rfl⟩)))
      rw [this]
    have hb := hs (Z.map (·.1), B) (List.mem_append.mpr (.inr (by simp)))
    rw [this, hb]
  · have : (Z.map fun z => T.tup [.str z.1, g z.2 (less M (Z.map (·.1)))]) = Z.map fun z => T.tup [.str z.1, z.2] := map_same fun z hz => by rw [(h z hz _ (hM.less _)).id (less_e e)]
    rw [this, (hB _ (hM.less _)).id (less_e e)]
  · refine fl_tup (k := 3 * f + 8) (fun x hx => ?_) (by omega)
    simp only [List.mem_cons, List.not_mem_nil, or_false] at hx
    rcases hx with rfl | rfl | rfl
    · exact flat_str
    · refine fl_tup (k := 3 * f + 7) (fun y hy => ?_) (by omega)
      obtain ⟨z, hz, rfl⟩ := List.mem_map.mp hy
      refine fl_tup (k := 3 * f + 6) (fun u hu => ?_) (by omega)
      simp only [List.mem_cons, List.not_mem_nil, or_false] at hu
      rcases hu with rfl | rfl
      · exact flat_str
      · exact (h z hz _ (hM.less _)).fl
    · exact flat_mono _ (hB _ (hM.less _)).fl (by omega)
theorem r_choose {Z : List (Str × List Str × T)} {E : T} (hM : MOk M) (h1 : Z.length ≤ 100) (h2 : ∀ z ∈ Z, z.2.1.length ≤ 100) (hE : Gd f g E) (h : ∀ z ∈ Z, Gd f g z.2.2) :
    Rr (f + 1) (.tup [.str "choose", E, .tup (Z.map fun z => .tup [.str z.1, .tup (z.2.1.map T.str), z.2.2])]) (.tup [.str "choose", g E M, .tup (Z.map fun z => .tup [.str z.1, .tup (z.2.1.map T.str), g z.2.2 (less M z.2.1)])]) M := by
  refine ⟨put_of (ss := ([], E) :: Z.map (fun z => z.2)) (e := none) g hM ?_ (by decide +kernel) ?_ (by simp; omega) (hp_of hM ?_) ?_ (fun hs => ?_),
    mt_choose (c := fun z : Str × List Str × T => z.1) (ns := fun z => z.2.1) (o := fun z => z.2.2) hM (by omega) (hE M hM).mt (fun z hz => (h z hz _ (hM.less _)).mt), fun e => ?_, ?_, _, rfl⟩
  · have e1 : (Z.map fun z => T.tup [.str z.1, .tup (z.2.1.map T.str), z.2.2]) = (Z.map fun z => (T.str z.1, z.2.1.map T.str, z.2.2)).map fun y => T.tup [y.1, .tup y.2.1, y.2.2] := by rw [List.map_map]; rfl
    have e2 : ((([], E) :: Z.map (fun z => z.2)).map scS) = ([], E) :: (Z.map fun z => (T.str z.1, z.2.1.map T.str, z.2.2)).map (·.2) := by
      rw [List.map_cons, List.map_map, List.map_map]; rfl
    rw [e1, e2]
    exact .choose (by simp; omega)
  · intro z hz
    rcases List.mem_cons.mp hz with rfl | hz
    · simp
    · obtain ⟨x, hx, rfl⟩ := List.mem_map.mp hz; have := h2 x hx; omega
  · intro z hz
    rcases List.mem_cons.mp hz with rfl | hz
    · exact hE
    · obtain ⟨x, hx, rfl⟩ := List.mem_map.mp hz; exact h x hx
  · rw [List.map_cons, List.map_map]
    show WPt _ (g E (less M []) :: _) _
    rw [less_nil]
    exact wp_choose (c := fun z : Str × List Str × T => z.1) (ns := fun z => z.2.1) (o := fun z => z.2.2) (by omega)
  · have : (Z.map fun z => T.tup [.str z.1, .tup (z.2.1.map T.str), g z.2.2 (less M z.2.1)]) = Z.map fun z => T.tup [.str z.1, .tup (z.2.1.map T.str), z.2.2] := map_same fun z hz => by
      have := hs z.2 (List.mem_cons_of_mem _ (List.mem_map.mpr ⟨z, hz, rfl⟩))
      rw [this]
    have he := hs ([], E) (List.mem_cons_self ..)
    rw [less_nil] at he
    rw [this, he]
  · have : (Z.map fun z => T.tup [.str z.1, .tup (z.2.1.map T.str), g z.2.2 (less M z.2.1)]) = Z.map fun z => T.tup [.str z.1, .tup (z.2.1.map T.str), z.2.2] := map_same fun z hz => by rw [(h z hz _ (hM.less _)).id (less_e e)]
    rw [this, (hE M hM).id e]
  · refine fl_tup (k := 3 * f + 8) (fun x hx => ?_) (by omega)
    simp only [List.mem_cons, List.not_mem_nil, or_false] at hx
    rcases hx with rfl | rfl | rfl
    · exact flat_str
    · exact flat_mono _ (hE M hM).fl (by omega)
    · refine fl_tup (k := 3 * f + 7) (fun y hy => ?_) (by omega)
      obtain ⟨z, hz, rfl⟩ := List.mem_map.mp hy
      refine fl_tup (k := 3 * f + 6) (fun u hu => ?_) (by omega)
      simp only [List.mem_cons, List.not_mem_nil, or_false] at hu
      rcases hu with rfl | rfl | rfl
      · exact flat_str
      · exact fl_tup (k := 5) (fun v hv => by obtain ⟨_, _, rfl⟩ := List.mem_map.mp hv; exact flat_str) (by omega)
      · exact (h z hz _ (hM.less _)).fl
/-! rows -/
def mkZ (g : T → Ms → T) (M : Ms) : List Str → List (Str × List Str × T) → List St
  | _, [] => []
  | b, a :: r => (a.1, a.2.1, a.2.2, g a.2.2 (less M b)) :: mkZ g M (b ++ a.2.1) r
def rowS : List Str → List (Str × List Str × T) → List Sp
  | _, [] => []
  | b, a :: r => (b, a.2.2) :: rowS (b ++ a.2.1) r
def cvA (a : Str × List Str × T) : T × List T × T := (T.str a.1, a.2.1.map T.str, a.2.2)
def nms (al : List (Str × List Str × T)) : List Str := al.flatMap (·.2.1)
theorem mkZ_o : ∀ {al : List (Str × List Str × T)} {b : List Str}, (mkZ g M b al).map sO = al.map fun a => .tup (.str a.1 :: (a.2.1.map T.str ++ [a.2.2]))
  | [], _ => rfl
  | a :: r, b => by rw [mkZ, List.map_cons, List.map_cons, mkZ_o (al := r)]; rfl
theorem mkZ_len : ∀ {al : List (Str × List Str × T)} {b : List Str}, (mkZ g M b al).length = al.length
  | [], _ => rfl
  | a :: r, b => by rw [mkZ, List.length_cons, List.length_cons, mkZ_len (al := r)]
theorem mkZ_bnd : ∀ {al : List (Str × List Str × T)} {b : List Str}, bnd (mkZ g M b al) = nms al
  | [], _ => rfl
  | a :: r, b => by
    have := mkZ_bnd (al := r) (b := b ++ a.2.1)
    unfold bnd nms at this ⊢
    rw [mkZ, List.flatMap_cons, List.flatMap_cons, this]
theorem mkZ_mem : ∀ {al : List (Str × List Str × T)} {b : List Str} {z : St}, z ∈ mkZ g M b al → ∃ a ∈ al, z.1 = a.1 ∧ z.2.1 = a.2.1 ∧ z.2.2.1 = a.2.2 ∧ ∃ ns, z.2.2.2 = g a.2.2 (less M ns)
  | [], _, _, h => by cases h
  | a :: r, b, z, h => by
    rcases List.mem_cons.mp h with rfl | h
    · exact ⟨a, by simp, rfl, rfl, rfl, b, rfl⟩
    · obtain ⟨a', h1, h2⟩ := mkZ_mem (al := r) h
      exact ⟨a', by simp [h1], h2⟩
theorem mkZ_at : ∀ {al : List (Str × List Str × T)} {b : List Str} {i : Nat} {z : St}, (mkZ g M b al)[i]? = some z → z.2.2.2 = g z.2.2.1 (less M (b ++ bnd ((mkZ g M b al).take i)))
  | [], _, _, _, h => by simp [mkZ] at h
  | a :: r, b, 0, z, h => by
    simp [mkZ] at h; subst h
    simp [bnd]
  | a :: r, b, i + 1, z, h => by
    have h' : (mkZ g M (b ++ a.2.1) r)[i]? = some z := by simpa [mkZ] using h
    rw [mkZ_at h', mkZ, List.take_succ_cons]
    unfold bnd
    rw [List.flatMap_cons, List.append_assoc]
theorem mkZ_n : ∀ {al : List (Str × List Str × T)} {b : List Str}, (rowS b al).map (fun z => g z.2 (less M z.1)) = (mkZ g M b al).map (·.2.2.2)
  | [], _ => rfl
  | a :: r, b => by rw [rowS, mkZ, List.map_cons, List.map_cons, mkZ_n (al := r)]
theorem mkZ_same : ∀ {al : List (Str × List Str × T)} {b : List Str}, (∀ z ∈ rowS b al, g z.2 (less M z.1) = z.2) → ∀ z ∈ mkZ g M b al, z.2.2.2 = z.2.2.1
  | [], _, _, _, h => by cases h
  | a :: r, b, hs, z, h => by
    rcases List.mem_cons.mp h with rfl | h
    · exact hs (b, a.2.2) (List.mem_cons_self ..)
    · exact mkZ_same (al := r) (fun y hy => hs y (List.mem_cons_of_mem _ hy)) z h
theorem rowS_sc : ∀ {al : List (Str × List Str × T)} {b : List Str}, (rowS b al).map scS = rowsSc (b.map T.str) (al.map cvA)
  | [], _ => rfl
  | a :: r, b => by
    rw [rowS, List.map_cons, List.map_cons, rowS_sc (al := r), List.map_append]; rfl
theorem mids_cv : ∀ {al : List (Str × List Str × T)}, mids (al.map cvA) = (nms al).map T.str
  | [] => rfl
  | a :: r => by simp [mids, nms, cvA, mids_cv (al := r)]
theorem rowS_mem : ∀ {al : List (Str × List Str × T)} {b : List Str} {z : Sp}, z ∈ rowS b al → z.1.length ≤ b.length + (nms al).length ∧ z.2 ∈ al.map (·.2.2)
  | [], _, _, h => by cases h
  | a :: r, b, z, h => by
    rcases List.mem_cons.mp h with rfl | h
    · exact ⟨by simp, by simp⟩
    · obtain ⟨h1, h2⟩ := rowS_mem (al := r) h
      refine ⟨?_, by rw [List.map_cons]; exact List.mem_cons_of_mem _ h2⟩
      rw [List.length_append] at h1
      simp only [nms, List.flatMap_cons, List.length_append] at h1 ⊢; omega
theorem rowS_len : ∀ {al : List (Str × List Str × T)} {b : List Str}, (rowS b al).length = al.length
  | [], _ => rfl
  | a :: r, b => by rw [rowS, List.length_cons, List.length_cons, rowS_len (al := r)]
def AlOk (a : Str × List Str × T) : Prop := (a.1 = "when" ∧ a.2.1 = []) ∨ (a.1 ≠ "when" ∧ ∃ x, a.2.1 = [x])
theorem nms_len : ∀ {al : List (Str × List Str × T)}, (∀ a ∈ al, AlOk a) → (nms al).length ≤ al.length
  | [], _ => Nat.le_refl _
  | a :: r, h => by
    have ih := nms_len (al := r) fun x hx => h x (by simp [hx])
    have : a.2.1.length ≤ 1 := by rcases h a (by simp) with ⟨_, e⟩ | ⟨_, x, e⟩ <;> rw [e] <;> simp
    unfold nms at ih ⊢
    rw [List.flatMap_cons, List.length_append, List.length_cons]; omega
theorem r_rows {al : List (Str × List Str × T)} {E : T} (hM : MOk M) (h1 : al.length ≤ 50) (hA : ∀ a ∈ al, AlOk a) (hE : Gd f g E) (h : ∀ a ∈ al, Gd f g a.2.2) :
    Rr (f + 1) (.tup [.str "rows", E, .tup (al.map fun a => .tup (.str a.1 :: (a.2.1.map T.str ++ [a.2.2])))]) (.tup [.str "rows", g E (less M (nms al)), .tup ((mkZ g M [] al).map sN)]) M := by
  have hlen : (mkZ g M [] al).length ≤ 50 := by rw [mkZ_len]; exact h1
  have hnl := nms_len hA
  have hso : ∀ z ∈ mkZ g M [] al, SpOk z := fun z hz => by
    obtain ⟨a, ha, e1, e2, _⟩ := mkZ_mem hz
    unfold SpOk; rw [e1, e2]; exact hA a ha
  refine ⟨put_of (ss := (nms al, E) :: rowS [] al) (e := some (al.map cvA).length) g hM ?_ (by decide +kernel) ?_ (by rw [List.length_cons, rowS_len]; omega) (hp_of hM ?_) ?_ (fun hs => ?_), ?_, fun e => ?_, ?_, _, rfl⟩
  · have e1 : (al.map fun a => T.tup (.str a.1 :: (a.2.1.map T.str ++ [a.2.2]))) = (al.map cvA).map fun z => T.tup (z.1 :: (z.2.1 ++ [z.2.2])) := by rw [List.map_map]; rfl
    have e2 : (((nms al, E) :: rowS [] al).map scS) = (mids (al.map cvA), E) :: rowsSc [] (al.map cvA) := by
      rw [List.map_cons, rowS_sc, mids_cv]; rfl
    rw [e1, e2]
    refine .rows (by simp; omega) fun z hz => ?_
    obtain ⟨a, ha, rfl⟩ := List.mem_map.mp hz
    rcases hA a ha with ⟨_, e⟩ | ⟨_, x, e⟩ <;> simp [cvA, e]
  · intro z hz
    rcases List.mem_cons.mp hz with rfl | hz
    · show (nms al).length ≤ 1000; omega
    · have := (rowS_mem hz).1; simp at this; omega
  · intro z hz
    rcases List.mem_cons.mp hz with rfl | hz
    · exact hE
    · obtain ⟨a, ha, e⟩ := List.mem_map.mp (rowS_mem hz).2
      rw [← e]; exact h a ha
  · rw [List.map_cons, mkZ_n]
    have this : WPt (.tup [.str "rows", E, .tup ((mkZ g M [] al).map fun z => T.tup (.str z.1 :: (z.2.1.map T.str ++ [z.2.2.1])))]) (g E (less M (nms al)) :: (mkZ g M [] al).map (·.2.2.2)) (.tup [.str "rows", g E (less M (nms al)), .tup ((mkZ g M [] al).map sN)]) :=
      @wp_rows St (mkZ g M [] al) (fun z => z.1) (fun z => z.2.1) (fun z => z.2.2.1) (fun z => z.2.2.2) E (g E (less M (nms al))) (by omega) fun z hz => by rcases hso z hz with ⟨_, e⟩ | ⟨_, x, e⟩ <;> simp [e]
    have e : (mkZ g M [] al).map (fun z => T.tup (.str z.1 :: (z.2.1.map T.str ++ [z.2.2.1]))) = al.map fun a => T.tup (.str a.1 :: (a.2.1.map T.str ++ [a.2.2])) := mkZ_o
    rw [e] at this
    exact @this
  · have he := hs (nms al, E) (List.mem_cons_self ..)
    have hz : ∀ z ∈ mkZ g M [] al, z.2.2.2 = z.2.2.1 := mkZ_same fun z hz => hs z (List.mem_cons_of_mem _ hz)
    have e1 : (mkZ g M [] al).map sN = (mkZ g M [] al).map sO := map_same fun z h => by
      unfold sN sO
      rw [hz z h]
    rw [e1, mkZ_o, he]
  · rw [← mkZ_o (g := g) (M := M) (b := [])]
    refine mt_rows hM (by omega) hso (fun i z hz => ?_) ?_
    · have e := mkZ_at hz
      obtain ⟨a, ha, _, _, e3, _⟩ := mkZ_mem (List.mem_of_getElem? hz)
      rw [List.nil_append] at e
      rw [e, e3]
      have hh := h a ha (less M (bnd ((mkZ g M [] al).take i))) (hM.less _)
      intro n C Q χ b hb hq
      exact hh.mt hb hq
    · rw [mkZ_bnd]
      exact (hE _ (hM.less _)).mt
  · have e1 : (mkZ g M [] al).map sN = (mkZ g M [] al).map sO := map_same fun z hz => by
      obtain ⟨a, ha, _, _, e3, ns, e4⟩ := mkZ_mem hz
      unfold sN sO
      rw [e4, e3, (h a ha _ (hM.less _)).id (less_e e)]
    rw [e1, mkZ_o, (hE _ (hM.less _)).id (less_e e)]
  · refine fl_tup (k := 3 * f + 8) (fun x hx => ?_) (by omega)
    simp only [List.mem_cons, List.not_mem_nil, or_false] at hx
    rcases hx with rfl | rfl | rfl
    · exact flat_str
    · exact flat_mono _ (hE _ (hM.less _)).fl (by omega)
    · refine fl_tup (k := 3 * f + 7) (fun y hy => ?_) (by omega)
      obtain ⟨z, hz, rfl⟩ := List.mem_map.mp hy
      obtain ⟨a, ha, _, _, e3, ns, e4⟩ := mkZ_mem hz
      refine fl_tup (k := 3 * f + 6) (fun u hu => ?_) (by omega)
      rcases List.mem_cons.mp hu with rfl | hu
      · exact flat_str
      · rcases List.mem_append.mp hu with hu | hu
        · obtain ⟨_, _, rfl⟩ := List.mem_map.mp hu; exact flat_str
        · rw [List.mem_singleton.mp hu, e4]; exact (h a ha _ (hM.less _)).fl
end
set_option Elab.async false
set_option linter.all false
set_option maxRecDepth 100000
set_option maxHeartbeats 4000000
open PySem PySem.Spec PyProof.Rows L2 WL
theorem r_other {w : Str} {rest : List T} (hn : w ≠ "name") (hw : w ∉ sorts) (hf : flat (.tup (.str w :: rest)) 6 = true) : R 1 (.tup (.str w :: rest)) := fun M hM =>
  ⟨_, put_of (f := 0) (ss := []) (e := none) (fun t _ => t) hM (.other hw) hn (by simp) (by simp) (by simp) (wp_other hw) (fun _ => rfl), MT.mono (f := 0) (g := 1) (mt_other hn hw (flat_mono _ hf (by decide))) (by decide), fun _ => rfl, flat_mono _ hf (by decide), _, rfl⟩
theorem r_name {x : Str} : R 1 (.tup [.str "name", .str x]) := fun M hM => by
  have key : WL.flat ((getT (dm M) (.inr x)).getD (.tup [.str "name", .str x])) (3 * 1 + 6) = true ∧ ∃ l, (getT (dm M) (.inr x)).getD (.tup [.str "name", .str x]) = .tup l := ?_
  · exact ⟨_, PT.mono (f := 0) (g := 1) (pt_name (x := x) (M := M)) (by decide), MT.mono (f := 0) (g := 1) (mt_name hM) (by decide), fun e => by subst e; rfl, key.1, key.2⟩
  · cases hg : getT (dm M) (.inr x) with
    | none => exact ⟨by simp [WL.flat, flats], _, rfl⟩
    | some v =>
      obtain ⟨kv, hk, rfl⟩ := dm_some hg
      obtain ⟨w, r, e, _, hf⟩ := hM.mks kv hk
      exact ⟨flat_mono _ hf (by decide), _, e⟩
theorem Lf.r {ps : List Str} {t : T} (h : Lf ps t) : R 1 t := by
  cases h with
  | num => exact r_other (by decide +kernel) (by decide +kernel) (by simp [WL.flat, flats])
  | shp => exact fun M hM => ⟨_, r_shape (f := 0) (g := fun t _ => t) (ps := []) hM (by simp) (by simp)⟩
  | stop => exact r_other (by decide +kernel) (by decide +kernel) (by simp [WL.flat, flats])
  | name => exact r_name
  | mark h =>
    obtain ⟨w, r, rfl, hw, hn⟩ := h.other
    obtain ⟨_, _, e, _, hf⟩ := h
    cases e
    exact r_other hn hw hf
theorem als_of {ps : List Str} : ∀ {zs : List (T × List T × T)}, (∀ z ∈ zs, StepOk ps z) → ∃ al : List (Str × List Str × T), zs = al.map cvA ∧ ∀ a ∈ al, AlOk a
  | [], _ => ⟨[], rfl, by simp⟩
  | z :: r, h => by
    obtain ⟨al, e, ho⟩ := als_of (zs := r) fun y hy => h y (by simp [hy])
    obtain ⟨z1, z2, z3⟩ := z
    rcases h _ (List.mem_cons_self ..) with ⟨e1, e2⟩ | ⟨w, x, hw, hx, e1, e2⟩
    · simp only at e1 e2
      subst e1; subst e2
      exact ⟨("when", [], z3) :: al, by rw [e]; rfl, fun a ha => by
        rcases List.mem_cons.mp ha with rfl | ha
        · exact .inl ⟨rfl, rfl⟩
        · exact ho a ha⟩
    · simp only at e1 e2
      subst e1; subst e2
      refine ⟨(w, [x], z3) :: al, by rw [e]; rfl, fun a ha => ?_⟩
      rcases List.mem_cons.mp ha with rfl | ha
      · refine .inr ⟨?_, x, rfl⟩
        simp only [List.mem_cons, List.not_mem_nil, or_false] at hw
        show w ≠ "when"
        rcases hw with rfl | rfl <;> decide +kernel
      · exact ho a ha
theorem join_r {ps : List Str} {f : Nat} {s d : Int} {ts : List T} {t : T} (hJ : Jn ps s d ts t) (ht : ∀ x ∈ ts, R f x) : R (f + 1) t := by
  intro M hM
  have h1 : ∀ x : T, ∃ g : Ms → T, x ∈ ts → ∀ M, MOk M → Rr f x (g M) M := fun x => by
    by_cases h : x ∈ ts
    · have h2 : ∀ M : Ms, ∃ t', MOk M → Rr f x t' M := fun M => by
        by_cases hM : MOk M
        · obtain ⟨t', h'⟩ := ht x h M hM; exact ⟨t', fun _ => h'⟩
        · exact ⟨x, fun z => absurd z hM⟩
      obtain ⟨g, hg⟩ := Classical.axiomOfChoice h2
      exact ⟨g, fun _ => hg⟩
    · exact ⟨fun _ => x, fun z => absurd z h⟩
  obtain ⟨g, hg0⟩ := Classical.axiomOfChoice h1
  have hg : ∀ x ∈ ts, Gd f g x := fun x hx => hg0 x hx
  cases hJ with
  | @does _ op A B r h => exact ⟨_, r_does hM (hg A (by simp)) (hg B (by simp))⟩
  | @fun_ _ x A r h => exact ⟨_, r_fun hM (hg A (by simp))⟩
  | @call _ A B r => exact ⟨_, r_two (.inl rfl) hM (hg A (by simp)) (hg B (by simp))⟩
  | @let_ _ zs us B h hz hl h1 h5 => exact ⟨_, r_let hM (by rw [List.length_zip]; omega) (fun z hz => hg _ (by have := (List.of_mem_zip hz).2; simp [this])) (hg B (by simp))⟩
  | @shape _ c A B r h => exact ⟨_, r_shape hM (by simp) (fun x hx => hg x (by simp only [List.mem_cons, List.not_mem_nil, or_false] at hx; rcases hx with rfl | rfl <;> simp))⟩
  | @ch0 _ x y E A B r hd hx hy hn =>
    exact ⟨_, r_choose (Z := [("Nil", [], A), ("Cons", [x, y], B)]) hM (by simp) (by simp) (hg E (by simp)) (fun z hz => by simp only [List.mem_cons, List.not_mem_nil, or_false] at hz; rcases hz with rfl | rfl <;> exact hg _ (by simp))⟩
  | @ch1 _ E A B r hd =>
    exact ⟨_, r_choose (Z := [("No", [], A), ("Yes", [], B)]) hM (by simp) (by simp) (hg E (by simp)) (fun z hz => by simp only [List.mem_cons, List.not_mem_nil, or_false] at hz; rcases hz with rfl | rfl <;> exact hg _ (by simp))⟩
  | @ch2 _ x y E A r hd hx hy hn =>
    exact ⟨_, r_choose (Z := [("Pair", [x, y], A)]) hM (by simp) (by simp) (hg E (by simp)) (fun z hz => by rw [List.mem_singleton.mp hz]; exact hg _ (by simp))⟩
  | @first _ A B r => exact ⟨_, r_two (.inr rfl) hM (hg A (by simp)) (hg B (by simp))⟩
  | @rows _ E zs h hl =>
    obtain ⟨al, rfl, ho⟩ := als_of h
    have e : ((al.map cvA).map stT) = al.map fun a => T.tup (.str a.1 :: (a.2.1.map T.str ++ [a.2.2])) := by rw [List.map_map]; rfl
    rw [e]
    refine ⟨_, r_rows hM (by simp at hl; omega) ho (hg E (by simp)) fun a ha => hg _ ?_⟩
    rw [List.map_map]
    exact List.mem_cons_of_mem _ (List.mem_map.mpr ⟨a, ha, rfl⟩)
theorem Wt.r {ps : List Str} : ∀ {n : Nat} {t : T}, Wt ps n t → R (n + 1) t
  | 0, t, h => Lf.r h
  | n + 1, t, h => by
    rcases h with h | ⟨s, d, ts, hJ, ht⟩
    · exact (Wt.r h).mono (by omega)
    · exact join_r hJ fun x hx => Wt.r (ht x hx)
set_option Elab.async false
set_option linter.all false
set_option maxRecDepth 100000
set_option maxHeartbeats 4000000
open PySem PySem.Spec PyProof.Rows L2 WL
/-- one more name marked -/
def set1 (M : Ms) (x : Str) (v : T) : Ms := if x ∈ M.map (·.1) then M.map (fun kv => if kv.1 = x then (kv.1, v) else kv) else M ++ [(x, v)]
theorem dm_set {M : Ms} {x : Str} {v : T} : putT (dm M) (.inr x) v = dm (set1 M x v) := by
  unfold set1
  by_cases h : x ∈ M.map (·.1)
  · rw [if_pos h]
    unfold putT
    rw [if_pos]
    · unfold dm
      rw [List.map_map, List.map_map]
      refine List.map_congr_left fun kv _ => ?_
      simp only [Function.comp]
      by_cases c : kv.1 = x
      · simp [c]
      · simp [c]
    · rw [List.any_eq_true]
      obtain ⟨kv, hk, rfl⟩ := List.mem_map.mp h
      exact ⟨_, List.mem_map.mpr ⟨kv, hk, rfl⟩, by simp⟩
  · rw [if_neg h, dm_put h]
theorem set1_keys {M : Ms} {x : Str} {v : T} : (M.map fun kv => if kv.1 = x then (kv.1, v) else kv).map (·.1) = M.map (·.1) := by
  rw [List.map_map]
  refine List.map_congr_left fun kv _ => ?_
  simp only [Function.comp]
  split <;> rfl
theorem MOk.set1 {M : Ms} {x : Str} {v : T} (h : MOk M) (hv : Mk v) (hl : M.length ≤ 8) : MOk (set1 M x v) := by
  unfold K30.set1
  by_cases c : x ∈ M.map (·.1)
  · rw [if_pos c]
    refine ⟨by rw [set1_keys]; exact h.nd, fun kv hk => ?_, by rw [List.length_map]; exact h.l9⟩
    obtain ⟨z, hz, rfl⟩ := List.mem_map.mp hk
    by_cases e : z.1 = x
    · rw [if_pos e]; exact hv
    · rw [if_neg e]; exact h.mks z hz
  · rw [if_neg c]
    refine ⟨?_, fun kv hk => ?_, by rw [List.length_append, List.length_singleton]; omega⟩
    · rw [List.map_append, List.nodup_append]
      refine ⟨h.nd, by simp, fun u hu y hy => ?_⟩
      rw [List.map_cons, List.map_nil, List.mem_singleton] at hy
      subst hy
      exact fun e => c (e ▸ hu)
    · rcases List.mem_append.mp hk with hk | hk
      · exact h.mks kv hk
      · rw [List.mem_singleton.mp hk]; exact hv
theorem set1_len {M : Ms} {x : Str} {v : T} : (set1 M x v).length ≤ M.length + 1 := by
  unfold set1
  split
  · rw [List.length_map]; omega
  · rw [List.length_append]; simp
theorem dm_flat {M : Ms} (h : MOk M) : ∀ kv ∈ dm M, isFlat kv.2 := fun kv hk => by
  unfold dm at hk
  obtain ⟨z, hz, rfl⟩ := List.mem_map.mp hk
  obtain ⟨_, _, _, _, hf⟩ := h.mks z hz
  exact flat_mono _ hf (by decide)
theorem law_true (ns : List Int) (h63 : ns.length ≤ 63) : wpc pr 60 i_law [.cl (ns.map T.int)] (fun _ => none) (fun v _ => v = .bl true) (fun _ _ => False) := by
  refine u_law rfl ?_
  unfold w_law
  walk_at "ws"
  refine s_draws (m := 47) h63 (by decide) fun p ds hp hl hn => ?_
  walk_at "ws"
  obtain ⟨d1, g1, m1, e1, l1, s1⟩ := popL (ds := ds) (by omega)
  refine ⟨⟨_, up_same⟩, _, up_same, _, g1, ?_⟩
  rw [up_up, e1]
  refine s_name (hn _ m1) fun z1 C1 hE1 hz1 => ?_
  have hp1 := hE1 _ _ up_same
  walk_at "ws"
  obtain ⟨d2, g2, m2, e2, l2, s2⟩ := popL (ds := ds.dropLast) (by omega)
  refine ⟨⟨_, hp1⟩, _, hp1, _, g2, ?_⟩
  rw [e2]
  refine s_name (hn _ (s1 _ m2)) fun z2 C2 hE2 hz2 => ?_
  have hp2 := hE2 _ _ up_same
  walk_at "ws"
  obtain ⟨d3, g3, m3, e3, l3, s3⟩ := popL (ds := ds.dropLast.dropLast) (by omega)
  refine ⟨⟨_, hp2⟩, _, hp2, _, g3, ?_⟩
  rw [e3]
  refine s_name (hn _ (s1 _ (s2 _ m3))) fun z3 C3 hE3 hz3 => ?_
  have hp3 := hE3 _ _ up_same
  walk_at "ws"
  obtain ⟨d4, g4, m4, e4, l4, s4⟩ := popL (ds := ds.dropLast.dropLast.dropLast) (by omega)
  refine ⟨⟨_, hp3⟩, _, hp3, _, g4, ?_⟩
  rw [e4]
  refine s_name (hn _ (s1 _ (s2 _ (s3 _ m4)))) fun z4 C4 hE4 hz4 => ?_
  have hp4 := hE4 _ _ up_same
  walk_at "ws"
  intro a ha
  have hna : ∀ x ∈ ds.dropLast.dropLast.dropLast.dropLast, 0 ≤ x := fun x hx => hn _ (s1 _ (s2 _ (s3 _ (s4 _ hx))))
  have hla : ds.dropLast.dropLast.dropLast.dropLast.length = 43 := by omega
  generalize ds.dropLast.dropLast.dropLast.dropLast = es at hp4 hna hla
  have pa : p ≠ a := cne hp4 ha
  intro m hm
  have hps : ([z1, z2, z3, z4] : List Str) ≠ [] := by simp
  have hp9 : ([z1, z2, z3, z4] : List Str).length ≤ 9 := by simp
  have hpl : ([z1, z2, z3, z4] : List Str).length = 4 := rfl
  have hps' : [T.str z1, T.str z2, T.str z3, T.str z4] = ([z1, z2, z3, z4] : List Str).map T.str := rfl
  rw [hps'] at hm ⊢
  generalize ([z1, z2, z3, z4] : List Str) = ps at hps hp9 hpl hm
  have na : a ≠ m := (fr1 hm).1.symm
  have np : p ≠ m := cne hp4 (fr1 hm).2
  obtain ⟨d5, g5, m5, e5, l5, s5⟩ := popL (ds := es) (by omega)
  have hp5 : up (up C4 a (.lst (ps.map T.str))) m (.dic []) p = some (.lst (es.map T.int)) := by rw [up_ne np, up_ne pa]; exact hp4
  walk_at "ws"
  refine ⟨⟨_, hp5⟩, _, hp5, _, g5, by decide, _, rfl, by omega, by omega, ?_⟩
  rw [e5]
  have hq0 : ∀ x ∈ es.dropLast, 0 ≤ x := fun x hx => hna x (s5 x hx)
  have hql : es.dropLast.length = 42 := by omega
  generalize es.dropLast = qs at hq0 hql
  refine for_rng (fun i τ C' => ∃ x4 M, τ = [some (.cl (ns.map T.int)), some (.ref p), some (.ref a), some (.ref m), x4, none, none, none, none] ∧ C' a = some (.lst (ps.map T.str)) ∧ C' p = some (.lst (qs.map T.int)) ∧ C' m = some (.dic (dm M)) ∧ MOk M ∧ M.length ≤ i)
    ⟨none, [], rfl, by rw [up_ne pa.symm, up_ne na]; exact up_same, up_same, by rw [up_ne np.symm]; exact up_same, ⟨by simp, by simp, by simp⟩, Nat.le_refl _⟩ (fun _ => trivial) ?_ ?_
  · rintro i τ C' N hi ⟨x4, M, rfl, ha', hp', hm', hM, hMl⟩ hN
    have hi5 : i < 5 := by
      have : d5 % 5 < 5 := Int.emod_lt_of_pos _ (by decide)
      have h0 : 0 ≤ d5 % 5 := Int.emod_nonneg _ (by decide)
      omega
    walk_at "ws"
    obtain ⟨v, hv, mv⟩ := atT_ints (ds := qs) (i := 0 + (i : Int)) (by omega) (by omega)
    refine ⟨_, hp', _, hv, s_mark (n := 58) (hq0 v mv) ha' hps fun t ht => ?_⟩
    obtain ⟨x, hx, mx⟩ := atT_strs (ds := ps) (i := (0 + (i : Int)) % 4) (by omega) (by rw [hpl]; omega)
    simp only [gSd]
    walk_at "ws"
    refine ⟨_, ha', _, hx, _, .inr x, rfl, hm', ?_, hN _ _ ⟨_, set1 M x t, rfl, ?_, ?_, ?_, hM.set1 ht (by omega), ?_⟩⟩
    · rw [dm_len]; exact small63' (by omega)
    · rw [up_ne na]; exact ha'
    · rw [up_ne np]; exact hp'
    · rw [up_same, dm_set]
    · have := set1_len (M := M) (x := x) (v := t); omega
  · rintro τ C' ⟨x4, M, rfl, ha', hp', hm', hM, hMl⟩
    obtain ⟨d, r, rfl⟩ : ∃ d r, qs = d :: r := by
      match qs, hql with
      | d :: r, _ => exact ⟨d, r, rfl⟩
    have hd0 : 0 ≤ d := hq0 d (by simp)
    have hr0 : ∀ x ∈ r, 0 ≤ x := fun x hx => hq0 x (by simp [hx])
    unfold w_law_t1
    walk_at "ws"
    refine ⟨⟨_, hp'⟩, _, hp', _, seq0 (by simp), _, rfl, ?_⟩
    walk_at "ws"
    generalize hC5 : up C' p (.lst (r.map T.int)) = C5
    have hp6 : C5 p = some (.lst (r.map T.int)) := by rw [← hC5]; exact up_same
    have ha6 : C5 a = some (.lst (ps.map T.str)) := by rw [← hC5, up_ne pa.symm]; exact ha'
    have hm6 : C5 m = some (.dic (dm M)) := by rw [← hC5, up_ne np.symm]; exact hm'
    refine s_term (n := 51) hps hp9 pa.symm 3 ha6 hp6 hr0 fun t C6 r' hE6 hp7 hr' hrl hW => ?_
    have ha7 := hE6 _ _ pa.symm ha6
    have hm7 := hE6 _ _ np.symm hm6
    refine s_wrappedP (n := 56) (ps := ps) (fun i t => R (4 + i) t) hd0 ha7 hps hW.r (fun i t x hx h1 => join_r (ps := ps) (.fun_ (d := 0) (r := []) hx) (by simpa using h1)) (fun i t u hu h1 => join_r (ps := ps) (.call (d := 0) (r := [])) ?_) (fun i t u hu h1 => join_r (ps := ps) (.shape (d := 0) (r := []) (by decide +kernel)) ?_) fun t' i C7 hE7 hi hR => ?_
    · intro x hx
      simp only [List.mem_cons, List.not_mem_nil, or_false] at hx
      rcases hx with rfl | rfl
      · exact h1
      · exact hu.r.mono (Nat.le_trans (by decide : 1 ≤ 4) (Nat.le_add_right 4 i))
    · intro x hx
      simp only [List.mem_cons, List.not_mem_nil, or_false] at hx
      rcases hx with rfl | rfl
      · exact hu.r.mono (Nat.le_trans (by decide : 1 ≤ 4) (Nat.le_add_right 4 i))
      · exact h1
    obtain ⟨u, hu⟩ := hR M hM
    have hm8 := hE7 _ _ hm7
    walk_at "ws"
    refine ⟨m, dm M, rfl, .inl hm8, fun k hk => ?_⟩
    have mk : m ≠ k := cne hm8 hk
    walk_at "ws"
    have ef : ∀ C, wpc pr 59 5 [t', .ref k] C = wpc pr ((59 - (4 + i) - 5) + (4 + i) + 5) 5 [t', .ref k] C := fun C => by rw [show 59 - (4 + i) - 5 + (4 + i) + 5 = 59 by omega]
    have eg : ∀ C, wpc pr 59 23 [t', u, .ref m] C = wpc pr ((59 - 2 * (4 + i) - 5) + 2 * (4 + i) + 5) 23 [t', u, .ref m] C := fun C => by rw [show 59 - 2 * (4 + i) - 5 + 2 * (4 + i) + 5 = 59 by omega]
    rw [ef]
    refine PT.put (t' := u) (M := M) hu.pt hu.tup (.inl up_same) fun C9 hE9 => ?_
    walk_at "ws"
    rw [eg]
    have hm9 : RdC C9 m (dm M) := .inl (hE9 _ _ (by rw [up_ne mk]; exact hm8))
    have hk9 : RdC C9 k (dm M) := .inl (hE9 _ _ up_same)
    refine hu.mt hm9 fun C10 hE10 hm10 => ?_
    have hk10 := hk9.exB hE10 mk.symm
    walk_at "ws"
    refine ⟨k, m, _, _, rfl, rfl, hk10, hm10, .inr ⟨rfl, dm_flat hM, ?_⟩⟩
    walk_at "ws"
    rw [ef]
    refine PT.put (t' := u) (M := M) hu.pt hu.tup hk10 fun C11 hE11 => ?_
    obtain ⟨l, rfl⟩ := hu.tup
    exact wEq_same (flat_mono _ hu.fl (by show _ ≤ 100; omega)) rfl
end K30
set_option Elab.async false
set_option linter.all false
set_option maxRecDepth 100000
set_option maxHeartbeats 4000000
open PySem PySem.W PyProof.Rows
set_option maxRecDepth 100000 in
set_option maxHeartbeats 0 in
theorem PySem.Challenge.cw_idlegraph_k30_put_holds : PySem.Challenge.rw_idlegraph_k30_put.Holds := by
  w_on; o_law; k_head; (case hw => w_witness2)
  k_fill
  refine L2.walk_ofK (l := PySem.Challenge.rw_idlegraph_k30_put) (n := 63) (k := 60) (x := "_law_script") (CX := L2.CX0) (sp := fun K => WL.spW K K30.pr 60 24) rfl (by decide) rfl ⟨rfl, by decide, by decide⟩ (fun w h Y => PySem.W.kIn_of Y) ?F (fun K H a ns hl hO hS => WL.law_sp hO hS (K30.law_true ns hl)) (fun _ _ _ _ z => z)
  case F =>
    intro w mg fa h KX G hmg
    refine' K30.all_mk KX G hmg ?a0 ?l0 ?c0 ?k0 ?a1 ?l1 ?c1 ?k1 ?a2 ?l2 ?c2 ?k2 ?a3 ?l3 ?c3 ?k3 ?a4 ?l4 ?c4 ?k4 ?a5 ?l5 ?c5 ?k5 ?a6 ?l6 ?c6 ?k6 ?a7 ?l7 ?c7 ?k7 ?a8 ?l8 ?c8 ?k8 ?a9 ?l9 ?c9 ?k9 ?a10 ?l10 ?c10 ?k10 ?a11 ?l11 ?c11 ?k11 ?a12 ?l12 ?c12 ?k12 ?a13 ?l13 ?c13 ?k13 ?a14 ?l14 ?c14 ?k14 ?a15 ?l15 ?c15 ?k15 ?a16 ?l16 ?c16 ?k16 ?a17 ?l17 ?c17 ?k17 ?a18 ?l18 ?c18 ?k18 ?a19 ?l19 ?c19 ?k19 ?a20 ?l20 ?c20 ?k20 ?a21 ?l21 ?c21 ?k21 ?a22 ?l22 ?c22 ?k22 ?a23 ?l23 ?c23 ?k23 ?a24 ?l24 ?c24 ?k24 ?z_any ?z_dict ?z_isinstance ?z_len ?z_max ?z_range ?z_tuple ?z_zip
    (case a0 => k_is)
    (case l0 => k_is)
    (case c0 => k_is)
    (case k0 => k_is)
    (case a1 => k_is)
    (case l1 => k_is)
    (case c1 => k_is)
    (case k1 => k_is)
    (case a2 => k_is)
    (case l2 => k_is)
    (case c2 => k_is)
    (case k2 => k_is)
    (case a3 => k_is)
    (case l3 => k_is)
    (case c3 => k_is)
    (case k3 => k_is)
    (case a4 => k_is)
    (case l4 => k_is)
    (case c4 => k_is)
    (case k4 => k_is)
    (case a5 => k_is)
    (case l5 => k_is)
    (case c5 => k_is)
    (case k5 => k_is)
    (case a6 => k_is)
    (case l6 => k_is)
    (case c6 => k_is)
    (case k6 => k_is)
    (case a7 => k_is)
    (case l7 => k_is)
    (case c7 => k_is)
    (case k7 => k_is)
    (case a8 => k_is)
    (case l8 => k_is)
    (case c8 => k_is)
    (case k8 => k_is)
    (case a9 => k_is)
    (case l9 => k_is)
    (case c9 => k_is)
    (case k9 => k_is)
    (case a10 => k_is)
    (case l10 => k_is)
    (case c10 => k_is)
    (case k10 => k_is)
    (case a11 => k_is)
    (case l11 => k_is)
    (case c11 => k_is)
    (case k11 => k_is)
    (case a12 => k_is)
    (case l12 => k_is)
    (case c12 => k_is)
    (case k12 => k_is)
    (case a13 => k_is)
    (case l13 => k_is)
    (case c13 => k_is)
    (case k13 => k_is)
    (case a14 => k_is)
    (case l14 => k_is)
    (case c14 => k_is)
    (case k14 => k_is)
    (case a15 => k_is)
    (case l15 => k_is)
    (case c15 => k_is)
    (case k15 => k_is)
    (case a16 => k_is)
    (case l16 => k_is)
    (case c16 => k_is)
    (case k16 => k_is)
    (case a17 => k_is)
    (case l17 => k_is)
    (case c17 => k_is)
    (case k17 => k_is)
    (case a18 => k_is)
    (case l18 => k_is)
    (case c18 => k_is)
    (case k18 => k_is)
    (case a19 => k_is)
    (case l19 => k_is)
    (case c19 => k_is)
    (case k19 => k_is)
    (case a20 => k_is)
    (case l20 => k_is)
    (case c20 => k_is)
    (case k20 => k_is)
    (case a21 => k_is)
    (case l21 => k_is)
    (case c21 => k_is)
    (case k21 => k_is)
    (case a22 => k_is)
    (case l22 => k_is)
    (case c22 => k_is)
    (case k22 => k_is)
    (case a23 => k_is)
    (case l23 => k_is)
    (case c23 => k_is)
    (case k23 => k_is)
    (case a24 => k_is)
    (case l24 => k_is)
    (case c24 => k_is)
    (case k24 => k_is)
    (case z_any => k_is)
    (case z_dict => k_is)
    (case z_isinstance => k_is)
    (case z_len => k_is)
    (case z_max => k_is)
    (case z_range => k_is)
    (case z_tuple => k_is)
    (case z_zip => k_is)
#print axioms PySem.Challenge.cw_idlegraph_k30_put_holds