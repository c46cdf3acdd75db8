import PyProof.Rows.All
import Wide.All
import OpenK.AllK
import Wide.FinOn
import Lean
import PyProof.EqAt
import PyProof.EqKinds
import PyProof.TupleCall
import PyProof.Rows.StrIntSpec
import PySem.Challenge.RW_idlegraph_k21_kinds_shown
set_option Elab.async false
set_option linter.all false
set_option maxRecDepth 100000
/-! THE HAND LAYER, for ints, bools, texts, own classes, LISTS and tuples (index, slices, in, append, pop ..), calls, loops. Paste it whole ahead of your own text; what your proof does not reach may be deleted. -/
namespace L2
open PySem PySem.Spec PyProof.Rows
/-- a key: an int or a str -/
abbrev Key := Sum Int Str
def keyIs : Key → Value → Bool
  | .inl k, v => Value.isInt k v
  | .inr x, v => Value.isStrOf x v
def keyH (w : World) : Key → Int
  | .inl k => hashInt k
  | .inr x => hashStr w x
theorem keyIs_shape : ∀ {k : Key} {v : Value}, keyIs k v = true → (∃ i t, k = Sum.inl i ∧ v = Value.int i t) ∨ (∃ x t, k = Sum.inr x ∧ v = Value.str x t)
  | .inl i, v, h => by
    obtain ⟨t, e⟩ := Value.isInt_shape (k := i) (v := v) h
    exact .inl ⟨i, t, rfl, e⟩
  | .inr x, v, h => by
    obtain ⟨t, e⟩ := Value.isStrOf_shape (x := x) (v := v) h
    exact .inr ⟨x, t, rfl, e⟩
theorem key_ll (a b : Int) : decide ((Sum.inl a : Key) = Sum.inl b) = (a == b) := by
  by_cases e : a = b
  · subst e; simp
  · have h : ¬ (Sum.inl a : Key) = Sum.inl b := fun q => e (Sum.inl.inj q)
    rw [decide_eq_false h]
    exact (beq_eq_false_iff_ne.mpr e).symm
theorem key_rr (a b : Str) : decide ((Sum.inr a : Key) = Sum.inr b) = decide (a = b) := by
  by_cases e : a = b
  · subst e; simp
  · have h : ¬ (Sum.inr a : Key) = Sum.inr b := fun q => e (Sum.inr.inj q)
    rw [decide_eq_false h, decide_eq_false e]
theorem key_lr (a : Int) (b : Str) : decide ((Sum.inl a : Key) = Sum.inr b) = false := decide_eq_false (fun q => nomatch q)
theorem key_rl (a : Str) (b : Int) : decide ((Sum.inr a : Key) = Sum.inl b) = false := decide_eq_false (fun q => nomatch q)
def mixKind (prog : Program) (w : World) : PySem.KeyKind prog w Key where
  is := keyIs
  hash := keyH w
  inj := fun v a b ha hb => by
    rcases keyIs_shape ha with ⟨i, t, rfl, rfl⟩ | ⟨x, t, rfl, rfl⟩
    · rcases keyIs_shape hb with ⟨j, u, rfl, e⟩ | ⟨y, u, rfl, e⟩
      · injection e with e1 _; rw [e1]
      · exact nomatch e
    · rcases keyIs_shape hb with ⟨j, u, rfl, e⟩ | ⟨y, u, rfl, e⟩
      · exact nomatch e
      · injection e with e1 _; rw [e1]
  byValue := fun k v h => by
    rcases keyIs_shape h with ⟨i, t, rfl, rfl⟩ | ⟨x, t, rfl, rfl⟩ <;> rfl
  pyHash := fun hv h => by
    rcases keyIs_shape hv with ⟨i, t, rfl, rfl⟩ | ⟨x, t, rfl, rfl⟩
    · exact wpAny_pyHash_int h
    · exact wpAny_pyHash_str h
  eqBool := fun hu hv h => by
    rcases keyIs_shape hu with ⟨i, t, rfl, rfl⟩ | ⟨x, t, rfl, rfl⟩
    · rcases keyIs_shape hv with ⟨j, u, rfl, rfl⟩ | ⟨y, u, rfl, rfl⟩
      · rw [key_ll] at h; exact wpAny_eqBool_int h
      · rw [key_lr] at h; exact SeqAt.EqAt.int_str i t y u _ _ _ _ h
    · rcases keyIs_shape hv with ⟨j, u, rfl, rfl⟩ | ⟨y, u, rfl, rfl⟩
      · rw [key_rl] at h; exact SeqAt.EqAt.str_int x t j u _ _ _ _ h
      · rw [key_rr] at h; exact wpAny_eqBool_str h
  «strs» := fun k x t v h => by
    rcases keyIs_shape h with ⟨i, u, rfl, e⟩ | ⟨y, u, rfl, e⟩
    · exact nomatch e
    · injection e with e1 _
      subst e1
      cases v <;> rfl
end L2
namespace L2
open PySem PySem.Spec PyProof.Rows
/-- a value, without the heap -/
inductive V where
  | non | bl (b : Bool) | int (i : Int) | str (x : Str) | byt (b : Array UInt8) | flt (b : UInt64) | ref (a : Addr) | ty (n : String)
  deriving DecidableEq
def RelV : V → Value → Prop
  | .non, u => u = Value.none
  | .bl b, u => u = Value.bool b
  | .int i, u => ∃ t, u = Value.int i t
  | .str x, u => ∃ t, u = Value.str x t
  | .byt b, u => ∃ t, u = Value.bytes b t
  | .flt b, u => ∃ t, u = Value.float b t
  | .ref a, u => u = Value.ref a
  | .ty n, u => u = Value.type n
abbrev Vals : List V → List Value → Prop := Paired RelV
theorem Vals.length {xs : List V} {us : List Value} (r : Vals xs us) : xs.length = us.length := Paired.length r
theorem Vals.get : ∀ {xs : List V} {us : List Value} {i : Nat} {x : V}, Vals xs us → xs[i]? = some x → ∃ u, us[i]? = some u ∧ RelV x u
  | _, _, _, _, .nil, e => by simp at e
  | _, _, 0, _, .cons r _, e => by simp at e; subst e; exact ⟨_, rfl, r⟩
  | _, _, i + 1, x, .cons _ t, e => by
    obtain ⟨u, h1, h2⟩ := Vals.get (i := i) (x := x) t (by simpa using e)
    exact ⟨u, by simpa using h1, h2⟩
theorem Vals.append : ∀ {xs ys : List V} {us ws : List Value}, Vals xs us → Vals ys ws → Vals (xs ++ ys) (us ++ ws)
  | _, _, _, _, .nil, s => s
  | _, _, _, _, .cons r t, s => .cons r (Vals.append t s)
theorem Vals.take : ∀ {xs : List V} {us : List Value} (n : Nat), Vals xs us → Vals (xs.take n) (us.take n)
  | _, _, 0, _ => .nil
  | _, _, _ + 1, .nil => .nil
  | _, _, n + 1, .cons r t => .cons r (Vals.take n t)
theorem Vals.drop : ∀ {xs : List V} {us : List Value} (n : Nat), Vals xs us → Vals (xs.drop n) (us.drop n)
  | _, _, 0, r => r
  | _, _, _ + 1, .nil => .nil
  | _, _, n + 1, .cons _ t => Vals.drop n t
def RelO : Option V → Option Value → Prop
  | some v, some u => RelV v u
  | none, none => True
  | _, _ => False
def KV {κ : Type} : List (κ × V) → List (κ × Value) → Prop := Paired fun (p : κ × V) (q : κ × Value) => p.1 = q.1 ∧ RelV p.2 q.2
/-- a key of a dict (00_mix): an int or a text -/
def kV : Key → V
  | .inl i => .int i
  | .inr x => .str x
/-- what stands at a tracked address -/
inductive HO where
  /-- a list -/
  | lst (xs : List V)
  /-- a tuple (never changes) -/
  | tup (xs : List V)
  /-- a dict whose keys are ints and texts; one whose keys are tuples of ints and texts (the empty one is both) -/
  | dK (kvs : List (Key × V)) | dT (kvs : List (List Key × V))
  /-- a set of ints: its members, its size -/
  | set (S : Int → Bool) (n : Nat)
  /-- an instance of the class at C, its dict at dx, its attributes -/
  | ins (C dx : Addr) (fs : List (Str × V))
  /-- the dict of the instance at x -/
  | own (x : Addr)
  /-- the dict of an exception -/
  | xd (fs : List (Str × V))
  /-- a bound method, f of x -/
  | met (f x : Addr)
  /-- a range object lo, lo + 1, .. below hi -/
  | rng (lo hi : Int)
  /-- a thing that is known to the object (the script; a dict while a loop walks it): read, never written while it is so -/
  | frz (o : Obj) (u : HO)
  /-- a code object's table -/
  | tbl (ps : Array Value)
  /-- any other thing, by what is true of its one object (a def of one's own: SetO a S n := HO.ext fun h => ..) -/
  | ext (φ : Heap → Prop)
abbrev Hp := Addr → Option HO
def upd (H : Hp) (a : Addr) (o : HO) : Hp := fun b => if b = a then some o else H b
theorem upd_same {H : Hp} {a : Addr} {o : HO} : upd H a o a = some o := by unfold upd; rw [if_pos rfl]
theorem upd_ne {H : Hp} {a b : Addr} {o : HO} (h : b ≠ a) : upd H a o b = H b := by unfold upd; rw [if_neg h]
theorem ne_of_none {H : Hp} {a b : Addr} {o : HO} (h : H a = some o) (h' : H b = none) : a ≠ b := by
  intro e; subst e; rw [h] at h'; cases h'
section
variable (P : Program) (w : World)
def ObjOk (H : Hp) (h : Heap) (a : Addr) : HO → Prop
  | .lst xs => xs.length ≤ sizeLine ∧ ∃ (its : List Value) (n : Nat), Vals xs its ∧ h.get? a = some { cls := .type "list", data := .seq its.toArray n }
  | .tup xs => xs.length ≤ sizeLine ∧ ∃ its : List Value, Vals xs its ∧ IsTup h a its.toArray
  | .dK kvs => kvs.length ≤ sizeLine ∧ (a == sysModules) = false ∧ ∃ vs, KV kvs vs ∧ h.DictOf (mixKind P w) a vs
  | .dT kvs => kvs.length ≤ sizeLine ∧ (a == sysModules) = false ∧ ∃ xs : List (List Key × Addr × Value),
      Paired (fun (p : List Key × V) (q : List Key × Addr × Value) => p.1 = q.1 ∧ H q.2.1 = some (.tup (p.1.map kV)) ∧ RelV p.2 q.2.2) kvs xs ∧
      ∃ o es ep, h.get? a = some o ∧ o.ExactDict ∧ o.data = .dict es ep ∧ es.toList = xs.map (entryOfKey (tupleKind (mixKind P w))) ∧ (xs.map (·.1)).Nodup
  | .set S n => h.SetOf (intKind P w) a S n
  | .ins C dx fs => H dx = some (.own a) ∧ fs.length ≤ 1000 ∧ dx ≠ a ∧ h.get? a = some (PySem.W.instObj C dx) ∧
      ∃ mA, h.Ns1 dx mA ∧ (∀ f, RelO (fs.lookup f) (mA f)) ∧ PySem.Within mA (fs.map (·.1))
  | .own _ => ∃ o, h.get? a = some o
  | .xd fs => ∃ mA, h.Ns1 a mA ∧ ∀ f, RelO (fs.lookup f) (mA f)
  | .rng lo hi => ∃ t u v, h.get? a = some { cls := .type "range", data := .fields #[.int lo t, .int hi u, .int 1 v] }
  | .frz o u => h.get? a = some o ∧ ObjOk H h a u
  | .tbl ps => h.get? a = some { cls := .none, data := .fields ps }
  | .met f x => h.get? a = some (PySem.W.methodObj (.ref f) (.ref x))
  | .ext φ => φ h ∧ (∃ o, h.get? a = some o) ∧ ∀ h1 h2 : Heap, φ h1 → (∀ o, h1.get? a = some o → h2.get? a = some o) → φ h2
/-- the abstract heap is held -/
def HOk (H : Hp) (h : Heap) : Prop := ∀ a o, H a = some o → ObjOk P w H h a o
end
section
variable {P : Program} {w : World} {H H' : Hp} {h h' : Heap} {a : Addr} {o : HO}
theorem ObjOk.lt (x : ObjOk P w H h a o) : a < h.objs.size := by
  cases o with
  | lst xs => obtain ⟨_, _, _, _, e⟩ := x; exact Heap.lt_size e
  | tup xs => obtain ⟨_, _, _, p⟩ := x; exact p.lt
  | dK kvs => obtain ⟨_, _, _, _, o, _, _, e, _⟩ := x; exact Heap.lt_size e
  | dT kvs => obtain ⟨_, _, _, _, o, _, _, e, _⟩ := x; exact Heap.lt_size e
  | set S n => obtain ⟨o, _, _, _, e, _⟩ := x; exact Heap.lt_size e
  | ins C dx fs => obtain ⟨_, _, _, e, _⟩ := x; exact Heap.lt_size e
  | own y => obtain ⟨_, e⟩ := x; exact Heap.lt_size e
  | xd fs => obtain ⟨_, ⟨_, _, _, e, _⟩, _⟩ := x; exact Heap.lt_size e
  | rng lo hi => obtain ⟨_, _, _, e⟩ := x; exact Heap.lt_size e
  | frz ob u => obtain ⟨e, _⟩ := x; exact Heap.lt_size e
  | tbl ps => exact Heap.lt_size (show h.get? a = some _ from x)
  | met f y => exact Heap.lt_size (show h.get? a = some _ from x)
  | ext φ => obtain ⟨_, ⟨_, e⟩, _⟩ := x; exact Heap.lt_size e
theorem Paired.mapP {α β : Type} {F G : α → β → Prop} : ∀ {l₁ : List α} {l₂ : List β}, Paired F l₁ l₂ → (∀ a b, F a b → G a b) → Paired G l₁ l₂
  | _, _, .nil, _ => .nil
  | _, _, .cons r t, f => .cons (f _ _ r) (Paired.mapP t f)
/-- what an object's description leans on: its own object, its own dict, the tuples -/
theorem ObjOk.stay (x : ObjOk P w H h a o) (k : ∀ b u, (b = a ∨ H b = some (.own a)) → h.get? b = some u → h'.get? b = some u)
    (ho : ∀ b, H b = some (.own a) → H' b = some (.own a)) (ht : ∀ b xs, H b = some (.tup xs) → H' b = some (.tup xs)) : ObjOk P w H' h' a o := by
  induction o with
  | lst xs => obtain ⟨z, its, n, r, e⟩ := x; exact ⟨z, its, n, r, k _ _ (.inl rfl) e⟩
  | tup xs => obtain ⟨z, its, r, ob, e, c⟩ := x; exact ⟨z, its, r, ob, k _ _ (.inl rfl) e, c⟩
  | dK kvs => obtain ⟨z, y, vs, r, ob, es, ep, e, c⟩ := x; exact ⟨z, y, vs, r, ob, es, ep, k _ _ (.inl rfl) e, c⟩
  | dT kvs =>
    obtain ⟨z, y, xs, r, ob, es, ep, e, c⟩ := x
    exact ⟨z, y, xs, Paired.mapP r fun p q z => ⟨z.1, ht _ _ z.2.1, z.2.2⟩, ob, es, ep, k _ _ (.inl rfl) e, c⟩
  | set S n => obtain ⟨ob, es, ep, t, e, c⟩ := x; exact ⟨ob, es, ep, t, k _ _ (.inl rfl) e, c⟩
  | ins C dx fs =>
    obtain ⟨d, z, ne, e, mA, ⟨od, es, ep, e2, c⟩, r⟩ := x
    exact ⟨ho _ d, z, ne, k _ _ (.inl rfl) e, mA, ⟨od, es, ep, k _ _ (.inr d) e2, c⟩, r⟩
  | own y => obtain ⟨ob, e⟩ := x; exact ⟨ob, k _ _ (.inl rfl) e⟩
  | xd fs => obtain ⟨mA, ⟨od, es, ep, e, c⟩, r⟩ := x; exact ⟨mA, ⟨od, es, ep, k _ _ (.inl rfl) e, c⟩, r⟩
  | rng lo hi => obtain ⟨t, u, v, e⟩ := x; exact ⟨t, u, v, k _ _ (.inl rfl) e⟩
  | frz ob u ih => obtain ⟨e, q⟩ := x; exact ⟨k _ _ (.inl rfl) e, ih q⟩
  | tbl ps =>
    have e : h.get? a = some { cls := .none, data := .fields ps } := x
    show h'.get? a = some { cls := .none, data := .fields ps }
    exact k a _ (.inl rfl) e
  | met f y =>
    have e : h.get? a = some (PySem.W.methodObj (.ref f) (.ref y)) := x
    show h'.get? a = some (PySem.W.methodObj (.ref f) (.ref y))
    exact k a _ (.inl rfl) e
  | ext φ => obtain ⟨p, ⟨o, e⟩, st⟩ := x; exact ⟨st _ _ p fun o q => k _ _ (.inl rfl) q, ⟨o, k _ _ (.inl rfl) e⟩, st⟩
theorem HOk.lt (x : HOk P w H h) (e : H a = some o) : a < h.objs.size := (x a o e).lt
theorem HOk.fresh (x : HOk P w H h) (e : h.objs.size ≤ a) : H a = none := by
  cases q : H a with
  | none => rfl
  | some u => exact absurd (Nat.lt_of_lt_of_le (x.lt q) e) (Nat.lt_irrefl _)
/-- every object of the heap is kept -/
theorem HOk.kept (x : HOk P w H h) (k : ∀ b u, h.get? b = some u → h'.get? b = some u) : HOk P w H h' := fun a o e =>
  (x a o e).stay (fun b u _ q => k b u q) (fun _ q => q) fun _ _ q => q
/-- a new object is laid and tracked -/
theorem HOk.laid (x : HOk P w H h) (k : ∀ b u, h.get? b = some u → h'.get? b = some u) (hp : h.objs.size ≤ a) (new : ObjOk P w (upd H a o) h' a o) : HOk P w (upd H a o) h' := fun b u e => by
  have hn := x.fresh hp
  by_cases hb : b = a
  · subst hb; rw [upd_same] at e; cases e; exact new
  · rw [upd_ne hb] at e
    exact (x b u e).stay (fun c v _ q => k c v q) (fun c q => by rw [upd_ne (ne_of_none q hn)]; exact q) fun c xs q => by rw [upd_ne (ne_of_none q hn)]; exact q
end
/-- what may be read as u: it is u, or a known u -/
def Rd (H : Hp) (a : Addr) (u : HO) : Prop := H a = some u ∨ ∃ o, H a = some (.frz o u)
theorem Rd.ok {P : Program} {w : World} {H : Hp} {h : Heap} {a : Addr} {u : HO} (r : Rd H a u) (x : HOk P w H h) : ObjOk P w H h a u := by
  rcases r with r | ⟨o, r⟩
  · exact x a u r
  · obtain ⟨_, q⟩ := x a _ r
    exact q
/-- what may be written -/
def Mut : Option HO → Prop
  | some (.lst _) => True
  | some (.dK _) => True
  | some (.dT _) => True
  | some (.set _ _) => True
  | some (.ins _ _ _) => True
  | some (.ext _) => True
  | _ => False
section
variable {P : Program} {w : World} {H : Hp} {h h' : Heap} {x e : Addr} {o' : HO}
/-- the object at e is changed: x itself, or the dict of the instance x -/
theorem HOk.write (ok : HOk P w H h) (mu : Mut (H x)) (he : e = x ∨ H e = some (.own x)) (k : ∀ b u, b ≠ e → h.get? b = some u → h'.get? b = some u) (heo : ∃ u, h'.get? e = some u)
    (new : ObjOk P w (upd H x o') h' x o') : HOk P w (upd H x o') h' := fun b u q => by
  have nown : ∀ c y, H c = some (.own y) → c ≠ x := fun c y r z => by subst z; rw [r] at mu; exact mu
  have ntup : ∀ c xs, H c = some (.tup xs) → c ≠ x := fun c xs r z => by subst z; rw [r] at mu; exact mu
  by_cases hb : b = x
  · subst hb; rw [upd_same] at q; cases q; exact new
  · rw [upd_ne hb] at q
    by_cases hbe : b = e
    · have q' : H b = some (.own x) := by
        rcases he with z | z
        · exact absurd (hbe.trans z) hb
        · rw [hbe]; exact z
      rw [q] at q'; cases q'
      obtain ⟨v, hv⟩ := heo
      exact ⟨v, by rw [hbe]; exact hv⟩
    · refine (ok b u q).stay (fun c v hc r => k c v ?_ r) (fun c r => by rw [upd_ne (nown c b r)]; exact r) fun c xs r => by rw [upd_ne (ntup c xs r)]; exact r
      rcases hc with rfl | hc
      · exact hbe
      · rintro rfl
        rcases he with z | z
        · exact nown c b hc z
        · rw [hc] at z; cases z; exact hb rfl
end
/-! ### kept unless tracked; of the frames at fs (the callers') the slots may change (an exception that passes writes there); of the records at ex (iterators) nothing is said -/
structure Un (fs ex : List Addr) (H H' : Hp) (h h' : Heap) : Prop where
  keep : ∀ b o, h.get? b = some o → H b = none → b ∉ fs → b ∉ ex → h'.get? b = some o
  slot : ∀ b o, h.get? b = some o → H b = none → b ∈ fs → b ∉ ex → ∃ sl, h'.get? b = some { o with slots := sl }
  free : ∀ b o, h.get? b = some o → H b = none → b ∉ ex → H' b = none
  there : ∀ b o, h.get? b = some o → b ∉ ex → ∃ o', h'.get? b = some o'
  tups : ∀ b xs, H b = some (.tup xs) → H' b = some (.tup xs)
  frzs : ∀ b o u, H b = some (.frz o u) → H' b = some (.frz o u)
  tbls : ∀ b ps, H b = some (.tbl ps) → ∃ more, H' b = some (.tbl (ps ++ more))
section
variable {fs fs' ex ex' : List Addr} {H H1 H2 : Hp} {h h1 h2 h' : Heap} {a x e : Addr} {o : HO}
theorem Un.any (u : Un fs ex H H1 h h1) {b : Addr} {ob : Obj} (q : h.get? b = some ob) (n : H b = none) (hx : b ∉ ex) : ∃ sl, h1.get? b = some { ob with slots := sl } := by
  by_cases hb : b ∈ fs
  · exact u.slot b ob q n hb hx
  · exact ⟨ob.slots, u.keep b ob q n hb hx⟩
theorem Un.kept (k : ∀ b u, h.get? b = some u → h'.get? b = some u) : Un fs ex H H h h' :=
  ⟨fun b ob q _ _ _ => k b ob q, fun b ob q _ _ _ => ⟨ob.slots, k b ob q⟩, fun _ _ _ n _ => n, fun b ob q _ => ⟨ob, k b ob q⟩, fun _ _ q => q, fun _ _ _ q => q, fun _ ps q => ⟨#[], by rw [q]; simp⟩⟩
theorem Un.refl : Un fs ex H H h h := Un.kept fun _ _ q => q
theorem Un.laid (k : ∀ b u, h.get? b = some u → h'.get? b = some u) (hp : h.objs.size ≤ a) (hn : H a = none) : Un fs ex H (upd H a o) h h' where
  keep := fun b u q _ _ _ => k b u q
  slot := fun b u q _ _ _ => ⟨u.slots, k b u q⟩
  free := fun b u q n _ => by rw [upd_ne (Nat.ne_of_lt (Nat.lt_of_lt_of_le (Heap.lt_size q) hp))]; exact n
  there := fun b u q _ => ⟨u, k b u q⟩
  tups := fun b xs q => by rw [upd_ne (ne_of_none q hn)]; exact q
  frzs := fun b u xs q => by rw [upd_ne (ne_of_none q hn)]; exact q
  tbls := fun b ps q => ⟨#[], by rw [upd_ne (ne_of_none q hn), q]; simp⟩
theorem Un.write (mu : Mut (H x)) (he : e = x ∨ H e = some (.own x)) (k : ∀ b u, b ≠ e → h.get? b = some u → h'.get? b = some u) (heo : ∃ u, h'.get? e = some u) : Un fs ex H (upd H x o) h h' := by
  have hx : ∀ b, H b = none → b ≠ x := fun b n z => by subst z; rw [n] at mu; exact mu
  have hb : ∀ b, H b = none → b ≠ e := fun b n z => by
    subst z
    rcases he with r | r
    · exact hx b n r
    · rw [n] at r; cases r
  have hm : ∀ b u, H b = some u → ¬ Mut (some u) → b ≠ x := fun b u q nm z => by subst z; rw [q] at mu; exact nm mu
  refine ⟨fun b u q n _ _ => k b u (hb b n) q, fun b u q n _ _ => ⟨u.slots, k b u (hb b n) q⟩, fun b u q n _ => by rw [upd_ne (hx b n)]; exact n, fun b u q _ => ?_,
    fun b xs q => by rw [upd_ne (hm b _ q fun z => z)]; exact q, fun b u xs q => by rw [upd_ne (hm b _ q fun z => z)]; exact q, fun b ps q => ⟨#[], by rw [upd_ne (hm b _ q fun z => z), q]; simp⟩⟩
  by_cases hbe : b = e
  · subst hbe; exact heo
  · exact ⟨u, k b u hbe q⟩
end
/-! ### the heap without what is tracked -/
def trk (h : Heap) (H : Hp) : List Addr := (List.range h.objs.size).filter fun a => (H a).isSome
def hidT (h : Heap) (H : Hp) : Heap := PySem.W.hideAll h (trk h H)
theorem hidT_size (h : Heap) (H : Hp) : (hidT h H).objs.size = h.objs.size := PySem.W.hideAll_size _ _
theorem hidT_get {h : Heap} {H : Hp} {b : Addr} {o : Obj} (e : h.get? b = some o) (n : H b = none) : (hidT h H).get? b = some o :=
  PySem.W.hideAll_get _ e fun hm => by
    have q : (H b).isSome = true := (List.mem_filter.mp hm).2
    rw [n] at q; simp at q
theorem of_hidT {h : Heap} {H : Hp} {b : Addr} {o : Obj} (e : (hidT h H).get? b = some o) : h.get? b = some o ∧ H b = none := by
  have e' : h.get? b = some o := PySem.W.of_hideAll (trk h H) e
  refine ⟨e', ?_⟩
  cases q : H b with
  | none => rfl
  | some x =>
    have hm : b ∈ trk h H := List.mem_filter.mpr ⟨List.mem_range.mpr (Heap.lt_size e'), by simp [q]⟩
    have z : (hidT h H).get? b = none := PySem.W.hideAll_none (trk h H) hm
    rw [z] at e; cases e
/-! ### OpenK's ledger, filled with every new object but one -/
def allNews (g h : Heap) (L : Addr) : List (Addr × Obj) := (List.range h.objs.size).filterMap fun a => if a = L ∨ (g.get? a).isSome = true then none else (h.get? a).map fun o => (a, o)
def rest (g h : Heap) (L d : Addr) : List (Addr × Obj) := (allNews g h L).filter fun p => decide (p.1 ≠ d)
end L2
namespace L2
open PySem PySem.Spec PyProof.Rows
/-- the module's facts, over the base: the heap at the law's entry without what is tracked there -/
structure Mod (K : PySem.W.Frag) (mg : Str → Option Value) (base : Heap) : Prop where
  kin : K.In base
  glob : base.Ns mainGlobals mg
  blt : ∃ mb, base.Ns builtinsNs mb ∧ ∀ x : Str, x ≠ "__name__" → mb x = bootBuiltins x
  nolimit : base.NoLimit
/-- the context: a def's body (or a comprehension's block) running. base: fixed through the whole law; s₀, H₀: the entry; outer: the frames whose slots others may change (a def's callers); stack: all frames that run;
   ex: iterators that were made ahead of the entry and are walked here (a comprehension's); fn: the names whose cells were made at the entry (a def: all; a comprehension's block: its own); calm: not within an except suite; pn: pins that every state bears; xe: what is wanted of an exception that leaves the code -/
structure Cx where
  prog : Program
  w : World
  K : PySem.W.Frag
  mg : Str → Option Value
  base : Heap
  A : Around
  N : List Str
  s₀ : Shared
  H₀ : Hp
  env : Env
  outer : List Env
  stack : List Env
  ex : List Addr
  fn : Str → Bool
  calm : Bool
  pn : List (Addr × Obj)
  xe : Value → Shared → Prop
/-- the callers' frames -/
def frs (l : List Env) : List Addr := l.filterMap (·.frame)
abbrev Cx.fs (X : Cx) : List Addr := frs X.outer
def Vis (sc : Scope) (x : Str) : Prop := sc.names.lookup x = some .local ∨ sc.names.lookup x = some .cell ∨ sc.names.lookup x = some .free
def Loc (sc : Scope) (x : Str) : Prop := sc.names.lookup x = some .local ∨ sc.names.lookup x = some .cell
def Look (env : Env) (h : Heap) (m : Str → Option Value) (x : Str) (u : Value) : Prop :=
  (env.kindOf x = some .local ∧ m x = some u) ∨ ((env.kindOf x = some .cell ∨ env.kindOf x = some .free) ∧ ∃ c, env.cells.lookup x = some c ∧ h.IsCell c (some u))
structure Cx.Ok (X : Cx) : Prop where
  mod : Mod X.K X.mg X.base
  kind : X.env.scope.kind = .function
  glob : X.env.globals = mainGlobals
  blt : X.env.builtins = builtinsNs
  above : X.s₀.heap.objs.size ≤ X.env.locals
  inj : ∀ x y c, X.env.cells.lookup x = some c → X.env.cells.lookup y = some c → x = y
  has : ∀ x, (X.env.kindOf x = some .cell ∨ X.env.kindOf x = some .free) → ∃ c, X.env.cells.lookup x = some c
  cab : ∀ x c, X.fn x = true → X.env.cells.lookup x = some c → X.s₀.heap.objs.size ≤ c
  hd : X.calm = true → X.A.handled = none
  frames : X.A.frames = some X.stack
  stk : X.stack = X.outer ∨ (X.stack = X.env :: X.outer ∧ X.env.frame = some X.env.locals)
  exf : ∀ b ∈ X.ex, b ≠ X.env.locals ∧ ∀ x c, X.env.cells.lookup x = some c → c ≠ b
  bs : ∀ b o, X.base.get? b = some o → X.s₀.heap.get? b = some o ∧ X.H₀ b = none
  bsz : X.base.objs.size ≤ X.s₀.heap.objs.size
  noex : ∀ b o, X.base.get? b = some o → b ∉ X.ex
  exfs : ∀ b ∈ X.ex, b ∉ X.fs
  funs : X.s₀.heap.FunFrames X.base X.outer
  frf : ∀ b ∈ X.fs, X.H₀ b = none
structure Inv (X : Cx) (pins : List (Addr × Obj)) (σ : List (Option V)) (H : Hp) (s : Shared) : Prop where
  ok : X.Ok
  os : s.os = X.s₀.os
  bare : AllBare s.gens
  base : Un X.fs X.ex X.H₀ H X.s₀.heap s.heap
  loc : ∃ m, s.heap.Ns X.env.locals m ∧ ∀ (i : Nat) (x : Str) (v : V), X.N[i]? = some x → σ[i]? = some (some v) → Vis X.env.scope x → ∃ u, RelV v u ∧ Look X.env s.heap m x u
  cell : ∀ x c, X.env.cells.lookup x = some c → ∃ v, s.heap.IsCell c v
  free : H X.env.locals = none
  freeC : ∀ x c, X.env.cells.lookup x = some c → H c = none
  pin : ∀ p ∈ X.pn ++ pins, s.heap.get? p.1 = some p.2 ∧ H p.1 = none ∧ p.1 ≠ X.env.locals ∧ p.1 ∉ X.fs ∧ ∀ v, p.2.data ≠ .cell v
  hok : HOk X.prog X.w H s.heap
  len : σ.length = X.N.length
section
variable {X : Cx} {pins : List (Addr × Obj)} {σ : List (Option V)} {H H' : Hp} {s : Shared} {h' : Heap}
theorem Cx.Ok.nofr (ok : X.Ok) {b : Addr} {o : Obj} (e : X.base.get? b = some o) : b ∉ X.fs := fun hb => by
  have := (ok.funs.mem hb).1
  rw [e] at this; cases this
theorem Inv.bs (I : Inv X pins σ H s) : ∀ b o, X.base.get? b = some o → s.heap.get? b = some o ∧ H b = none := fun b o e =>
  ⟨I.base.keep b o (I.ok.bs b o e).1 (I.ok.bs b o e).2 (I.ok.nofr e) (I.ok.noex b o e), I.base.free b o (I.ok.bs b o e).1 (I.ok.bs b o e).2 (I.ok.noex b o e)⟩
theorem Inv.bk (I : Inv X pins σ H s) : ∀ b o, X.base.get? b = some o → s.heap.get? b = some o := fun b o e => (I.bs b o e).1
theorem Inv.mod (I : Inv X pins σ H s) : Mod X.K X.mg X.base := I.ok.mod
theorem Inv.kIn (I : Inv X pins σ H s) : X.K.In s.heap := I.ok.mod.kin.keeps I.bk
theorem Inv.lt (I : Inv X pins σ H s) : X.env.locals < s.heap.objs.size := let ⟨_, hn, _⟩ := I.loc; hn.lt
theorem Inv.sz (I : Inv X pins σ H s) : X.s₀.heap.objs.size ≤ s.heap.objs.size := Nat.le_trans I.ok.above (Nat.le_of_lt I.lt)
theorem Inv.nofs (I : Inv X pins σ H s) {a : Addr} (h : s.heap.objs.size ≤ a) : a ∉ X.fs := fun hb => by
  obtain ⟨_, o, ho, _⟩ := I.ok.funs.mem hb
  exact absurd (Nat.lt_of_lt_of_le (Heap.lt_size ho) (Nat.le_trans I.sz h)) (Nat.lt_irrefl _)
theorem Inv.cne (I : Inv X pins σ H s) : ∀ x c, X.env.cells.lookup x = some c → c ≠ X.env.locals := fun x c e z => by
  obtain ⟨v, o, ho, hd⟩ := I.cell x c e
  obtain ⟨m, ⟨o', es, ep, ho', hd', _⟩, _⟩ := I.loc
  rw [z, ho'] at ho; cases ho; rw [hd'] at hd; cases hd
theorem Inv.funs (I : Inv X pins σ H s) : s.heap.FunFrames X.base X.outer := by
  have all : ∀ (l : List Env), (∀ b ∈ frs l, b ∈ X.fs) → X.s₀.heap.FunFrames X.base l → s.heap.FunFrames X.base l := by
    intro l
    induction l with
    | nil => intro _ _; trivial
    | cons env r ih =>
      intro hs hl
      obtain ⟨hk, ⟨L, o, hf, hn, ho, hd⟩, hr⟩ := hl
      have hL : L ∈ X.fs := hs L (by unfold frs; rw [List.filterMap_cons, hf]; exact List.mem_cons_self)
      obtain ⟨sl, e⟩ := I.base.slot L o ho (I.ok.frf L hL) hL fun z => I.ok.exfs L z hL
      exact ⟨hk, ⟨L, _, hf, hn, e, hd⟩, ih (fun b hb => hs b (by unfold frs; rw [List.filterMap_cons, hf]; exact List.mem_cons_of_mem _ hb)) hr⟩
  exact all X.outer (fun _ hb => hb) I.ok.funs
/-- the frames that run, for a call -/
theorem Inv.stack (I : Inv X pins σ H s) : s.heap.FunFrames X.base X.stack := by
  rcases I.ok.stk with e | ⟨e, hf⟩
  · rw [e]; exact I.funs
  · rw [e]
    obtain ⟨m, hn, _⟩ := I.loc
    refine .cons (by rw [I.ok.kind]; decide) hf hn ?_ I.funs
    exact Heap.get?_none_of_le (Nat.le_trans I.ok.bsz I.ok.above)
theorem Inv.stkSub (I : Inv X pins σ H s) : ∀ b ∈ frs X.stack, b ∈ X.env.locals :: X.fs := fun b hb => by
  rcases I.ok.stk with e | ⟨e, hf⟩
  · rw [e] at hb; exact List.mem_cons_of_mem _ hb
  · rw [e] at hb
    unfold frs at hb
    rw [List.filterMap_cons, hf] at hb
    exact hb
theorem Inv.stkFree (I : Inv X pins σ H s) : ∀ b ∈ frs X.stack, H b = none := fun b hb => by
  rcases List.mem_cons.mp (I.stkSub b hb) with e | hb
  · rw [e]; exact I.free
  · obtain ⟨_, o, ho, _⟩ := I.ok.funs.mem hb
    exact I.base.free b o ho (I.ok.frf b hb) fun z => I.ok.exfs b z hb
/-- THE STEP: the untracked objects but the frame and the records at ch are kept (the callers' frames up to slots), the frame's map is kept, the new abstract heap is held -/
theorem Inv.step {g' : Array GenState} {t' : Nat} {d' : Drawn} {ch : List Addr} (I : Inv X pins σ H s)
    (hch : ∀ b ∈ ch, (b ∈ X.ex ∨ X.s₀.heap.objs.size ≤ b) ∧ b ≠ X.env.locals ∧ (∀ x c, X.env.cells.lookup x = some c → c ≠ b) ∧ ∀ p ∈ X.pn ++ pins, p.1 ≠ b)
    (keep : ∀ b o, b ≠ X.env.locals → b ∉ X.fs → b ∉ ch → s.heap.get? b = some o → H b = none → h'.get? b = some o)
    (slot : ∀ b o, b ≠ X.env.locals → b ∈ X.fs → b ∉ ch → s.heap.get? b = some o → H b = none → ∃ sl, h'.get? b = some { o with slots := sl }) (free : ∀ b o, b ∉ ch → s.heap.get? b = some o → H b = none → H' b = none)
    (there : ∀ b o, b ∉ ch → s.heap.get? b = some o → ∃ o', h'.get? b = some o')
    (tups : ∀ b xs, H b = some (.tup xs) → H' b = some (.tup xs)) (frzs : ∀ b o u, H b = some (.frz o u) → H' b = some (.frz o u)) (tbls : ∀ b ps, H b = some (.tbl ps) → ∃ more, H' b = some (.tbl (ps ++ more)))
    (ns : ∀ m, s.heap.Ns X.env.locals m → h'.Ns X.env.locals m) (hok : HOk X.prog X.w H' h') (hg : AllBare g') :
    Inv X pins σ H' { s with heap := h', gens := g', drawn := d', toks := t' } := by
  have neL : ∀ b o, X.s₀.heap.get? b = some o → b ≠ X.env.locals := fun b o e => Nat.ne_of_lt (Nat.lt_of_lt_of_le (Heap.lt_size e) I.ok.above)
  have neC : ∀ b o, X.s₀.heap.get? b = some o → b ∉ X.ex → b ∉ ch := fun b o e hx hb => by
    rcases (hch b hb).1 with z | z
    · exact hx z
    · exact absurd (Nat.lt_of_lt_of_le (Heap.lt_size e) z) (Nat.lt_irrefl _)
  have cellK : ∀ x c, X.env.cells.lookup x = some c → ∀ v, s.heap.IsCell c v → h'.IsCell c v := fun x c e v ⟨o, ho, hd⟩ => by
    have nch : c ∉ ch := fun z => (hch c z).2.2.1 x c e rfl
    by_cases hc : c ∈ X.fs
    · obtain ⟨sl, q⟩ := slot c o (I.cne x c e) hc nch ho (I.freeC x c e)
      exact ⟨_, q, hd⟩
    · exact ⟨o, keep c o (I.cne x c e) hc nch ho (I.freeC x c e), hd⟩
  refine ⟨I.ok, I.os, hg, ⟨fun b o e n hb hx => ?_, fun b o e n hb hx => ?_, fun b o e n hx => ?_, fun b o e hx => ?_, fun b xs e => tups b xs (I.base.tups b xs e), fun b o xs e => frzs b o xs (I.base.frzs b o xs e), fun b ps e => ?_⟩, ?_, fun x c e => ?_, ?_, fun x c e => ?_, fun p hp => ?_, hok, I.len⟩
  · exact keep b o (neL b o e) hb (neC b o e hx) (I.base.keep b o e n hb hx) (I.base.free b o e n hx)
  · obtain ⟨sl, e1⟩ := I.base.slot b o e n hb hx
    obtain ⟨sl', e2⟩ := slot b _ (neL b o e) hb (neC b o e hx) e1 (I.base.free b o e n hx)
    exact ⟨sl', e2⟩
  · obtain ⟨o', e1⟩ := I.base.there b o e hx
    exact free b o' (neC b o e hx) e1 (I.base.free b o e n hx)
  · obtain ⟨o', e1⟩ := I.base.there b o e hx
    exact there b o' (neC b o e hx) e1
  · obtain ⟨m1, e1⟩ := I.base.tbls b ps e
    obtain ⟨m2, e2⟩ := tbls b _ e1
    exact ⟨m1 ++ m2, by rw [e2, Array.append_assoc]⟩
  · obtain ⟨m, hn, hl⟩ := I.loc
    refine ⟨m, ns m hn, fun i x v e1 e2 e3 => ?_⟩
    obtain ⟨u, r, l⟩ := hl i x v e1 e2 e3
    refine ⟨u, r, ?_⟩
    rcases l with l | ⟨k, c, e, z⟩
    · exact .inl l
    · exact .inr ⟨k, c, e, cellK x c e _ z⟩
  · obtain ⟨v, z⟩ := I.cell x c e
    exact ⟨v, cellK x c e v z⟩
  · obtain ⟨m, ⟨o, _, _, ho, _⟩, _⟩ := I.loc
    exact free _ o (fun z => (hch _ z).2.1 rfl) ho I.free
  · obtain ⟨v, o, ho, hd⟩ := I.cell x c e
    exact free c o (fun z => (hch c z).2.2.1 x c e rfl) ho (I.freeC x c e)
  · obtain ⟨e, n, ne, nf, d⟩ := I.pin p hp
    have nch : p.1 ∉ ch := fun z => (hch p.1 z).2.2.2 p hp rfl
    exact ⟨keep p.1 p.2 ne nf nch e n, free p.1 p.2 nch e n, ne, nf, d⟩
/-- .. where the frame's own object is kept too -/
theorem Inv.un {t' : Nat} (I : Inv X pins σ H s) (u : Un X.fs [] H H' s.heap h') (hok : HOk X.prog X.w H' h') : Inv X pins σ H' { s with heap := h', toks := t' } := by
  obtain ⟨m, ⟨o, es, ep, ho, r⟩, _⟩ := id I.loc
  obtain ⟨sl, hL⟩ := u.any ho I.free (by simp)
  exact I.step (g' := s.gens) (d' := s.drawn) (ch := []) (fun _ z => nomatch z) (fun b o _ hb _ e n => u.keep b o e n hb (by simp)) (fun b o _ hb _ e n => u.slot b o e n hb (by simp)) (fun b o _ e n => u.free b o e n (by simp)) (fun b o _ e => u.there b o e (by simp)) u.tups u.frzs u.tbls (fun m' hm => by
    obtain ⟨o', es', ep', ho', r'⟩ := hm
    rw [ho] at ho'; cases ho'
    exact ⟨_, es', ep', hL, r'⟩) hok I.bare
/-- behind a call (or a comprehension's block): the slots of this frame may have changed too, the records at ch may have turned -/
theorem Inv.call {g' : Array GenState} {t' : Nat} {d' : Drawn} {ch : List Addr} (I : Inv X pins σ H s) (u : Un (frs X.stack) ch H H' s.heap h') (hok : HOk X.prog X.w H' h') (hg : AllBare g')
    (hch : ∀ b ∈ ch, (b ∈ X.ex ∨ X.s₀.heap.objs.size ≤ b) ∧ b ≠ X.env.locals ∧ (∀ x c, X.env.cells.lookup x = some c → c ≠ b) ∧ ∀ p ∈ X.pn ++ pins, p.1 ≠ b) :
    Inv X pins σ H' { s with heap := h', gens := g', drawn := d', toks := t' } := by
  obtain ⟨m, ⟨o, es, ep, ho, r⟩, _⟩ := id I.loc
  obtain ⟨sl, hL⟩ := u.any ho I.free fun z => (hch _ z).2.1 rfl
  exact I.step (ch := ch) hch (fun b o hL hb hc e n => u.keep b o e n (fun z => (List.mem_cons.mp (I.stkSub b z)).elim hL hb) hc) (fun b o _ _ hc e n => u.any e n hc) (fun b o hc e n => u.free b o e n hc) (fun b o hc e => u.there b o e hc) u.tups u.frzs u.tbls (fun m' hm => by
    obtain ⟨o', es', ep', ho', r'⟩ := hm
    rw [ho] at ho'; cases ho'
    exact ⟨_, es', ep', hL, r'⟩) hok hg
/-- an untracked record of ours (an iterator) has turned -/
theorem Inv.turned {t' : Nat} {it : Addr} (I : Inv X pins σ H s) (k : ∀ b o, b ≠ it → s.heap.get? b = some o → h'.get? b = some o) (hn : H it = none) (hL : it ≠ X.env.locals)
    (h1 : it ∈ X.ex ∨ X.s₀.heap.objs.size ≤ it) (h2 : ∀ x c, X.env.cells.lookup x = some c → c ≠ it) (h3 : ∀ p ∈ X.pn ++ pins, p.1 ≠ it) : Inv X pins σ H { s with heap := h', toks := t' } := by
  have nit : ∀ b u, H b = some u → b ≠ it := fun b u e z => by rw [z, hn] at e; cases e
  refine I.step (g' := s.gens) (d' := s.drawn) (ch := [it]) (fun b hb => ?_) (fun b o _ _ hc e _ => k b o (fun z => hc (by simp [z])) e) (fun b o _ _ hc e _ => ⟨o.slots, k b o (fun z => hc (by simp [z])) e⟩) (fun _ _ _ _ n => n)
    (fun b o hc e => ⟨o, k b o (fun z => hc (by simp [z])) e⟩) (fun _ _ e => e) (fun _ _ _ e => e) (fun b ps e => ⟨#[], by rw [e]; simp⟩) (fun m hm => ?_) (fun b u e => ?_) I.bare
  · have e : b = it := by simpa using hb
    subst e
    exact ⟨h1, hL, h2, h3⟩
  · obtain ⟨o, es, ep, ho, r⟩ := hm
    exact ⟨o, es, ep, k _ o (Ne.symm hL) ho, r⟩
  · refine (I.hok b u e).stay (fun c v hc q => k c v ?_ q) (fun _ q => q) fun _ _ q => q
    rcases hc with z | z
    · rw [z]; exact nit b u e
    · exact nit c _ z
theorem Inv.tok (I : Inv X pins σ H s) (t : Nat) : Inv X pins σ H { s with toks := t } := I.un (h' := s.heap) (t' := t) Un.refl I.hok
/-- all objects kept -/
theorem Inv.kept {t' : Nat} (I : Inv X pins σ H s) (k : ∀ b u, s.heap.get? b = some u → h'.get? b = some u) : Inv X pins σ H { s with heap := h', toks := t' } := I.un (Un.kept k) (I.hok.kept k)
/-- a new object laid and tracked -/
theorem Inv.laid {a : Addr} {o : HO} {t' : Nat} (I : Inv X pins σ H s) (k : ∀ b u, s.heap.get? b = some u → h'.get? b = some u) (hp : s.heap.objs.size ≤ a) (new : ObjOk X.prog X.w (upd H a o) h' a o) :
    Inv X pins σ (upd H a o) { s with heap := h', toks := t' } := I.un (Un.laid k hp (I.hok.fresh hp)) (I.hok.laid k hp new)
/-- an object written -/
theorem Inv.write {x e : Addr} {o : HO} {t' : Nat} (I : Inv X pins σ H s) (mu : Mut (H x)) (he : e = x ∨ H e = some (.own x)) (k : ∀ b u, b ≠ e → s.heap.get? b = some u → h'.get? b = some u) (heo : ∃ u, h'.get? e = some u)
    (new : ObjOk X.prog X.w (upd H x o) h' x o) : Inv X pins σ (upd H x o) { s with heap := h', toks := t' } := I.un (Un.write mu he k heo) (I.hok.write mu he k heo new)
theorem Inv.pins_of {pins' : List (Addr × Obj)} (I : Inv X pins σ H s) (h : ∀ p ∈ pins', s.heap.get? p.1 = some p.2 ∧ H p.1 = none ∧ p.1 ≠ X.env.locals ∧ p.1 ∉ X.fs ∧ ∀ v, p.2.data ≠ .cell v) : Inv X pins' σ H s :=
  ⟨I.ok, I.os, I.bare, I.base, I.loc, I.cell, I.free, I.freeC, fun p hp => (List.mem_append.mp hp).elim (fun z => I.pin p (List.mem_append_left _ z)) (h p), I.hok, I.len⟩
theorem nodup_ix {N : List Str} (hN : N.Nodup) {i j : Nat} {x : Str} (a : N[i]? = some x) (b : N[j]? = some x) : i = j := by
  obtain ⟨h1, e1⟩ := List.getElem?_eq_some_iff.mp a
  obtain ⟨h2, e2⟩ := List.getElem?_eq_some_iff.mp b
  exact (List.getElem_inj hN).mp (e1.trans e2.symm)
/-- a name is stored; what changed -/
theorem store_ok2 {M : Model} {A : Around} {E : Value → Shared → Prop} {i : Nat} {x : Str} {v : V} {u : Value} {Q : Unit → Shared → Prop} (I : Inv X pins σ H s) (hN : X.N.Nodup) (hi : X.N[i]? = some x) (hx : Loc X.env.scope x) (r : RelV v u)
    (h : ∀ s', Inv X pins (σ.set i (some v)) H s' → (∃ a, Heap.SameBut a s.heap s'.heap ∧ (a = X.env.locals ∨ X.env.cells.lookup x = some a)) → Q () s') (hf : X.fn x = true ∨ X.env.scope.names.lookup x = some .local := by first | exact .inl rfl | exact .inr rfl | assumption) : wpAny M A (storeName X.env x u) Q E s := by
  obtain ⟨m, hn, hl⟩ := id I.loc
  have hcls : (X.env.scope.kind == .class || (X.env.scope.kind == .module && X.env.locals != X.env.globals)) = false := by rw [I.ok.kind]; rfl
  have hiσ : i < σ.length := by rw [I.len]; exact (List.getElem?_eq_some_iff.mp hi).1
  have cne := I.cne
  have tracked : ∀ {a : Addr} {h' : Heap}, (∃ o, s.heap.get? a = some o ∧ H a = none) → Heap.SameBut a s.heap h' → HOk X.prog X.w H h' := fun {a h'} ha hs b ob e => by
    obtain ⟨_, _, hfree⟩ := ha
    refine (I.hok b ob e).stay (fun c w' hc q => (hs.2 c ?_).trans q) (fun _ q => q) fun _ _ q => q
    rintro rfl
    rcases hc with rfl | hc
    · rw [hfree] at e; cases e
    · rw [hfree] at hc; cases hc
  rcases hx with hk | hk
  · refine wpAny_storeName_local hk hn (fun h' hn' hs => ?_) hcls
    obtain ⟨oL, _, _, hoL, _⟩ := id hn
    refine h _ ⟨I.ok, I.os, I.bare, ⟨fun b o e n hb hx => ?_, fun b o e n hb hx => ?_, I.base.free, fun b o e hx => ?_, I.base.tups, I.base.frzs, I.base.tbls⟩, ⟨_, hn', fun j y v' e1 e2 e3 => ?_⟩, fun y c e => ?_, I.free, I.freeC, fun p hp => ?_, tracked ⟨oL, hoL, I.free⟩ hs, by simpa using I.len⟩ ⟨_, hs, .inl rfl⟩
    · exact (hs.2 b (Nat.ne_of_lt (Nat.lt_of_lt_of_le (Heap.lt_size e) I.ok.above))).trans (I.base.keep b o e n hb hx)
    · obtain ⟨sl, e1⟩ := I.base.slot b o e n hb hx
      exact ⟨sl, (hs.2 b (Nat.ne_of_lt (Nat.lt_of_lt_of_le (Heap.lt_size e) I.ok.above))).trans e1⟩
    · obtain ⟨o', e1⟩ := I.base.there b o e hx
      exact ⟨o', (hs.2 b (Nat.ne_of_lt (Nat.lt_of_lt_of_le (Heap.lt_size e) I.ok.above))).trans e1⟩
    · by_cases hj : j = i
      · subst hj
        rw [hi] at e1; cases e1
        rw [List.getElem?_set_self hiσ] at e2
        cases e2
        exact ⟨u, r, .inl ⟨hk, by simp⟩⟩
      · rw [List.getElem?_set_ne (Ne.symm hj)] at e2
        obtain ⟨u', r', q⟩ := hl j y v' e1 e2 e3
        refine ⟨u', r', ?_⟩
        rcases q with ⟨k, e⟩ | ⟨k, c, e, z⟩
        · refine .inl ⟨k, ?_⟩
          have : y ≠ x := fun e => hj (nodup_ix hN e1 (e ▸ hi))
          simp [this, e]
        · exact .inr ⟨k, c, e, z.sameBut hs (cne y c e)⟩
    · obtain ⟨w', z⟩ := I.cell y c e
      exact ⟨w', z.sameBut hs (cne y c e)⟩
    · obtain ⟨e, n, ne, nf, d⟩ := I.pin p hp
      exact ⟨(hs.2 p.1 ne).trans e, n, ne, nf, d⟩
  · have hfn : X.fn x = true := by
      rcases hf with z | z
      · exact z
      · rw [z] at hk; cases hk
    obtain ⟨c, hc⟩ := I.ok.has x (.inl hk)
    obtain ⟨w', z⟩ := I.cell x c hc
    refine wpAny_storeName_cell I.ok.kind hk hc z (fun h' hc' hs => ?_)
    obtain ⟨oc, hoc, hocd⟩ := id z
    refine h { s with heap := h' } ⟨I.ok, I.os, I.bare, ⟨fun b o e n hb hx => ?_, fun b o e n hb hx => ?_, I.base.free, fun b o e hx => ?_, I.base.tups, I.base.frzs, I.base.tbls⟩, ⟨m, hn.sameBut hs (Ne.symm (cne x c hc)), fun j y v' e1 e2 e3 => ?_⟩, fun y c' e => ?_, I.free, I.freeC, fun p hp => ?_, tracked ⟨oc, hoc, I.freeC x c hc⟩ hs, by simpa using I.len⟩ ⟨c, hs, .inr hc⟩
    · exact (hs.2 b (Nat.ne_of_lt (Nat.lt_of_lt_of_le (Heap.lt_size e) (I.ok.cab x c hfn hc)))).trans (I.base.keep b o e n hb hx)
    · obtain ⟨sl, e1⟩ := I.base.slot b o e n hb hx
      exact ⟨sl, (hs.2 b (Nat.ne_of_lt (Nat.lt_of_lt_of_le (Heap.lt_size e) (I.ok.cab x c hfn hc)))).trans e1⟩
    · obtain ⟨o', e1⟩ := I.base.there b o e hx
      exact ⟨o', (hs.2 b (Nat.ne_of_lt (Nat.lt_of_lt_of_le (Heap.lt_size e) (I.ok.cab x c hfn hc)))).trans e1⟩
    · by_cases hj : j = i
      · subst hj
        rw [hi] at e1; cases e1
        rw [List.getElem?_set_self hiσ] at e2
        cases e2
        exact ⟨u, r, .inr ⟨.inl hk, c, hc, hc'⟩⟩
      · rw [List.getElem?_set_ne (Ne.symm hj)] at e2
        obtain ⟨u', r', q⟩ := hl j y v' e1 e2 e3
        refine ⟨u', r', ?_⟩
        rcases q with q | ⟨k, c', e, z'⟩
        · exact .inl q
        · refine .inr ⟨k, c', e, z'.sameBut hs ?_⟩
          rintro rfl
          exact hj (nodup_ix hN e1 (I.ok.inj _ _ _ e hc ▸ hi))
    · by_cases hcc : c' = c
      · subst hcc; exact ⟨_, hc'⟩
      · obtain ⟨w2, z2⟩ := I.cell y c' e
        exact ⟨w2, z2.sameBut hs hcc⟩
    · obtain ⟨e, n, ne, nf, d⟩ := I.pin p hp
      refine ⟨(hs.2 p.1 ?_).trans e, n, ne, nf, d⟩
      intro q
      rw [q, hoc] at e
      have q' : oc = p.2 := Option.some.inj e
      exact d w' (by rw [← q']; exact hocd)
theorem store_ok {M : Model} {A : Around} {E : Value → Shared → Prop} {i : Nat} {x : Str} {v : V} {u : Value} {Q : Unit → Shared → Prop} (I : Inv X pins σ H s) (hN : X.N.Nodup) (hi : X.N[i]? = some x) (hx : Loc X.env.scope x) (r : RelV v u)
    (h : ∀ s', Inv X pins (σ.set i (some v)) H s' → Q () s') (hf : X.fn x = true ∨ X.env.scope.names.lookup x = some .local := by first | exact .inl rfl | exact .inr rfl | assumption) : wpAny M A (storeName X.env x u) Q E s :=
  store_ok2 I hN hi hx r (fun s' I' _ => h s' I') hf
end
/-! ### the judgements -/
/-- an exception: its class, its own dict's address (where it has one), the abstract heap behind it -/
abbrev XK := Value → Option Addr → Hp → Prop
abbrev St := List (Option V)
abbrev VK := V → Hp → Prop
/-- an expression's reading; a test's; an argument list's -/
abbrev TE := St → Hp → VK → Prop
abbrev TT := St → Hp → (Bool → Hp → Prop) → Prop
abbrev TA := St → Hp → (List V → Hp → Prop) → Prop
/-- what is wanted behind a statement -/
structure Ends where
  nx : St → Hp → Prop
  rt : VK
  bk : St → Hp → Prop := fun _ _ => False
  ct : St → Hp → Prop := fun _ _ => False
abbrev TS := Ends → St → Hp → Prop
def EP (X : Cx) (pins : List (Addr × Obj)) (σ : St) (Q : VK) (u : Value) (s' : Shared) : Prop := ∃ v H', Inv X pins σ H' s' ∧ RelV v u ∧ Q v H'
def TP (X : Cx) (pins : List (Addr × Obj)) (σ : St) (Q : Bool → Hp → Prop) (b : Bool) (s' : Shared) : Prop := ∃ H', Inv X pins σ H' s' ∧ Q b H'
def AP (X : Cx) (pins : List (Addr × Obj)) (σ : St) (Q : List V → Hp → Prop) (us : List Value) (s' : Shared) : Prop := ∃ vs H', Inv X pins σ H' s' ∧ Vals vs us ∧ Q vs H'
def SP (X : Cx) (pins : List (Addr × Obj)) (D : Ends) (f : Flow) (s' : Shared) : Prop :=
  match f with
  | .next => ∃ σ' H', Inv X pins σ' H' s' ∧ D.nx σ' H'
  | .brk => ∃ σ' H', Inv X pins σ' H' s' ∧ D.bk σ' H'
  | .cont => ∃ σ' H', Inv X pins σ' H' s' ∧ D.ct σ' H'
  | .ret u => ∃ v σ' H', Inv X pins σ' H' s' ∧ RelV v u ∧ D.rt v H'
def PE (X : Cx) (e : Expr) (t : TE) : Prop :=
  ∀ (pins : List (Addr × Obj)) (s : Shared) (σ : St) (H : Hp) (Q : VK), Inv X pins σ H s → t σ H Q → wpAny (model X.prog X.w) X.A (eval e X.env) (EP X pins σ Q) X.xe s
def PT (X : Cx) (e : Expr) (t : TT) : Prop :=
  ∀ (pins : List (Addr × Obj)) (s : Shared) (σ : St) (H : Hp) (Q : Bool → Hp → Prop), Inv X pins σ H s → t σ H Q → wpAny (model X.prog X.w) X.A (isTrue e X.env (eval e X.env)) (TP X pins σ Q) X.xe s
/-- a test whatever its 'whole' is (and, or) -/
def PW (X : Cx) (e : Expr) (t : TT) : Prop :=
  ∀ (whole : Sem Value) (pins : List (Addr × Obj)) (s : Shared) (σ : St) (H : Hp) (Q : Bool → Hp → Prop), Inv X pins σ H s → t σ H Q → wpAny (model X.prog X.w) X.A (isTrue e X.env whole) (TP X pins σ Q) X.xe s
theorem PW.pt {X : Cx} {e : Expr} {t : TT} (h : PW X e t) : PT X e t := h _
/-- an argument list (no star), from the left -/
def PA (X : Cx) (es : List Expr) (t : TA) : Prop :=
  ∀ (pos : Pos) (pins : List (Addr × Obj)) (s : Shared) (σ : St) (H : Hp) (Q : List V → Hp → Prop), Inv X pins σ H s → t σ H Q → wpAny (model X.prog X.w) X.A (spliced (backTo pos (starEach es X.env))) (AP X pins σ Q) X.xe s
def PS (X : Cx) (st : Stmt) (t : TS) : Prop :=
  ∀ (pins : List (Addr × Obj)) (s : Shared) (σ : St) (H : Hp) (D : Ends), Inv X pins σ H s → t D σ H → wpAny (model X.prog X.w) X.A (exec st X.env) (SP X pins D) X.xe s
def PSs (X : Cx) (st : List Stmt) (t : TS) : Prop :=
  ∀ (pins : List (Addr × Obj)) (s : Shared) (σ : St) (H : Hp) (D : Ends), Inv X pins σ H s → t D σ H → wpAny (model X.prog X.w) X.A (execs st X.env) (SP X pins D) X.xe s
/-- weaken the end -/
theorem thn {α : Type} {t : Sem α} {Q Q' : α → Shared → Prop} {M : Model} {A : Around} {E : Value → Shared → Prop} {s : Shared} (h : wpAny M A t Q E s) (hQ : ∀ a s, Q a s → Q' a s) : wpAny M A t Q' E s := wpAny_mono h hQ fun _ _ x => x
end L2
namespace L2
open PySem PySem.Spec PyProof.Rows
section
variable {X : Cx}
/-! ### names and constants -/
def tVar (i : Nat) : TE := fun σ H Q => ∃ v, σ[i]? = some (some v) ∧ Q v H
def tC (v : V) : TE := fun _ H Q => Q v H
theorem pe_var {i : Nat} {x : Str} {pos : Pos} (hN : X.N[i]? = some x) (hv : Vis X.env.scope x) (hd : (x == ("__debug__" : Str)) = false := by decide) (hcd : (x == ("__classdict__" : Str)) = false := by decide) : PE X (.Name x pos) (tVar i) := by
  intro pins s σ H Q I h
  obtain ⟨v, e, h⟩ := h
  obtain ⟨m, hn, hl⟩ := I.loc
  obtain ⟨u, r, l⟩ := hl i x v hN e hv
  have fin : EP X pins σ Q u s := ⟨v, H, I, r, h⟩
  rcases l with ⟨hk, hm⟩ | ⟨hk, c, hc, hcell⟩
  · exact wpAny_Name (wpAny_loadName_local I.ok.kind hk hn hm fin) hd
  · rcases hk with hk | hk
    · exact wpAny_Name (wpAny_loadName_cell I.ok.kind hk hc hcell fin) hd
    · exact wpAny_Name (wpAny_loadName_free I.ok.kind hk hc hcell fin hcd) hd
theorem pe_int {i j pos} : PE X (.Constant (.int i) j pos) (tC (.int i)) := fun _ _ _ H _ I h => wpAny_Constant_int ⟨.int i, H, I.tok _, ⟨_, rfl⟩, h⟩
theorem pe_bl {b j pos} : PE X (.Constant (.bool b) j pos) (tC (.bl b)) := fun _ _ _ H _ I h => Constant_bool ⟨.bl b, H, I, rfl, h⟩
theorem pe_str {x j pos} : PE X (.Constant (.str x) j pos) (tC (.str x)) := fun _ _ _ H _ I h => Calls.Constant_str ⟨.str x, H, I.tok _, ⟨_, rfl⟩, h⟩
/-- a global name of the def -/
def Gl (X : Cx) (x : Str) : Prop := X.env.kindOf x = some .globalImplicit
theorem ld_glob {E : Value → Shared → Prop} {pins : List (Addr × Obj)} {s : Shared} {σ : St} {H : Hp} {x : Str} {u : Value} {pos : Pos} {Q : Value → Shared → Prop} (I : Inv X pins σ H s) (hg : Gl X x) (hm : X.mg x = some u) (h : Q u s)
    (hd : (x == ("__debug__" : Str)) = false := by decide) : wpAny (model X.prog X.w) X.A (eval (.Name x pos) X.env) Q E s :=
  Calls.Name_function_global I.ok.kind hg (Calls.loadGlobal_global (by rw [I.ok.glob]; exact I.mod.glob.keeps I.bk) hm h) hd
theorem ld_blt {E : Value → Shared → Prop} {pins : List (Addr × Obj)} {s : Shared} {σ : St} {H : Hp} {x : Str} {u : Value} {pos : Pos} {Q : Value → Shared → Prop} (I : Inv X pins σ H s) (hg : Gl X x) (hm : X.mg x = none) (hv : bootBuiltins x = some u) (h : Q u s)
    (hn : x ≠ "__name__" := by decide) (hd : (x == ("__debug__" : Str)) = false := by decide) : wpAny (model X.prog X.w) X.A (eval (.Name x pos) X.env) Q E s := by
  obtain ⟨mb, h1, h2⟩ := I.mod.blt
  exact Calls.Name_function_global I.ok.kind hg (Calls.loadGlobal_builtin (by rw [I.ok.glob]; exact I.mod.glob.keeps I.bk) hm (by rw [I.ok.blt]; exact h1.keeps I.bk) ((h2 x hn).trans hv) h) hd
theorem pe_bltn {x : Str} {v : V} {u : Value} {pos : Pos} (hg : Gl X x) (hm : X.mg x = none) (hv : bootBuiltins x = some u) (r : RelV v u) (hn : x ≠ "__name__" := by decide) (hd : (x == ("__debug__" : Str)) = false := by decide) : PE X (.Name x pos) (tC v) :=
  fun _ _ _ H _ I h => ld_blt I hg hm hv ⟨v, H, I, r, h⟩ hn hd
/-! ### arithmetic -/
/-- two ints -/
def t2I (ta tb : TE) (k : Int → Int → Hp → Prop) : St → Hp → Prop := fun σ H => ta σ H fun x H1 => tb σ H1 fun y H2 => ∃ i j, x = .int i ∧ y = .int j ∧ k i j H2
def tAdd (ta tb : TE) : TE := fun σ H Q => t2I ta tb (fun i j H2 => Q (.int (i + j)) H2) σ H
def tSub (ta tb : TE) : TE := fun σ H Q => t2I ta tb (fun i j H2 => Q (.int (i - j)) H2) σ H
/-- the left factor below 2^64 -/
def tMul (ta tb : TE) : TE := fun σ H Q => t2I ta tb (fun i j H2 => (-(2 ^ 64) < i ∧ i < 2 ^ 64) ∧ Q (.int (i * j)) H2) σ H
variable {a b : Expr} {ta tb : TE} {pos : Pos}
/-! ### comparisons -/
def PC (X : Cx) (op : CmpOp) (a b : Expr) (t : TE) : Prop :=
  ∀ (pins : List (Addr × Obj)) (s : Shared) (σ : St) (H : Hp) (Q : VK), Inv X pins σ H s → t σ H Q →
    wpAny (model X.prog X.w) X.A (eval a X.env) (fun v s₁ => wpAny (model X.prog X.w) X.A (eval b X.env) (fun u s₂ => wpAny (model X.prog X.w) X.A (compareOp op v u) (EP X pins σ Q) X.xe s₂) X.xe s₁) X.xe s
def tCmp (p : Int → Int → Bool) (ta tb : TE) : TE := fun σ H Q => t2I ta tb (fun i j H2 => Q (.bl (p i j)) H2) σ H
abbrev tLt : TE → TE → TE := tCmp fun i j => decide (i < j)
abbrev tLe : TE → TE → TE := tCmp fun i j => decide (i ≤ j)
abbrev tGt : TE → TE → TE := tCmp fun i j => decide (j < i)
abbrev tGe : TE → TE → TE := tCmp fun i j => decide (j ≤ i)
abbrev tEqI : TE → TE → TE := tCmp fun i j => decide (i = j)
abbrev tNeI : TE → TE → TE := tCmp fun i j => !decide (i = j)
/-- is None -/
def tIsN (ta : TE) : TE := fun σ H Q => ta σ H fun x H1 => Q (.bl (decide (x = .non))) H1
def tNotN (ta : TE) : TE := fun σ H Q => ta σ H fun x H1 => Q (.bl (!decide (x = .non))) H1
/-- a comparison as a value, as a test -/
def tB (t : TE) : TT := fun σ H Q => t σ H fun x H1 => ∃ c, x = .bl c ∧ Q c H1
/-! ### and, or, not -/
variable {tA tB' : TT} {rest : List Expr}
def tAnd (t u : TT) : TT := fun σ H Q => t σ H fun c H1 => if c = true then u σ H1 Q else Q false H1
def tOr (t u : TT) : TT := fun σ H Q => t σ H fun c H1 => if c = true then Q true H1 else u σ H1 Q
def tNot (t : TT) : TT := fun σ H Q => t σ H fun c H1 => Q (!c) H1
theorem pw_and1 (ha : PT X a tA) : PW X (.BoolOp .And [a] pos) tA := by
  intro wh pins s σ H Q I h
  refine isTrue_and (thn (ha pins s σ H Q I h) fun c s1 e => ?_)
  cases c with
  | true => exact isTrue_and_nil e
  | false => exact e
theorem pw_or1 (ha : PT X a tA) : PW X (.BoolOp .Or [a] pos) tA := by
  intro wh pins s σ H Q I h
  refine isTrue_or (thn (ha pins s σ H Q I h) fun c s1 e => ?_)
  cases c with
  | false => exact isTrue_or_nil e
  | true => exact e
theorem pw_and (ha : PT X a tA) (hb : PW X (.BoolOp .And (b :: rest) pos) tB') : PW X (.BoolOp .And (a :: b :: rest) pos) (tAnd tA tB') := by
  intro wh pins s σ H Q I h
  refine isTrue_and (thn (ha pins s σ H _ I h) fun c s1 ⟨H1, I1, q1⟩ => ?_)
  cases c with
  | true => exact hb wh pins s1 σ H1 Q I1 q1
  | false => exact ⟨H1, I1, q1⟩
theorem pw_or (ha : PT X a tA) (hb : PW X (.BoolOp .Or (b :: rest) pos) tB') : PW X (.BoolOp .Or (a :: b :: rest) pos) (tOr tA tB') := by
  intro wh pins s σ H Q I h
  refine isTrue_or (thn (ha pins s σ H _ I h) fun c s1 ⟨H1, I1, q1⟩ => ?_)
  cases c with
  | true => exact ⟨H1, I1, q1⟩
  | false => exact hb wh pins s1 σ H1 Q I1 q1
theorem pt_not (ha : PT X a tA) : PT X (.UnaryOp .Not a pos) (tNot tA) := by
  intro pins s σ H Q I h
  exact isTrue_not (ha pins s σ H (fun c H1 => Q (!c) H1) I h)
/-- .. as values (bools) -/
def tAndV (ta tb : TE) : TE := fun σ H Q => ta σ H fun x H1 => ∃ c, x = .bl c ∧ if c = true then tb σ H1 Q else Q (.bl false) H1
def tOrV (ta tb : TE) : TE := fun σ H Q => ta σ H fun x H1 => ∃ c, x = .bl c ∧ if c = true then Q (.bl true) H1 else tb σ H1 Q
def tNotV (ta : TE) : TE := fun σ H Q => ta σ H fun x H1 => ∃ c, x = .bl c ∧ Q (.bl (!c)) H1
theorem pe_one {op} {t : TE} (h : PE X a t) : PE X (.BoolOp op [a] pos) t := fun pins s σ H Q I hw => BoolOp_one (h pins s σ H Q I hw)
theorem pe_and (ha : PE X a ta) (hb : PE X (.BoolOp .And (b :: rest) pos) tb) : PE X (.BoolOp .And (a :: b :: rest) pos) (tAndV ta tb) := by
  intro pins s σ H Q I h
  refine BoolOp_and (thn (ha pins s σ H _ I h) fun v s1 ⟨x, H1, I1, r1, q1⟩ => ?_)
  obtain ⟨c, rfl, q1⟩ := q1
  cases r1
  refine wpAny_truthy_bool ?_
  cases c with
  | true => exact hb pins s1 σ H1 Q I1 q1
  | false => exact ⟨.bl false, H1, I1, rfl, q1⟩
theorem pe_not (ha : PE X a ta) : PE X (.UnaryOp .Not a pos) (tNotV ta) := by
  intro pins s σ H Q I h
  refine UnaryOp_ (thn (ha pins s σ H _ I h) fun v s1 ⟨x, H1, I1, r1, q1⟩ => ?_)
  obtain ⟨c, rfl, q1⟩ := q1
  cases r1
  exact not_of (wpAny_truthy_bool ⟨.bl (!c), H1, I1, rfl, q1⟩)
/-- a if t else b -/
def tIf (t : TT) (ta tb : TE) : TE := fun σ H Q => t σ H fun c H1 => if c = true then ta σ H1 Q else tb σ H1 Q
end
end L2
namespace L2
open PySem PySem.Spec PyProof.Rows
/-! ### a list, a tuple that is read: tracked, frozen, or an object of the module -/
def SqL (K : PySem.W.Frag) (H : Hp) (a : Addr) (xs : List V) : Prop :=
  Rd H a (.lst xs) ∨
    ∃ (o : Obj) (its : Array Value) (n : Nat), K.lookup a = some o ∧ o.cls = .type "list" ∧ o.dict = none ∧ o.data = .seq its n ∧ its.size ≤ sizeLine ∧ Vals xs its.toList
def SqT (K : PySem.W.Frag) (H : Hp) (a : Addr) (xs : List V) : Prop :=
  Rd H a (.tup xs) ∨
    ∃ (o : Obj) (its : Array Value) (n : Nat), K.lookup a = some o ∧ o.cls = .type "tuple" ∧ o.data = .seq its n ∧ its.size ≤ sizeLine ∧ Vals xs its.toList
def absV : Value → Option V
  | .none => some .non
  | .bool b => some (.bl b)
  | .int i _ => some (.int i)
  | .str x _ => some (.str x)
  | .bytes b _ => some (.byt b)
  | .float b _ => some (.flt b)
  | .ref a => some (.ref a)
  | .type n => some (.ty n)
  | _ => none
theorem RelV.abs {x : V} {u : Value} (r : RelV x u) : absV u = some x := by
  cases x with
  | non => cases r; rfl
  | bl _ => cases r; rfl
  | int _ => obtain ⟨t, rfl⟩ := r; rfl
  | str _ => obtain ⟨t, rfl⟩ := r; rfl
  | byt _ => obtain ⟨t, rfl⟩ := r; rfl
  | flt _ => obtain ⟨t, rfl⟩ := r; rfl
  | ref _ => cases r; rfl
  | ty _ => cases r; rfl
theorem RelV.inj {x y : V} {u : Value} (r : RelV x u) (q : RelV y u) : x = y := Option.some.inj (r.abs.symm.trans q.abs)
theorem Vals.inj : ∀ {xs ys : List V} {us : List Value}, Vals xs us → Vals ys us → xs = ys
  | _, _, _, .nil, .nil => rfl
  | _, _, _, .cons r t, .cons r' t' => by rw [r.inj r', Vals.inj t t']
section
variable {X : Cx} {pins : List (Addr × Obj)} {σ : St} {H : Hp} {s : Shared} {a : Addr} {xs ys : List V}
theorem SqL.of {K : PySem.W.Frag} (h : H a = some (.lst xs)) : SqL K H a xs := .inl (.inl h)
theorem SqT.of {K : PySem.W.Frag} (h : H a = some (.tup xs)) : SqT K H a xs := .inl (.inl h)
theorem Inv.list (I : Inv X pins σ H s) (h : SqL X.K H a xs) : ∃ its : List Value, Vals xs its ∧ PlainL s.heap a its.toArray ∧ xs.length ≤ sizeLine := by
  rcases h with h | ⟨o, its, n, hk, hc, hd, hs, hz, r⟩
  · obtain ⟨z, its, n, r, e⟩ := h.ok I.hok
    exact ⟨its, r, ⟨_, n, e, rfl, rfl, rfl⟩, z⟩
  · refine ⟨its.toList, r, ⟨o, n, I.kIn a o hk, hc, hd, by simpa using hs⟩, ?_⟩
    have e := r.length
    simp only [Array.length_toList] at e
    omega
theorem Inv.tuple (I : Inv X pins σ H s) (h : SqT X.K H a xs) : ∃ its : List Value, Vals xs its ∧ IsTup s.heap a its.toArray ∧ xs.length ≤ sizeLine := by
  rcases h with h | ⟨o, its, n, hk, hc, hs, hz, r⟩
  · obtain ⟨z, its, r, p⟩ := h.ok I.hok
    exact ⟨its, r, p, z⟩
  · refine ⟨its.toList, r, ⟨o, I.kIn a o hk, hc, n, by simpa using hs⟩, ?_⟩
    have e := r.length
    simp only [Array.length_toList] at e
    omega
theorem Inv.list_inj (I : Inv X pins σ H s) (h : SqL X.K H a xs) (h' : SqL X.K H a ys) : xs = ys := by
  obtain ⟨its, r, ⟨o, n, e, _, _, d⟩, _⟩ := I.list h
  obtain ⟨its', r', ⟨o', n', e', _, _, d'⟩, _⟩ := I.list h'
  rw [e] at e'; cases e'
  rw [d] at d'
  injection d' with d1 _
  have : its = its' := by simpa using congrArg Array.toList d1
  subst this
  exact r.inj r'
theorem Inv.tuple_inj (I : Inv X pins σ H s) (h : SqT X.K H a xs) (h' : SqT X.K H a ys) : xs = ys := by
  obtain ⟨its, r, ⟨o, e, _, n, d⟩, _⟩ := I.tuple h
  obtain ⟨its', r', ⟨o', e', _, n', d'⟩, _⟩ := I.tuple h'
  rw [e] at e'; cases e'
  rw [d] at d'
  injection d' with d1 _
  have : its = its' := by simpa using congrArg Array.toList d1
  subst this
  exact r.inj r'
end
/-! ### another wish about exceptions -/
abbrev Cx.wish (X : Cx) (E : Value → Shared → Prop) : Cx := { X with xe := E }
/-- no exception leaves -/
abbrev Cx.nox (X : Cx) : Cx := X.wish fun _ _ => False
theorem Cx.Ok.wish {X : Cx} (ok : X.Ok) (E : Value → Shared → Prop) : (X.wish E).Ok :=
  ⟨ok.mod, ok.kind, ok.glob, ok.blt, ok.above, ok.inj, ok.has, ok.cab, ok.hd, ok.frames, ok.stk, ok.exf, ok.bs, ok.bsz, ok.noex, ok.exfs, ok.funs, ok.frf⟩
theorem Cx.Ok.unwish {X : Cx} {E : Value → Shared → Prop} (ok : (X.wish E).Ok) : X.Ok :=
  ⟨ok.mod, ok.kind, ok.glob, ok.blt, ok.above, ok.inj, ok.has, ok.cab, ok.hd, ok.frames, ok.stk, ok.exf, ok.bs, ok.bsz, ok.noex, ok.exfs, ok.funs, ok.frf⟩
section
variable {X : Cx} {pins : List (Addr × Obj)} {σ : St} {H : Hp} {s : Shared} {E : Value → Shared → Prop}
theorem Inv.wish (I : Inv X pins σ H s) (E : Value → Shared → Prop) : Inv (X.wish E) pins σ H s := ⟨I.ok.wish E, I.os, I.bare, I.base, I.loc, I.cell, I.free, I.freeC, I.pin, I.hok, I.len⟩
theorem Inv.unwish (I : Inv (X.wish E) pins σ H s) : Inv X pins σ H s := ⟨I.ok.unwish, I.os, I.bare, I.base, I.loc, I.cell, I.free, I.freeC, I.pin, I.hok, I.len⟩
theorem SP.unwish {D : Ends} {f : Flow} {s' : Shared} (h : SP (X.wish E) pins D f s') : SP X pins D f s' := by
  cases f with
  | next => obtain ⟨σ', H', I, q⟩ := h; exact ⟨σ', H', I.unwish, q⟩
  | brk => obtain ⟨σ', H', I, q⟩ := h; exact ⟨σ', H', I.unwish, q⟩
  | cont => obtain ⟨σ', H', I, q⟩ := h; exact ⟨σ', H', I.unwish, q⟩
  | ret u => obtain ⟨v, σ', H', I, r, q⟩ := h; exact ⟨v, σ', H', I.unwish, r, q⟩
theorem PSs.nox {st : List Stmt} {t : TS} (h : PSs X.nox st t) : PSs X st t := fun pins s σ H D I hw =>
  wpAny_mono (h pins s σ H D (I.wish _) hw) (fun _ _ q => q.unwish) fun _ _ z => False.elim z
end
/-! ### blocks and small statements -/
section
variable {X : Cx} {st : Stmt} {rest : List Stmt} {t u : TS} {e : Expr} {te : TE} {pos : Pos}
def tNext : TS := fun D σ H => D.nx σ H
def tSeq (t u : TS) : TS := fun D σ H => t { D with nx := u D } σ H
theorem pss_nil : PSs X [] tNext := fun _ _ σ H _ I h => wpAny_execs_nil ⟨σ, H, I, h⟩
theorem pss_cons (h1 : PS X st t) (h2 : PSs X rest u) : PSs X (st :: rest) (tSeq t u) := by
  intro pins s σ H D I h
  refine wpAny_execs_cons (thn (h1 pins s σ H { D with nx := u D } I h) fun f s1 q => ?_)
  cases f with
  | next =>
    obtain ⟨σ', H', I', q⟩ := q
    exact h2 pins s1 σ' H' D I' q
  | ret v => exact q
  | brk => exact q
  | cont => exact q
theorem pss_one (h1 : PS X st t) : PSs X [st] t := by
  intro pins s σ H D I h
  refine wpAny_execs_cons (thn (h1 pins s σ H D I h) fun f s1 q => ?_)
  cases f with
  | next => exact wpAny_execs_nil q
  | ret v => exact q
  | brk => exact q
  | cont => exact q
def tBreak : TS := fun D σ H => D.bk σ H
def tCont : TS := fun D σ H => D.ct σ H
/-- in a def's body nothing is shown -/
theorem Inv.quiet {pins : List (Addr × Obj)} {σ : St} {H : Hp} {s : Shared} (I : Inv X pins σ H s) : interactive X.env = false := by simp [interactive, I.ok.kind]
/-- an expression whose value is dropped -/
def tDrop (te : TE) : TS := fun D σ H => te σ H fun _ H1 => D.nx σ H1
theorem ps_expr (he : PE X e te) (hs : swapsWith e none pos.line X.env = pure false := by rfl) : PS X (.Expr e pos) (tDrop te) := by
  intro pins s σ H D I h
  exact wpAny_Expr_any (thn (he pins s σ H _ I h) fun v s1 ⟨x, H1, I1, r1, q1⟩ => ⟨σ, H1, I1, q1⟩) I.quiet hs
def tRet (te : TE) : TS := fun D σ H => te σ H D.rt
theorem ps_ret (he : PE X e te) : PS X (.Return (some e) pos) (tRet te) := by
  intro pins s σ H D I h
  exact wpAny_Return_some (thn (he pins s σ H _ I h) fun v s1 ⟨x, H1, I1, r1, q1⟩ => ⟨x, σ, H1, I1, r1, q1⟩)
def tRetN : TS := fun D _ H => D.rt .non H
def tIfS (c : TT) (t u : TS) : TS := fun D σ H => c σ H fun b H1 => if b = true then t D σ H1 else u D σ H1
theorem ps_if {c : Expr} {a b : List Stmt} {tc : TT} (hc : PT X c tc) (ha : PSs X a t) (hb : PSs X b u) : PS X (.If c a b pos) (tIfS tc t u) := by
  intro pins s σ H D I h
  refine wpAny_If (thn (hc pins s σ H _ I h) fun d s1 ⟨H1, I1, q1⟩ => ?_)
  cases d with
  | true => exact ha pins s1 σ H1 D I1 q1
  | false => exact hb pins s1 σ H1 D I1 q1
/-- code that the proof never comes to -/
def tNever : TS := fun _ _ _ => False
end
/-! ### targets -/
abbrev TG := V → St → Hp → (St → Hp → Prop) → Prop
abbrev TGs := List V → St → Hp → (St → Hp → Prop) → Prop
def PG (X : Cx) (target : Expr) (t : TG) : Prop :=
  ∀ (pins : List (Addr × Obj)) (s : Shared) (σ : St) (H : Hp) (v : V) (u : Value) (Q : St → Hp → Prop), Inv X pins σ H s → RelV v u → t v σ H Q →
    wpAny (model X.prog X.w) X.A (assign target X.env u) (fun _ s' => ∃ σ' H', Inv X pins σ' H' s' ∧ Q σ' H') X.xe s
/-- several targets, one after another -/
def PGs (X : Cx) (ts : List Expr) (t : TGs) : Prop :=
  ∀ (pins : List (Addr × Obj)) (s : Shared) (σ : St) (H : Hp) (vs : List V) (us : List Value) (Q : St → Hp → Prop), Inv X pins σ H s → Vals vs us → t vs σ H Q →
    wpAny (model X.prog X.w) X.A (assignInOrder ((assignEach ts X.env).map (·.2)) us) (fun _ s' => ∃ σ' H', Inv X pins σ' H' s' ∧ Q σ' H') X.xe s
/-- o[i] = v, by values -/
abbrev TSet := V → V → V → Hp → (Hp → Prop) → Prop
def PSet (X : Cx) (t : TSet) : Prop :=
  ∀ (pins : List (Addr × Obj)) (s : Shared) (σ : St) (H : Hp) (o i v : V) (ov iv u : Value) (Q : Hp → Prop), Inv X pins σ H s → RelV o ov → RelV i iv → RelV v u → t o i v H Q →
    wpAny (model X.prog X.w) X.A (setItem ov iv u) (fun _ s' => ∃ H', Inv X pins σ H' s' ∧ Q H') X.xe s
/-- a op= b, by values -/
abbrev TIp := V → V → Hp → VK → Prop
def PIp (X : Cx) (op : Operator) (t : TIp) : Prop :=
  ∀ (pins : List (Addr × Obj)) (s : Shared) (σ : St) (H : Hp) (x y : V) (v u : Value) (Q : VK), Inv X pins σ H s → RelV x v → RelV y u → t x y H Q →
    wpAny (model X.prog X.w) X.A (inplaceOp op v u) (EP X pins σ Q) X.xe s
section
variable {X : Cx} {pos : Pos}
def gName (i : Nat) : TG := fun v σ H Q => Q (σ.set i (some v)) H
theorem pg_name {i : Nat} {x : Str} (hN : X.N.Nodup) (hi : X.N[i]? = some x) (hx : Loc X.env.scope x) (hf : X.fn x = true ∨ X.env.scope.names.lookup x = some .local := by first | exact .inl rfl | exact .inr rfl | assumption) : PG X (.Name x pos) (gName i) := by
  intro pins s σ H v u Q I r h
  exact wpAny_assign_Name (store_ok I hN hi hx r (fun s' I' => ⟨_, H, I', h⟩) hf)
def gNil : TGs := fun vs σ H Q => vs = [] ∧ Q σ H
def gCons (t : TG) (u : TGs) : TGs := fun vs σ H Q => ∃ v r, vs = v :: r ∧ t v σ H fun σ' H' => u r σ' H' Q
/-- (a, b, ..) = a tuple of that length -/
def gTup (K : PySem.W.Frag) (n : Nat) (t : TGs) : TG := fun v σ H Q => ∃ a xs, v = .ref a ∧ SqT K H a xs ∧ xs.length = n ∧ t xs σ H Q
/-- o[i] = .. -/
def gSub (to ti : TE) (t : TSet) : TG := fun v σ H Q => to σ H fun o H1 => ti σ H1 fun i H2 => t o i v H2 fun H3 => Q σ H3
/-- target = value -/
def tAsg (te : TE) (g : TG) : TS := fun D σ H => te σ H fun x H1 => g x σ H1 D.nx
/-- name = value -/
theorem ps_set {i : Nat} {x : Str} {e : Expr} {te : TE} {pos' : Pos} (hN : X.N.Nodup) (hi : X.N[i]? = some x) (hx : Loc X.env.scope x) (he : PE X e te) (hs : swapsWith e (some (.Name x pos')) pos.line X.env = pure false := by rfl) (hf : X.fn x = true ∨ X.env.scope.names.lookup x = some .local := by first | exact .inl rfl | exact .inr rfl | assumption) :
    PS X (.Assign [.Name x pos'] e pos) (tAsg te (gName i)) := by
  intro pins s σ H D I h
  refine wpAny_Assign_Name (thn (he pins s σ H _ I h) fun v s1 ⟨y, H1, I1, r1, q1⟩ => ?_) hs
  exact store_ok I1 hN hi hx r1 (fun s2 I2 => ⟨_, H1, I2, q1⟩) hf
/-- a, b = x, y with plain local names: stored from the right; the pair itself is not tracked (the opening rows as in PyProof/Rows/TupAssign.lean:23) -/
def tPar (i j : Nat) (ta : TA) : TS := fun D σ H => ta σ H fun vs H1 => ∃ v w, vs = [v, w] ∧ D.nx ((σ.set i (some v)).set j (some w)) H1
/-- name op= e -/
def tAug (i : Nat) (te : TE) (ti : TIp) : TS := fun D σ H => ∃ x, σ[i]? = some (some x) ∧ te σ H fun y H1 => ti x y H1 fun z H2 => D.nx (σ.set i (some z)) H2
/-- o[i] op= e -/
def tAugS (to ti te : TE) (tget : V → V → Hp → VK → Prop) (tip : TIp) (tset : TSet) : TS := fun D σ H => to σ H fun o H1 => ti σ H1 fun i H2 => tget o i H2 fun x H3 => te σ H3 fun y H4 => tip x y H4 fun z H5 => tset o i z H5 fun H6 => D.nx σ H6
/-- o[i], by values -/
def PGet (X : Cx) (t : V → V → Hp → VK → Prop) : Prop :=
  ∀ (pins : List (Addr × Obj)) (s : Shared) (σ : St) (H : Hp) (o i : V) (ov iv : Value) (Q : VK), Inv X pins σ H s → RelV o ov → RelV i iv → t o i H Q →
    wpAny (model X.prog X.w) X.A (getItem ov iv) (EP X pins σ Q) X.xe s
/-- ints -/
def ipI (f : Int → Int → Int) : TIp := fun x y H Q => ∃ i j, x = .int i ∧ y = .int j ∧ Q (.int (f i j)) H
end
/-! ### while -/
section
variable {X : Cx} {pos : Pos}
/-- the invariant W with its measure -/
def tWhile (c : TT) (tb : TS) : TS := fun D σ H => ∃ W : Nat → St → Hp → Prop, (∃ m, W m σ H) ∧ ∀ m σ H, W m σ H →
  c σ H fun b H1 => if b = true then ∃ N : St → Hp → Prop, (∀ σ' H', N σ' H' → ∃ m', m' < m ∧ W m' σ' H') ∧ tb { D with nx := N, ct := N, bk := D.nx } σ H1 else D.nx σ H1
theorem ps_while {c : Expr} {body : List Stmt} {tc : TT} {tb : TS} (hp : PassesOwn (model X.prog X.w) X.A X.env X.xe) (hc : PT X c tc) (hb : PSs X body tb) : PS X (.While c body [] pos) (tWhile tc tb) := by
  intro pins s σ H D I h
  obtain ⟨W, ⟨m0, w0⟩, turn⟩ := h
  refine wpAny_While (codeAny_whileLoop (fun n s' => ∃ σ' H', Inv X pins σ' H' s' ∧ W n σ' H') ?_ m0 ⟨σ, H, I, w0⟩)
  rintro n s1 ⟨σ1, H1, I1, w1⟩
  refine wpAny_passesOwn hp (thn (hc pins s1 σ1 H1 _ I1 (turn n σ1 H1 w1)) fun b s2 ⟨H2, I2, q2⟩ => ?_)
  cases b with
  | true =>
    obtain ⟨N, hN, q2⟩ := q2
    rw [if_pos rfl]
    refine wpAny_passesOwn hp (thn (hb pins s2 σ1 H2 _ I2 q2) fun f s3 q3 => ?_)
    cases f with
    | next =>
      obtain ⟨σ3, H3, I3, n3⟩ := q3
      obtain ⟨m', hm, w3⟩ := hN σ3 H3 n3
      exact ⟨m', hm, σ3, H3, I3, w3⟩
    | cont =>
      obtain ⟨σ3, H3, I3, n3⟩ := q3
      obtain ⟨m', hm, w3⟩ := hN σ3 H3 n3
      exact ⟨m', hm, σ3, H3, I3, w3⟩
    | brk => exact q3
    | ret v => exact q3
  | false =>
    rw [if_neg Bool.false_ne_true]
    exact wpAny_execs_nil ⟨σ1, H2, I2, q2⟩
end
/-! ### what a loop or a comprehension walks -/
/-- at turn i: it yields x (the heap may grow), or it stops -/
structure It where
  go : Nat → Hp → Prop
  yld : Nat → Hp → V → Hp → Prop
  stop : Nat → Hp → Prop
/-- the iterator's own objects may turn: they are not the frame's, not pinned, younger than the entry (or a comprehension's own) -/
def FpOk (X : Cx) (pins : List (Addr × Obj)) (H : Hp) (b : Addr) : Prop :=
  H b = none ∧ b ≠ X.env.locals ∧ b ∉ X.fs ∧ (b ∈ X.ex ∨ X.s₀.heap.objs.size ≤ b) ∧ (∀ x c, X.env.cells.lookup x = some c → c ≠ b) ∧ ∀ p ∈ X.pn ++ pins, p.1 ≠ b
theorem Inv.fpOk {X : Cx} {pins : List (Addr × Obj)} {σ : St} {H H' : Hp} {s : Shared} {b : Addr} (I : Inv X pins σ H s) (hb : s.heap.objs.size ≤ b) (hn : H' b = none) : FpOk X pins H' b := by
  refine ⟨hn, Nat.ne_of_gt (Nat.lt_of_lt_of_le I.lt hb), I.nofs hb, .inr (Nat.le_trans I.sz hb), fun x c e z => ?_, fun p hp z => ?_⟩
  · obtain ⟨v, q⟩ := I.cell x c e
    exact absurd (Nat.lt_of_lt_of_le q.lt (by rw [z]; exact hb)) (Nat.lt_irrefl _)
  · exact absurd (Nat.lt_of_lt_of_le (Heap.lt_size (I.pin p hp).1) (by rw [z]; exact hb)) (Nat.lt_irrefl _)
structure Turn (P : Program) (w : World) (K : PySem.W.Frag) (tg : Expr) (J : It) (fp : List Addr) (it : Addr) (tn : Nat → Heap → Prop) : Prop where
  mem : it ∈ fp
  obj : ∀ i h, tn i h → ∀ b ∈ fp, ∃ o, h.get? b = some o ∧ ∀ v, o.data ≠ .cell v
  keep : ∀ i h h', tn i h → (∀ b ∈ fp, ∀ o, h.get? b = some o → h'.get? b = some o) → tn i h'
  item : ∀ (X : Cx), X.prog = P → X.w = w → X.K = K → X.calm = true → ∀ (i : Nat) (pins : List (Addr × Obj)) (s : Shared) (σ : St) (H : Hp) (E : Value → Shared → Prop), Inv X pins σ H s → (∀ b ∈ fp, FpOk X pins H b) → tn i s.heap → J.go i H →
    wpAny (model P w) X.A (pyNext (.ref it)) (fun r s1 => ∃ u, r = some u ∧
      wpAny (model P w) X.A (letOwnedTupleGo tg (.ref it) u) (fun _ s2 => ∃ x H', Inv X pins σ H' s2 ∧ RelV x u ∧ J.yld i H x H' ∧ tn (i + 1) s2.heap ∧ ∀ b ∈ fp, H' b = none) E s1) E s
  done : ∀ (X : Cx), X.prog = P → X.w = w → X.K = K → X.calm = true → ∀ (i : Nat) (pins : List (Addr × Obj)) (s : Shared) (σ : St) (H : Hp) (E : Value → Shared → Prop), Inv X pins σ H s → (∀ b ∈ fp, FpOk X pins H b) → tn i s.heap → J.stop i H →
    wpAny (model P w) X.A (pyNext (.ref it)) (fun r s1 => r = none ∧ Inv X pins σ H s1) E s
  self : ∀ (A : Around) (i : Nat) (s : Shared) (Q : Value → Shared → Prop) (E : Value → Shared → Prop), tn i s.heap → Q (.ref it) s → wpAny (model P w) A (pyIter (.ref it)) Q E s
abbrev TI := St → Hp → (It → Hp → Prop) → Prop
/-- an iterator has come -/
def PIE (X : Cx) (pins : List (Addr × Obj)) (σ : St) (tg : Expr) (R : It → Hp → Prop) (itv : Value) (s2 : Shared) : Prop :=
  ∃ (it : Addr) (fp : List Addr) (tn : Nat → Heap → Prop) (J : It) (H' : Hp), itv = .ref it ∧ Inv X pins σ H' s2 ∧ Turn X.prog X.w X.K tg J fp it tn ∧ tn 0 s2.heap ∧ (∀ b ∈ fp, FpOk X pins H' b) ∧ R J H'
def PI (X : Cx) (tg iter : Expr) (wi : TI) : Prop :=
  ∀ (pins : List (Addr × Obj)) (s : Shared) (σ : St) (H : Hp) (R : It → Hp → Prop), Inv X pins σ H s → wi σ H R →
    wpAny (model X.prog X.w) X.A (eval iter X.env) (fun v s1 => wpAny (model X.prog X.w) X.A (pyIter v) (PIE X pins σ tg R) X.xe s1) X.xe s
/-- the step ahead of the store is nothing for an iterator that keeps no tuple -/
theorem go_of {M : Model} {A : Around} {E : Value → Shared → Prop} {s : Shared} {tg : Expr} {it : Addr} {u : Value} {o : Obj} {n : String} {vs : Array Value} {Q : Unit → Shared → Prop} (ho : s.heap.get? it = some o) (hc : o.cls = .type n) (hd : o.data = .fields vs)
    (hn : ["enumerate", "zip", "dict_itemiterator", "dict_reverseitemiterator", "odict_iterator", "itertools.zip_longest", "itertools.pairwise"].contains n = false) (hQ : Q () s) : wpAny M A (letOwnedTupleGo tg (.ref it) u) Q E s := by
  unfold letOwnedTupleGo
  cases tg <;> first
    | exact wpAny_pure hQ
    | (cases u <;> first
        | exact wpAny_pure hQ
        | (refine wpAny_bind (wpAny_load ho ?_)
           rw [hc, hd]
           show wpAny M A (if (["enumerate", "zip", "dict_itemiterator", "dict_reverseitemiterator", "odict_iterator", "itertools.zip_longest", "itertools.pairwise"].contains n && vs[0]? == some (rawInt _)) = true then _ else _) Q E s
           rw [if_neg (by intro h; rw [hn, Bool.false_and] at h; cases h)]
           exact wpAny_pure hQ))
/-- the list at a, as it stands at each turn (a loop may append to it) -/
def Itl (K : PySem.W.Frag) (a : Addr) : It :=
  ⟨fun i H => ∃ xs x, SqL K H a xs ∧ xs[i]? = some x, fun i H x H' => H' = H ∧ ∀ xs, SqL K H a xs → xs[i]? = some x, fun i H => ∃ xs, SqL K H a xs ∧ xs.length ≤ i⟩
def Itt (K : PySem.W.Frag) (a : Addr) : It :=
  ⟨fun i H => ∃ xs x, SqT K H a xs ∧ xs[i]? = some x, fun i H x H' => H' = H ∧ ∀ xs, SqT K H a xs → xs[i]? = some x, fun i H => ∃ xs, SqT K H a xs ∧ xs.length ≤ i⟩
/-- lo, lo + 1, .. (n of them) -/
def Itr (lo : Int) (n : Nat) : It := ⟨fun i _ => i < n, fun i H x H' => H' = H ∧ x = .int (lo + i), fun i _ => n ≤ i⟩
theorem turn_list {P : Program} {w : World} {K : PySem.W.Frag} {tg : Expr} (a it : Addr) : Turn P w K tg (Itl K a) [it] it (fun i h => h.IsListIter it a i) where
  mem := by simp
  obj := fun i h st b hb => by
    have e : b = it := by simpa using hb
    subst e
    obtain ⟨o, e, c, d⟩ := st
    exact ⟨o, e, fun v z => by rw [d] at z; cases z⟩
  keep := fun i h h' st k => st.at fun o e => k it (by simp) o e
  item := by
    intro X hP hw hK hc i pins s σ H E I hf st hg
    subst hP hw hK
    obtain ⟨xs, x, hq, hx⟩ := hg
    obtain ⟨its, rv, p, hz⟩ := I.list hq
    obtain ⟨u, hu, ru⟩ := rv.get hx
    obtain ⟨f0, f1, f2, f3, f4, f5⟩ := hf it (by simp)
    refine wpAny_pyNext_list_item st p.isList (x := u) (by simpa using hu) fun h' st' sb => ?_
    have I1 : Inv X pins σ H { s with heap := h' } := I.turned (t' := s.toks) (fun b o hb e => (sb.2 b hb).trans e) f0 f1 f3 f4 f5
    obtain ⟨o, e, c, d⟩ := id st'
    exact ⟨u, rfl, go_of (s := { s with heap := h' }) e c d (by decide) ⟨x, H, I1, ru, ⟨rfl, fun ys hy => by rw [I.list_inj hy hq]; exact hx⟩, st', fun b hb => (hf b hb).1⟩⟩
  done := by
    intro X hP hw hK hc i pins s σ H E I hf st hg
    subst hP hw hK
    obtain ⟨xs, hq, hx⟩ := hg
    obtain ⟨its, rv, p, hz⟩ := I.list hq
    obtain ⟨f0, f1, f2, f3, f4, f5⟩ := hf it (by simp)
    have hl := rv.length
    exact wpAny_pyNext_list_end (I.ok.hd hc) st p.isList (by simp; omega) fun h' eb => ⟨rfl, I.turned (t' := s.toks) (fun b o hb e => eb b o hb e) f0 f1 f3 f4 f5⟩
  self := fun _ _ _ _ _ st h => wpAny_pyIter_listiter st h
theorem turn_tuple {P : Program} {w : World} {K : PySem.W.Frag} {tg : Expr} (a it : Addr) : Turn P w K tg (Itt K a) [it] it (fun i h => h.IsTupleIter it a i) where
  mem := by simp
  obj := fun i h st b hb => by
    have e : b = it := by simpa using hb
    subst e
    obtain ⟨o, e, c, d⟩ := st
    exact ⟨o, e, fun v z => by rw [d] at z; cases z⟩
  keep := fun i h h' st k => st.at fun o e => k it (by simp) o e
  item := by
    intro X hP hw hK hc i pins s σ H E I hf st hg
    subst hP hw hK
    obtain ⟨xs, x, hq, hx⟩ := hg
    obtain ⟨its, rv, p, hz⟩ := I.tuple hq
    obtain ⟨u, hu, ru⟩ := rv.get hx
    obtain ⟨f0, f1, f2, f3, f4, f5⟩ := hf it (by simp)
    refine wpAny_pyNext_tuple_item st (show s.heap.IsTuple a its.toArray from p) (x := u) (by simpa using hu) fun h' st' sb => ?_
    have I1 : Inv X pins σ H { s with heap := h' } := I.turned (t' := s.toks) (fun b o hb e => (sb.2 b hb).trans e) f0 f1 f3 f4 f5
    obtain ⟨o, e, c, d⟩ := id st'
    exact ⟨u, rfl, go_of (s := { s with heap := h' }) e c d (by decide) ⟨x, H, I1, ru, ⟨rfl, fun ys hy => by rw [I.tuple_inj hy hq]; exact hx⟩, st', fun b hb => (hf b hb).1⟩⟩
  done := by
    intro X hP hw hK hc i pins s σ H E I hf st hg
    subst hP hw hK
    obtain ⟨xs, hq, hx⟩ := hg
    obtain ⟨its, rv, p, hz⟩ := I.tuple hq
    obtain ⟨f0, f1, f2, f3, f4, f5⟩ := hf it (by simp)
    have hl := rv.length
    exact wpAny_pyNext_tuple_end (I.ok.hd hc) st (show s.heap.IsTuple a its.toArray from p) (by simp; omega) fun h' eb => ⟨rfl, I.turned (t' := s.toks) (fun b o hb e => eb b o hb e) f0 f1 f3 f4 f5⟩
  self := fun _ _ _ _ _ st h => wpAny_pyIter_tupleiter st h
end L2
namespace L2
open PySem PySem.Spec PyProof.Rows
section
variable {X : Cx} {tg : Expr}
def iList (K : PySem.W.Frag) (tl : TE) : TI := fun σ H R => tl σ H fun x H1 => ∃ a, x = .ref a ∧ (∃ xs, SqL K H1 a xs) ∧ R (Itl K a) H1
def iTup (K : PySem.W.Frag) (tl : TE) : TI := fun σ H R => tl σ H fun x H1 => ∃ a, x = .ref a ∧ (∃ xs, SqT K H1 a xs) ∧ R (Itt K a) H1
def iRng1 (ta : TA) : TI := fun σ H R => ta σ H fun vs H1 => ∃ j : Int, vs = [.int j] ∧ -(2 ^ 62) ≤ j ∧ j < 2 ^ 62 ∧ R (Itr 0 j.toNat) H1
def iRng2 (ta : TA) : TI := fun σ H R => ta σ H fun vs H1 => ∃ i j : Int, vs = [.int i, .int j] ∧ (-(2 ^ 62) ≤ i ∧ i < 2 ^ 62 ∧ -(2 ^ 62) ≤ j ∧ j < 2 ^ 62) ∧ R (Itr i (j - i).toNat) H1
/-! ### for -/
/-- W: the invariant by the turn and a measure; N: what the body is to reach -/
def tFor (wi : TI) (g : TG) (tb : TS) : TS := fun D σ H => wi σ H fun J H1 => ∃ W : Nat → Nat → St → Hp → Prop, (∃ m, W 0 m σ H1) ∧ ∀ i m σ H, W i m σ H →
  (J.stop i H ∧ D.nx σ H) ∨ (J.go i H ∧ ∃ N : St → Hp → Prop, (∀ σ' H', N σ' H' → ∃ m', m' < m ∧ W (i + 1) m' σ' H') ∧ ∀ x H', J.yld i H x H' → g x σ H' fun σ2 H2 => tb { D with nx := N, ct := N, bk := D.nx } σ2 H2)
/-- the records at fp as they stand -/
def pinsAt (fp : List Addr) (h : Heap) : List (Addr × Obj) := fp.filterMap fun b => (h.get? b).map fun o => (b, o)
theorem mem_pinsAt {fp : List Addr} {h : Heap} {b : Addr} {o : Obj} (hb : b ∈ fp) (e : h.get? b = some o) : (b, o) ∈ pinsAt fp h := List.mem_filterMap.mpr ⟨b, hb, by rw [e]; rfl⟩
theorem of_pinsAt {fp : List Addr} {h : Heap} {p : Addr × Obj} (hp : p ∈ pinsAt fp h) : p.1 ∈ fp ∧ h.get? p.1 = some p.2 := by
  obtain ⟨b, hb, e⟩ := List.mem_filterMap.mp hp
  cases q : h.get? b with
  | none => rw [q] at e; cases e
  | some o =>
    rw [q] at e
    have e' : (b, o) = p := Option.some.inj e
    subst e'
    exact ⟨hb, q⟩
theorem Inv.pinned {pins : List (Addr × Obj)} {σ : St} {H : Hp} {s : Shared} {fp : List Addr} (I : Inv X pins σ H s) (hf : ∀ b ∈ fp, FpOk X pins H b) (ho : ∀ b ∈ fp, ∃ o, s.heap.get? b = some o ∧ ∀ v, o.data ≠ .cell v) : Inv X (pins ++ pinsAt fp s.heap) σ H s :=
  I.pins_of fun p hp => (List.mem_append.mp hp).elim (fun z => I.pin p (List.mem_append_right _ z)) fun z => by
    obtain ⟨hb, e⟩ := of_pinsAt z
    obtain ⟨f0, f1, f2, _⟩ := hf p.1 hb
    obtain ⟨o, e', d⟩ := ho p.1 hb
    rw [e] at e'; cases e'
    exact ⟨e, f0, f1, f2, d⟩
theorem Inv.unpinned {pins pl : List (Addr × Obj)} {σ : St} {H : Hp} {s : Shared} (I : Inv X (pins ++ pl) σ H s) : Inv X pins σ H s := I.pins_of fun p hp => I.pin p (List.mem_append_right _ (List.mem_append_left _ hp))
theorem ps_for {iter : Expr} {body : List Stmt} {wi : TI} {g : TG} {tb : TS} {pos : Pos} (hp : PassesOwn (model X.prog X.w) X.A X.env X.xe) (hc : X.calm = true) (hi : PI X tg iter wi) (hg : PG X tg g) (hb : PSs X body tb)
    (hs : ∀ x, foldedSetIterable iter X.env x = pure x := by intro _; rfl) : PS X (.For tg iter body [] pos) (tFor wi g tb) := by
  intro pins s σ H D I h
  refine wpAny_For (thn (hi pins s σ H _ I h) fun v s1 h1 => thn h1 fun itv s2 h2 => ?_) hs
  obtain ⟨it, fp, tn, J, H2, e, I2, T, st2, f2, W, ⟨m0, w0⟩, turn⟩ := h2
  subst e
  -- what stays true of the iterator's objects through the loop
  have stat : ∀ {H' : Hp}, (∀ b ∈ fp, H' b = none) → ∀ b ∈ fp, FpOk X pins H' b := fun hn b hb => ⟨hn b hb, (f2 b hb).2⟩
  refine codeAny_forLoop_any (fun n s' => ∃ i σ' H', Inv X pins σ' H' s' ∧ tn i s'.heap ∧ (∀ b ∈ fp, H' b = none) ∧ W i n σ' H') ?_ m0 ⟨0, σ, H2, I2, st2, fun b hb => (f2 b hb).1, w0⟩
  rintro n s3 ⟨i, σ3, H3, I3, st3, fr3, w3⟩
  rcases turn i n σ3 H3 w3 with ⟨stop, qn⟩ | ⟨go, N, hN, step⟩
  · refine wpAny_passesOwn hp (thn (T.done X rfl rfl rfl hc i pins s3 σ3 H3 X.xe I3 (stat fr3) st3 stop) fun r s4 ⟨hr, I4⟩ => ?_)
    subst hr
    exact wpAny_execs_nil ⟨σ3, H3, I4, qn⟩
  · refine wpAny_passesOwn hp (thn (T.item X rfl rfl rfl hc i pins s3 σ3 H3 X.xe I3 (stat fr3) st3 go) fun r s4 ⟨u, hr, h4⟩ => ?_)
    subst hr
    refine wpAny_passesOwn hp (thn h4 fun _ s5 ⟨x, H5, I5, r5, y5, st5, fr5⟩ => ?_)
    have I5' := I5.pinned (stat fr5) (T.obj _ _ st5)
    refine wpAny_passesOwn hp (thn (hg _ s5 σ3 H5 x u _ I5' r5 (step x H5 y5)) fun _ s6 ⟨σ6, H6, I6, q6⟩ => ?_)
    refine wpAny_passesOwn hp (thn (hb _ s6 σ6 H6 _ I6 q6) fun f s7 q7 => ?_)
    have again : ∀ {σ7 : St} {H7 : Hp}, Inv X (pins ++ pinsAt fp s5.heap) σ7 H7 s7 → N σ7 H7 → ∃ m, m < n ∧ ∃ i σ' H', Inv X pins σ' H' s7 ∧ tn i s7.heap ∧ (∀ b ∈ fp, H' b = none) ∧ W i m σ' H' := fun {σ7 H7} I7 n7 => by
      obtain ⟨m', hm, w7⟩ := hN σ7 H7 n7
      refine ⟨m', hm, i + 1, σ7, H7, I7.unpinned, T.keep _ _ _ st5 fun b hb o e => (I7.pin (b, o) (List.mem_append_right _ (List.mem_append_right _ (mem_pinsAt hb e)))).1, fun b hb => ?_, w7⟩
      obtain ⟨o, e, d⟩ := T.obj _ _ st5 b hb
      exact (I7.pin (b, o) (List.mem_append_right _ (List.mem_append_right _ (mem_pinsAt hb e)))).2.1
    cases f with
    | next => obtain ⟨σ7, H7, I7, n7⟩ := q7; exact again I7 n7
    | cont => obtain ⟨σ7, H7, I7, n7⟩ := q7; exact again I7 n7
    | brk => obtain ⟨σ7, H7, I7, q7⟩ := q7; exact ⟨σ7, H7, I7.unpinned, q7⟩
    | ret v => obtain ⟨x7, σ7, H7, I7, r7, q7⟩ := q7; exact ⟨x7, σ7, H7, I7.unpinned, r7, q7⟩
end
/-! ### the forms one uses -/
end L2
namespace L2
open PySem PySem.Spec PyProof.Rows
abbrev R2 := V → V → Hp → VK → Prop
/-- a two-place operation on values: f is binaryOp op, inplaceOp op or compareOp op -/
def OpR (X : Cx) (f : Value → Value → Sem Value) (r : R2) : Prop :=
  ∀ (pins : List (Addr × Obj)) (s : Shared) (σ : St) (H : Hp) (x y : V) (v u : Value) (Q : VK), Inv X pins σ H s → RelV x v → RelV y u → r x y H Q →
    wpAny (model X.prog X.w) X.A (f v u) (EP X pins σ Q) X.xe s
/-- a one-place operation -/
def UnR (X : Cx) (f : Value → Sem Value) (r : V → Hp → VK → Prop) : Prop :=
  ∀ (pins : List (Addr × Obj)) (s : Shared) (σ : St) (H : Hp) (x : V) (v : Value) (Q : VK), Inv X pins σ H s → RelV x v → r x H Q →
    wpAny (model X.prog X.w) X.A (f v) (EP X pins σ Q) X.xe s
/-- a call of a value that is known (a builtin, a type) with values -/
def CallR (X : Cx) (f : Value) (r : List V → Hp → VK → Prop) : Prop :=
  ∀ (pins : List (Addr × Obj)) (s : Shared) (σ : St) (H : Hp) (xs : List V) (us : List Value) (Q : VK), Inv X pins σ H s → Vals xs us → r xs H Q →
    wpAny (model X.prog X.w) X.A (call f us) (EP X pins σ Q) X.xe s
/-- a value's truth -/
def TruR (X : Cx) (r : V → Hp → (Bool → Hp → Prop) → Prop) : Prop :=
  ∀ (pins : List (Addr × Obj)) (s : Shared) (σ : St) (H : Hp) (x : V) (v : Value) (Q : Bool → Hp → Prop), Inv X pins σ H s → RelV x v → r x H Q →
    wpAny (model X.prog X.w) X.A (truthy v) (TP X pins σ Q) X.xe s
def tOp (r : R2) (ta tb : TE) : TE := fun σ H Q => ta σ H fun x H1 => tb σ H1 fun y H2 => r x y H2 Q
def tUn (r : V → Hp → VK → Prop) (ta : TE) : TE := fun σ H Q => ta σ H fun x H1 => r x H1 Q
/-- ints in, under C, and a value out -/
def rI (C : Int → Int → Prop) (g : Int → Int → V) : R2 := fun x y H Q => ∃ i j, x = .int i ∧ y = .int j ∧ C i j ∧ Q (g i j) H
def rI0 (g : Int → Int → V) : R2 := fun x y H Q => ∃ i j, x = .int i ∧ y = .int j ∧ Q (g i j) H
def rU (g : Int → V) : V → Hp → VK → Prop := fun x H Q => ∃ i, x = .int i ∧ Q (g i) H
section
variable {X : Cx} {a b c : Expr} {ta tb tc : TE} {pos : Pos}
theorem binT (ha : PE X a ta) (hb : PE X b tb) {pins : List (Addr × Obj)} {s : Shared} {σ : St} {H : Hp} {R : V → V → Hp → Prop} (I : Inv X pins σ H s)
    (h : ta σ H fun x H1 => tb σ H1 fun y H2 => R x y H2) {Q : Value → Shared → Prop} {f : Value → Value → Sem Value}
    (hf : ∀ v u s2 x y H2, Inv X pins σ H2 s2 → RelV x v → RelV y u → R x y H2 → wpAny (model X.prog X.w) X.A (f v u) Q X.xe s2) :
    wpAny (model X.prog X.w) X.A (eval a X.env) (fun v s₁ => wpAny (model X.prog X.w) X.A (eval b X.env) (fun u s₂ => wpAny (model X.prog X.w) X.A (f v u) Q X.xe s₂) X.xe s₁) X.xe s := by
  refine thn (ha pins s σ H _ I h) fun v s1 ⟨x, H1, I1, r1, q1⟩ => ?_
  refine thn (hb pins s1 σ H1 _ I1 q1) fun u s2 ⟨y, H2, I2, r2, q2⟩ => ?_
  exact hf v u s2 x y H2 I2 r1 r2 q2
theorem pe_op {op : Operator} {r : R2} (ho : OpR X (binaryOp op) r) (ha : PE X a ta) (hb : PE X b tb) : PE X (.BinOp a op b pos) (tOp r ta tb) := by
  intro pins s σ H Q I h
  exact wpAny_BinOp (binT ha hb I h fun v u s2 x y H2 I2 rx ry q => ho pins s2 σ H2 x y v u Q I2 rx ry q)
/-! ### ints -/
theorem opI {f : Value → Value → Sem Value} {C : Int → Int → Prop} {g : Int → Int → Int}
    (rule : ∀ (i j : Int) (t u : Tok) (s : Shared) (Q : Value → Shared → Prop) (E : Value → Shared → Prop), C i j → Q (.int (g i j) s.toks) { s with toks := s.toks + 1 } → wpAny (model X.prog X.w) X.A (f (.int i t) (.int j u)) Q E s) :
    OpR X f (rI C fun i j => .int (g i j)) := by
  intro pins s σ H x y v u Q I rx ry h
  obtain ⟨i, j, rfl, rfl, hc, q⟩ := h
  obtain ⟨t, rfl⟩ := rx
  obtain ⟨t', rfl⟩ := ry
  exact rule i j t t' s _ _ hc ⟨.int (g i j), H, I.tok _, ⟨_, rfl⟩, q⟩
theorem opI0 {f : Value → Value → Sem Value} {g : Int → Int → Int}
    (rule : ∀ (i j : Int) (t u : Tok) (s : Shared) (Q : Value → Shared → Prop) (E : Value → Shared → Prop), Q (.int (g i j) s.toks) { s with toks := s.toks + 1 } → wpAny (model X.prog X.w) X.A (f (.int i t) (.int j u)) Q E s) :
    OpR X f (rI0 fun i j => .int (g i j)) := by
  intro pins s σ H x y v u Q I rx ry h
  obtain ⟨i, j, rfl, rfl, q⟩ := h
  obtain ⟨t, rfl⟩ := rx
  obtain ⟨t', rfl⟩ := ry
  exact rule i j t t' s _ _ ⟨.int (g i j), H, I.tok _, ⟨_, rfl⟩, q⟩
theorem opB0 {f : Value → Value → Sem Value} {g : Int → Int → Bool}
    (rule : ∀ (i j : Int) (t u : Tok) (s : Shared) (Q : Value → Shared → Prop) (E : Value → Shared → Prop), Q (.bool (g i j)) s → wpAny (model X.prog X.w) X.A (f (.int i t) (.int j u)) Q E s) :
    OpR X f (rI0 fun i j => .bl (g i j)) := by
  intro pins s σ H x y v u Q I rx ry h
  obtain ⟨i, j, rfl, rfl, q⟩ := h
  obtain ⟨t, rfl⟩ := rx
  obtain ⟨t', rfl⟩ := ry
  exact rule i j t t' s _ _ ⟨.bl (g i j), H, I, rfl, q⟩
def CDiv (i j : Int) : Prop := 0 < j ∧ j < 1073741824
def CDivN (i j : Int) : Prop := j ≠ 0 ∧ j.natAbs < 1073741824
def CPow (i j : Int) : Prop := 0 ≤ j ∧ j ≤ 1000000 ∧ i.natAbs < 2 ^ 64
def CMul (i j : Int) : Prop := (-(2 ^ 64) < i ∧ i < 2 ^ 64) ∨ (-(2 ^ 64) < j ∧ j < 2 ^ 64)
theorem op_add : OpR X (binaryOp .Add) (rI0 fun i j => .int (i + j)) := opI0 fun _ _ _ _ _ _ _ q => add_int q
theorem op_sub : OpR X (binaryOp .Sub) (rI0 fun i j => .int (i - j)) := opI0 fun _ _ _ _ _ _ _ q => sub_int q
/-- // by a positive divisor -/
theorem op_fdiv : OpR X (binaryOp .FloorDiv) (rI CDiv fun i j => .int (i / j)) := opI fun i j _ _ _ _ _ hc q => by
  have h1 : (0 : Int) < j := hc.1
  have h2 : j < 1073741824 := hc.2
  exact floordiv_int (by omega) (by rw [Int.fdiv_eq_ediv_of_nonneg i (by omega)]; exact q) (.inl (PyProof.noPylong_small (by omega)))
/-- % by a positive divisor of any size -/
theorem op_mod : OpR X (binaryOp .Mod) (rI (fun _ j => 0 < j) fun i j => .int (i % j)) := opI fun i j _ _ _ _ _ hc q => by
  have h1 : (0 : Int) < j := hc
  exact mod_int' (by omega) (by rw [Int.fmod_eq_emod_of_nonneg i (by omega)]; exact q)
theorem op_pow : OpR X (binaryOp .Pow) (rI CPow fun i j => .int (i ^ j.toNat)) := opI fun _ _ _ _ _ _ _ hc q => pow_int_small hc.1 hc.2.1 hc.2.2 q
/-! ### bools among ints: n += (a < b) -/
end
/-! ### comparisons -/
/-- the scalars that == tells apart as data does -/
def scal : V → V → Bool
  | .non, .non => true | .non, .int _ => true | .int _, .non => true | .non, .bl _ => true | .bl _, .non => true | .non, .str _ => true | .str _, .non => true
  | .int _, .int _ => true | .bl _, .bl _ => true | .str _, .str _ => true | .byt _, .byt _ => true
  | .int _, .str _ => true | .str _, .int _ => true | .bl _, .str _ => true | .str _, .bl _ => true
  | _, _ => false
def rEq : R2 := fun x y H Q => scal x y = true ∧ Q (.bl (decide (x = y))) H
def rNe : R2 := fun x y H Q => scal x y = true ∧ Q (.bl (!decide (x = y))) H
section
variable {X : Cx} {a b c : Expr} {ta tb tc : TE} {pos : Pos}
theorem fin_bl {pins : List (Addr × Obj)} {σ : St} {H : Hp} {s : Shared} {Q : VK} {k k' : Bool} (I : Inv X pins σ H s) (q : Q (.bl k) H) (e : k = k') : EP X pins σ Q (.bool k') s := by
  subst e
  exact ⟨.bl k, H, I, rfl, q⟩
theorem op_lt : OpR X (compareOp .Lt) (rI0 fun i j => .bl (decide (i < j))) := opB0 fun _ _ _ _ _ _ _ q => lt_int q
theorem op_gt : OpR X (compareOp .Gt) (rI0 fun i j => .bl (decide (j < i))) := opB0 fun _ _ _ _ _ _ _ q => gt_int q
theorem op_lt_str : OpR X (compareOp .Lt) (fun x y H Q => ∃ i j, x = .str i ∧ y = .str j ∧ Q (.bl (decide (i.cps.toList < j.cps.toList))) H) := by
  intro pins s σ H x y v u Q I rx ry h
  obtain ⟨i, j, rfl, rfl, q⟩ := h
  obtain ⟨t, rfl⟩ := rx
  obtain ⟨t', rfl⟩ := ry
  exact lt_str (fin_bl I q rfl)
/-- is, is not of two objects that are tracked lists or instances -/
def isObj : HO → Bool
  | .lst _ => true
  | .ins _ _ _ => true
  | _ => false
/-- two rules for one operation: by cases -/
theorem OpR.or {f : Value → Value → Sem Value} {r r' : R2} (h : OpR X f r) (h' : OpR X f r') : OpR X f (fun x y H Q => r x y H Q ∨ r' x y H Q) := by
  intro pins s σ H x y v u Q I rx ry q
  rcases q with q | q
  · exact h pins s σ H x y v u Q I rx ry q
  · exact h' pins s σ H x y v u Q I rx ry q
theorem nomark (b : Expr) {op : CmpOp} (h : op ≠ .In := by decide) (h2 : op ≠ .NotIn := by decide) : behindInMarks op b = false := by
  have e1 : (op == CmpOp.In) = false := by cases op <;> first | rfl | exact absurd rfl h
  have e2 : (op == CmpOp.NotIn) = false := by cases op <;> first | rfl | exact absurd rfl h2
  cases b <;> simp [behindInMarks, e1, e2]
/-- a comparison as a value; hm: nomark b, or (for in, not in) by with_unfolding_all rfl -/
theorem pe_cmpR {op : CmpOp} {r : R2} (ho : OpR X (compareOp op) r) (ha : PE X a ta) (hb : PE X b tb) (hm : behindInMarks op b = false) : PE X (.Compare a [op] [b] pos) (tOp r ta tb) := by
  intro pins s σ H Q I h
  exact wpAny_Compare1 (binT ha hb I h fun v u s2 x y H2 I2 rx ry q => ho pins s2 σ H2 x y v u Q I2 rx ry q) hm
/-- a reading of a value as a test -/
def tTest (t : TE) : TT := fun σ H Q => t σ H fun x H' => ∃ k, x = .bl k ∧ Q k H'
theorem pt_cmpR {op : CmpOp} {r : R2} (ho : OpR X (compareOp op) r) (ha : PE X a ta) (hb : PE X b tb) (hm : behindInMarks op b = false) : PT X (.Compare a [op] [b] pos) (tTest (tOp r ta tb)) := by
  intro pins s σ H Q I h
  refine wpAny_isTrue_Compare1 (thn (ha pins s σ H _ I h) fun v s1 ⟨x, H1, I1, r1, q1⟩ => thn (hb pins s1 σ H1 _ I1 q1) fun u s2 ⟨y, H2, I2, r2, q2⟩ =>
    thn (ho pins s2 σ H2 x y v u _ I2 r1 r2 q2) fun c s3 ⟨z, H3, I3, r3, k, e, q3⟩ => ?_) hm
  subst e
  cases r3
  exact wpAny_truthy_bool ⟨H3, I3, q3⟩
/-- a op1 b op2 c -/
def tChain (r r' : R2) (ta tb tc : TE) : TE := fun σ H Q => ta σ H fun x H1 => tb σ H1 fun y H2 => r x y H2 fun z H3 => ∃ k, z = .bl k ∧
  (if k = true then tc σ H3 fun w' H4 => r' y w' H4 Q else Q (.bl false) H3)
/-! ### truth -/
/-- a value's truth by the abstract heap -/
def TruV (K : PySem.W.Frag) (x : V) (H : Hp) (k : Bool) : Prop :=
  match x with
  | .non => k = false
  | .bl b => k = b
  | .int i => k = (i != 0)
  | .str y => y.length ≤ sizeLine ∧ k = ((y.length : Int) != 0)
  | .byt y => y.size ≤ sizeLine ∧ k = ((y.size : Int) != 0)
  | .ref p => (∃ xs, SqL K H p xs ∧ k = !xs.isEmpty) ∨ (∃ xs, SqT K H p xs ∧ k = !xs.isEmpty) ∨ ∃ kvs, H p = some (.dK kvs) ∧ k = !kvs.isEmpty
  | _ => False
theorem isEmpty_kv {κ : Type} {kvs : List (κ × V)} {vs : List (κ × Value)} (r : KV kvs vs) : (!vs.isEmpty) = !kvs.isEmpty := by
  cases r <;> rfl
theorem isEmpty_of {xs : List V} {its : List Value} (r : Vals xs its) : (!its.toArray.isEmpty) = !xs.isEmpty := by
  cases r <;> simp
theorem line63 : (sizeLine : Nat) < 2 ^ 63 := by rw [sizeLine_eq]; decide
theorem tru_ok : TruR X (fun x H Q => ∃ k, TruV X.K x H k ∧ Q k H) := by
  intro pins s σ H x v Q I rx h
  obtain ⟨k, e, q⟩ := h
  have hl := line63
  have hs : sizeLine = 16777216 := sizeLine_eq
  cases x with
  | non =>
    cases rx
    have e' : k = false := e
    subst e'
    exact truthy_none ⟨H, I, q⟩
  | bl b =>
    cases rx
    have e' : k = b := e
    subst e'
    exact wpAny_truthy_bool ⟨H, I, q⟩
  | int i =>
    obtain ⟨t, rfl⟩ := rx
    have e' : k = (i != 0) := e
    subst e'
    exact PySem.P.truthy_int ⟨H, I, q⟩
  | str y =>
    obtain ⟨t, rfl⟩ := rx
    obtain ⟨hy, e'⟩ : y.length ≤ sizeLine ∧ k = ((y.length : Int) != 0) := e
    subst e'
    exact PySem.P.truthy_str (by omega) ⟨H, I.tok _, q⟩
  | byt y =>
    obtain ⟨t, rfl⟩ := rx
    obtain ⟨hy, e'⟩ : y.size ≤ sizeLine ∧ k = ((y.size : Int) != 0) := e
    subst e'
    exact PySem.W.truthy_bytes (by omega) ⟨H, I.tok _, q⟩
  | ref p =>
    cases rx
    have e' : (∃ xs, SqL X.K H p xs ∧ k = !xs.isEmpty) ∨ (∃ xs, SqT X.K H p xs ∧ k = !xs.isEmpty) ∨ ∃ kvs, H p = some (.dK kvs) ∧ k = !kvs.isEmpty := e
    rcases e' with ⟨xs, hx, e'⟩ | ⟨xs, hx, e'⟩ | ⟨kvs, hx, e'⟩
    · subst e'
      obtain ⟨its, r, pl, hz⟩ := I.list hx
      have hlen := r.length
      exact wpAny_truthy_list pl.isList (by simp only [List.size_toArray]; omega) ⟨H, I.tok _, by rw [isEmpty_of r]; exact q⟩
    · subst e'
      obtain ⟨its, r, pl, hz⟩ := I.tuple hx
      have hlen := r.length
      exact truthy_tuple pl (by simp only [List.size_toArray]; omega) ⟨H, I.tok _, by rw [isEmpty_of r]; exact q⟩
    · subst e'
      obtain ⟨hz, hS, vs, r, m⟩ : kvs.length ≤ sizeLine ∧ (p == sysModules) = false ∧ ∃ vs, KV kvs vs ∧ s.heap.DictOf (mixKind X.prog X.w) p vs := I.hok p _ hx
      have hlen : kvs.length = vs.length := Paired.length r
      exact wpAny_truthy_dict hS m (by omega) ⟨H, I.tok _, by rw [isEmpty_kv r]; exact q⟩
  | _ => exact (show False from e).elim
/-- any expression whose test is its value's truth (a name, a call, a subscript, a field ..: he by fun _ => rfl) -/
theorem pt_truth (ha : PE X a ta) (he : ∀ whole, isTrue a X.env whole = (do let v ← whole; standAt a.pos; holding [v] (truthy v))) :
    PT X a (fun σ H Q => ta σ H fun x H' => ∃ k, TruV X.K x H' k ∧ Q k H') := by
  intro pins s σ H Q I h
  exact isTrue_plain (thn (ha pins s σ H _ I h) fun v s1 ⟨x, H1, I1, r1, q1⟩ => tru_ok pins s1 σ H1 x v Q I1 r1 q1) (he _)
/-! ### strs and bytes -/
theorem op_add_str : OpR X (binaryOp .Add) (fun x y H Q => ∃ i j, x = .str i ∧ y = .str j ∧ i.length + j.length ≤ sizeLine ∧ Q (.str (i ++ j)) H) := by
  intro pins s σ H x y v u Q I rx ry h
  obtain ⟨i, j, rfl, rfl, hz, q⟩ := h
  obtain ⟨t, rfl⟩ := rx
  obtain ⟨t', rfl⟩ := ry
  exact add_str (fun t' tk => ⟨.str (i ++ j), H, I.tok _, ⟨_, rfl⟩, q⟩) hz
def PlainIxT (b : Expr) : Prop := ∀ o i, subscripted b false o i = operate [o, i] (getItem o i)
/-! ### scalar builtins, by CallR -/
theorem vals1 {x : V} {us : List Value} (r : Vals [x] us) : ∃ u, us = [u] ∧ RelV x u := by
  cases r with
  | cons r1 r2 => cases r2; exact ⟨_, rfl, r1⟩
theorem call_str_int : CallR X (.type "str") (fun xs H Q => ∃ i, xs = [.int i] ∧ i.natAbs.log2 < 1920 ∧ Q (.str (toString i)) H) := by
  intro pins s σ H xs us Q I r h
  obtain ⟨i, rfl, hz, q⟩ := h
  obtain ⟨u, rfl, t, rfl⟩ := vals1 r
  exact PySem.P.str_of_int hz ⟨.str _, H, I.tok _, ⟨_, rfl⟩, q⟩
/-- len of a str, a bytes, a list, a tuple -/
def LenV (K : PySem.W.Frag) (x : V) (H : Hp) (n : Nat) : Prop :=
  match x with
  | .str y => y.length ≤ sizeLine ∧ n = y.length
  | .byt y => y.size ≤ sizeLine ∧ n = y.size
  | .ref p => (∃ xs, SqL K H p xs ∧ n = xs.length) ∨ ∃ xs, SqT K H p xs ∧ n = xs.length
  | _ => False
end
end L2
namespace L2
open PySem PySem.Spec PyProof.Rows
/-! ### an instance, its attributes a map -/
structure ObjM (h : Heap) (x dx C : Addr) (mA : Str → Option Value) : Prop where
  obj : h.get? x = some (PySem.W.instObj C dx)
  ns : h.Ns1 dx mA
  ne : dx ≠ x
theorem lookIn_ns {h : Heap} {dx : Addr} {mA : Str → Option Value} (n : h.Ns1 dx mA) : ∃ od, h.get? dx = some od ∧ ∀ name, PySem.W.lookIn name od = some (mA name) := by
  obtain ⟨o, es, ep, ho, hd, hk, _, hm⟩ := n
  refine ⟨o, ho, fun name => ?_⟩
  have e := hm name
  unfold nsFind findBy at e
  rw [← Array.find?_toList] at e
  unfold PySem.W.lookIn
  rw [hd]
  dsimp only
  split
  · rename_i y q
    rw [q] at e
    exact congrArg some e
  · rename_i q
    rw [q] at e
    have a : es.toList.any (·.refKey) = false := by
      rw [List.any_eq_false]
      intro y hy
      obtain ⟨z, t, hkey⟩ := hk y (Array.mem_toList_iff.mp hy)
      simp [DictEntry.refKey, hkey]
    have a' : ¬ es.toList.any (·.refKey) = true := by rw [a]; exact Bool.false_ne_true
    rw [if_neg a']
    exact congrArg some e
theorem ObjM.look {h : Heap} {x dx C : Addr} {mA : Str → Option Value} (I : ObjM h x dx C mA) : ∃ od, PySem.W.InstAt h x (PySem.W.instObj C dx) C (some od) ∧ ∀ name, PySem.W.lookIn name od = some (mA name) :=
  let ⟨od, ho, hl⟩ := lookIn_ns I.ns
  ⟨od, ⟨I.obj, rfl, rfl, ho⟩, hl⟩
section
variable {prog : Program} {w : World} {A : Around} {E : Value → Shared → Prop} {s : Shared} {K : PySem.W.Frag} {x dx C f : Addr} {mA : Str → Option Value} {name : Str} {v : Value}
end
/-! ### the attributes as a list of pairs -/
def putF (f : Str) (v : V) : List (Str × V) → List (Str × V)
  | [] => [(f, v)]
  | (g, x) :: r => if g = f then (g, v) :: r else (g, x) :: putF f v r
section
variable {P : Program} {w : World} {H H' : Hp} {h h' : Heap} {a C dx : Addr} {fs fs' : List (Str × V)}
theorem ins_get (hok : HOk P w H h) (e : H a = some (.ins C dx fs)) : ∃ mA, ObjM h a dx C mA ∧ (∀ f, RelO (fs.lookup f) (mA f)) ∧ PySem.Within mA (fs.map (·.1)) ∧ fs.length ≤ 1000 ∧ H dx = some (.own a) := by
  obtain ⟨d, z, ne, ob, mA, n, r, q⟩ := (show ObjOk P w H h a (.ins C dx fs) from hok a _ e)
  exact ⟨mA, ⟨ob, n, ne⟩, r, q, z, d⟩
end
/-! ### what of the text a class must have -/
structure Cls (K : PySem.W.Frag) (C : Addr) : Prop where
  pg : PySem.W.plainGet K C Str.empty = true
  hd : PySem.W.hasDictIn K C = true
  po : PySem.W.plainOver K C = true
  sa : PySem.W.findIn K (.ref C) "__setattr__" = some (some (.builtin "object.__setattr__"))
theorem Cls.get {K : PySem.W.Frag} {C : Addr} (c : Cls K C) (f : Str) : PySem.W.plainGet K C f = true := c.pg
/-- no class of it has the name -/
def NoAttr (K : PySem.W.Frag) (C : Addr) (f : Str) : Prop := PySem.W.findIn K (.ref C) f = some none
/-- a constant of the class -/
structure Con (K : PySem.W.Frag) (C : Addr) (f : Str) (v : V) (u : Value) : Prop where
  at_ : PySem.W.findIn K (.ref C) f = some (some u)
  rel : RelV v u
  get : PySem.W.specialIn K u "__get__" = some none
  cp : PySem.W.copiedNames.contains f = false
/-- a method: a plain def of the class or of one above it -/
structure Meth (K : PySem.W.Frag) (C : Addr) (m : Str) (f : Addr) : Prop where
  at_ : PySem.W.findIn K (.ref C) m = some (some (.ref f))
  fn : PySem.W.isFn K (.ref f) = true
  kp : PySem.W.keepIn K (.ref f) = true
section
variable {X : Cx} {pins : List (Addr × Obj)} {σ : St} {H : Hp} {s : Shared} {a C dx : Addr} {fs : List (Str × V)} {f : Str} {v : V} {A : Around} {E : Value → Shared → Prop}
end
/-! ### readings and rules -/
/-- e.f, an attribute of the instance -/
def tFld (K : PySem.W.Frag) (ta : TE) (f : Str) : TE := fun σ H Q => ta σ H fun x H1 => ∃ a C dx fs v, x = .ref a ∧ H1 a = some (.ins C dx fs) ∧ Cls K C ∧ NoAttr K C f ∧ fs.lookup f = some v ∧ Q v H1
/-- e.f, a constant of the class -/
def tCon (K : PySem.W.Frag) (ta : TE) (f : Str) : TE := fun σ H Q => ta σ H fun x H1 => ∃ a C dx fs v u, x = .ref a ∧ H1 a = some (.ins C dx fs) ∧ Cls K C ∧ Con K C f v u ∧ fs.lookup f = none ∧ Q v H1
/-- e.f = value -/
def sFld (K : PySem.W.Frag) (ta tv : TE) (f : Str) : TS := fun D σ H => tv σ H fun y H1 => ta σ H1 fun x H2 => ∃ a C dx fs, x = .ref a ∧ H2 a = some (.ins C dx fs) ∧ Cls K C ∧ NoAttr K C f ∧ fs.length < 1000 ∧
  D.nx σ (upd H2 a (.ins C dx (putF f y fs)))
/-- an augmented operator on two values -/
def InOp (X : Cx) (op : Operator) (rd : V → V → Hp → VK → Prop) : Prop :=
  ∀ (pins : List (Addr × Obj)) (s : Shared) (σ : St) (H : Hp) (x y : V) (u v : Value) (Q : VK), Inv X pins σ H s → RelV x u → RelV y v → rd x y H Q → wpAny (model X.prog X.w) X.A (inplaceOp op u v) (EP X pins σ Q) X.xe s
/-- e.f op= value -/
def sFldAug (K : PySem.W.Frag) (ta tv : TE) (rd : V → V → Hp → VK → Prop) (f : Str) : TS := fun D σ H => ta σ H fun x H1 => ∃ a C dx fs v, x = .ref a ∧ H1 a = some (.ins C dx fs) ∧ Cls K C ∧ NoAttr K C f ∧ fs.lookup f = some v ∧
  tv σ H1 fun y H2 => rd v y H2 fun z H3 => ∃ dx' fs', H3 a = some (.ins C dx' fs') ∧ fs'.length < 1000 ∧ D.nx σ (upd H3 a (.ins C dx' (putF f z fs')))
section
variable {X : Cx} {o e value : Expr} {f : Str} {pos pos' tpos : Pos} {ta tv : TE}
def rAdd : V → V → Hp → VK → Prop := fun x y H Q => ∃ i j, x = .int i ∧ y = .int j ∧ Q (.int (i + j)) H
def rSub : V → V → Hp → VK → Prop := fun x y H Q => ∃ i j, x = .int i ∧ y = .int j ∧ Q (.int (i - j)) H
end
/-! ### isinstance -/
section
variable {X : Cx} {pins : List (Addr × Obj)} {σ : St} {H : Hp} {s : Shared} {A : Around} {E : Value → Shared → Prop} {Q : Value → Shared → Prop} {c : Value} {b : Bool}
/-- the type of a value, as the fragment's deciders take it; for an instance its class -/
inductive TyOf (K : PySem.W.Frag) (H : Hp) : V → Value → Prop where
  | non : TyOf K H .non (.type "NoneType")
  | bl (x : Bool) : TyOf K H (.bl x) (.type "bool")
  | int (i : Int) : TyOf K H (.int i) (.type "int")
  | str (x : Str) : TyOf K H (.str x) (.type "str")
  | flt (x : UInt64) : TyOf K H (.flt x) (.type "float")
  | lst {a : Addr} {xs : List V} (e : H a = some (.lst xs)) : TyOf K H (.ref a) (.type "list")
  | frz {a : Addr} {o : Obj} {xs : List V} (e : H a = some (.frz o (.lst xs))) : TyOf K H (.ref a) (.type "list")
  | tup {a : Addr} {xs : List V} (e : H a = some (.tup xs)) : TyOf K H (.ref a) (.type "tuple")
  | dK {a : Addr} {kvs : List (Key × V)} (e : H a = some (.dK kvs)) : TyOf K H (.ref a) (.type "dict")
  | dT {a : Addr} {kvs : List (List Key × V)} (e : H a = some (.dT kvs)) : TyOf K H (.ref a) (.type "dict")
  | ins {a C dx : Addr} {fs : List (Str × V)} (e : H a = some (.ins C dx fs)) (cl : Cls K C) (ha : PySem.W.findIn K (.ref C) "__class__" = some (some (.builtin "object.__class__")))
      (hn : PySem.W.specialIn K (.builtin "object.__class__") "__get__" = some (some (.builtin "getset_descriptor.__get__"))) (htk : PySem.W.takesIn K (.builtin "object.__class__") = some true)
      (hm : PySem.W.mroIn K C (.type "object") = some true) : TyOf K H (.ref a) (.ref C)
/-- isinstance(x, c) for one class c, a built-in or an own one: kitOne's answer -/
theorem isinst_ok {x : V} {u t : Value} (I : Inv X pins σ H s) (rx : RelV x u) (ty : TyOf X.K H x t) (e : PySem.W.kitOne X.K t c = some b) (h : ∀ tk, Q (.bool b) { s with toks := tk }) :
    wpAny (model X.prog X.w) A (call (.builtin "isinstance") [u, c]) Q E s := by
  cases ty with
  | non => cases (show u = Value.none from rx); exact PySem.W.kia_one PySem.W.kitx_none I.kIn True.intro e (fun z => nomatch z) h
  | bl y => cases (show u = Value.bool y from rx); exact PySem.W.kia_one PySem.W.kitx_bool I.kIn True.intro e (fun z => nomatch z) h
  | int i => obtain ⟨t, q⟩ := (show ∃ t, u = Value.int i t from rx); cases q; exact PySem.W.kia_one PySem.W.kitx_int I.kIn True.intro e (fun z => nomatch z) h
  | str y => obtain ⟨t, q⟩ := (show ∃ t, u = Value.str y t from rx); cases q; exact PySem.W.kia_one PySem.W.kitx_str I.kIn True.intro e (fun z => nomatch z) h
  | flt y => obtain ⟨t, q⟩ := (show ∃ t, u = Value.float y t from rx); cases q; exact PySem.W.kia_one PySem.W.kitx_float I.kIn True.intro e (fun z => nomatch z) h
  | @lst a xs ea =>
    cases (show u = Value.ref a from rx)
    obtain ⟨_, _, n, _, h1⟩ := (show ObjOk X.prog X.w H s.heap a (.lst xs) from I.hok a _ ea)
    exact PySem.W.kia_one PySem.W.kitx_list I.kIn ⟨_, h1, rfl⟩ e (fun z => nomatch z) h
  | @frz a ob xs ea =>
    cases (show u = Value.ref a from rx)
    obtain ⟨_, _, _, n, _, h1⟩ := (show ObjOk X.prog X.w H s.heap a (.frz ob (.lst xs)) from I.hok a _ ea)
    exact PySem.W.kia_one PySem.W.kitx_list I.kIn ⟨_, h1, rfl⟩ e (fun z => nomatch z) h
  | @tup a xs ea =>
    cases (show u = Value.ref a from rx)
    obtain ⟨_, _, _, p⟩ := (show ObjOk X.prog X.w H s.heap a (.tup xs) from I.hok a _ ea)
    obtain ⟨o, h1, h2, _⟩ := p
    exact PySem.W.kia_one PySem.W.kitx_tuple I.kIn ⟨o, h1, h2⟩ e (fun z => nomatch z) h
  | @dK a kvs ea =>
    cases (show u = Value.ref a from rx)
    obtain ⟨_, _, vs, _, p⟩ := (show ObjOk X.prog X.w H s.heap a (.dK kvs) from I.hok a _ ea)
    obtain ⟨o, es, ep, h1, h2, _⟩ := p
    exact PySem.W.kia_one PySem.W.kitx_dict I.kIn ⟨o, h1, h2.1⟩ e (fun z => nomatch z) h
  | @dT a kvs ea =>
    cases (show u = Value.ref a from rx)
    obtain ⟨_, _, xs, _, o, es, ep, h1, h2, _⟩ := (show ObjOk X.prog X.w H s.heap a (.dT kvs) from I.hok a _ ea)
    exact PySem.W.kia_one PySem.W.kitx_dict I.kIn ⟨o, h1, h2.1⟩ e (fun z => nomatch z) h
  | @ins a C dx fs ea cl ha hn htk hm =>
    cases (show u = Value.ref a from rx)
    obtain ⟨mA, O, _⟩ := ins_get I.hok ea
    obtain ⟨od, J, _⟩ := O.look
    exact PySem.W.kia_one (PySem.W.kitx_own (cl.get _) cl.hd ha hn htk hm) I.kIn J e (fun z => nomatch z) h
end
end L2
namespace L2
open PySem PySem.Spec PyProof.Rows
/-! ### room -/
structure Room (k : Nat) (A : Around) : Prop where
  hd : A.handled = none
  dp : A.depth + 3 * k + 5 < recursionLimit
  un : A.units + 16 * k + 200 < cLine
theorem Room.deeper {k : Nat} {A : Around} (r : Room (k + 1) A) (env : Env) : Room k (A.deeper env) :=
  ⟨r.hd, by have := r.dp; show A.depth + 1 + 3 * k + 5 < _; omega, by have := r.un; show A.units + 3 + 16 * k + 200 < _; omega⟩
theorem Room.depth {k : Nat} {A : Around} (r : Room k A) : A.depth < recursionLimit := by have := r.dp; omega
/-! ### argument lists and displays -/
def tNil : TA := fun _ H Q => Q [] H
def tCons (ta : TE) (tr : TA) : TA := fun σ H Q => ta σ H fun x H1 => tr σ H1 fun xs H2 => Q (x :: xs) H2
section
variable {X : Cx} {e : Expr} {es : List Expr} {te : TE} {t : TA} {pos : Pos}
theorem pa_nil : PA X [] tNil := fun _ _ _ _ H Q I h => Calls.spliced_nil ⟨[], H, I, .nil, h⟩
theorem pa_cons (ha : PE X e te) (hr : PA X es t) (hs : starEach (e :: es) X.env = (false, eval e X.env) :: starEach es X.env := by rfl) : PA X (e :: es) (tCons te t) := by
  intro pos pins s σ H Q I h
  rw [hs]
  show wpAny _ _ (spliced ((false, eval e X.env) :: backTo pos (starEach es X.env))) _ _ s
  refine Calls.spliced_cons (thn (ha pins s σ H _ I h) fun u s1 ⟨x, H1, I1, r1, q1⟩ => ?_)
  exact thn (hr pos pins s1 σ H1 _ I1 q1) fun us s2 ⟨xs, H2, I2, r2, q2⟩ => ⟨x :: xs, H2, I2, .cons r1 r2, q2⟩
/-- a tuple, a list of written items -/
def tTup (t : TA) : TE := fun σ H Q => t σ H fun xs H1 => xs.length ≤ sizeLine ∧ ∀ p, H1 p = none → Q (.ref p) (upd H1 p (.tup xs))
def tLst (t : TA) : TE := fun σ H Q => t σ H fun xs H1 => xs.length ≤ sizeLine ∧ ∀ p, H1 p = none → Q (.ref p) (upd H1 p (.lst xs))
theorem pe_tup {x1} (h : PA X es t) : PE X (.Tuple es x1 pos) (tTup t) := by
  intro pins s σ H Q I hq
  refine wpAny_Tuple_spliced (thn (h pos pins s σ H _ I hq) fun us s1 ⟨xs, H1, I1, r, z, q⟩ => ⟨by rw [← r.length]; exact z, ?_⟩)
  have hf : H1 s1.heap.objs.size = none := I1.hok.fresh (Nat.le_refl _)
  refine ⟨.ref s1.heap.objs.size, upd H1 s1.heap.objs.size (.tup xs), I1.laid (t' := s1.toks) (fun b u e => Heap.get?_push_of_some _ e) (Nat.le_refl _) ?_, rfl, q _ hf⟩
  exact ⟨z, us, r, ⟨_, Heap.get?_push_size _ rfl, rfl, _, rfl⟩⟩
theorem pe_lst (h : PA X es t) : PE X (.List es pos) (tLst t) := by
  intro pins s σ H Q I hq
  refine wpAny_List_spliced (thn (h pos pins s σ H _ I hq) fun us s1 ⟨xs, H1, I1, r, z, q⟩ => ⟨by rw [← r.length]; exact z, ?_⟩)
  have hf : H1 s1.heap.objs.size = none := I1.hok.fresh (Nat.le_refl _)
  refine ⟨.ref s1.heap.objs.size, upd H1 s1.heap.objs.size (.lst xs), I1.laid (t' := s1.toks) (fun b u e => Heap.get?_push_of_some _ e) (Nat.le_refl _) ?_, rfl, q _ hf⟩
  exact ⟨z, us, 0, r, Heap.get?_push_size _ rfl⟩
end
/-! ### what a def promises -/
/-- a def's promise: the bound arguments in the parameters' order, the heap, the wanted end, the wanted exception -/
abbrev Sp := List V → Hp → VK → XK → Prop
/-- how an exception lies behind a call (file 08 gives it): the callers' frames, abstract heap and state ahead of the call, the wish, the exception, the state -/
abbrev CXT := List Env → Hp → Shared → XK → Value → Shared → Prop
/-- the state at a call -/
structure Env0 (P : Program) (w : World) (K : PySem.W.Frag) (mg : Str → Option Value) (base : Heap) (A : Around) (outer : List Env) (s : Shared) (H : Hp) : Prop where
  frames : A.frames = some outer
  mod : Mod K mg base
  bs : ∀ b o, base.get? b = some o → s.heap.get? b = some o ∧ H b = none
  bsz : base.objs.size ≤ s.heap.objs.size
  funs : s.heap.FunFrames base outer
  frf : ∀ b ∈ frs outer, H b = none
  hok : HOk P w H s.heap
  bare : AllBare s.gens
/-- a call's end -/
def CE (outer : List Env) (P : Program) (w : World) (H : Hp) (s : Shared) (Q : VK) (u : Value) (s' : Shared) : Prop :=
  ∃ v H', s'.os = s.os ∧ AllBare s'.gens ∧ Un (frs outer) [] H H' s.heap s'.heap ∧ HOk P w H' s'.heap ∧ RelV v u ∧ Q v H'
def CR (CX : CXT) (outer : List Env) (P : Program) (w : World) (H : Hp) (s : Shared) (Q : VK) (E : XK) (r : Result) (s' : Shared) : Prop :=
  match r with
  | .ok (.ret u) => CE outer P w H s Q u s'
  | .ok _ => False
  | .error e => CX outer H s E e s'
structure FnOk (P : Program) (w : World) (K : PySem.W.Frag) (mg : Str → Option Value) (base : Heap) (CX : CXT) (k : Nat) (f : Addr) (fd : FuncData) (ps : List Str) (sp : Sp) : Prop where
  len : ∀ vs H Q E, sp vs H Q E → vs.length = ps.length
  run : ∀ (A : Around) (outer : List Env) (s : Shared) (H : Hp) (args : Args) (us : List Value) (vs : List V) (Q : VK) (E : XK), Room k A → Env0 P w K mg base A outer s H → BindsTo s fd args (ps.zip us) → Vals vs us → sp vs H Q E →
    codeAny (model P w) A (.call (.ref f) args) (CR CX outer P w H s Q E) s
section
variable {X : Cx} {pins : List (Addr × Obj)} {σ : St} {H : Hp} {s s' : Shared}
/-- from a body: what a callee wants -/
theorem Inv.env0 (I : Inv X pins σ H s) : Env0 X.prog X.w X.K X.mg X.base X.A X.stack s H :=
  ⟨I.ok.frames, I.ok.mod, I.bs, Nat.le_trans I.ok.bsz I.sz, I.stack, I.stkFree, I.hok, I.bare⟩
/-- behind a call -/
theorem Inv.after {Q : VK} {u : Value} (I : Inv X pins σ H s) (h : CE X.stack X.prog X.w H s Q u s') : EP X pins σ Q u s' := by
  obtain ⟨v, H', os, bare, un, hok, r, q⟩ := h
  obtain ⟨hh, g, d, t, os'⟩ := s'
  obtain rfl : os' = s.os := os
  exact ⟨v, H', I.call (h' := hh) (g' := g) (d' := d) (t' := t) (ch := []) un hok bare (fun b z => absurd z (by simp)), r, q⟩
end
/-! ### calls -/
/-- f(..): the written arguments, then the defaults dvs; E: what is wanted of an exception -/
def tCall (sp : Sp) (dvs : List V) (E : XK) (t : TA) : TE := fun σ H Q => t σ H fun vs H1 => sp (vs ++ dvs) H1 Q E
/-- o.m(..) of an instance of the class at C -/
def tMeth (C : Addr) (m : Str) (sp : Sp) (dvs : List V) (E : XK) (ta : TE) (t : TA) : TE := fun σ H Q => ta σ H fun x H1 => ∃ a dx fs, x = .ref a ∧ H1 a = some (.ins C dx fs) ∧ fs.lookup m = none ∧
  t σ H1 fun vs H2 => sp (x :: (vs ++ dvs)) H2 Q E
/-- C(..): a new instance and its dict, then __init__ -/
def tMake (C : Addr) (sp : Sp) (dvs : List V) (E : XK) (t : TA) : TE := fun σ H Q => t σ H fun vs H1 => ∀ x dx, H1 x = none → H1 dx = none → dx ≠ x →
  sp (.ref x :: (vs ++ dvs)) (upd (upd H1 dx (.own x)) x (.ins C dx [])) (fun v H2 => v = .non ∧ Q (.ref x) H2) E
/-- how the parameters are bound: us the positional arguments, kw the keywords' values by name, ds the defaults that fill up -/
def Binds (K : PySem.W.Frag) (fd : FuncData) (ps : List Str) (ds : List Value) : Prop :=
  ∀ (s : Shared) (us : List Value), K.In s.heap → (us ++ ds).length = ps.length → BindsTo s fd ⟨us, []⟩ (ps.zip (us ++ ds))
/-- every parameter is given -/
theorem Binds.all {K : PySem.W.Frag} {fd : FuncData} {ps : List Str} (h : ∀ us : List Value, us.length = ps.length → bindArgs fd ⟨us, []⟩ = pure (ps.zip us)) : Binds K fd ps [] := fun s us _ hl => by
  rw [List.append_nil] at hl ⊢
  exact .of_eq (h us hl)
/-- an exception of a callee reaches what this body wants of exceptions -/
def Passes (CX : CXT) (X : Cx) (E : XK) : Prop := ∀ (pins : List (Addr × Obj)) (σ : St) (H : Hp) (s : Shared) (e : Value) (s' : Shared), Inv X pins σ H s → CX X.stack H s E e s' → X.xe e s'
section
variable {X : Cx} {CX : CXT} {k : Nat} {f C : Addr} {fd : FuncData} {ps : List Str} {sp : Sp} {dvs : List V} {ds : List Value} {E : XK} {x m : Str} {p pos apos : Pos} {e o : Expr} {es : List Expr} {ta : TE} {t : TA}
/-- the callee runs -/
theorem run_fn {pins : List (Addr × Obj)} {σ : St} {H : Hp} {s : Shared} {Q : VK} {us : List Value} {vs : List V} (F : FnOk X.prog X.w X.K X.mg X.base CX k f fd ps sp) (hr : Room k X.A) (hb : Binds X.K fd ps ds) (hd : Vals dvs ds) (hx : Passes CX X E)
    (I : Inv X pins σ H s) (r : Vals vs us) (h : sp (vs ++ dvs) H Q E) : wpAny (model X.prog X.w) X.A (call (.ref f) us) (EP X pins σ Q) X.xe s := by
  have r2 : Vals (vs ++ dvs) (us ++ ds) := r.append hd
  have hl : (us ++ ds).length = ps.length := by rw [← r2.length]; exact F.len _ _ _ _ h
  refine wpAny_call (codeAny_mono (F.run X.A X.stack s H ⟨us, []⟩ (us ++ ds) (vs ++ dvs) Q E hr I.env0 (hb s us I.kIn hl) r2 h) fun r s' hq => ?_)
  cases r with
  | error e => exact hx pins σ H s e s' I hq
  | ok fl =>
    cases fl with
    | ret u => exact I.after hq
    | next => exact False.elim hq
    | brk => exact False.elim hq
    | cont => exact False.elim hq
theorem pe_call (F : FnOk X.prog X.w X.K X.mg X.base CX k f fd ps sp) (hr : Room k X.A) (hg : Gl X x) (hm : X.mg x = some (.ref f)) (hk : PySem.W.keepIn X.K (.ref f) = true) (hb : Binds X.K fd ps ds) (hd : Vals dvs ds) (hx : Passes CX X E)
    (ha : PA X (e :: es) t) (hdb : (x == ("__debug__" : Str)) = false := by decide) (he : starEach (e :: es) X.env = (false, eval e X.env) :: starEach es X.env := by rfl) (hpl : (backTo pos (starEach es X.env)).any (·.1) = false := by rfl) :
    PE X (.Call (.Name x p) (e :: es) [] pos) (tCall sp dvs E t) := by
  intro pins s σ H Q I h
  refine wpAny_Call_Name_kw (ld_glob I hg hm ?_ hdb)
  refine PySem.W.callWith_K (h₀ := X.base) I.ok.mod.kin hk (thn (ha pos pins s σ H _ I h) fun us s1 ⟨vs, H1, I1, r, q⟩ => ⟨I1.kIn, ?_⟩) he hpl
  exact run_fn F hr hb hd hx I1 r q
/-- what a class must have to be made -/
structure Mk (K : PySem.W.Frag) (C f : Addr) : Prop where
  makes : PySem.W.makesIn K C = true
  init : PySem.W.findIn K (.ref C) "__init__" = some (some (.ref f))
  fn : PySem.W.isFn K (.ref f) = true
  kp : PySem.W.keepIn K (.ref C) = true
end
/-! ### keywords -/
/-- the values of the keywords, from the left -/
def PK (X : Cx) (kws : List Keyword) (t : TA) : Prop :=
  ∀ (pos : Pos) (pins : List (Addr × Obj)) (s : Shared) (σ : St) (H : Hp) (Q : List V → Hp → Prop), Inv X pins σ H s → t σ H Q → wpAny (model X.prog X.w) X.A (evalAll ((backToKw pos (keywordEach kws X.env)).map (·.2))) (AP X pins σ Q) X.xe s
section
variable {X : Cx} {CX : CXT} {k : Nat} {f C : Addr} {fd : FuncData} {ps ks : List Str} {sp : Sp} {E : XK} {x m : Str} {p pos apos kpos : Pos} {e o : Expr} {es : List Expr} {kws : List Keyword} {te ta : TE} {t tk : TA} {nm : Option Str}
/-- how a call with keywords binds: g puts the positional values us and the keywords' values ws (names ks) in the parameters' order, defaults among them -/
structure KBinds (K : PySem.W.Frag) (fd : FuncData) (ps ks : List Str) (g : List Value → List Value → List Value) (gV : List V → List V → List V) : Prop where
  to : ∀ (s : Shared) (us ws : List Value), K.In s.heap → (g us ws).length = ps.length → BindsTo s fd ⟨us, ks.zip ws⟩ (ps.zip (g us ws))
  rel : ∀ {vs : List V} {us : List Value} {zs : List V} {ws : List Value}, Vals vs us → Vals zs ws → Vals (gV vs zs) (g us ws)
def tCallK (sp : Sp) (gV : List V → List V → List V) (E : XK) (t tk : TA) : TE := fun σ H Q => t σ H fun vs H1 => tk σ H1 fun zs H2 => sp (gV vs zs) H2 Q E
variable {g : List Value → List Value → List Value} {gV : List V → List V → List V}
end
/-! ### a def's body keeps its promise -/
/-- names: the parameters first -/
structure FnScope (N P : List Str) (sc : Scope) : Prop where
  kind : sc.kind = .function
  co : sc.isCoroutine = false
  gen : sc.isGenerator = false
  nd : N.Nodup
  pre : N.take P.length = P
  par : ∀ x ∈ P, sc.names.lookup x = some .local ∨ sc.names.lookup x = some .cell
  nofree : ∀ y ∈ sc.names, y.2 ≠ .free
theorem bindL_out {kindOf : Str → Option NameKind} {x : Str} : ∀ {binds : List (Str × Value)} {m : Str → Option Value}, (∀ v, (x, v) ∉ binds) → bindL kindOf binds m x = m x
  | [], _, _ => rfl
  | (n, v) :: r, m, h => by
    unfold bindL
    rw [bindL_out fun w hw => h w (List.mem_cons_of_mem _ hw)]
    split
    · have : x ≠ n := by rintro rfl; exact h v List.mem_cons_self
      simp [this]
    · rfl
theorem bindC_out {kindOf : Str → Option NameKind} {x : Str} : ∀ {binds : List (Str × Value)} {m : Str → Option Value}, (∀ v, (x, v) ∉ binds) → bindC kindOf binds m x = m x
  | [], _, _ => rfl
  | (n, v) :: r, m, h => by
    unfold bindC
    rw [bindC_out fun w hw => h w (List.mem_cons_of_mem _ hw)]
    split
    · rfl
    · have : x ≠ n := by rintro rfl; exact h v List.mem_cons_self
      simp [this]
theorem bindL_get {kindOf : Str → Option NameKind} {x : Str} {v : Value} : ∀ {P : List Str} {vs : List Value} {i : Nat} {m : Str → Option Value}, P.Nodup → P[i]? = some x → vs[i]? = some v → kindOf x = some .local →
    bindL kindOf (P.zip vs) m x = some v
  | [], _, _, _, _, h, _, _ => by simp at h
  | _ :: _, [], _, _, _, _, h, _ => by simp at h
  | p :: P, w :: vs, 0, m, nd, h1, h2, hk => by
    simp at h1 h2; subst h1; subst h2
    show bindL kindOf ((p, w) :: P.zip vs) m p = _
    unfold bindL
    rw [bindL_out fun v hv => (List.nodup_cons.mp nd).1 (List.of_mem_zip hv).1, if_pos hk]
    simp
  | p :: P, w :: vs, i + 1, m, nd, h1, h2, hk => by
    show bindL kindOf ((p, w) :: P.zip vs) m x = _
    unfold bindL
    exact bindL_get (i := i) (List.nodup_cons.mp nd).2 (by simpa using h1) (by simpa using h2) hk
theorem bindC_get {kindOf : Str → Option NameKind} {x : Str} {v : Value} : ∀ {P : List Str} {vs : List Value} {i : Nat} {m : Str → Option Value}, P.Nodup → P[i]? = some x → vs[i]? = some v → kindOf x ≠ some .local →
    bindC kindOf (P.zip vs) m x = some v
  | [], _, _, _, _, h, _, _ => by simp at h
  | _ :: _, [], _, _, _, _, h, _ => by simp at h
  | p :: P, w :: vs, 0, m, nd, h1, h2, hk => by
    simp at h1 h2; subst h1; subst h2
    show bindC kindOf ((p, w) :: P.zip vs) m p = _
    unfold bindC
    rw [bindC_out fun v hv => (List.nodup_cons.mp nd).1 (List.of_mem_zip hv).1, if_neg hk]
    simp
  | p :: P, w :: vs, i + 1, m, nd, h1, h2, hk => by
    show bindC kindOf ((p, w) :: P.zip vs) m x = _
    unfold bindC
    exact bindC_get (i := i) (List.nodup_cons.mp nd).2 (by simpa using h1) (by simpa using h2) hk
/-- the names' values at the entry -/
def start (N : List Str) (vs : List V) : St := vs.map some ++ List.replicate (N.length - vs.length) none
/-- the context of a def's body, at its entry; an exception leaves the frame, then lies as CX says -/
def cxOf (CX : CXT) (P : Program) (w : World) (K : PySem.W.Frag) (mg : Str → Option Value) (base : Heap) (N : List Str) (qual : Str) (scope : Scope) (f : Addr) (cd : Value) (A : Around) (outer : List Env) (s : Shared) (H : Hp) (E : XK) : Cx where
  prog := P
  w := w
  K := K
  mg := mg
  base := base
  A := A.deeper (envOfC qual scope s.heap.objs.size f cd)
  N := N
  s₀ := s
  H₀ := H
  env := envOfC qual scope s.heap.objs.size f cd
  outer := outer
  stack := envOfC qual scope s.heap.objs.size f cd :: outer
  ex := []
  calm := true
  fn := fun _ => true
  pn := []
  xe := fun e s' => wpAny (model P w) (A.deeper (envOfC qual scope s.heap.objs.size f cd)) (leaving (envOfC qual scope s.heap.objs.size f cd) e) (fun _ s'' => CX outer H s E e s'') (fun e' s'' => CX outer H s E e' s'') s'
theorem cell_has {sc : Scope} {n : Nat} {x : Str} (h : sc.names.lookup x = some .cell) : ∃ c, (cellsFrom n sc.names []).lookup x = some c := by
  have q := PySem.W.cellsFrom_some sc.names n [] (.inl h)
  exact Option.isSome_iff_exists.mp q
theorem inv_start {CX : CXT} {P : Program} {w : World} {K : PySem.W.Frag} {mg : Str → Option Value} {base : Heap} {N ps : List Str} {qual : Str} {scope : Scope} {f : Addr} {cd : Value} {A : Around} {outer : List Env} {s s1 : Shared} {H : Hp} {E : XK} {us : List Value} {vs : List V}
    (S : FnScope N ps scope) (hd : A.handled = none) (e0 : Env0 P w K mg base A outer s H) (hl : vs.length = ps.length) (r : Vals vs us)
    (x : InCallC s s.heap.objs.size (bindL (envOfC qual scope s.heap.objs.size f cd).kindOf (ps.zip us) fun _ => none) (cellsFrom (s.heap.objs.size + 1) scope.names []) (bindC (envOfC qual scope s.heap.objs.size f cd).kindOf (ps.zip us) fun _ => none) s1) :
    Inv (cxOf CX P w K mg base N qual scope f cd A outer s H E) [] (start N vs) H s1 := by
  have hpl : ps.length ≤ N.length := by have := congrArg List.length S.pre; rw [List.length_take] at this; omega
  obtain ⟨h1, tk, rfl, hk⟩ := x.done
  have noA : ∀ b : Addr, b ∉ (cxOf CX P w K mg base N qual scope f cd A outer s H E).ex := fun b z => absurd (show b ∈ ([] : List Addr) from z) (by simp)
  refine ⟨⟨e0.mod, S.kind, rfl, rfl, Nat.le_refl _, fun y z c h1 h2 => ?_, fun y hy => ?_, fun y c _ h => ?_, fun _ => hd, Around.frames_deeper e0.frames, .inr ⟨rfl, rfl⟩, fun b z => absurd z (noA b), e0.bs, e0.bsz, fun b _ _ => noA b, fun b z => absurd z (noA b), e0.funs, e0.frf⟩,
    rfl, e0.bare, Un.kept hk, ⟨_, x.toInCall.ns, fun i y v h1 h2 h3 => ?_⟩, fun y c h => ⟨_, x.cell y c h⟩, e0.hok.fresh (Nat.le_refl _), fun y c h => ?_, fun p hp => absurd (show p ∈ ([] : List (Addr × Obj)) from hp) (by simp), e0.hok.kept hk, ?_⟩
  · exact name_of_addr x.apart (PySem.mem_of_lookup h1) (PySem.mem_of_lookup h2)
  · have hy : scope.names.lookup y = some .cell ∨ scope.names.lookup y = some .free := hy
    rcases hy with hy | hy
    · exact cell_has hy
    · exact absurd rfl (S.nofree _ (PySem.mem_of_lookup hy))
  · exact Nat.le_of_lt (x.above y c (PySem.mem_of_lookup h))
  · have hi : i < vs.length := by
      unfold start at h2
      by_cases hi : i < vs.length
      · exact hi
      · rw [List.getElem?_append_right (by simpa using hi)] at h2
        rw [List.getElem?_replicate] at h2
        split at h2 <;> cases h2
    have ha : vs[i]? = some v := by
      unfold start at h2
      rw [List.getElem?_append_left (by simpa using hi), List.getElem?_map] at h2
      cases e : vs[i]? with
      | none => rw [e] at h2; cases h2
      | some a => rw [e] at h2; cases h2; rfl
    obtain ⟨u, hu, rv⟩ := r.get ha
    have hp : ps[i]? = some y := by
      rw [← S.pre, List.getElem?_take_of_lt (by omega)]; exact h1
    have ndP : ps.Nodup := by rw [← S.pre]; exact S.nd.sublist (List.take_sublist _ _)
    refine ⟨u, rv, ?_⟩
    rcases S.par y (List.mem_of_getElem? hp) with k | k
    · exact .inl ⟨k, bindL_get ndP hp hu k⟩
    · obtain ⟨c, e⟩ := cell_has (n := s.heap.objs.size + 1) k
      refine .inr ⟨.inl k, c, e, ?_⟩
      have q := x.cell y c e
      rw [bindC_get ndP hp hu (by show scope.names.lookup y ≠ _; rw [k]; decide)] at q
      exact q
  · exact e0.hok.fresh (Nat.le_of_lt (x.above y c (PySem.mem_of_lookup h)))
  · unfold start
    show _ = N.length
    rw [List.length_append, List.length_map, List.length_replicate]
    omega
/-- THE RULE: a def (or a method) of the text, by its body. The body's reading t is chosen for each entry; it is run at the parameters' values -/
theorem fn_of {CX : CXT} {P : Program} {w : World} {K : PySem.W.Frag} {mg : Str → Option Value} {base : Heap} {k : Nat} {f : Addr} {name qual : Str} {params : Arguments} {body : List Stmt} {scope : Scope} {dV kV doc pm cdv ct oc : Value} {an od : Option Addr}
    {osl : Array (Option Value)} {N ps : List Str} {sp : Sp} (lk : K.lookup f = some ⟨oc, od, .func (PySem.W.fnOf name qual params body scope dV kV doc pm an cdv ct), osl⟩) (hcd : PySem.W.codeIn K cdv qual = true) (S : FnScope N ps scope)
    (len : ∀ vs H Q E, sp vs H Q E → vs.length = ps.length)
    (hbody : ∀ (A : Around) (outer : List Env) (s : Shared) (H : Hp) (vs : List V) (Q : VK) (E : XK), Room k (A.deeper (envOfC qual scope s.heap.objs.size f cdv)) → sp vs H Q E →
      ∃ t, PSs (cxOf CX P w K mg base N qual scope f cdv A outer s H E) body t ∧ t { nx := fun _ H' => Q .non H', rt := Q } (start N vs) H) :
    FnOk P w K mg base CX (k + 1) f (PySem.W.fnOf name qual params body scope dV kV doc pm an cdv ct) ps sp := by
  refine ⟨len, fun A outer s H args us vs Q E hr e0 hb r hsp => ?_⟩
  have hl := len _ _ _ _ hsp
  have KX : K.In s.heap := e0.mod.kin.keeps fun b o e => (e0.bs b o e).1
  have lim : s.heap.NoLimit := e0.mod.nolimit.keeps fun b o e => (e0.bs b o e).1
  have hkind : ∀ y ∈ ps.zip us, scope.names.lookup y.1 = some .local ∨ (scope.names.lookup y.1 = some .cell ∧ ((cellsFrom (s.heap.objs.size + 1) scope.names []).lookup y.1).isSome = true) := fun ⟨n, v⟩ hy => by
    rcases S.par n (List.of_mem_zip hy).1 with q | q
    · exact .inl q
    · exact .inr ⟨q, PySem.W.cellsFrom_some _ _ _ (.inl q)⟩
  refine codeAny_call_function hr.depth (KX _ _ lk) rfl S.co S.gen rfl (PySem.W.codeRec_of KX hcd) (hb _ _ _ _ ?_)
  refine wpAny_newFunctionEnv_cells S.kind hkind fun env he s1 x => ?_
  subst he
  refine ⟨lim.keeps x.toInCall.keep, codeAny_func ?_⟩
  obtain ⟨t, ht, hq⟩ := hbody A outer s H vs Q E (hr.deeper _) hsp
  have I : Inv (cxOf CX P w K mg base N qual scope f cdv A outer s H E) [] (start N vs) H s1 := inv_start S hr.hd e0 hl r x
  refine wpAny_mono (ht [] s1 (start N vs) H _ I hq) (fun fl s' hs => ?_) fun e s' hs => hs
  have fin : ∀ {σ' : St} {H' : Hp} {v : V} {u : Value}, Inv (cxOf CX P w K mg base N qual scope f cdv A outer s H E) [] σ' H' s' → RelV v u → Q v H' → CE outer P w H s Q u s' :=
    fun {σ' H' v u} J rv q => ⟨v, H', J.os, J.bare, J.base, J.hok, rv, q⟩
  cases fl with
  | ret u =>
    obtain ⟨v, σ', H', J, rv, q⟩ := hs
    exact fin J rv q
  | next =>
    obtain ⟨σ', H', J, q⟩ := hs
    exact fin (v := V.non) (u := Value.none) J rfl q
  | brk =>
    obtain ⟨_, _, _, q⟩ := hs
    exact False.elim q
  | cont =>
    obtain ⟨_, _, _, q⟩ := hs
    exact False.elim q
end L2
namespace L2
open PySem PySem.Spec PyProof.Rows
section
variable {X : Cx} {x : Str} {p pos : Pos} {e : Expr} {es : List Expr} {t : TA} {id T : String} {r : List V → Hp → VK → Prop}
def tCB (r : List V → Hp → VK → Prop) (t : TA) : TE := fun σ H Q => t σ H fun vs H1 => r vs H1 Q
/-- f(e, ..), f a built-in function -/
theorem pe_callB (hc : CallR X (.builtin id) r) (hg : Gl X x) (hm : X.mg x = none) (hv : bootBuiltins x = some (.builtin id)) (ha : PA X (e :: es) t) (hn : x ≠ "__name__" := by decide) (hdb : (x == ("__debug__" : Str)) = false := by decide)
    (he : starEach (e :: es) X.env = (false, eval e X.env) :: starEach es X.env := by rfl) (hpl : (backTo pos (starEach es X.env)).any (·.1) = false := by rfl) : PE X (.Call (.Name x p) (e :: es) [] pos) (tCB r t) := by
  intro pins s σ H Q I h
  refine wpAny_Call_Name_kw (ld_blt I hg hm hv ?_ hn hdb)
  exact PyProof.Rows.callWith_builtin1 (thn (ha pos pins s σ H _ I h) fun us s1 ⟨vs, H1, I1, r1, q1⟩ => hc pins s1 σ H1 vs us Q I1 r1 q1) he hpl
/-- T(e, ..), T a built-in type -/
theorem pe_callTy (hc : CallR X (.type T) r) (hg : Gl X x) (hm : X.mg x = none) (hv : bootBuiltins x = some (.type T)) (ha : PA X (e :: es) t) (hn : x ≠ "__name__" := by decide) (hdb : (x == ("__debug__" : Str)) = false := by decide)
    (he : starEach (e :: es) X.env = (false, eval e X.env) :: starEach es X.env := by rfl) (hpl : (backTo pos (starEach es X.env)).any (·.1) = false := by rfl) : PE X (.Call (.Name x p) (e :: es) [] pos) (tCB r t) := by
  intro pins s σ H Q I h
  refine wpAny_Call_Name_kw (ld_blt I hg hm hv ?_ hn hdb)
  exact PyProof.Rows.callWith_type1 (thn (ha pos pins s σ H _ I h) fun us s1 ⟨vs, H1, I1, r1, q1⟩ => hc pins s1 σ H1 vs us Q I1 r1 q1) he hpl
end
end L2
namespace HT
open PySem PyProof.Rows
/-- t < u of tuples of ints -/
def lexLt : List Int → List Int → Bool
  | [], [] => false
  | [], _ :: _ => true
  | _ :: _, [] => false
  | x :: xs, y :: ys => if x = y then lexLt xs ys else decide (x < y)
section
open PySem.SeqAt
open PySem.AutoSeq1 (wpAny_loadPart')
open PySem.MeetsSeq PySem.MeetsSeq2 PySem.MeetsSeq3
end
section
variable {prog : Program} {w : World} {A : Around} {E : Value → Shared → Prop} {s : Shared}
/-- t + u, t not empty -/
theorem cat_tup {t b : Addr} {vs ws : List Value} {Q : Value → Shared → Prop} (ht : IsTup s.heap t vs.toArray) (hb : IsTup s.heap b ws.toArray) (hv : vs ≠ [])
    (h1 : ws = [] → Q (.ref t) s) (h2 : ws ≠ [] → Q (.ref s.heap.objs.size) { s with heap := s.heap.push { cls := .type "tuple", data := .seq (vs ++ ws).toArray } })
    (hsz : vs.length + ws.length ≤ sizeLine) : wpAny (model prog w) A (binaryOp .Add (.ref t) (.ref b)) Q E s := by
  obtain ⟨⟨cls, dd, data, sl⟩, ho, hc, n, hd⟩ := id ht
  obtain ⟨⟨cls2, dd2, data2, sl2⟩, ho2, hc2, n2, hd2⟩ := id hb
  simp only at hc hd hc2 hd2
  subst hc hd hc2 hd2
  have e : vs.toArray ++ ws.toArray = (vs ++ ws).toArray := by simp
  by_cases hw : ws = []
  · exact concat_meets ⟨_, ho, rfl⟩ ⟨_, ho2, rfl⟩ noFill_tuple_add seq_tuple_add PySem.F.slot_tuple_add PySem.F.entry_tuple_add (PySem.F.args_tuple_add_2 _ _)
      (tuple_addW1 t b vs.toArray ws.toArray n n2 dd dd2 sl sl2 (by simpa using hv) (by simp [hw])) ⟨ho, ho2, h1 hw⟩
  · refine concat_meets ⟨_, ho, rfl⟩ ⟨_, ho2, rfl⟩ noFill_tuple_add seq_tuple_add PySem.F.slot_tuple_add PySem.F.entry_tuple_add (PySem.F.args_tuple_add_2 _ _)
      (tuple_addW2 t b vs.toArray ws.toArray n n2 dd dd2 sl sl2 (by simpa using hv) (by simpa using hw) (by rw [List.size_toArray, List.size_toArray]; exact hsz)) ⟨ho, ho2, ?_⟩
    rw [e]
    exact h2 hw
/-! ### t[a:b], not the whole -/
/-- a slice's bound as a place among n (d where it is left out) -/
def sIx (n d : Nat) : Option Int → Nat
  | none => d
  | some v => if v < 0 then (v + (n : Int)).toNat else min v.toNat n
theorem sIx_le (n d : Nat) (hd : d ≤ n) (o : Option Int) : sIx n d o ≤ n := by
  cases o with
  | none => exact hd
  | some v =>
    show (if v < 0 then (v + (n : Int)).toNat else min v.toNat n) ≤ n
    by_cases hv : v < 0
    · rw [if_pos hv]; omega
    · rw [if_neg hv]; exact Nat.min_le_right _ _
theorem clip_eq (v : Int) (n d : Nat) : (if v < 0 then max (v + (n : Int)) 0 else min v (n : Int)) = ((sIx n d (some v) : Nat) : Int) := by
  show (if v < 0 then max (v + (n : Int)) 0 else min v (n : Int)) = (((if v < 0 then (v + (n : Int)).toNat else min v.toNat n) : Nat) : Int)
  by_cases hv : v < 0
  · simp only [if_pos hv]; omega
  · simp only [if_neg hv]; omega
theorem adjust_gen (lo hi : Option Int) (n : Nat) : Builtin.Slice.sliceAdjust lo hi 1 (n : Int) = (((sIx n 0 lo : Nat) : Int), ((sIx n n hi : Nat) : Int)) := by
  have h1 : ¬ ((1 : Int) < 0) := by omega
  unfold Builtin.Slice.sliceAdjust
  simp only [h1, if_false]
  refine Prod.ext ?_ ?_
  · cases lo with
    | none => rfl
    | some v => exact clip_eq v n 0
  · cases hi with
    | none => rfl
    | some v => exact clip_eq v n n
theorem places_gen (i j : Nat) : Builtin.Slice.slicePlaces (i : Int) (j : Int) 1 = j - i := by
  unfold Builtin.Slice.slicePlaces
  have h1 : (1 : Int) > 0 := by omega
  simp only [h1, if_true, Int.ediv_one]
  split <;> omega
theorem slicePart_ {v : Value} {o : Option Int} {Q : Option Int → Shared → Prop} (p : IsPart v o) (h : Q o s) : wpAny (model prog w) A (Builtin.Slice.slicePartIndex v) Q E s := by
  cases p with
  | none => exact slicePart_none h
  | int i t => exact slicePart_int h
theorem sliceApplied_gen {sl : Addr} {vl vu : Value} {lo hi : Option Int} {n : Nat} {Q : Int × Int × Nat → Shared → Prop} (hs : s.heap.IsSliceOf sl vl vu .none) (pl : IsPart vl lo) (pu : IsPart vu hi)
    (h : Q (((sIx n 0 lo : Nat) : Int), 1, sIx n n hi - sIx n 0 lo) s) : wpAny (model prog w) A (Builtin.Slice.sliceApplied (.ref sl) (pure (n : Int))) Q E s := by
  obtain ⟨os, hos, hcs, hds⟩ := id hs
  unfold Builtin.Slice.sliceApplied Builtin.Slice.sliceFields
  refine wpAny_bind (wpAny_bind (wpAny_field hos hds (x := vl) rfl (wpAny_bind (wpAny_field hos hds (x := vu) rfl (wpAny_bind (wpAny_field hos hds (x := .none) rfl (wpAny_pure ?_)))))))
  refine wpAny_bind (slicePart_none ?_)
  show wpAny _ _ (if ((1 : Int) == 0) = true then _ else _) _ _ s
  rw [if_neg (by decide)]
  refine wpAny_bind (slicePart_ pl (wpAny_bind (slicePart_ pu (wpAny_bind (wpAny_pure ?_)))))
  show wpAny _ _ (match Builtin.Slice.sliceAdjust lo hi 1 (n : Int) with | (lo, hi) => pure (lo, (1 : Int), Builtin.Slice.slicePlaces lo hi 1)) _ _ s
  rw [adjust_gen lo hi n]
  show wpAny _ _ (pure (((sIx n 0 lo : Nat) : Int), (1 : Int), Builtin.Slice.slicePlaces ((sIx n 0 lo : Nat) : Int) ((sIx n n hi : Nat) : Int) 1)) _ _ s
  rw [places_gen]
  exact wpAny_pure h
theorem pick_gen (xs : Array Value) (i k : Nat) : ((List.range k).filterMap fun (m : Nat) => xs[((i : Int) + (m : Int) * 1).toNat]?).toArray = ((xs.toList.drop i).take k).toArray := by
  have e : (fun (m : Nat) => xs[((i : Int) + (m : Int) * 1).toNat]?) = fun m => xs[i + m]? := by
    funext m
    have : ((i : Int) + (m : Int) * 1).toNat = i + m := by omega
    rw [this]
  rw [e]
  have := pick_run xs i k
  rw [List.filterMap_map] at this
  have e2 : ((fun x => xs[x]?) ∘ fun x => i + x) = fun m => xs[i + m]? := rfl
  rw [e2] at this
  rw [this]
theorem getItem_tuple_cut {t sl : Addr} {items : Array Value} {vl vu : Value} {lo hi : Option Int} {Q : Value → Shared → Prop} (ht : IsTup s.heap t items) (hs : s.heap.IsSliceOf sl vl vu .none) (pl : IsPart vl lo) (pu : IsPart vu hi)
    (hw : ¬ (sIx items.size 0 lo = 0 ∧ sIx items.size items.size hi = items.size))
    (h : Q (.ref s.heap.objs.size) { s with heap := s.heap.push { cls := .type "tuple", data := .seq ((items.toList.drop (sIx items.size 0 lo)).take (sIx items.size items.size hi - sIx items.size 0 lo)).toArray } })
    (hsz : items.size ≤ sizeLine) : wpAny (model prog w) A (getItem (.ref t) (.ref sl)) Q E s := by
  have htake : sizeOk (.seq ((items.toList.drop (sIx items.size 0 lo)).take (sIx items.size items.size hi - sIx items.size 0 lo)).toArray) := by
    show ((items.toList.drop (sIx items.size 0 lo)).take (sIx items.size items.size hi - sIx items.size 0 lo)).toArray.size ≤ sizeLine
    rw [List.size_toArray, List.length_take, List.length_drop, Array.length_toList]
    omega
  have hj : sIx items.size items.size hi ≤ items.size := sIx_le _ _ (Nat.le_refl _) hi
  obtain ⟨os, hos, hcs, hds⟩ := id hs
  have hTs : s.TypeIs (.ref sl) "slice" := ⟨os, hos, hcs⟩
  unfold getItem
  try with_reducible refine wpAny_holding ?_
  first | refine wpAny_bind (wpAny_pure ?_) | skip
  refine wpAny_bind (wpAny_sequenceKey ht.typeIs (by decide) ?_)
  refine wpAny_bind (wpAny_callSpecial?_slot (name := Str.ofString "__getitem__") ht.typeIs PyProof.Rows.slot_tuple_getitem
    (wpAny_call_entry PyProof.Rows.slot_tuple_getitem ht.typeIs entry_tuple_getitem ?_ (args_tuple_getitem _ _)))
  show wpAny _ _ (Builtin.Tuple.tupleItemsOf (.ref t) >>= _) _ _ s
  refine wpAny_bind (tupleItemsOf_ ht ?_)
  refine wpAny_bind (wpAny_typeOf hTs ?_)
  rw [if_pos (by decide)]
  refine wpAny_bind (sliceApplied_gen hs pl pu ?_)
  have hno : ¬ ((((sIx items.size 0 lo : Nat) : Int) == 0 && (1 : Int) == 1 && (sIx items.size items.size hi - sIx items.size 0 lo) == items.size) = true) := by
    intro q
    rw [Bool.and_eq_true, Bool.and_eq_true] at q
    have q1 : ((sIx items.size 0 lo : Nat) : Int) = 0 := eq_of_beq q.1.1
    have q2 : sIx items.size items.size hi - sIx items.size 0 lo = items.size := eq_of_beq q.2
    exact hw ⟨by omega, by omega⟩
  show wpAny _ _ (if (((sIx items.size 0 lo : Nat) : Int) == 0 && (1 : Int) == 1 && (sIx items.size items.size hi - sIx items.size 0 lo) == items.size) = true then _ else _) _ _ s
  rw [if_neg hno, pick_gen]
  first
    | exact wpAny_bind (m := Builtin.Tuple.tupleExact _) (wpAny_newObj_type (wpAny_pure ⟨_, rfl, wpAny_pure h⟩) htake)
    | exact wpAny_bind (m := Builtin.Tuple.tupleExact _) (wpAny_newObj_type (wpAny_bind (wpAny_pure (wpAny_pure ⟨_, rfl, wpAny_pure h⟩))) htake)
    | exact wpAny_bind (wpAny_bind (m := Builtin.Tuple.tupleExact _) (wpAny_newObj_type (wpAny_pure (wpAny_pure ⟨_, rfl, wpAny_pure h⟩)) htake))
    | exact wpAny_bind (wpAny_bind (m := Builtin.Tuple.tupleExact _) (wpAny_newObj_type (wpAny_pure ⟨_, rfl, wpAny_pure h⟩) htake))
end
end HT
namespace L2
open PySem PySem.Spec PyProof.Rows
/-! ### the parts of a slice -/
abbrev TO := St → Hp → (Option Int → Hp → Prop) → Prop
/-- a slice's part (left out, or an int) -/
def PO (X : Cx) (e : Option Expr) (t : TO) : Prop :=
  ∀ (pins : List (Addr × Obj)) (s : Shared) (σ : St) (H : Hp) (Q : Option Int → Hp → Prop), Inv X pins σ H s → t σ H Q →
    wpAny (model X.prog X.w) X.A (evalPart e X.env) (fun u s' => ∃ o H', Inv X pins σ H' s' ∧ IsPart u o ∧ Q o H') X.xe s
def tNoPart : TO := fun _ H Q => Q none H
def tPart (t : TE) : TO := fun σ H Q => t σ H fun x H1 => ∃ i, x = .int i ∧ Q (some i) H1
section
variable {X : Cx} {e : Expr} {te : TE} {lo hi : Option Expr} {tl th : TO} {pos p2 : Pos}
theorem po_none : PO X none tNoPart := by
  intro pins s σ H Q I h
  rw [evalPart_none]
  exact wpAny_pure ⟨none, H, I, .none, h⟩
theorem po_some (h : PE X e te) : PO X (some e) (tPart te) := by
  intro pins s σ H Q I hw
  rw [evalPart_some]
  refine thn (h pins s σ H _ I hw) fun u s1 ⟨x, H1, I1, r1, q1⟩ => ?_
  obtain ⟨i, rfl, q⟩ := q1
  obtain ⟨t, rfl⟩ := r1
  exact ⟨some i, H1, I1, .int i t, q⟩
/-- what a slice of a value is, by values: the slice object stands at sl -/
def SlR (X : Cx) (r : V → Option Int → Option Int → Hp → VK → Prop) : Prop :=
  ∀ (pins : List (Addr × Obj)) (s : Shared) (σ : St) (H : Hp) (x : V) (v vl vu : Value) (lo hi : Option Int) (sl : Addr) (Q : VK), Inv X pins σ H s → RelV x v → s.heap.IsSliceOf sl vl vu .none → IsPart vl lo → IsPart vu hi → r x lo hi H Q →
    ∃ T id, typeLookup (.type T) "__getitem__" = pure (some (.builtin id)) ∧ s.TypeIs v T ∧ wpAny (model X.prog X.w) X.A (getItem v (.ref sl)) (EP X pins σ Q) X.xe s
theorem SlR.or {r r' : V → Option Int → Option Int → Hp → VK → Prop} (h : SlR X r) (h' : SlR X r') : SlR X (fun x lo hi H Q => r x lo hi H Q ∨ r' x lo hi H Q) := by
  intro pins s σ H x v vl vu lo hi sl Q I rx hs pl pu q
  rcases q with q | q
  · exact h pins s σ H x v vl vu lo hi sl Q I rx hs pl pu q
  · exact h' pins s σ H x v vl vu lo hi sl Q I rx hs pl pu q
def tSl (r : V → Option Int → Option Int → Hp → VK → Prop) (te : TE) (tl th : TO) : TE := fun σ H Q => te σ H fun x H1 => tl σ H1 fun l H2 => th σ H2 fun u H3 => r x l u H3 Q
/-- a[lo:hi], any a -/
theorem pe_slice {r : V → Option Int → Option Int → Hp → VK → Prop} (hr : SlR X r) (he : PE X e te) (hl : PO X lo tl) (hu : PO X hi th) : PE X (.Subscript e (.Slice lo hi none p2) pos) (tSl r te tl th) := by
  intro pins s σ H Q I h
  refine Subscript_ (thn (he pins s σ H _ I h) fun v s1 ⟨x, H1, I1, r1, q1⟩ => ?_)
  refine wpAny_Slice (thn (hl pins s1 σ H1 _ I1 q1) fun vl s2 ⟨l, H2, I2, pl, q2⟩ => thn (hu pins s2 σ H2 _ I2 q2) fun vu s3 ⟨u, H3, I3, pu, q3⟩ => ?_)
  rw [evalPart_none]
  refine wpAny_pure ?_
  have I4 : Inv X pins σ H3 { s3 with heap := s3.heap.push { cls := .type "slice", data := .fields #[vl, vu, .none] } } := I3.kept (t' := s3.toks) fun b ob q => Heap.get?_push_of_some _ q
  obtain ⟨T, id, hT, ht, hg⟩ := hr pins { s3 with heap := s3.heap.push { cls := .type "slice", data := .fields #[vl, vu, .none] } } σ H3 x v vl vu l u s3.heap.objs.size Q I4 r1 (Heap.IsSliceOf.new ..) pl pu q3
  show wpAny (model X.prog X.w) X.A (subscriptTail e (.Slice lo hi none p2) v (.ref s3.heap.objs.size)) (EP X pins σ Q) X.xe { s3 with heap := s3.heap.push { cls := .type "slice", data := .fields #[vl, vu, .none] } }
  exact tail_any (ops := [.ref s3.heap.objs.size, v]) ht hT hg (by with_unfolding_all rfl)
/-- the items of xs[lo:hi] -/
def cutV (xs : List V) (lo hi : Option Int) : List V := (xs.drop (HT.sIx xs.length 0 lo)).take (HT.sIx xs.length xs.length hi - HT.sIx xs.length 0 lo)
theorem cutV_length (xs : List V) (lo hi : Option Int) : (cutV xs lo hi).length ≤ xs.length := by
  unfold cutV
  rw [List.length_take, List.length_drop]
  omega
/-- t[lo:hi], not the whole of it (the whole would be t itself) -/
def rSlT (K : PySem.W.Frag) : V → Option Int → Option Int → Hp → VK → Prop := fun x lo hi H Q => ∃ a xs, x = .ref a ∧ SqT K H a xs ∧
  ¬ (HT.sIx xs.length 0 lo = 0 ∧ HT.sIx xs.length xs.length hi = xs.length) ∧ ∀ p, H p = none → Q (.ref p) (upd H p (.tup (cutV xs lo hi)))
theorem sl_tup : SlR X (rSlT X.K) := by
  intro pins s σ H x v vl vu lo hi sl Q I rx hs pl pu h
  obtain ⟨a, xs, rfl, hx, hw, q⟩ := h
  cases rx
  obtain ⟨its, r, ht, hz⟩ := I.tuple hx
  have hlen : its.toArray.size = xs.length := by rw [List.size_toArray]; exact r.length.symm
  refine ⟨"tuple", _, PyProof.Rows.slot_tuple_getitem.lookup, ht.typeIs, ?_⟩
  refine HT.getItem_tuple_cut ht hs pl pu (by rw [hlen]; exact hw) ?_ (by rw [hlen]; exact hz)
  rw [hlen]
  refine ⟨.ref s.heap.objs.size, _, I.laid (t' := s.toks) (o := .tup (cutV xs lo hi)) (fun b ob q => Heap.get?_push_of_some _ q) (Nat.le_refl _) ?_, rfl, q _ (I.hok.fresh (Nat.le_refl _))⟩
  exact ⟨Nat.le_trans (cutV_length xs lo hi) hz, _, (r.drop (HT.sIx xs.length 0 lo)).take (HT.sIx xs.length xs.length hi - HT.sIx xs.length 0 lo), IsTup.new _ _⟩
/-! ### t < u, t + u -/
def rLtT (K : PySem.W.Frag) : R2 := fun x y H Q => ∃ a b ns ms, x = .ref a ∧ y = .ref b ∧ SqT K H a (ns.map V.int) ∧ SqT K H b (ms.map V.int) ∧ Q (.bl (HT.lexLt ns ms)) H
/-- t + u, t not empty: u empty gives t itself -/
def rCatT (K : PySem.W.Frag) : R2 := fun x y H Q => ∃ a b xs ys, x = .ref a ∧ y = .ref b ∧ SqT K H a xs ∧ SqT K H b ys ∧ xs ≠ [] ∧ xs.length + ys.length ≤ sizeLine ∧
  (ys = [] → Q (.ref a) H) ∧ (ys ≠ [] → ∀ p, H p = none → Q (.ref p) (upd H p (.tup (xs ++ ys))))
theorem Vals.nil_iff {xs : List V} {us : List Value} (r : Vals xs us) : us = [] ↔ xs = [] := by
  cases r with
  | nil => simp
  | cons _ _ => simp
theorem op_catT : OpR X (binaryOp .Add) (rCatT X.K) := by
  intro pins s σ H x y v u Q I rx ry h
  obtain ⟨a, b, xs, ys, rfl, rfl, ha, hb, hx, hz, q1, q2⟩ := h
  cases rx
  cases ry
  obtain ⟨its, r1, p1, _⟩ := I.tuple ha
  obtain ⟨its2, r2, p2, _⟩ := I.tuple hb
  refine HT.cat_tup p1 p2 (fun z => hx (r1.nil_iff.mp z)) (fun z => ⟨.ref a, H, I, rfl, q1 (r2.nil_iff.mp z)⟩) (fun z => ?_) (by rw [← r1.length, ← r2.length]; exact hz)
  refine ⟨.ref s.heap.objs.size, _, I.laid (t' := s.toks) (o := .tup (xs ++ ys)) (fun b ob q => Heap.get?_push_of_some _ q) (Nat.le_refl _) ?_, rfl, q2 (fun w => z (r2.nil_iff.mpr w)) _ (I.hok.fresh (Nat.le_refl _))⟩
  exact ⟨by rw [List.length_append]; exact hz, _, r1.append r2, IsTup.new _ _⟩
end
end L2
namespace L2
open PySem PySem.Spec PyProof.Rows
/-! ### places -/
/-- the place that an index of any sign means -/
def ixN (n : Nat) (i : Int) : Option Nat := if 0 ≤ i then (if i < n then some i.toNat else none) else if -(n : Int) ≤ i then some (i + n).toNat else none
def atI {α : Type} (xs : List α) (i : Int) : Option α := (ixN xs.length i).bind fun j => xs[j]?
theorem ixN_seq {n : Nat} {i : Int} {j : Nat} (h : ixN n i = some j) : seqIndex? i n = some j ∧ j < n ∧ -(n : Int) ≤ i ∧ i < n := by
  unfold ixN at h
  by_cases h0 : 0 ≤ i
  · rw [if_pos h0] at h
    by_cases h1 : i < n
    · rw [if_pos h1] at h
      have e : i.toNat = j := Option.some.inj h
      exact ⟨by rw [seqIndex_of h0 h1, e], by omega, by omega, h1⟩
    · rw [if_neg h1] at h; cases h
  · rw [if_neg h0] at h
    by_cases h1 : -(n : Int) ≤ i
    · rw [if_pos h1] at h
      have e : (i + n).toNat = j := Option.some.inj h
      exact ⟨by rw [seqIndex_neg (by omega) h1, e], by omega, h1, by omega⟩
    · rw [if_neg h1] at h; cases h
theorem atI_get {α : Type} {xs : List α} {i : Int} {v : α} (h : atI xs i = some v) : ∃ j, seqIndex? i xs.length = some j ∧ xs[j]? = some v ∧ j < xs.length ∧ -(xs.length : Int) ≤ i ∧ i < xs.length := by
  unfold atI at h
  cases e : ixN xs.length i with
  | none => rw [e] at h; cases h
  | some j =>
    rw [e] at h
    obtain ⟨h1, h2, h3, h4⟩ := ixN_seq e
    exact ⟨j, h1, h, h2, h3, h4⟩
theorem atI_nat {α : Type} {xs : List α} {j : Nat} {v : α} (h : xs[j]? = some v) : atI xs (j : Int) = some v := by
  have hj : j < xs.length := (List.getElem?_eq_some_iff.mp h).1
  have e : ixN xs.length (j : Int) = some j := by
    unfold ixN
    rw [if_pos (by omega), if_pos (by omega)]; simp
  unfold atI; rw [e]; exact h
/-! ### what may be subscripted -/
/-- what stands as an index of a plain subscript -/
def PlainIx (b : Expr) : Prop := ∀ o i, subscripted b false o i = operate [o, i] (getItem o i)
/-- a subscript by values -/
def IxR (X : Cx) (r : R2) : Prop :=
  ∀ (value slice : Expr) (pins : List (Addr × Obj)) (s : Shared) (σ : St) (H : Hp) (x y : V) (v u : Value) (Q : VK), Inv X pins σ H s → RelV x v → RelV y u → r x y H Q →
    subscripted slice false v u = operate [v, u] (getItem v u) → wpAny (model X.prog X.w) X.A (subscriptTail value slice v u) (EP X pins σ Q) X.xe s
/-- a call of a builtin's method by values: the receiver, the arguments -/
def MtR (X : Cx) (id : String) (r : V → List V → Hp → VK → Prop) : Prop :=
  ∀ (pins : List (Addr × Obj)) (s : Shared) (σ : St) (H : Hp) (x : V) (xs : List V) (v : Value) (us : List Value) (Q : VK), Inv X pins σ H s → RelV x v → Vals xs us → r x xs H Q →
    wpAny (model X.prog X.w) X.A (call (.builtin id) (v :: us)) (EP X pins σ Q) X.xe s
section
variable {X : Cx} {a b : Expr} {ta tb : TE} {pos : Pos}
theorem IxR.or {r r' : R2} (h : IxR X r) (h' : IxR X r') : IxR X (fun x y H Q => r x y H Q ∨ r' x y H Q) := by
  intro value slice pins s σ H x y v u Q I rx ry q hs
  rcases q with q | q
  · exact h value slice pins s σ H x y v u Q I rx ry q hs
  · exact h' value slice pins s σ H x y v u Q I rx ry q hs
/-- a[b] -/
theorem pe_ix {r : R2} (hr : IxR X r) (ha : PE X a ta) (hb : PE X b tb) (hs : PlainIx b) : PE X (.Subscript a b pos) (tOp r ta tb) := by
  intro pins s σ H Q I h
  exact Subscript_ (binT ha hb I h fun v u s2 x y H2 I2 rx ry q => hr a b pins s2 σ H2 x y v u Q I2 rx ry q (hs _ _))
def rIxL (K : PySem.W.Frag) : R2 := fun x y H Q => ∃ p xs i v, x = .ref p ∧ y = .int i ∧ SqL K H p xs ∧ atI xs i = some v ∧ Q v H
def rIxT (K : PySem.W.Frag) : R2 := fun x y H Q => ∃ p xs i v, x = .ref p ∧ y = .int i ∧ SqT K H p xs ∧ atI xs i = some v ∧ Q v H
def rIxS : R2 := fun x y H Q => ∃ z i c, x = .str z ∧ y = .int i ∧ z.length ≤ sizeLine ∧ atI z.cps.toList i = some c ∧ Q (.str ⟨#[c]⟩) H
theorem ix_list : IxR X (rIxL X.K) := by
  intro value slice pins s σ H x y v u Q I rx ry h hs
  obtain ⟨p, xs, i, z, rfl, rfl, hq, he, q⟩ := h
  cases rx
  obtain ⟨t, rfl⟩ := ry
  obtain ⟨its, r, pl, hz⟩ := I.list hq
  obtain ⟨j, h1, h2, h3, h4, h5⟩ := atI_get he
  obtain ⟨w, ew, rw'⟩ := r.get h2
  have hl := r.length
  have hn := line63
  have fin : EP X pins σ Q w s := ⟨z, H, I, rw', q⟩
  by_cases h0 : 0 ≤ i
  · have hj : i.toNat = j := by
      rw [seqIndex_of h0 h5] at h1
      exact Option.some.inj h1
    exact item_listR pl.isList h0 (by omega) (by rw [hj]; simpa using ew) fin hs
  · have hj : (i + (its.toArray.size : Int)).toNat = j := by
      rw [seqIndex_neg (by omega) h4] at h1
      rw [List.size_toArray, ← hl]
      exact Option.some.inj h1
    exact subscriptTail_builtinR (x := w) pl.isList.typeIs slot_list_getitem.lookup
      (wpAny_getItem_list_neg (Q := fun r s' => r = w ∧ EP X pins σ Q r s') pl.isList (by omega) (by rw [List.size_toArray] <;> omega) (by omega) (by rw [hj]; simpa using ew) ⟨rfl, fin⟩) hs
theorem ix_tup : IxR X (rIxT X.K) := by
  intro value slice pins s σ H x y v u Q I rx ry h hs
  obtain ⟨p, xs, i, z, rfl, rfl, hq, he, q⟩ := h
  cases rx
  obtain ⟨t, rfl⟩ := ry
  obtain ⟨its, r, pl, hz⟩ := I.tuple hq
  obtain ⟨j, h1, h2, h3, h4, h5⟩ := atI_get he
  obtain ⟨w, ew, rw'⟩ := r.get h2
  have hl := r.length
  have hn := line63
  have fin : EP X pins σ Q w s := ⟨z, H, I, rw', q⟩
  exact subscriptTail_builtinR (x := w) pl.typeIs slot_tuple_getitem.lookup
    (getItem_tuple (j := j) (Q := fun r s' => r = w ∧ EP X pins σ Q r s') pl (by omega) (by omega) (by rw [List.size_toArray, ← hl]; exact h1) (by simpa using ew) ⟨rfl, fin⟩) hs
theorem ix_str : IxR X rIxS := by
  intro value slice pins s σ H x y v u Q I rx ry h hs
  obtain ⟨z, i, c, rfl, rfl, hz, he, q⟩ := h
  obtain ⟨t, rfl⟩ := rx
  obtain ⟨t', rfl⟩ := ry
  obtain ⟨j, h1, h2, h3, h4, h5⟩ := atI_get he
  have hl : z.cps.toList.length = z.length := by simp [Str.length]
  rw [hl] at h1 h4 h5
  have hn := line63
  exact tail_any (typeIs_str s z t) slot_str_getitem.lookup (getItem_str (c := c) (by
    have e1 : decide (i < -(2 ^ 63 : Int)) = false := decide_eq_false (by omega)
    have e2 : decide (i ≥ 2 ^ 63) = false := decide_eq_false (by omega)
    rw [e1, e2, Bool.or_false]) (by rw [h1]; simpa using h2) ⟨.str ⟨#[c]⟩, H, I.tok _, ⟨_, rfl⟩, q⟩) hs
/-- list, tuple or str -/
def rIx (K : PySem.W.Frag) : R2 := fun x y H Q => rIxL K x y H Q ∨ rIxT K x y H Q ∨ rIxS x y H Q
theorem ix_seq : IxR X (rIx X.K) := ix_list.or (ix_tup.or ix_str)
/-! ### xs[i] = v, any sign -/
def rSetL : V → V → V → Hp → (Hp → Prop) → Prop := fun o i v H Q => ∃ p xs k j, o = .ref p ∧ i = .int k ∧ H p = some (.lst xs) ∧ ixN xs.length k = some j ∧ Q (upd H p (.lst (xs.set j v)))
/-! ### slices -/
theorem slice_bounds (lo hi : Option Int) (n : Nat) : (sliceBounds lo hi none n).1 = ((HT.sIx n 0 lo : Nat) : Int) ∧ (sliceBounds lo hi none n).2.1 = ((HT.sIx n n hi : Nat) : Int) ∧ (sliceBounds lo hi none n).2.2 = 1 := by
  refine ⟨?_, ?_, rfl⟩
  · cases lo with
    | none => simp [sliceBounds, HT.sIx]
    | some i =>
      simp only [sliceBounds, HT.sIx, Option.getD_none, show (1 : Int) > 0 by decide, if_true]
      by_cases h : i < 0
      · simp only [h, if_true] <;> omega
      · simp only [h, if_false] <;> omega
  · cases hi with
    | none => simp [sliceBounds, HT.sIx]
    | some i =>
      simp only [sliceBounds, HT.sIx, Option.getD_none, show (1 : Int) > 0 by decide, if_true]
      by_cases h : i < 0
      · simp only [h, if_true] <;> omega
      · simp only [h, if_false] <;> omega
theorem slicePick_cut (its : List Value) (lo hi : Option Int) : slicePick its.toArray lo hi none = ((its.drop (HT.sIx its.length 0 lo)).take (HT.sIx its.length its.length hi - HT.sIx its.length 0 lo)).toArray := by
  obtain ⟨h1, h2, h3⟩ := slice_bounds lo hi its.toArray.size
  unfold slicePick
  rw [h1, h2, h3]
  simp only [sliceRange_one, pick_run, List.size_toArray] <;> rfl
/-- xs[lo:hi] of a list: a new list -/
def rSlL (K : PySem.W.Frag) : V → Option Int → Option Int → Hp → VK → Prop := fun x lo hi H Q => ∃ a xs, x = .ref a ∧ SqL K H a xs ∧ ∀ p, H p = none → Q (.ref p) (upd H p (.lst (cutV xs lo hi)))
theorem sl_list : SlR X (rSlL X.K) := by
  intro pins s σ H x v vl vu lo hi sl Q I rx hs pl pu h
  obtain ⟨a, xs, rfl, hx, q⟩ := h
  cases rx
  obtain ⟨its, r, ht, hz⟩ := I.list hx
  have hlen := r.length
  refine ⟨"list", _, slot_list_getitem.lookup, ht.isList.typeIs, ?_⟩
  refine wpAny_getItem_list_slice ht.isList hs pl pu .none (by simp) ?_ (by rw [List.size_toArray] <;> omega)
  rw [slicePick_cut, ← hlen]
  refine ⟨.ref s.heap.objs.size, _, I.laid (t' := s.toks) (o := .lst (cutV xs lo hi)) (fun b ob q => Heap.get?_push_of_some _ q) (Nat.le_refl _) ?_, rfl, q _ (I.hok.fresh (Nat.le_refl _))⟩
  exact ⟨Nat.le_trans (cutV_length xs lo hi) hz, _, 0, (r.drop (HT.sIx xs.length 0 lo)).take (HT.sIx xs.length xs.length hi - HT.sIx xs.length 0 lo), Heap.get?_push_size _ rfl⟩
/-! ### in, not in: flat items -/
def flatV : V → Bool
  | .non => true
  | .bl _ => true
  | .int _ => true
  | .str _ => true
  | _ => false
/-- == of flat values -/
def eqV : V → V → Bool
  | .non, .non => true
  | .bl a, .bl b => a == b
  | .bl a, .int b => (if a then 1 else 0) == b
  | .int a, .bl b => a == (if b then 1 else 0)
  | .int a, .int b => a == b
  | .str a, .str b => a == b
  | _, _ => false
theorem eqAt_V {A : Around} {s : Shared} {y x : V} {u v : Value} (ry : RelV y u) (rx : RelV x v) (fy : flatV y = true) (fx : flatV x = true) : SeqAt.EqAt A s u v (eqV y x) := by
  cases y with
  | non =>
    cases ry
    cases x with
    | non => cases rx; exact SeqAt.EqAt.same _
    | bl b => cases rx; exact SeqAt.EqAt.none_bool b
    | int b => obtain ⟨t, rfl⟩ := rx; exact SeqAt.EqAt.none_int b t
    | str b => obtain ⟨t, rfl⟩ := rx; exact SeqAt.EqAt.none_str b t
    | _ => exact absurd (show false = true from fx) Bool.false_ne_true
  | bl a =>
    cases ry
    cases x with
    | non => cases rx; exact SeqAt.EqAt.bool_none a
    | bl b => cases rx; exact SeqAt.EqAt.bool_bool a b
    | int b => obtain ⟨t, rfl⟩ := rx; exact SeqAt.EqAt.bool_int a b t
    | str b => obtain ⟨t, rfl⟩ := rx; exact SeqAt.EqAt.bool_str a b t
    | _ => exact absurd (show false = true from fx) Bool.false_ne_true
  | int a =>
    obtain ⟨t', rfl⟩ := ry
    cases x with
    | non => cases rx; exact SeqAt.EqAt.int_none a t'
    | bl b => cases rx; exact SeqAt.EqAt.int_bool a t' b
    | int b => obtain ⟨t, rfl⟩ := rx; exact SeqAt.EqAt.int_int a t' b t
    | str b => obtain ⟨t, rfl⟩ := rx; exact SeqAt.EqAt.int_str a t' b t
    | _ => exact absurd (show false = true from fx) Bool.false_ne_true
  | str a =>
    obtain ⟨t', rfl⟩ := ry
    cases x with
    | non => cases rx; exact SeqAt.EqAt.str_none a t'
    | bl b => cases rx; exact SeqAt.EqAt.str_bool a t' b
    | int b => obtain ⟨t, rfl⟩ := rx; exact SeqAt.EqAt.str_int a t' b t
    | str b => obtain ⟨t, rfl⟩ := rx; exact SeqAt.EqAt.str_str a t' b t
    | _ => exact absurd (show false = true from fx) Bool.false_ne_true
  | _ => exact absurd (show false = true from fy) Bool.false_ne_true
/-- the items' answers, read off the values (a value's own answer does not lean on its token) -/
def eqU (x : V) (u : Value) : Bool := match u with
  | .none => eqV .non x
  | .bool b => eqV (.bl b) x
  | .int i _ => eqV (.int i) x
  | .str z _ => eqV (.str z) x
  | _ => false
def inV (x : V) (xs : List V) : Bool := xs.any fun y => eqV y x
/-- x in a list or tuple of flat items -/
def rIn (K : PySem.W.Frag) (neg : Bool) : R2 := fun x y H Q => ∃ p xs, y = .ref p ∧ (SqL K H p xs ∨ SqT K H p xs) ∧ flatV x = true ∧ xs.all flatV = true ∧ Q (.bl (if neg then !inV x xs else inV x xs)) H
/-! ### len, list(x), tuple(x) of any list or tuple that is read -/
theorem call_len_seq : CallR X (.builtin "len") (fun xs H Q => ∃ p ys, xs = [.ref p] ∧ (SqL X.K H p ys ∨ SqT X.K H p ys) ∧ Q (.int ys.length) H) := by
  intro pins s σ H xs us Q I r h
  obtain ⟨p, ys, rfl, hq, q⟩ := h
  obtain ⟨u, rfl, rx⟩ := vals1 r
  cases rx
  have hn := line63
  rcases hq with hq | hq
  · obtain ⟨its, r', pl, hz⟩ := I.list hq
    have hlen := r'.length
    exact Calls.call_len_list pl.isList (by simp only [List.size_toArray] <;> omega) ⟨.int ys.length, H, I.tok _, ⟨s.toks + 1, by rw [List.size_toArray, hlen]⟩, q⟩
  · obtain ⟨its, r', pl, hz⟩ := I.tuple hq
    have hlen := r'.length
    exact len_tuple pl (by simp only [List.size_toArray] <;> omega) ⟨.int ys.length, H, I.tok _, ⟨s.toks + 1, by rw [List.size_toArray, hlen]⟩, q⟩
theorem call_len_str : CallR X (.builtin "len") (fun xs H Q => ∃ z, xs = [.str z] ∧ z.length ≤ sizeLine ∧ Q (.int z.length) H) := by
  intro pins s σ H xs us Q I r h
  obtain ⟨z, rfl, hz, q⟩ := h
  obtain ⟨u, rfl, t, rfl⟩ := vals1 r
  have hn := line63
  exact len_str (by omega) ⟨.int z.length, H, I.tok _, ⟨_, rfl⟩, q⟩
theorem CallR.or {f : Value} {r r' : List V → Hp → VK → Prop} (h : CallR X f r) (h' : CallR X f r') : CallR X f (fun xs H Q => r xs H Q ∨ r' xs H Q) := by
  intro pins s σ H xs us Q I rs q
  rcases q with q | q
  · exact h pins s σ H xs us Q I rs q
  · exact h' pins s σ H xs us Q I rs q
/-! ### the call of a builtin's method: o.m(..) -/
/-- the value is of that builtin type -/
def tyV (K : PySem.W.Frag) (T : String) (x : V) (H : Hp) : Prop := match x with
  | .str _ => T = "str"
  | .int _ => T = "int"
  | .ref p => (T = "list" ∧ ∃ xs, SqL K H p xs) ∨ (T = "tuple" ∧ ∃ o, K.lookup p = some o ∧ o.cls = .type "tuple" ∧ o.dict = none) ∨
      (T = "dict" ∧ ((∃ kvs, H p = some (.dK kvs)) ∨ ∃ kvs, H p = some (.dT kvs))) ∨ (T = "set" ∧ ∃ S n, H p = some (.set S n))
  | _ => False
theorem tyV_is {pins : List (Addr × Obj)} {σ : St} {H : Hp} {s : Shared} {T : String} {x : V} {v : Value} (I : Inv X pins σ H s) (r : RelV x v) (ty : tyV X.K T x H) :
    s.TypeIs v T ∧ ∀ a, v = .ref a → ∃ ob, s.heap.get? a = some ob ∧ ob.dict = none := by
  cases x with
  | str z =>
    obtain ⟨t, rfl⟩ := r
    cases (show T = "str" from ty)
    exact ⟨typeIs_str s z t, fun _ e => nomatch e⟩
  | int i =>
    obtain ⟨t, rfl⟩ := r
    cases (show T = "int" from ty)
    exact ⟨typeIs_int s i t, fun _ e => nomatch e⟩
  | ref p =>
    cases r
    rcases ty with ⟨rfl, xs, hq⟩ | ⟨rfl, o, hk, hc, hd⟩ | ⟨rfl, hk⟩ | ⟨rfl, S, n, hk⟩
    · obtain ⟨its, _, pl, _⟩ := I.list hq
      refine ⟨pl.isList.typeIs, fun a e => ?_⟩
      cases e
      obtain ⟨o, n, e, c, hd, _⟩ := pl
      exact ⟨o, e, hd⟩
    · refine ⟨⟨o, I.kIn p o hk, hc⟩, fun a e => ?_⟩
      cases e
      exact ⟨o, I.kIn _ o hk, hd⟩
    · have z : ∃ o, s.heap.get? p = some o ∧ o.ExactDict := by
        rcases hk with ⟨kvs, hk⟩ | ⟨kvs, hk⟩
        · obtain ⟨_, _, _, _, o, _, _, e, ex, _⟩ := I.hok p _ hk
          exact ⟨o, e, ex⟩
        · obtain ⟨_, _, _, _, o, _, _, e, ex, _⟩ := I.hok p _ hk
          exact ⟨o, e, ex⟩
      obtain ⟨o, e, ex⟩ := z
      refine ⟨⟨o, e, ex.1⟩, fun a e2 => ?_⟩
      cases e2
      exact ⟨o, e, ex.2.1⟩
    · obtain ⟨o, _, _, _, e, ex, _⟩ := I.hok p _ hk
      refine ⟨⟨o, e, ex.1⟩, fun a e2 => ?_⟩
      cases e2
      exact ⟨o, e, ex.2.1⟩
  | _ => exact False.elim ty
def tBM0 (K : PySem.W.Frag) (T : String) (r : V → List V → Hp → VK → Prop) (to : TE) : TE := fun σ H Q => to σ H fun x H1 => tyV K T x H1 ∧ r x [] H1 Q
def tBM (K : PySem.W.Frag) (T : String) (r : V → List V → Hp → VK → Prop) (to : TE) (t : TA) : TE := fun σ H Q => to σ H fun x H1 => tyV K T x H1 ∧ t σ H1 fun xs H2 => r x xs H2 Q
variable {o e : Expr} {es : List Expr} {to : TE} {t : TA} {name : Str} {apos cpos : Pos} {T id : String} {r : V → List V → Hp → VK → Prop}
theorem pe_bm0 (pa : PlainAttrs T) (slot : Slot T name id) (hty : typeOf (.builtin id) = pure (.type "method_descriptor")) (hm : MtR X id r) (ho : PE X o to)
    (hbase : attributeBase o name X.env (eval o X.env) = eval o X.env := by rfl) (hline : (apos.endLine == cpos.line) = true := by rfl) : PE X (.Call (.Attribute o name apos) [] [] cpos) (tBM0 X.K T r to) := by
  intro pins s σ H Q I h
  refine wpAny_Call_method0_late hbase hline (thn (ho pins s σ H _ I h) fun v s1 ⟨x, H1, I1, r1, ty, q1⟩ => ?_)
  obtain ⟨h1, h2⟩ := tyV_is I1 r1 ty
  exact ⟨T, id, pa, slot, hty, h1, h2, Calls.callWith_builtin rfl (PySem.evalArgs_none (hm pins s1 σ H1 x [] v [] Q I1 r1 .nil q1))⟩
theorem pe_bm (pa : PlainAttrs T) (slot : Slot T name id) (hty : typeOf (.builtin id) = pure (.type "method_descriptor")) (hm : MtR X id r) (ho : PE X o to) (ha : PA X (e :: es) t)
    (hbase : attributeBase o name X.env (eval o X.env) = eval o X.env := by rfl)
    (hfew : ((backTo cpos (starEach (e :: es) X.env)).all (fun x => !x.1) && (backToKw cpos (keywordEach [] X.env)).all (fun x => x.1.isSome)
      && decide ((e :: es).length + ([] : List Keyword).length + (if ([] : List Keyword).isEmpty then 0 else 1) < 30)) = true := by rfl)
    (hline : (apos.endLine == cpos.line) = true := by rfl) (hs : starEach (e :: es) X.env = (false, eval e X.env) :: starEach es X.env := by rfl) (hplain : (backTo cpos (starEach es X.env)).any (·.1) = false := by rfl) :
    PE X (.Call (.Attribute o name apos) (e :: es) [] cpos) (tBM X.K T r to t) := by
  intro pins s σ H Q I h
  refine wpAny_Call_method_late hbase hfew hline rfl (thn (ho pins s σ H _ I h) fun v s1 ⟨x, H1, I1, r1, ty, q1⟩ => ?_)
  obtain ⟨h1, h2⟩ := tyV_is I1 r1 ty
  refine ⟨T, id, pa, slot, hty, h1, h2, ?_⟩
  have hA := ha cpos pins s1 σ H1 _ I1 q1
  rw [hs] at hA ⊢
  refine Calls.callWith_builtin (by show (false || (backTo cpos (starEach es X.env)).any (·.1)) = false; rw [hplain] <;> rfl) (Calls.evalArgs_plain ?_)
  exact thn hA fun us s2 ⟨vs, H2, I2, r2, q2⟩ => hm pins s2 σ H2 x vs v us Q I2 r1 r2 q2
/- xs.append(e), list.index on a module's tuple .. are MtR facts of 06m -/
end
end L2
namespace L2
open PySem PySem.Spec PyProof.Rows
def MtM (X : Cx) (id : String) (r : V → List V → Hp → VK → Prop) : Prop :=
  ∀ (pins : List (Addr × Obj)) (s : Shared) (σ : St) (H : Hp) (x : V) (xs : List V) (v : Value) (us : List Value) (Q : VK), Inv X pins σ H s → RelV x v → Vals xs us → r x xs H Q →
    wpAny (model X.prog X.w) X.A (call (.builtin id) (v :: us)) (EP X pins σ Q) X.xe s
/-! ### lists of values -/
theorem Vals.one : ∀ {x : V} {us : List Value}, Vals [x] us → ∃ u, us = [u] ∧ RelV x u
  | _, _, .cons r .nil => ⟨_, rfl, r⟩
theorem Vals.two : ∀ {x y : V} {us : List Value}, Vals [x, y] us → ∃ u v, us = [u, v] ∧ RelV x u ∧ RelV y v
  | _, _, _, .cons r (.cons q .nil) => ⟨_, _, rfl, r, q⟩
theorem Vals.zero : ∀ {us : List Value}, Vals [] us → us = []
  | _, .nil => rfl
theorem Vals.dropLast {xs : List V} {us : List Value} (h : Vals xs us) : Vals xs.dropLast us.dropLast := by
  induction h with
  | nil => exact .nil
  | cons r t ih =>
    cases t with
    | nil => exact .nil
    | cons q t' => exact .cons r ih
theorem erase_last {α : Type} (l : List α) : l.eraseIdx (l.length - 1) = l.dropLast := by
  induction l with
  | nil => rfl
  | cons a r ih =>
    cases r with
    | nil => rfl
    | cons b r =>
      have e : (a :: b :: r).length - 1 = ((b :: r).length - 1) + 1 := by
        have h1 : (a :: b :: r).length = r.length + 2 := rfl
        have h2 : (b :: r).length = r.length + 1 := rfl
        omega
      rw [e, List.eraseIdx_cons_succ, ih]
      all_goals rfl
section
variable {X : Cx} {pins : List (Addr × Obj)} {σ : St} {H : Hp} {s : Shared} {l b : Addr} {xs ys zs : List V}
/-! ### the two steps: a tracked list is rewritten, a new list is laid -/
theorem Inv.lset {its its' : List Value} {n : Nat} {f : Array Value → Array Value} {t' : Nat} (I : Inv X pins σ H s) (hH : H l = some (.lst xs))
    (e : s.heap.get? l = some { cls := .type "list", data := .seq its.toArray n }) (hf : f its.toArray = its'.toArray) (hv : Vals ys its') (hz : ys.length ≤ sizeLine) :
    Inv X pins σ (upd H l (.lst ys)) { s with heap := s.heap.update l (Obj.mapSeq f), toks := t' } := by
  have q := PySem.IsL.update e f
  rw [hf] at q
  refine I.write (x := l) (e := l) (by rw [hH]; exact trivial) (.inl rfl) (fun b' u hb hu => (Heap.get?_update_other s.heap (Obj.mapSeq f) (Ne.symm hb)).trans hu) ⟨_, q⟩ ?_
  exact ⟨hz, its', _, hv, q⟩
theorem Inv.lnew {its : List Value} {t' : Nat} (I : Inv X pins σ H s) (hv : Vals ys its) (hz : ys.length ≤ sizeLine) :
    Inv X pins σ (upd H s.heap.objs.size (.lst ys)) { s with heap := s.heap.push { cls := .type "list", data := .seq its.toArray }, toks := t' } :=
  I.laid (fun _ _ q => Heap.get?_push_of_some _ q) (Nat.le_refl _) ⟨hz, its, 0, hv, Heap.get?_push_size _ rfl⟩
theorem Inv.fresh (I : Inv X pins σ H s) : H s.heap.objs.size = none := I.hok.fresh (Nat.le_refl _)
theorem Inv.lstM (I : Inv X pins σ H s) (hH : H l = some (.lst xs)) : xs.length ≤ sizeLine ∧ ∃ (its : List Value) (n : Nat), Vals xs its ∧ xs.length = its.length ∧ s.heap.get? l = some { cls := .type "list", data := .seq its.toArray n } := by
  obtain ⟨z, its, n, r, e⟩ := I.hok l _ hH
  exact ⟨z, its, n, r, r.length, e⟩
end
section
variable {X : Cx}
/-! ### methods -/
def rAppend : V → List V → Hp → VK → Prop := fun x vs H Q => ∃ l xs y, x = .ref l ∧ vs = [y] ∧ H l = some (.lst xs) ∧ xs.length < sizeLine ∧ Q .non (upd H l (.lst (xs ++ [y])))
theorem mt_append : MtM X "list.append" rAppend := by
  intro pins s σ H x vs v us Q I rx rv h
  obtain ⟨l, xs, y, rfl, rfl, hH, hz, q⟩ := h
  cases rx
  obtain ⟨u, rfl, ru⟩ := rv.one
  obtain ⟨z, its, n, r, hl, e⟩ := I.lstM hH
  refine call_meets F.slot_list_append ⟨_, e, rfl⟩ F.entry_list_append (F.args_list_append_2 _ _) (PySem.list_append l its.toArray n u (by rw [List.size_toArray]; omega)) ⟨e, ?_⟩
  refine ⟨.non, _, I.lset (its' := its ++ [u]) hH e (by simp) (r.append (.cons ru .nil)) ?_, rfl, q⟩
  rw [List.length_append, List.length_singleton]
  omega
def rExtend : V → List V → Hp → VK → Prop := fun x vs H Q => ∃ l b xs zs, x = .ref l ∧ vs = [.ref b] ∧ H l = some (.lst xs) ∧ H b = some (.lst zs) ∧ xs.length + zs.length ≤ sizeLine ∧ Q .non (upd H l (.lst (xs ++ zs)))
def rPop : V → List V → Hp → VK → Prop := fun x vs H Q => ∃ l xs y, x = .ref l ∧ vs = [] ∧ H l = some (.lst xs) ∧ xs[xs.length - 1]? = some y ∧ Q y (upd H l (.lst xs.dropLast))
theorem mt_pop : MtM X "list.pop" rPop := by
  intro pins s σ H x vs v us Q I rx rv h
  obtain ⟨l, xs, y, rfl, rfl, hH, hy, q⟩ := h
  cases rx
  have hus := rv.zero
  subst hus
  obtain ⟨z, its, n, r, hl, e⟩ := I.lstM hH
  obtain ⟨u, hu, ru⟩ := r.get hy
  have hy' : its.toArray[its.toArray.size - 1]? = some u := by
    show its.toArray[its.length - 1]? = some u
    rw [← Array.getElem?_toList, ← hl]
    exact hu
  refine call_meets F.slot_list_pop ⟨_, e, rfl⟩ F.entry_list_pop (F.args_list_pop_1 _) (MeetsSeq.list_pop_last l its.toArray n u hy' (by rw [List.size_toArray]; omega)) ⟨e, ?_⟩
  refine ⟨y, _, I.lset (its' := its.dropLast) hH e ?_ r.dropLast ?_, ru, q⟩
  · show its.toArray.eraseIdxIfInBounds (its.toArray.size - 1) = its.dropLast.toArray
    rw [List.size_toArray, List.eraseIdxIfInBounds_toArray, erase_last]
  · rw [List.length_dropLast]
    omega
def rPopAt : V → List V → Hp → VK → Prop := fun x vs H Q => ∃ l xs i k y, x = .ref l ∧ vs = [.int i] ∧ H l = some (.lst xs) ∧ -(2 ^ 63) ≤ i ∧ i < 2 ^ 63 ∧ seqIndex? i xs.length = some k ∧ xs[k]? = some y ∧ Q y (upd H l (.lst (xs.eraseIdx k)))
def rReverse : V → List V → Hp → VK → Prop := fun x vs H Q => ∃ l xs, x = .ref l ∧ vs = [] ∧ H l = some (.lst xs) ∧ Q .non (upd H l (.lst xs.reverse))
def rClear : V → List V → Hp → VK → Prop := fun x vs H Q => ∃ l xs, x = .ref l ∧ vs = [] ∧ H l = some (.lst xs) ∧ Q .non (upd H l (.lst []))
/-! ### list + list, list += list, list * int -/
def rCat : R2 := fun x y H Q => ∃ l b xs zs, x = .ref l ∧ y = .ref b ∧ H l = some (.lst xs) ∧ H b = some (.lst zs) ∧ xs.length + zs.length ≤ sizeLine ∧ ∀ p, H p = none → Q (.ref p) (upd H p (.lst (xs ++ zs)))
theorem op_cat : OpR X (binaryOp .Add) rCat := by
  intro pins s σ H x y v u Q I rx ry h
  obtain ⟨l, b, xs, zs, rfl, rfl, hH, hB, hz, q⟩ := h
  cases rx
  cases ry
  obtain ⟨z, its, n, r, hl, e⟩ := I.lstM hH
  obtain ⟨z2, its2, n2, r2, hl2, e2⟩ := I.lstM hB
  refine PySem.P.add_list e e2 ?_ (by rw [List.size_toArray, List.size_toArray]; omega)
  have ea : its.toArray ++ its2.toArray = (its ++ its2).toArray := by simp
  rw [ea]
  exact ⟨.ref _, _, I.lnew (t' := s.toks) (r.append r2) (by rw [List.length_append]; omega), rfl, q _ I.fresh⟩
/-- a list times an int (a negative one is nothing) -/
def rRep : R2 := fun x y H Q => ∃ l k xs, x = .ref l ∧ y = .int k ∧ H l = some (.lst xs) ∧ -(2 ^ 63) ≤ k ∧ k < 2 ^ 63 ∧ xs.length * k.toNat ≤ sizeLine ∧
  ∀ p, H p = none → Q (.ref p) (upd H p (.lst (List.replicate k.toNat xs).flatten))
/-! ### del xs[i] -/
end
/-! ### xs[a:b] = ys -/
section
variable {prog : Program} {w : World} {A : Around} {E : Value → Shared → Prop} {s : Shared}
end
section
variable {X : Cx}
end
end L2
namespace Att
open PySem PySem.W PySem.Calls PyProof.Rows
/-! ### the script -/
theorem ints_of_wellAll {P : Params} {h : Heap} : ∀ (ns : List Int) (vs : List Value), WellAll P h vs (ns.map WData.int) → IntsAre vs ns := by
  intro ns
  induction ns with
  | nil =>
    intro vs w
    rw [List.map_nil] at w
    cases w
    exact .nil
  | cons n ns ih =>
    intro vs w
    rw [List.map_cons] at w
    cases w with
    | cons a b =>
      cases a
      exact .cons _ _ (ih _ b)
theorem script_of {l : OpenLaw} {n : Nat} (hn : l.most = some n) {P : Params} {h : Heap} {args : List WData} {vals : List Value}
    (hpre : l.row.toRowW.claim.pre args = true) (hwl : WellAll P h vals args) :
    ∃ a vs ns, vals = [Value.ref a] ∧ args = [WData.list (ns.map WData.int)] ∧ h.get? a = some { cls := .type "list", data := .seq vs.toArray } ∧ IntsAre vs ns ∧ ns.length ≤ n := by
  have hsh : WShape.hasAll [] args [.list .int] = true := (pre_splitW hpre).1
  have hc : l.pre.holds [] { args := args } = true := (pre_splitW hpre).2
  obtain ⟨d, r, rfl, h1, h2⟩ := hasAllW_cons hsh
  obtain rfl := hasAllW_nil h2
  obtain ⟨xs, rfl, h3⟩ := hasW_list h1
  obtain ⟨ns, rfl⟩ := items_int h3
  have hlen : ns.length ≤ n := by
    unfold OpenLaw.pre at hc
    have h4 : (WTm.not (.lt (.lit (.int (n : Int))) (.len (.arg 0)))).holds [] { args := [.list (ns.map .int)] } = true := by
      have h4 := (holds_andW hc).1
      rw [hn] at h4
      exact h4
    have h5 := condW_of h4 (w_not (w_lt w_lit (w_len_list (w_arg rfl))))
    rw [List.length_map] at h5
    refine Nat.le_of_not_lt fun q => ?_
    have q' : (n : Int) < ((ns.length : Nat) : Int) := by omega
    first
      | (rw [decide_eq_true q'] at h5; exact absurd h5 (by decide))
      | (simp at h5; omega)
  cases hwl with
  | cons w1 w2 =>
    cases w2
    cases w1 with
    | list ho hall => exact ⟨_, _, ns, rfl, rfl, ho, ints_of_wellAll ns _ hall, hlen⟩
theorem post_true (l : OpenLaw) (args : List WData) : l.row.toRowW.claim.post args (.bool true) args = true :=
  postW_of (r := l.row.toRowW) (X := (true == true))
    (show WShape.has [] (.bool true) .bool = true by first | rfl | decide | simp [WShape.has, WShape.arms, WShape.armsAll])
    (show (WTm.eq .res (.lit (.bool true))).value [] { args := args, res := some (.bool true), after := args } = some (.bool (true == true)) from w_eq_bool (w_res rfl) w_lit) rfl
/-! ### the attachment: holds_open's last premise (the goal 'hc' behind k_head) from a wpAny of the law's body -/
/-- the same from a codeAny of the CALL (for a layer whose function contracts speak of calls) -/
theorem attach_call {l : OpenLaw} {n : Nat} {q : Program} {loose : List Str} {XP : (Str → Option Value) → Heap → Prop} {YP : World → Heap → Prop} {d : DefRec}
    (hn : l.most = some n) (hdf : d.params.defaults = [])
    (call : ∀ (w : World) (s₀ s₁ : Shared) (mg mb : Str → Option Value) (fa : Addr) (o : Obj) (pm cd doc : Value) (a : Addr) (vs : List Value) (ns : List Int),
      Ground q loose [] XP w s₀ mg mb s₁.heap → YP w s₁.heap →
      s₁.heap.get? fa = some o → o.data = .func (docDef d.name d.params d.body d.scope pm cd doc) → s₁.heap.CodeRec cd d.name → mg d.name = some (.ref fa) →
      s₁.heap.get? a = some { cls := .type "list", data := .seq vs.toArray } → IntsAre vs ns → ns.length ≤ n → s₁.gens = #[] →
      codeAny (model l.prog w) callerA (.call (.ref fa) ⟨[.ref a], []⟩) (fun r s' => r = .ok (.ret (.bool true)) ∧ OldK s₁.heap s'.heap ∧ s'.os = s₁.os ∧ AllBare s'.gens) s₁) :
    WalkO q loose XP YP l.row.toRowW d [] (fun f vs => PySem.call f vs) := by
  intro w s₀ s₁ mg mb G Y fa o pm cd doc dV kV ho hd hcd hD hmg hg args vals as hpre hlay hrd hwl hlo
  obtain rfl : dV = .none := Dflts.none hD hdf
  obtain rfl : kV = .none := Dflts.noKw hD
  obtain ⟨a, vs, ns, rfl, rfl, hobj, hints, hlen⟩ := script_of hn hpre hwl
  refine enter_call (codeAny_mono (call w s₀ s₁ mg mb fa o pm cd doc a vs ns G Y ho (fd_plain hd) hcd hmg hobj hints hlen hg) fun r s' hq => ?_)
  obtain ⟨rfl, h2, h3, h4⟩ := hq
  exact ⟨.inl ⟨.bool true, .bool true, [], rfl, fun _ => rfl, .bool true, post_true l _, fun _ => ⟨List.Pairwise.nil, fun _ hm => (nomatch hm)⟩⟩, h2, h3, h4⟩
/-! ### rules over ANY heap (no ledger) from facts about the written part K: the library's own take a ledger (News) for what they write -/
section
variable {prog : Program} {w : World} {A : Around} {E : Value → Shared → Prop} {s : Shared} {K : Frag}
/-! the whole heap as the ledger: makes every rule that writes through a ledger a rule over any heap -/
def noObjs (h : Heap) : Heap := { h with objs := #[] }
def ledger (h : Heap) (L d : Addr) : List (Addr × Obj) := (List.range h.objs.size).filterMap fun a => if a = L ∨ a = d then none else (h.get? a).map fun o => (a, o)
end
end Att
namespace L2
open PySem PySem.Spec PyProof.Rows
theorem vals_ints : ∀ {vs : List Value} {ns : List Int}, IntsAre vs ns → Vals (ns.map V.int) vs
  | _, _, .nil => .nil
  | _, _, .cons n t h => .cons ⟨t, rfl⟩ (vals_ints h)
/-- nothing is tracked but the script, known to the object (or it is an object of the module) -/
def Only (H : Hp) : Prop := ∀ b, H b = none ∨ ∃ o xs, H b = some (.frz o (.lst xs))
/-- THE HEAD: the law's promise, at the heap behind the top. F, the promise of the law's def, may use that base is part of the heap (so K.In base, base.Ns mainGlobals mg stand in Mod) -/
theorem law_call {P : Program} {w : World} {K : PySem.W.Frag} {mg mb : Str → Option Value} {CX : CXT} {k : Nat} {fa a : Addr} {fd : FuncData} {x : Str} {sp : Sp} {s₁ : Shared} {vs : List Value} {ns : List Int}
    (KX : K.In s₁.heap) (hns : s₁.heap.Ns mainGlobals mg) (hb : s₁.heap.Ns builtinsNs mb) (hbb : ∀ x : Str, x ≠ "__name__" → mb x = bootBuiltins x) (hlim : s₁.heap.NoLimit) (hg : s₁.gens = #[])
    (ha : s₁.heap.get? a = some { cls := .type "list", data := .seq vs.toArray }) (hi : IntsAre vs ns) (hl : ns.length ≤ sizeLine) (hr : Room k callerA)
    (F : ∀ base : Heap, K.In base → base.Ns mainGlobals mg → FnOk P w K mg base CX k fa fd [x] sp) (hbind : ∀ (s : Shared) (u : Value), BindsTo s fd ⟨[u], []⟩ [(x, u)])
    (hsp : ∀ H : Hp, Only H → SqL K H a (ns.map V.int) → sp [.ref a] H (fun v _ => v = .bl true) fun _ _ _ => False)
    (hCX : ∀ H e s', CX [] H s₁ (fun _ _ _ => False) e s' → False) :
    codeAny (model P w) callerA (.call (.ref fa) ⟨[.ref a], []⟩) (fun r s' => r = .ok (.ret (.bool true)) ∧ OldK s₁.heap s'.heap ∧ s'.os = s₁.os ∧ AllBare s'.gens) s₁ := by
  have rv := vals_ints hi
  have lenV := hi.length
  -- from an abstract heap in which nothing but the script may be tracked
  have core : ∀ H : Hp, Only H → SqL K H a (ns.map V.int) → HOk P w H s₁.heap → (∀ b, H b ≠ none → b = a) → (H a ≠ none → K.lookup a = none) →
      codeAny (model P w) callerA (.call (.ref fa) ⟨[.ref a], []⟩) (fun r s' => r = .ok (.ret (.bool true)) ∧ OldK s₁.heap s'.heap ∧ s'.os = s₁.os ∧ AllBare s'.gens) s₁ := by
    intro H hO hS hok hA hK
    have base_of : ∀ {b : Addr} {o : Obj}, s₁.heap.get? b = some o → H b = none → (hidT s₁.heap H).get? b = some o := fun e n => hidT_get e n
    have noA : ∀ {b : Addr} {o : Obj} {es : Array DictEntry} {ep : Nat}, s₁.heap.get? b = some o → o.data = .dict es ep → H b = none := fun {b o es ep} e d => by
      cases q : H b with
      | none => rfl
      | some u =>
        have e' : b = a := hA b (by rw [q]; simp)
        subst e'
        rw [ha] at e; cases e
        have d' : Data.seq vs.toArray _ = Data.dict es ep := d
        cases d'
    have nsK : ∀ {b : Addr} {m : Str → Option Value}, s₁.heap.Ns b m → (hidT s₁.heap H).Ns b m := fun {b m} ⟨o, es, ep, e, d, r⟩ => ⟨o, es, ep, base_of e (noA e d), d, r⟩
    have hKb : K.In (hidT s₁.heap H) := fun b o e => base_of (KX b o e) (by
      cases q : H b with
      | none => rfl
      | some u =>
        have e' : b = a := hA b (by rw [q]; simp)
        subst e'
        rw [hK (by rw [q]; simp)] at e; cases e)
    have hM : Mod K mg (hidT s₁.heap H) := ⟨hKb, nsK hns, ⟨mb, nsK hb, hbb⟩, let ⟨mc, h1, h2⟩ := hlim; ⟨mc, nsK h1, h2⟩⟩
    have e0 : Env0 P w K mg (hidT s₁.heap H) callerA [] s₁ H := ⟨rfl, hM, fun b o e => of_hidT e, Nat.le_of_eq (hidT_size _ _), trivial, fun b hb => absurd (show b ∈ ([] : List Addr) from hb) (by simp), hok, .of_eq hg⟩
    refine codeAny_mono ((F _ hKb (nsK hns)).run callerA [] s₁ H ⟨[.ref a], []⟩ [.ref a] [.ref a] _ _ hr e0 (hbind s₁ (.ref a)) (.cons rfl .nil) (hsp H hO hS)) fun r s' h => ?_
    cases r with
    | error e => exact (hCX H e s' h).elim
    | ok fl =>
      cases fl with
      | next => exact False.elim h
      | brk => exact False.elim h
      | cont => exact False.elim h
      | ret u =>
        obtain ⟨v, H', os, bare, un, hok', r', q⟩ := h
        have q' : v = .bl true := q
        subst q'
        obtain rfl : u = Value.bool true := r'
        refine ⟨rfl, OldK.of_keep fun b o e => ?_, os, bare⟩
        cases q : H b with
        | none => exact un.keep b o e q (by intro z; exact absurd (show b ∈ ([] : List Addr) from z) (by simp)) (by simp)
        | some u =>
          rcases hO b with z | ⟨ob, xs, z⟩
          · rw [q] at z; cases z
          · have z2 := un.frzs b ob _ z
            obtain ⟨e1, _⟩ := hok b _ z
            obtain ⟨e2, _⟩ := hok' b _ z2
            rw [e] at e1; cases e1
            exact e2
  cases hk : K.lookup a with
  | some o =>
    -- the script is one of the module's own objects
    have e := KX a o hk
    rw [ha] at e
    cases e
    refine core (fun _ => none) (fun _ => .inl rfl) (.inr ⟨_, vs.toArray, _, hk, rfl, rfl, rfl, by rw [List.size_toArray, lenV]; exact hl, by simpa using rv⟩) (fun b u z => by have z' : (none : Option HO) = some u := z; cases z') (fun b z => absurd rfl z) fun z => absurd rfl z
  | none =>
    refine core (fun b => if b = a then some (.frz { cls := .type "list", data := .seq vs.toArray } (.lst (ns.map V.int))) else none) (fun b => ?_) (.inl (.inr ⟨{ cls := .type "list", data := .seq vs.toArray }, if_pos rfl⟩)) (fun b u z => ?_) (fun b z => ?_) fun _ => hk
    · by_cases hb : b = a
      · exact .inr ⟨_, _, if_pos hb⟩
      · exact .inl (if_neg hb)
    · by_cases hb : b = a
      · have z' := (if_pos hb).symm.trans z
        cases z'
        subst hb
        exact ⟨ha, by rw [List.length_map]; exact hl, vs, _, rv, ha⟩
      · have z' := (if_neg hb).symm.trans z
        cases z'
    · by_cases hb : b = a
      · exact hb
      · exact absurd (if_neg hb) z
end L2
namespace L2
open PySem PySem.Spec PyProof.Rows
abbrev KOf {K : PySem.W.Frag} {h : Heap} (_ : K.In h) : PySem.W.Frag := K
/-- the goal that k_head leaves (case hc), from the law's promise. F gives the function object fd (K's own) once, then the promise over every base -/
theorem walk_of {l : PySem.W.OpenLaw} {n k : Nat} {q : Program} {loose : List Str} {XP : (Str → Option Value) → Heap → Prop} {YP : World → Heap → Prop} {d : DefRec} {K : Params → PySem.W.Frag} {CX : World → CXT} {sp : World → Sp} {x : Str}
    (hn : l.most = some n) (hn2 : n ≤ sizeLine) (hdf : d.params.defaults = []) (hr : Room k callerA)
    (hY : ∀ (w : World) (h : Heap), YP w h → (K w.params).In h)
    (F : ∀ (w : World) (mg : Str → Option Value) (fa : Addr) (h : Heap), (K w.params).In h → h.Ns mainGlobals mg → mg d.name = some (.ref fa) →
      ∃ fd : FuncData, (∀ (s : Shared) (u : Value), BindsTo s fd ⟨[u], []⟩ [(x, u)]) ∧
        ∀ base : Heap, (K w.params).In base → base.Ns mainGlobals mg → FnOk l.prog w (K w.params) mg base (CX w) k fa fd [x] (sp w))
    (hsp : ∀ (w : World) (H : Hp) (a : Addr) (ns : List Int), ns.length ≤ n → Only H → SqL (K w.params) H a (ns.map V.int) → sp w [.ref a] H (fun v _ => v = .bl true) fun _ _ _ => False)
    (hCX : ∀ (w : World) (H : Hp) (s : Shared) (e : Value) (s' : Shared), CX w [] H s (fun _ _ _ => False) e s' → False) :
    PySem.W.WalkO q loose XP YP l.row.toRowW d [] (fun f vs => PySem.call f vs) := by
  refine Att.attach_call hn hdf fun w s₀ s₁ mg mb fa o pm cd doc a vs ns G Y ho hd hcd hmg hobj hints hlen hg => ?_
  have KX := hY w _ Y
  obtain ⟨fd, hb, hF⟩ := F w mg fa _ KX G.T.g hmg
  exact law_call KX G.T.g G.T.b G.T.builtins G.T.nolimit hg hobj hints (Nat.le_trans hlen hn2) hr hF hb (fun H hO hS => hsp w H a ns hlen hO hS) fun H e s' => hCX w H s₁ e s'
/-- the same where the promise hangs on the written part alone: (sp := My.sp_law), no hole under a binder -/
theorem walk_ofK {l : PySem.W.OpenLaw} {n k : Nat} {q : Program} {loose : List Str} {XP : (Str → Option Value) → Heap → Prop} {YP : World → Heap → Prop} {d : DefRec} {K : Params → PySem.W.Frag} {CX : CXT} {sp : PySem.W.Frag → Sp} {x : Str}
    (hn : l.most = some n) (hn2 : n ≤ sizeLine) (hdf : d.params.defaults = []) (hr : Room k callerA)
    (hY : ∀ (w : World) (h : Heap), YP w h → (K w.params).In h)
    (F : ∀ (w : World) (mg : Str → Option Value) (fa : Addr) (h : Heap), (K w.params).In h → h.Ns mainGlobals mg → mg d.name = some (.ref fa) →
      ∃ fd : FuncData, (∀ (s : Shared) (u : Value), BindsTo s fd ⟨[u], []⟩ [(x, u)]) ∧
        ∀ base : Heap, (K w.params).In base → base.Ns mainGlobals mg → FnOk l.prog w (K w.params) mg base CX k fa fd [x] (sp (K w.params)))
    (hsp : ∀ (K : PySem.W.Frag) (H : Hp) (a : Addr) (ns : List Int), ns.length ≤ n → Only H → SqL K H a (ns.map V.int) → sp K [.ref a] H (fun v _ => v = .bl true) fun _ _ _ => False)
    (hCX : ∀ (H : Hp) (s : Shared) (e : Value) (s' : Shared), CX [] H s (fun _ _ _ => False) e s' → False) :
    PySem.W.WalkO q loose XP YP l.row.toRowW d [] (fun f vs => PySem.call f vs) :=
  walk_of (K := K) (CX := fun _ => CX) (sp := fun w => sp (K w.params)) hn hn2 hdf hr hY F (fun w H a ns h1 h2 h3 => hsp (K w.params) H a ns h1 h2 h3) fun _ H s e s' => hCX H s e s'
end L2
/- THE LAST THEOREM (shape; LID, My.* are yours):
   My.Adr: a structure of the addresses that your layer names (classes, functions); My.Txt K t: a structure (Prop) of the equations over K;
   My.txt_mk : {K} {implicit addresses ..} (e1 : nsIn K mainGlobals "law" = some (some (.ref f))) (e2 : K.lookup f = some ⟨oc, od, .func (fnOf "law" "law" params body scope dV kV doc pm an cdv ct), sl⟩) (e3 : codeIn K cdv "law" = true) .. : ∃ t, My.Txt K t
set_option maxRecDepth 100000 in
set_option maxHeartbeats 0 in
theorem PySem.Challenge.cw_LID_holds : PySem.Challenge.rw_LID.Holds := by
  w_on; o_law; k_head; (case hw => w_witness2)
  k_fill
  refine L2.walk_of (l := PySem.Challenge.rw_LID) (n := 63) (k := 40) (x := "script") (CX := fun w => ..) (sp := fun _ => My.sp_law) rfl (by decide) rfl ⟨rfl, by decide, by decide⟩ (fun w h Y => PySem.W.kIn_of Y) ?F ?S ?C
  case F =>
    intro w mg fa h KX G hmg
    have T : ∃ t, My.Txt (L2.KOf KX) t := by
      dsimp only [L2.KOf]                          -- K must stand as «<heap const> w.params» for k_is
      refine' My.txt_mk ?e1 ?e2 ?e3 ..
      (case e1 => PySem.W.k_is)                    -- in the order: a name -> its address -> its object -> its parts
      (case e2 => PySem.W.k_is)
      ..
    obtain ⟨t, T⟩ := T
    have e0 := hmg.symm.trans (PySem.W.mg_of KX G T.law)
    cases e0                                       -- fa is the law's own address
    exact ⟨_, fun s u => .of_eq rfl, fun base kb nb => My.law_fn T kb nb⟩     -- if «.of_eq rfl» comes too early: refine' ⟨_, ?b, fun base kb nb => My.law_fn T kb nb⟩; exact fun s u => .of_eq rfl
  case S => exact fun w H a ns hl hO hS => ..
  case C => exact ..
(the tactic k_is has no namespace: write k_is) -/
/-! SHORT WORDS over the layer: a def of the text, its body, what a loop and a test want. -/
namespace L2
open PySem PySem.Spec PyProof.Rows
/-! ### the text by places -/
/-- the j-th statement of a class's body -/
def inClass (s : Stmt) (j : Nat) : Stmt := match s with
  | .ClassDef _ _ _ body _ _ _ _ _ _ _ => body.getD j (.Pass ⟨0, 0, 0, 0⟩)
  | _ => .Pass ⟨0, 0, 0, 0⟩
def defArgs (s : Stmt) : Arguments := match s with
  | .FunctionDef _ a _ _ _ _ _ _ _ _ => a
  | _ => { posonlyargs := [], args := [], vararg := none, kwonlyargs := [], kw_defaults := [], kwarg := none, defaults := [] }
def defBody (s : Stmt) : List Stmt := match s with
  | .FunctionDef _ _ b _ _ _ _ _ _ _ => b
  | _ => []
def defScope (s : Stmt) : Scope := match s with
  | .FunctionDef _ _ _ _ _ _ sc _ _ _ => sc
  | _ => { kind := .function, names := [], isGenerator := false, isCoroutine := false }
/-! ### no exception leaves a def -/
abbrev CX0 : CXT := fun _ _ _ _ _ _ => False
abbrev E0 : XK := fun _ _ _ => False
theorem pass0 {X : Cx} : Passes CX0 X E0 := fun _ _ _ _ _ _ _ h => h.elim
/-! ### a def (or method) of the text as it stands behind the top -/
structure Fun (K : PySem.W.Frag) (x qual : Str) (st : Stmt) (f : Addr) (fd : FuncData) : Prop where
  ex : ∃ (oc : Value) (od : Option Addr) (kV doc pm : Value) (an : Option Addr) (cdv ct : Value) (osl : Array (Option Value)),
    fd = PySem.W.fnOf x qual (defArgs st) (defBody st) (defScope st) .none kV doc pm an cdv ct ∧ K.lookup f = some ⟨oc, od, .func fd, osl⟩ ∧ PySem.W.codeIn K cdv qual = true
  kp : PySem.W.keepIn K (.ref f) = true
section
variable {P : Program} {w : World} {K : PySem.W.Frag} {mg : Str → Option Value} {base : Heap}
/-- THE RULE for a def: its body as a term of rules, and the reading of that term -/
theorem Fun.ok {x qual : Str} {st : Stmt} {f : Addr} {fd : FuncData} {N ps : List Str} {k : Nat} {sp : Sp} (F : Fun K x qual st f fd) (S : FnScope N ps (defScope st)) (len : ∀ vs H Q E, sp vs H Q E → vs.length = ps.length)
    (hbody : ∀ (cdv : Value) (A : Around) (outer : List Env) (s : Shared) (H : Hp) (vs : List V) (Q : VK) (E : XK), Room k (A.deeper (envOfC qual (defScope st) s.heap.objs.size f cdv)) → sp vs H Q E →
      ∃ t, PSs (cxOf CX0 P w K mg base N qual (defScope st) f cdv A outer s H E).nox (defBody st) t ∧ t { nx := fun _ H' => Q .non H', rt := Q } (start N vs) H) : FnOk P w K mg base CX0 (k + 1) f fd ps sp := by
  obtain ⟨oc, od, kV, doc, pm, an, cdv, ct, osl, rfl, lk, hcd⟩ := F.ex
  refine fn_of lk hcd S len fun A outer s H vs Q E hr hsp => ?_
  obtain ⟨t, h, q⟩ := hbody cdv A outer s H vs Q E hr hsp
  exact ⟨t, h.nox, q⟩
/-- how its arguments bind (no defaults): h is «fun _ _ _ _ _ _ us hl => match us, hl with | [_, _], _ => rfl», one _ a parameter -/
theorem Fun.binds {x qual : Str} {st : Stmt} {f : Addr} {fd : FuncData} {ps : List Str} (F : Fun K x qual st f fd)
    (h : ∀ (kV doc pm : Value) (an : Option Addr) (cdv ct : Value) (us : List Value), us.length = ps.length → bindArgs (PySem.W.fnOf x qual (defArgs st) (defBody st) (defScope st) .none kV doc pm an cdv ct) ⟨us, []⟩ = pure (ps.zip us)) : Binds K fd ps [] := by
  obtain ⟨oc, od, kV, doc, pm, an, cdv, ct, osl, rfl, lk, hcd⟩ := F.ex
  exact .all (h kV doc pm an cdv ct)
theorem fun_mk {x qual : Str} {st : Stmt} {f : Addr} {oc : Value} {od an : Option Addr} {osl : Array (Option Value)} {kV doc pm cdv ct : Value} (l : K.lookup f = some ⟨oc, od, .func (PySem.W.fnOf x qual (defArgs st) (defBody st) (defScope st) .none kV doc pm an cdv ct), osl⟩)
    (c : PySem.W.codeIn K cdv qual = true) (k : PySem.W.keepIn K (.ref f) = true) : Fun K x qual st f (PySem.W.fnOf x qual (defArgs st) (defBody st) (defScope st) .none kV doc pm an cdv ct) := ⟨⟨oc, od, kV, doc, pm, an, cdv, ct, osl, rfl, l, c⟩, k⟩
end
/-! ### expressions in short: the name that stands in the i-th slot -/
section
variable {X : Cx}
end
/-! ### tests -/
/-! ### heaps -/
/-- all that was tracked is as it was -/
def Same (H H' : Hp) : Prop := ∀ b o, H b = some o → H' b = some o
end L2
set_option Elab.async false
set_option linter.all false
set_option maxRecDepth 100000
set_option maxHeartbeats 4000000
/-! list comprehensions over the layer -/
namespace L2
open PySem PySem.Spec PyProof.Rows
section
variable {X : Cx}
/-- the block's slots: those that stand in the frame around, by their places there -/
def capS (cap : List (Option Nat)) (σ : St) : St := cap.map fun o => o.bind fun i => (σ[i]?).join
/-- the block's context -/
def cxComp (X : Cx) (cN : List Str) (scope : Scope) (cl : List (Str × Addr)) (fp : List Addr) (s : Shared) (H : Hp) : Cx :=
  { X with N := cN, s₀ := s, H₀ := H, env := compEnvC scope cl s.heap.objs.size X.env, outer := X.stack, ex := fp, fn := fun _ => false, pn := [], xe := fun _ _ => False }
/-- the tests of a clause -/
def PIfs (X : Cx) (ifs : List Expr) (c : TT) : Prop :=
  ∀ (pins : List (Addr × Obj)) (s : Shared) (σ : St) (H : Hp) (Q : Bool → Hp → Prop), Inv X pins σ H s → c σ H Q →
    wpAny (model X.prog X.w) X.A (forIn ifs true fun c r => if r = true then do let ok ← isTrue c X.env (eval c X.env); pure (ForInStep.yield ok) else pure (ForInStep.yield r)) (TP X pins σ Q) X.xe s
def tNoIf : TT := fun _ H Q => Q true H
/-- a target stores nowhere but at js -/
def GKeep (js : List Nat) (g : TG) : Prop := ∀ x σ H Q, g x σ H Q → g x σ H fun σ' H' => Q σ' H' ∧ σ'.length = σ.length ∧ ∀ i, i ∉ js → σ'[i]? = σ[i]?
def GsKeep (js : List Nat) (g : TGs) : Prop := ∀ x σ H Q, g x σ H Q → g x σ H fun σ' H' => Q σ' H' ∧ σ'.length = σ.length ∧ ∀ i, i ∉ js → σ'[i]? = σ[i]?
def TGmono (g : TG) : Prop := ∀ x σ H (Q Q' : St → Hp → Prop), (∀ σ' H', Q σ' H' → Q' σ' H') → g x σ H Q → g x σ H Q'
def TGsmono (g : TGs) : Prop := ∀ x σ H (Q Q' : St → Hp → Prop), (∀ σ' H', Q σ' H' → Q' σ' H') → g x σ H Q → g x σ H Q'
/-- a comprehension's turns: p is the new list -/
def tGo (cap : List (Option Nat)) (g : TG) (c : TT) (te : TE) (σ : St) (Q : Addr → Hp → Prop) (J : It) (H1 : Hp) : Prop := ∀ p, H1 p = none → ∃ W : Nat → Nat → Hp → Prop, (∃ m, W 0 m (upd H1 p (.lst []))) ∧ ∀ i m H, W i m H →
  (J.stop i H ∧ Q p H) ∨ (J.go i H ∧ ∃ N : Hp → Prop, (∀ H', N H' → ∃ m', m' < m ∧ W (i + 1) m' H') ∧ ∀ x H', J.yld i H x H' → g x (capS cap σ) H' fun σ2 H2 => c σ2 H2 fun b H3 =>
    if b = true then te σ2 H3 fun v H4 => ∃ xs, H4 p = some (.lst xs) ∧ xs.length < sizeLine ∧ N (upd H4 p (.lst (xs ++ [v]))) else N H3)
/-- a comprehension's reading -/
def tCompL (cap : List (Option Nat)) (wi : TI) (g : TG) (c : TT) (te : TE) : St → Hp → (Addr → Hp → Prop) → Prop := fun σ H Q => wi σ H fun J H1 => tGo cap g c te σ Q J H1
structure CompOk (X : Cx) (cN : List Str) (cap : List (Option Nat)) (scope : Scope) (cl : List (Str × Addr)) : Prop where
  clos : closureFor scope X.env = pure cl
  sub : ∀ n a, cl.lookup n = some a → X.env.cells.lookup n = some a
  cell : ∀ y ∈ scope.names, y.2 ≠ .cell
  kind : scope.kind = .function
  names : ∀ x ∈ scope.names, x.2 = .local → scope.names.lookup x.1 = some .local
  len : cap.length = cN.length
  has : ∀ x, ((relabel scope X.env).names.lookup x = some .cell ∨ (relabel scope X.env).names.lookup x = some .free) → ∃ a, cl.lookup x = some a
  capd : ∀ (i j : Nat) (x : Str), cap[i]? = some (some j) → cN[i]? = some x → X.N[j]? = some x ∧ Vis X.env.scope x ∧ X.env.scope.names.lookup x ≠ some .local ∧ ((relabel scope X.env).names.lookup x = some .cell ∨ (relabel scope X.env).names.lookup x = some .free)
section
variable {X : Cx} {tg iter elt : Expr} {ifs : List Expr} {scope : Scope} {pos : Pos} {cN : List Str} {cap : List (Option Nat)} {cl : List (Str × Addr)} {js : List Nat} {wi : TI} {g : TG} {c : TT} {te : TE}
/-- what a comprehension's parts must be -/
structure CompP (X : Cx) (tg iter elt : Expr) (ifs : List Expr) (scope : Scope) (cN : List Str) (cap : List (Option Nat)) (cl : List (Str × Addr)) (js : List Nat) (wi : TI) (g : TG) (c : TT) (te : TE) : Prop where
  calm : X.calm = true
  ok : X.Ok → CompOk X cN cap scope cl
  it : PI X tg iter wi
  tgt : ∀ fp s H, PG (cxComp X cN scope cl fp s H) tg g
  gm : TGmono g
  gk : GKeep js g
  js0 : ∀ j ∈ js, (cap[j]?).join = none
  ts : ∀ fp s H, PIfs (cxComp X cN scope cl fp s H) ifs c
  tm : ∀ σ H (Q Q' : Bool → Hp → Prop), (∀ b H', Q b H' → Q' b H') → c σ H Q → c σ H Q'
  el : ∀ fp s H, PE (cxComp X cN scope cl fp s H) elt te
  fold : ∀ x, foldedSetIterable iter X.env x = pure x
def tComp (cap : List (Option Nat)) (wi : TI) (g : TG) (c : TT) (te : TE) : TE := fun σ H Q => tCompL cap wi g c te σ H fun p H' => Q (.ref p) H'
/-- x = [.. for ..], x a plain local: stored ahead of the block's end -/
def tSetComp (i : Nat) (cap : List (Option Nat)) (wi : TI) (g : TG) (c : TT) (te : TE) : TS := fun D σ H => tCompL cap wi g c te σ H fun p H' => D.nx (σ.set i (some (.ref p))) H'
end
end
end L2
set_option Elab.async false
set_option linter.all false
set_option maxRecDepth 100000
set_option maxHeartbeats 4000000
/-! more rules over the layer: texts walked, enumerate, all, isinstance, lists compared, slices of texts, () + t -/
namespace L2
open PySem PySem.Spec PyProof.Rows
/-! ### for c in a text -/
def Its (z : Str) : It := ⟨fun i _ => i < z.cps.size, fun i H x H' => H' = H ∧ ∃ c, z.cps[i]? = some c ∧ x = .str ⟨#[c]⟩, fun i _ => i = z.cps.size⟩
theorem turn_walks {P : Program} {w : World} {K : PySem.W.Frag} {tg : Expr} {ty : String} {it : Addr} {z : Str} {t : Tok} (hty : ["enumerate", "zip", "dict_itemiterator", "dict_reverseitemiterator", "odict_iterator", "itertools.zip_longest", "itertools.pairwise"].contains ty = false)
    (W : ∀ A : Around, A.handled = none → Walks P w A it [it] [it] z.cps.size (SignAt z) (fun i h => h.IsStrIter it ty z t i))
    (self : ∀ (A : Around) (i : Nat) (s : Shared) (Q : Value → Shared → Prop) (E : Value → Shared → Prop), s.heap.IsStrIter it ty z t i → Q (.ref it) s → wpAny (model P w) A (pyIter (.ref it)) Q E s) :
    Turn P w K tg (Its z) [it] it (fun i h => h.IsStrIter it ty z t i) where
  mem := by simp
  obj := fun i h st b hb => by
    have e : b = it := by simpa using hb
    subst e
    obtain ⟨o, e, c, d⟩ := st
    exact ⟨o, e, fun v z => by rw [d] at z; cases z⟩
  keep := fun i h h' st k => let ⟨o, e, r⟩ := st; ⟨o, k it (by simp) o e, r⟩
  item := by
    intro X hP hw hK hc i pins s σ H E I hf st hg
    subst hP hw hK
    obtain ⟨f0, f1, f2, f3, f4, f5⟩ := hf it (by simp)
    refine (W X.A (I.ok.hd hc)).item i s _ _ hg st fun v h' tk hv st' kk => ?_
    obtain ⟨c, u, hcp, rfl⟩ := hv
    have I1 : Inv X pins σ H { s with heap := h', toks := tk } := I.turned (fun b o hb e => kk b o (by simpa using hb) e) f0 f1 f3 f4 f5
    obtain ⟨o, e, c', d⟩ := id st'
    exact ⟨_, rfl, go_of (s := { s with heap := h', toks := tk }) e c' d hty ⟨.str ⟨#[c]⟩, H, I1, ⟨u, rfl⟩, ⟨rfl, c, hcp, rfl⟩, st', fun b hb => (hf b hb).1⟩⟩
  done := by
    intro X hP hw hK hc i pins s σ H E I hf st hg
    subst hP hw hK
    obtain ⟨f0, f1, f2, f3, f4, f5⟩ := hf it (by simp)
    have e : i = z.cps.size := hg
    subst e
    exact (W X.A (I.ok.hd hc)).done s _ _ st fun h' tk kk => ⟨rfl, I.turned (fun b o hb e => kk b o (by simpa using hb) e) f0 f1 f3 f4 f5⟩
  self := self
section
variable {X : Cx} {tg : Expr}
def iStr (tl : TE) : TI := fun σ H R => tl σ H fun x H1 => ∃ z, x = .str z ∧ R (Its z) H1
end
/-! ### for k, c in enumerate(a text) -/
def Ite (z : Str) : It := ⟨fun i _ => i < z.cps.size, fun i H x H' => ∃ c T, z.cps[i]? = some c ∧ x = .ref T ∧ H T = none ∧ H' = upd H T (.tup [.int i, .str ⟨#[c]⟩]), fun i _ => i = z.cps.size⟩
section
variable {X : Cx} {elts : List Expr} {ek : Nat} {epos : Pos}
def iEnum (ta : TA) : TI := fun σ H R => ta σ H fun vs H1 => ∃ z, vs = [.str z] ∧ R (Ite z) H1
end
section
variable {X : Cx}
/-! ### all of a list of truths -/
/-! ### isinstance of a built-in class -/
/-! ### two lists of the very same items -/
def okV : V → Bool
  | .flt _ => false
  | .byt _ => false
  | _ => true
def rEqL (K : PySem.W.Frag) (k : Bool) : R2 := fun x y H Q => ∃ p q xs, x = .ref p ∧ y = .ref q ∧ SqL K H p xs ∧ SqL K H q xs ∧ xs.all okV = true ∧ Q (.bl k) H
/-! ### () + t -/
def rCatT0 (K : PySem.W.Frag) : R2 := fun x y H Q => ∃ a b ys, x = .ref a ∧ y = .ref b ∧ SqT K H a [] ∧ SqT K H b ys ∧ Q (.ref b) H
theorem op_catT0 : OpR X (binaryOp .Add) (rCatT0 X.K) := by
  intro pins s σ H x y v u Q I rx ry h
  obtain ⟨a, b, ys, rfl, rfl, ha, hb, q⟩ := h
  cases rx
  cases ry
  obtain ⟨its, r1, p1, _⟩ := I.tuple ha
  obtain ⟨its2, r2, p2, _⟩ := I.tuple hb
  cases r1
  obtain ⟨⟨cls, dd, data, sl⟩, ho, hc, n, hd⟩ := id p1
  obtain ⟨⟨cls2, dd2, data2, sl2⟩, ho2, hc2, n2, hd2⟩ := id p2
  simp only at hc hd hc2 hd2
  subst hc hd hc2 hd2
  exact concat_meets ⟨_, ho, rfl⟩ ⟨_, ho2, rfl⟩ noFill_tuple_add seq_tuple_add PySem.F.slot_tuple_add PySem.F.entry_tuple_add (PySem.F.args_tuple_add_2 _ _)
    (tuple_addW0 a b _ _ n n2 dd dd2 sl sl2 (by simp)) ⟨ho, ho2, ⟨.ref b, H, I, rfl, q⟩⟩
/-! ### a text's slice -/
theorem part_of {v : Value} {o : Option Int} (h : IsPart v o) : ∃ l : Option (Int × Tok), v = partValue l ∧ l.map (·.1) = o := by
  cases h with
  | none => exact ⟨none, rfl, rfl⟩
  | int i t => exact ⟨some (i, t), rfl, rfl⟩
def rSlS : V → Option Int → Option Int → Hp → VK → Prop := fun x lo hi H Q => ∃ z, x = .str z ∧ z.length ≤ sizeLine ∧ Q (.str (Txt.slice z lo hi)) H
theorem sl_str : SlR X rSlS := by
  intro pins s σ H x v vl vu lo hi sl Q I rx hs pl pu h
  obtain ⟨z, rfl, hz, q⟩ := h
  obtain ⟨t, rfl⟩ := rx
  obtain ⟨l, rfl, rfl⟩ := part_of pl
  obtain ⟨u, rfl, rfl⟩ := part_of pu
  refine ⟨"str", _, PySem.F.slot_str_getitem.lookup, typeIs_str _ _ _, ?_⟩
  obtain ⟨o, ho, hc, hd⟩ := hs
  refine wpAny_getItem_str_slice (l := l) (u := u) (st := none) ⟨o, ho, hc, hd⟩ rfl ?_
  have hle := Txt.slice_le z (l.map (·.1)) (u.map (·.1))
  unfold sliceMade
  unfold Txt.slice at q hle
  show Made.post (if ((1 : Int) == 1 && (PySem.Builtin.Str.strSliceIndices (l.map (·.1)) (u.map (·.1)) 1 z.length).length == z.length) = true then _ else Made.str ⟨((PySem.Builtin.Str.strSliceIndices (l.map (·.1)) (u.map (·.1)) 1 z.length).filterMap (z.cps[·]?)).toArray⟩) _ s
  split
  · rename_i hif
    rw [if_pos hif] at q
    exact ⟨.str z, H, I, ⟨t, rfl⟩, q⟩
  · rename_i hif
    rw [if_neg hif] at q
    rw [if_neg hif] at hle
    exact ⟨Nat.le_trans hle hz, .str _, H, I.tok _, ⟨_, rfl⟩, q⟩
end
end L2
set_option Elab.async false
set_option linter.all false
set_option maxRecDepth 100000
set_option maxHeartbeats 4000000
namespace L2
open PySem PySem.Spec PyProof.Rows
theorem bt_isinstance : bootBuiltins "isinstance" = some (.builtin "isinstance") := by decide +kernel
theorem bt_bool : bootBuiltins "bool" = some (.type "bool") := by decide +kernel
theorem bt_int : bootBuiltins "int" = some (.type "int") := by decide +kernel
theorem bt_str : bootBuiltins "str" = some (.type "str") := by decide +kernel
section
variable {X : Cx}
/-- a def that keeps its promise, whatever its address -/
structure Ca (P : Program) (w : World) (K : PySem.W.Frag) (mg : Str → Option Value) (base : Heap) (k : Nat) (x : Str) (ps : List Str) (sp : Sp) : Prop where
  ex : ∃ (f : Addr) (fd : FuncData), FnOk P w K mg base CX0 k f fd ps sp ∧ Binds K fd ps [] ∧ PySem.W.keepIn K (.ref f) = true ∧ mg x = some (.ref f)
theorem pe_ca {k : Nat} {x : Str} {ps : List Str} {sp : Sp} {p pos : Pos} {e : Expr} {es : List Expr} {t : TA} (C : Ca X.prog X.w X.K X.mg X.base k x ps sp) (hr : Room k X.A) (hg : Gl X x) (ha : PA X (e :: es) t)
    (hdb : (x == ("__debug__" : Str)) = false := by decide) (he : starEach (e :: es) X.env = (false, eval e X.env) :: starEach es X.env := by rfl) (hpl : (backTo pos (starEach es X.env)).any (·.1) = false := by rfl) :
    PE X (.Call (.Name x p) (e :: es) [] pos) (tCall sp [] E0 t) := by
  obtain ⟨f, fd, F, B, kp, m⟩ := C.ex
  exact pe_call F hr hg m kp B .nil pass0 ha hdb he hpl
/-! the names of a block -/
/-- the cells that a block takes -/
def closOf (cells : List (Str × Addr)) : List (Str × NameKind) → List (Str × Addr) → List (Str × Addr)
  | [], cs => cs
  | (n, k) :: r, cs => closOf cells r (if k == .free then (n, (cells.lookup n).getD 0) :: cs else cs)
/-- the block's names stand at these places of the frame around, as cells -/
def capOk (N : List Str) (outer inner : List (Str × NameKind)) : List (Option Nat) → List Str → Bool
  | [], _ => true
  | _, [] => true
  | none :: r, _ :: xs => capOk N outer inner r xs
  | some j :: r, x :: xs => N[j]? == some x && outer.lookup x == some .cell && inner.lookup x == some .free && capOk N outer inner r xs
end
end L2
set_option Elab.async false
set_option linter.all false
set_option maxRecDepth 100000
set_option maxHeartbeats 4000000
namespace L2
open PySem PySem.Spec PyProof.Rows
/-- the list grown so far, and what holds of it -/
def CN (p : Addr) (Pv : Nat → List V → Hp → Prop) (i : Nat) (H : Hp) : Prop := ∃ ys, H p = some (.lst ys) ∧ ys.length ≤ i ∧ Pv i ys H
section
variable {K : PySem.W.Frag} {cap : List (Option Nat)} {g : TG} {c : TT} {te : TE} {σ : St} {Q : Addr → Hp → Prop} {H : Hp}
end
/-- a for's turns -/
def tForGo (g : TG) (tb : TS) (D : Ends) (σ : St) (J : It) (H1 : Hp) : Prop := ∃ W : Nat → Nat → St → Hp → Prop, (∃ m, W 0 m σ H1) ∧ ∀ i m σ H, W i m σ H →
  (J.stop i H ∧ D.nx σ H) ∨ (J.go i H ∧ ∃ N : St → Hp → Prop, (∀ σ' H', N σ' H' → ∃ m', m' < m ∧ W (i + 1) m' σ' H') ∧ ∀ x H', J.yld i H x H' → g x σ H' fun σ2 H2 => tb { D with nx := N, ct := N, bk := D.nx } σ2 H2)
section
variable {K : PySem.W.Frag} {a : Addr} {xs : List V} {g : TG} {tb : TS} {D : Ends} {σ : St} {H : Hp} {z : Str}
end
theorem tyL {K : PySem.W.Frag} {H : Hp} {r : Addr} {xs : List V} (h : H r = some (.lst xs)) : tyV K "list" (.ref r) H := by
  unfold tyV
  exact .inl ⟨rfl, xs, SqL.of h⟩
end L2
set_option Elab.async false
set_option linter.all false
set_option maxRecDepth 100000
set_option maxHeartbeats 4000000
namespace L2
open PySem PySem.Spec PyProof.Rows
/-! ### lists of pairs as tables -/
section
variable {κ : Type} [DecidableEq κ]
def valV (kvs : List (κ × V)) (k : κ) : Option V := (kvs.find? fun kv => decide (kv.1 = k)).map (·.2)
/-- in its place, or at the end -/
def putK (kvs : List (κ × V)) (k : κ) (v : V) : List (κ × V) :=
  if (kvs.any fun kv => decide (kv.1 = k)) = true then kvs.map (fun kv => if kv.1 = k then (kv.1, v) else kv) else kvs ++ [(k, v)]
def dropK (kvs : List (κ × V)) (k : κ) : List (κ × V) := kvs.filter fun kv => decide (kv.1 ≠ k)
end
/-! ### a tracked dict, its keys ints and texts or tuples of these -/
/-- raw entries of a dict with tuple keys -/
abbrev KT (H : Hp) : List (List Key × V) → List (List Key × Addr × Value) → Prop := Paired fun p q => p.1 = q.1 ∧ H q.2.1 = some (.tup (p.1.map kV)) ∧ RelV p.2 q.2.2
section
variable {P : Program} {w : World} {H : Hp} {h : Heap} {a : Addr}
end
/-- what the dict at a holds at the key y -/
def DGet (H : Hp) (a : Addr) (y : V) (r : Option V) : Prop :=
  (∃ kvs k, Rd H a (.dK kvs) ∧ y = kV k ∧ r = valV kvs k) ∨ ∃ kvs k b, Rd H a (.dT kvs) ∧ y = .ref b ∧ H b = some (.tup (k.map kV)) ∧ r = valV kvs k
/-- the heap behind a[y] = v -/
def DPut (H : Hp) (a : Addr) (y v : V) (H' : Hp) : Prop :=
  (∃ kvs k, H a = some (.dK kvs) ∧ y = kV k ∧ kvs.length < sizeLine ∧ H' = upd H a (.dK (putK kvs k v))) ∨
  ∃ kvs k b, H a = some (.dT kvs) ∧ y = .ref b ∧ H b = some (.tup (k.map kV)) ∧ kvs.length < sizeLine ∧ H' = upd H a (.dT (putK kvs k v))
section
variable {X : Cx} {pins : List (Addr × Obj)} {σ : St} {H : Hp} {s : Shared} {a : Addr} {y v : V} {u r : Value} {o : Option V} {A : Around} {E : Value → Shared → Prop}
end
section
variable {X : Cx} {pins : List (Addr × Obj)} {σ : St} {H : Hp} {s : Shared} {a : Addr} {kvs : List (Key × V)} {k : Key} {u : Value} {A : Around} {E : Value → Shared → Prop}
end
/-! ### readings and rules -/
/-- the element of a subscription, not a slice -/
def NoSl (i : Expr) : Prop := ∀ ov iv, subscripted i false ov iv = operate [ov, iv] (getItem ov iv)
/-- d[y] -/
def tDGet (td ty : TE) : TE := fun σ H Q => td σ H fun x H1 => ty σ H1 fun y H2 => ∃ a v, x = .ref a ∧ DGet H2 a y (some v) ∧ Q v H2
/-- y in d, y not in d -/
def tDIn (ty td : TE) : TE := fun σ H Q => ty σ H fun y H1 => td σ H1 fun x H2 => ∃ a o, x = .ref a ∧ DGet H2 a y o ∧ Q (.bl o.isSome) H2
def tDNotIn (ty td : TE) : TE := fun σ H Q => ty σ H fun y H1 => td σ H1 fun x H2 => ∃ a o, x = .ref a ∧ DGet H2 a y o ∧ Q (.bl (!o.isSome)) H2
/-- d[y] = v -/
def sDPut (td ty tv : TE) : TS := fun D σ H => tv σ H fun v H1 => td σ H1 fun x H2 => ty σ H2 fun y H3 => ∃ a H4, x = .ref a ∧ DPut H3 a y v H4 ∧ D.nx σ H4
/-- d[y] op= v -/
def sDAug (td ty tv : TE) (rd : V → V → Hp → VK → Prop) : TS := fun D σ H => td σ H fun x H1 => ty σ H1 fun y H2 => ∃ a v, x = .ref a ∧ DGet H2 a y (some v) ∧
  tv σ H2 fun y2 H3 => rd v y2 H3 fun z H4 => ∃ H5, DPut H4 a y z H5 ∧ D.nx σ H5
/-- del d[y] -/
def sDDel (td ty : TE) : TS := fun D σ H => td σ H fun x H1 => ty σ H1 fun y H2 => ∃ a kvs k, x = .ref a ∧ H2 a = some (.dK kvs) ∧ y = kV k ∧ (valV kvs k).isSome = true ∧ D.nx σ (upd H2 a (.dK (dropK kvs k)))
section
variable {X : Cx} {o i e value : Expr} {pos pos' tpos : Pos} {td ty tv : TE}
end
/-! ### displays -/
/-- {}, to be a dict of the kind that is wanted -/
def tDNewK : TE := fun _ H Q => ∀ p, H p = none → Q (.ref p) (upd H p (.dK []))
def tDNewT : TE := fun _ H Q => ∀ p, H p = none → Q (.ref p) (upd H p (.dT []))
section
variable {X : Cx} {pos : Pos}
end
/-- the pairs of a display, from the left -/
def tPairs : List (TE × TE) → St → Hp → (List (V × V) → Hp → Prop) → Prop
  | [], _, H, Q => Q [] H
  | (tk, tv) :: r, σ, H, Q => tk σ H fun x H1 => tv σ H1 fun y H2 => tPairs r σ H2 fun ps H3 => Q ((x, y) :: ps) H3
abbrev VV : List (V × V) → List (Value × Value) → Prop := Paired fun p q => RelV p.1 q.1 ∧ RelV p.2 q.2
def PPs (X : Cx) (pos : Pos) (keys : List (Option Expr)) (values : List Expr) (trs : List (TE × TE)) : Prop :=
  ∀ (pins : List (Addr × Obj)) (s : Shared) (σ : St) (H : Hp) (Q : List (V × V) → Hp → Prop), Inv X pins σ H s → tPairs trs σ H Q →
    wpAny (model X.prog X.w) X.A (evalPairs (pairTrees keys values X.env pos)) (fun vs s' => ∃ ps H', Inv X pins σ H' s' ∧ VV ps vs ∧ Q ps H') X.xe s
def mergeK (kvs more : List (Key × V)) : List (Key × V) := more.foldl (fun acc kv => putK acc kv.1 kv.2) kvs
/-- {k: v, ..} with keys ints and texts; the new dict stands empty while the pairs are made -/
def tDisp (trs : List (TE × TE)) : TE := fun σ H Q => ∀ p, H p = none → tPairs trs σ (upd H p (.dK [])) fun ps H2 => H2 p = some (.dK []) ∧ ∃ kvs : List (Key × V), ps = kvs.map (fun kv => (kV kv.1, kv.2)) ∧ kvs.length ≤ 15 ∧ Q (.ref p) (upd H2 p (.dK (mergeK [] kvs)))
/-! ### methods -/
/-- a method call o.m(e) of a built-in, with one argument: what must be seen of the text -/
structure M1 (X : Cx) (o : Expr) (m : Str) (apos : Pos) (e : Expr) (cpos : Pos) : Prop where
  base : attributeBase o m X.env (eval o X.env) = eval o X.env
  few : ((backTo cpos (starEach [e] X.env)).all (fun x => !x.1) && (backToKw cpos (keywordEach [] X.env)).all (fun x => x.1.isSome)
    && decide (([e] : List Expr).length + ([] : List Keyword).length + (if ([] : List Keyword).isEmpty then 0 else 1) < 30)) = true
  line : (apos.endLine == cpos.line) = true
  trees : backTo cpos (starEach [e] X.env) = [(false, eval e X.env)]
structure M2 (X : Cx) (o : Expr) (m : Str) (apos : Pos) (e f : Expr) (cpos : Pos) : Prop where
  base : attributeBase o m X.env (eval o X.env) = eval o X.env
  few : ((backTo cpos (starEach [e, f] X.env)).all (fun x => !x.1) && (backToKw cpos (keywordEach [] X.env)).all (fun x => x.1.isSome)
    && decide (([e, f] : List Expr).length + ([] : List Keyword).length + (if ([] : List Keyword).isEmpty then 0 else 1) < 30)) = true
  line : (apos.endLine == cpos.line) = true
  trees : backTo cpos (starEach [e, f] X.env) = [(false, eval e X.env), (false, eval f X.env)]
/-- a is a dict, whatever its keys -/
def IsD (H : Hp) (a : Addr) : Prop := (∃ kvs, Rd H a (.dK kvs)) ∨ ∃ kvs, Rd H a (.dT kvs)
section
variable {X : Cx} {pins : List (Addr × Obj)} {σ : St} {H : Hp} {s : Shared} {a : Addr} {y d : V} {u r : Value} {o : Option V} {A : Around} {E : Value → Shared → Prop}
end
def tDGet1 (td ty : TE) : TE := fun σ H Q => td σ H fun x H1 => ∃ a, x = .ref a ∧ IsD H1 a ∧ ty σ H1 fun y H2 => ∃ o, DGet H2 a y o ∧ Q (o.getD .non) H2
def tDGet2 (td ty tx : TE) : TE := fun σ H Q => td σ H fun x H1 => ∃ a, x = .ref a ∧ IsD H1 a ∧ ty σ H1 fun y H2 => tx σ H2 fun z H3 => ∃ o, DGet H3 a y o ∧ Q (o.getD z) H3
/-- d.pop(k): there; d.pop(k, x): there or not -/
def tDPop1 (td ty : TE) : TE := fun σ H Q => td σ H fun x H1 => ∃ a, x = .ref a ∧ IsD H1 a ∧ ty σ H1 fun y H2 => ∃ kvs k v, H2 a = some (.dK kvs) ∧ y = kV k ∧ valV kvs k = some v ∧ Q v (upd H2 a (.dK (dropK kvs k)))
def tDPop2 (td ty tx : TE) : TE := fun σ H Q => td σ H fun x H1 => ∃ a, x = .ref a ∧ IsD H1 a ∧ ty σ H1 fun y H2 => tx σ H2 fun z H3 => ∃ kvs k, H3 a = some (.dK kvs) ∧ y = kV k ∧
  (∀ v, valV kvs k = some v → Q v (upd H3 a (.dK (dropK kvs k)))) ∧ (valV kvs k = none → Q z H3)
section
variable {X : Cx} {o e f : Expr} {apos cpos : Pos} {td ty tx : TE}
end
/-! ### dict(d): a copy -/
section
variable {X : Cx} {pins : List (Addr × Obj)} {σ : St} {H : Hp} {s : Shared} {a : Addr} {kvs : List (Key × V)} {A : Around} {E : Value → Shared → Prop}
end
section
variable {X : Cx} {pins : List (Addr × Obj)} {σ : St} {H : Hp} {s : Shared} {a : Addr} {y : V} {u : Value} {A : Around} {E : Value → Shared → Prop}
end
end L2
set_option Elab.async false
set_option linter.all false
set_option maxRecDepth 100000
set_option maxHeartbeats 4000000
/-! texts joined -/
namespace L2
open PySem PySem.Spec PyProof.Rows
section
variable {X : Cx}
theorem strs_of : ∀ {zs : List Str} {us : List Value}, Vals (zs.map V.str) us → StrsAre us zs
  | [], us, h => by rw [h.zero]; exact .nil
  | z :: zs, us, h => by
    cases h with
    | cons a b => obtain ⟨t, rfl⟩ := a; exact .cons z t (strs_of b)
def rJoin (K : PySem.W.Frag) : V → List V → Hp → VK → Prop := fun x vs H Q => ∃ z p zs, x = .str z ∧ vs = [.ref p] ∧ SqL K H p (zs.map V.str) ∧ z.length ≤ 16 ∧ (zs.map (·.length)).sum + zs.length ≤ 1048576 ∧ Q (.str (Txt.join z zs)) H
theorem mt_join : MtR X "str.join" (rJoin X.K) := by
  intro pins s σ H x vs v us Q I rx rv h
  obtain ⟨z, p, zs, rfl, rfl, hq, h1, h2, q⟩ := h
  obtain ⟨t, rfl⟩ := rx
  obtain ⟨u, rfl, ru⟩ := vals1 rv
  cases ru
  obtain ⟨its, rI, pl, hz⟩ := I.list hq
  exact join_listW pl.isList (strs_of rI) h1 h2 fun t' k => ⟨.str _, H, I.tok _, ⟨_, rfl⟩, q⟩
end
end L2
set_option Elab.async false
set_option linter.all false
set_option maxRecDepth 100000
set_option maxHeartbeats 4000000
/-! a second level over the layer: tuples are values, lists and objects stand in a heap of their own; what a def does is a wish transformer over these -/
namespace WL
open PySem PySem.Spec PyProof.Rows L2
inductive T where
  | non | bl (b : Bool) | int (i : Int) | str (x : Str) | tup (xs : List T)
  /-- a list, a dict, an object of ours -/
  | ref (a : Addr)
  /-- a list that nobody changes (the script, a list of the module) -/
  | cl (xs : List T)
inductive O where
  | lst (xs : List T)
  | dic (kvs : List (Key × T))
  | ins (C : Addr) (fs : List (Str × T))
abbrev Hw := Addr → Option O
def up (C : Hw) (a : Addr) (o : O) : Hw := fun b => if b = a then some o else C b
theorem up_same {C : Hw} {a : Addr} {o : O} : up C a o a = some o := by unfold up; rw [if_pos rfl]
theorem up_ne {C : Hw} {a b : Addr} {o : O} (h : b ≠ a) : up C a o b = C b := by unfold up; rw [if_neg h]
/-! ### how a value stands in the abstract heap -/
def SqC (K : PySem.W.Frag) (H : Hp) (a : Addr) (xs : List V) : Prop :=
  (∃ o, H a = some (.frz o (.lst xs))) ∨
    ∃ (o : Obj) (its : Array Value) (n : Nat), K.lookup a = some o ∧ o.cls = .type "list" ∧ o.dict = none ∧ o.data = .seq its n ∧ its.size ≤ sizeLine ∧ Vals xs its.toList
theorem SqC.sq {K : PySem.W.Frag} {H : Hp} {a : Addr} {xs : List V} (h : SqC K H a xs) : SqL K H a xs := by
  rcases h with ⟨o, h⟩ | h
  · exact .inl (.inr ⟨o, h⟩)
  · exact .inr h
mutual
def Rep (K : PySem.W.Frag) (H : Hp) (x : V) : T → Prop
  | .non => x = .non
  | .bl b => x = .bl b
  | .int i => x = .int i
  | .str z => x = .str z
  | .ref a => x = .ref a
  | .tup ts => ∃ a ys, x = .ref a ∧ SqT K H a ys ∧ Reps K H ys ts
  | .cl ts => ∃ a ys, x = .ref a ∧ SqC K H a ys ∧ Reps K H ys ts
def Reps (K : PySem.W.Frag) (H : Hp) (ys : List V) : List T → Prop
  | [] => ys = []
  | t :: ts => ∃ y r, ys = y :: r ∧ Rep K H y t ∧ Reps K H r ts
end
def Stb : HO → Prop
  | .tup _ => True
  | .frz _ _ => True
  | _ => False
/-- tuples and frozen things stay -/
def Tx (H H' : Hp) : Prop := ∀ b o, H b = some o → Stb o → H' b = some o
theorem Tx.refl (H : Hp) : Tx H H := fun _ _ h _ => h
theorem Tx.trans {H H1 H2 : Hp} (a : Tx H H1) (b : Tx H1 H2) : Tx H H2 := fun c o h n => b c o (a c o h n) n
theorem Tx.new {H : Hp} {p : Addr} {o : HO} (h : H p = none) : Tx H (upd H p o) := fun b u q _ => by rw [upd_ne (ne_of_none q h)]; exact q
theorem Tx.put {H : Hp} {p : Addr} {o u : HO} (h : H p = some o) (n : ¬ Stb o) : Tx H (upd H p u) := fun b v q s => by
  by_cases e : b = p
  · subst e; rw [h] at q; cases q; exact absurd s n
  · rw [upd_ne e]; exact q
theorem Tx.sqt {K : PySem.W.Frag} {H H' : Hp} (t : Tx H H') {a : Addr} {xs : List V} (h : SqT K H a xs) : SqT K H' a xs := by
  rcases h with (h | ⟨o, h⟩) | h
  · exact .inl (.inl (t _ _ h trivial))
  · exact .inl (.inr ⟨o, t _ _ h trivial⟩)
  · exact .inr h
theorem Tx.sqc {K : PySem.W.Frag} {H H' : Hp} (t : Tx H H') {a : Addr} {xs : List V} (h : SqC K H a xs) : SqC K H' a xs := by
  rcases h with ⟨o, h⟩ | h
  · exact .inl ⟨o, t _ _ h trivial⟩
  · exact .inr h
mutual
theorem Rep.tx {K : PySem.W.Frag} {H H' : Hp} (t : Tx H H') {x : V} : ∀ {v : T}, Rep K H x v → Rep K H' x v
  | .non, h => by simpa [Rep] using h
  | .bl b, h => by simpa [Rep] using h
  | .int i, h => by simpa [Rep] using h
  | .str z, h => by simpa [Rep] using h
  | .ref a, h => by simpa [Rep] using h
  | .tup ts, h => by
    unfold Rep at h ⊢
    obtain ⟨a, ys, e, q, r⟩ := h
    exact ⟨a, ys, e, t.sqt q, Reps.tx t r⟩
  | .cl ts, h => by
    unfold Rep at h ⊢
    obtain ⟨a, ys, e, q, r⟩ := h
    exact ⟨a, ys, e, t.sqc q, Reps.tx t r⟩
theorem Reps.tx {K : PySem.W.Frag} {H H' : Hp} (t : Tx H H') {ys : List V} : ∀ {vs : List T}, Reps K H ys vs → Reps K H' ys vs
  | [], h => by simpa [Reps] using h
  | v :: vs, h => by
    unfold Reps at h ⊢
    obtain ⟨y, r, e, q, s⟩ := h
    exact ⟨y, r, e, Rep.tx t q, Reps.tx t s⟩
end
section
variable {K : PySem.W.Frag} {H : Hp}
theorem rep_int {i : Int} : Rep K H (.int i) (.int i) := by unfold Rep; rfl
theorem rep_str {i : Str} : Rep K H (.str i) (.str i) := by unfold Rep; rfl
theorem rep_bl {i : Bool} : Rep K H (.bl i) (.bl i) := by unfold Rep; rfl
theorem rep_non : Rep K H .non .non := by unfold Rep; rfl
theorem rep_ref {a : Addr} : Rep K H (.ref a) (.ref a) := by unfold Rep; rfl
theorem rep_tup {a : Addr} {ys : List V} {ts : List T} (h : SqT K H a ys) (r : Reps K H ys ts) : Rep K H (.ref a) (.tup ts) := by unfold Rep; exact ⟨a, ys, rfl, h, r⟩
theorem of_int {x : V} {i : Int} (h : Rep K H x (.int i)) : x = .int i := by unfold Rep at h; exact h
theorem of_str {x : V} {i : Str} (h : Rep K H x (.str i)) : x = .str i := by unfold Rep at h; exact h
theorem of_bl {x : V} {i : Bool} (h : Rep K H x (.bl i)) : x = .bl i := by unfold Rep at h; exact h
theorem of_non {x : V} (h : Rep K H x .non) : x = .non := by unfold Rep at h; exact h
theorem of_ref {x : V} {a : Addr} (h : Rep K H x (.ref a)) : x = .ref a := by unfold Rep at h; exact h
theorem of_tup {x : V} {ts : List T} (h : Rep K H x (.tup ts)) : ∃ a ys, x = .ref a ∧ SqT K H a ys ∧ Reps K H ys ts := by unfold Rep at h; exact h
theorem of_cl {x : V} {ts : List T} (h : Rep K H x (.cl ts)) : ∃ a ys, x = .ref a ∧ SqC K H a ys ∧ Reps K H ys ts := by unfold Rep at h; exact h
theorem reps_nil : Reps K H [] [] := by unfold Reps; rfl
theorem reps_cons {y : V} {ys : List V} {t : T} {ts : List T} (a : Rep K H y t) (b : Reps K H ys ts) : Reps K H (y :: ys) (t :: ts) := by unfold Reps; exact ⟨y, ys, rfl, a, b⟩
theorem of_nil {ys : List V} (h : Reps K H ys []) : ys = [] := by unfold Reps at h; exact h
theorem of_cons {ys : List V} {t : T} {ts : List T} (h : Reps K H ys (t :: ts)) : ∃ y r, ys = y :: r ∧ Rep K H y t ∧ Reps K H r ts := by unfold Reps at h; exact h
theorem Reps.length : ∀ {vs : List T} {ys : List V}, Reps K H ys vs → ys.length = vs.length
  | [], _, h => by rw [of_nil h]; rfl
  | _ :: _, _, h => by obtain ⟨y, r, rfl, _, q⟩ := of_cons h; rw [List.length_cons, List.length_cons, q.length]
theorem Reps.get : ∀ {vs : List T} {ys : List V} {i : Nat} {v : T}, Reps K H ys vs → vs[i]? = some v → ∃ y, ys[i]? = some y ∧ Rep K H y v
  | [], _, _, _, _, e => by simp at e
  | _ :: _, _, 0, _, h, e => by obtain ⟨y, r, rfl, a, _⟩ := of_cons h; simp at e; subst e; exact ⟨y, rfl, a⟩
  | _ :: _, _, i + 1, v, h, e => by
    obtain ⟨y, r, rfl, _, q⟩ := of_cons h
    obtain ⟨z, h1, h2⟩ := Reps.get (i := i) (v := v) q (by simpa using e)
    exact ⟨z, by simpa using h1, h2⟩
theorem Reps.app : ∀ {vs ws : List T} {ys zs : List V}, Reps K H ys vs → Reps K H zs ws → Reps K H (ys ++ zs) (vs ++ ws)
  | [], _, _, _, h, q => by rw [of_nil h]; exact q
  | _ :: _, _, _, _, h, q => by obtain ⟨y, r, rfl, a, b⟩ := of_cons h; exact reps_cons a (b.app q)
theorem Reps.take : ∀ (n : Nat) {vs : List T} {ys : List V}, Reps K H ys vs → Reps K H (ys.take n) (vs.take n)
  | 0, _, _, _ => by simpa using reps_nil
  | _ + 1, [], _, h => by rw [of_nil h]; exact reps_nil
  | n + 1, _ :: _, _, h => by obtain ⟨y, r, rfl, a, b⟩ := of_cons h; exact reps_cons a (b.take n)
theorem Reps.drop : ∀ (n : Nat) {vs : List T} {ys : List V}, Reps K H ys vs → Reps K H (ys.drop n) (vs.drop n)
  | 0, _, _, h => h
  | _ + 1, [], _, h => by rw [of_nil h]; exact reps_nil
  | n + 1, _ :: _, _, h => by obtain ⟨y, r, rfl, a, b⟩ := of_cons h; exact b.drop n
theorem Reps.dropLast {vs : List T} {ys : List V} (h : Reps K H ys vs) : Reps K H ys.dropLast vs.dropLast := by
  rw [List.dropLast_eq_take, List.dropLast_eq_take, h.length]; exact h.take _
theorem Reps.snoc {vs : List T} {ys : List V} {y : V} {v : T} (h : Reps K H ys vs) (q : Rep K H y v) : Reps K H (ys ++ [y]) (vs ++ [v]) := h.app (reps_cons q reps_nil)
theorem Reps.at {vs : List T} {ys : List V} {i : Int} {v : T} (h : Reps K H ys vs) (e : atI vs i = some v) : ∃ y, atI ys i = some y ∧ Rep K H y v := by
  unfold atI at e ⊢
  rw [h.length]
  cases q : ixN vs.length i with
  | none => rw [q] at e; cases e
  | some j =>
    rw [q] at e
    exact h.get e
theorem reps_ints : ∀ ns : List Int, Reps K H (ns.map V.int) (ns.map T.int)
  | [] => reps_nil
  | n :: r => reps_cons rep_int (reps_ints r)
end
/-! ### two heaps -/
abbrev PR (K : PySem.W.Frag) (H : Hp) {κ : Type} (kvs : List (κ × V)) (kws : List (κ × T)) : Prop := PySem.Paired (fun p q => p.1 = q.1 ∧ Rep K H p.2 q.2) kvs kws
def ORel (K : PySem.W.Frag) (H : Hp) (a : Addr) : O → Prop
  | .lst xs => ∃ ys, H a = some (.lst ys) ∧ Reps K H ys xs
  | .dic kvs => ∃ ks, H a = some (.dK ks) ∧ PR K H ks kvs
  | .ins Cl fs => ∃ dx ks, H a = some (.ins Cl dx ks) ∧ PR K H ks fs
structure Rl (K : PySem.W.Frag) (F H : Hp) (C : Hw) : Prop where
  obj : ∀ a o, C a = some o → ORel K H a o
  frm : ∀ a o, F a = some o → H a = some o ∧ C a = none
theorem pr_tx {K : PySem.W.Frag} {H H' : Hp} (t : Tx H H') {κ : Type} {ks : List (κ × V)} {kvs : List (κ × T)} (h : PR K H ks kvs) : PR K H' ks kvs := L2.Paired.mapP h fun _ _ z => ⟨z.1, z.2.tx t⟩
theorem ORel.stay {K : PySem.W.Frag} {H H' : Hp} {a : Addr} {o : O} (h : ORel K H a o) (t : Tx H H') (e : H' a = H a) : ORel K H' a o := by
  cases o with
  | lst xs => obtain ⟨ys, q, r⟩ := h; exact ⟨ys, e.trans q, r.tx t⟩
  | dic kvs => obtain ⟨ys, q, r⟩ := h; exact ⟨ys, e.trans q, pr_tx t r⟩
  | ins C fs => obtain ⟨dx, ys, q, r⟩ := h; exact ⟨dx, ys, e.trans q, pr_tx t r⟩
theorem ORel.some {K : PySem.W.Frag} {H : Hp} {a : Addr} {o : O} (h : ORel K H a o) : ∃ u, H a = some u ∧ ¬ Stb u := by
  cases o with
  | lst xs => obtain ⟨ys, q, r⟩ := h; exact ⟨_, q, fun z => z⟩
  | dic kvs => obtain ⟨ys, q, r⟩ := h; exact ⟨_, q, fun z => z⟩
  | ins C fs => obtain ⟨dx, ys, q, r⟩ := h; exact ⟨_, q, fun z => z⟩
section
variable {K : PySem.W.Frag} {F H : Hp} {C : Hw}
theorem Rl.free (R : Rl K F H C) {p : Addr} (h : H p = none) : C p = none := by
  cases e : C p with
  | none => rfl
  | some o => obtain ⟨u, q, _⟩ := (R.obj p o e).some; rw [h] at q; cases q
theorem Rl.lst (R : Rl K F H C) {a : Addr} {xs : List T} (h : C a = some (.lst xs)) : ∃ ys, H a = some (.lst ys) ∧ Reps K H ys xs := R.obj a _ h
/-- a new object that is seen -/
theorem Rl.new (R : Rl K F H C) {p : Addr} {u : HO} {o : O} (h : H p = none) (r : ORel K (upd H p u) p o) : Rl K F (upd H p u) (up C p o) where
  obj := fun a v e => by
    by_cases q : a = p
    · subst q; rw [up_same] at e; cases e; exact r
    · rw [up_ne q] at e
      exact (R.obj a v e).stay (Tx.new h) (upd_ne q)
  frm := fun a v e => by
    have z := R.frm a v e
    have q : a ≠ p := ne_of_none z.1 h
    rw [upd_ne q, up_ne q]; exact z
/-- a new object that is not seen -/
theorem Rl.hid (R : Rl K F H C) {p : Addr} {u : HO} (h : H p = none) : Rl K F (upd H p u) C where
  obj := fun a v e => by
    obtain ⟨w, q, _⟩ := (R.obj a v e).some
    exact (R.obj a v e).stay (Tx.new h) (upd_ne (ne_of_none q h))
  frm := fun a v e => by
    have z := R.frm a v e
    rw [upd_ne (ne_of_none z.1 h)]; exact z
/-- an object written over -/
theorem Rl.put (R : Rl K F H C) {p : Addr} {u : HO} {o o' : O} (h : C p = some o) (r : ORel K (upd H p u) p o') : Rl K F (upd H p u) (up C p o') ∧ Tx H (upd H p u) := by
  obtain ⟨w, hw, ns⟩ := (R.obj p o h).some
  have t : Tx H (upd H p u) := Tx.put hw ns
  refine ⟨⟨fun a v e => ?_, fun a v e => ?_⟩, t⟩
  · by_cases q : a = p
    · subst q; rw [up_same] at e; cases e; exact r
    · rw [up_ne q] at e
      exact (R.obj a v e).stay t (upd_ne q)
  · have z := R.frm a v e
    have q : a ≠ p := fun y => by subst y; rw [h] at z; cases z.2
    rw [upd_ne q, up_ne q]; exact z
theorem Rl.putL (R : Rl K F H C) {p : Addr} {xs xs' : List T} {ys' : List V} (h : C p = some (.lst xs)) (r : Reps K H ys' xs') : Rl K F (upd H p (.lst ys')) (up C p (.lst xs')) ∧ Tx H (upd H p (.lst ys')) := by
  obtain ⟨w, hw, ns⟩ := (R.obj p _ h).some
  exact R.put h ⟨ys', upd_same, r.tx (Tx.put hw ns)⟩
theorem Rl.newL (R : Rl K F H C) {p : Addr} {xs : List T} {ys : List V} (h : H p = none) (r : Reps K H ys xs) : Rl K F (upd H p (.lst ys)) (up C p (.lst xs)) := R.new h ⟨ys, upd_same, r.tx (Tx.new h)⟩
end
/-! ### wishes -/
abbrev Sw := List (Option T)
abbrev WK := T → Hw → Prop
/-- an exception: its class's name, its attributes -/
structure Xn where
  cls : Str
  fs : List (Str × T)
abbrev WX := Xn → Hw → Prop
abbrev WE := Sw → Hw → WK → WX → Prop
abbrev WT := Sw → Hw → (Bool → Hw → Prop) → WX → Prop
abbrev WA := Sw → Hw → (List T → Hw → Prop) → WX → Prop
structure We where
  nx : Sw → Hw → Prop
  rt : WK
  bk : Sw → Hw → Prop := fun _ _ => False
  ct : Sw → Hw → Prop := fun _ _ => False
  xc : WX := fun _ _ => False
abbrev WS := We → Sw → Hw → Prop
abbrev WG := T → Sw → Hw → (Sw → Hw → Prop) → WX → Prop
abbrev WGs := List T → Sw → Hw → (Sw → Hw → Prop) → WX → Prop
/-- what is walked: its items, and what must hold of the heap at each turn -/
abbrev WI := Sw → Hw → (List T → (Hw → Prop) → Hw → Prop) → WX → Prop
abbrev W2 := T → T → Hw → WK → Prop
abbrev Calls := Nat → List T → Hw → WK → WX → Prop
/-! ### what the operations are -/
def eVar (i : Nat) : WE := fun τ C Q _ => ∃ v, τ[i]? = some (some v) ∧ Q v C
def eC (v : T) : WE := fun _ C Q _ => Q v C
def eBin (r : W2) (a b : WE) : WE := fun τ C Q χ => a τ C (fun x C1 => b τ C1 (fun y C2 => r x y C2 Q) χ) χ
def eUn (r : T → Hw → WK → Prop) (a : WE) : WE := fun τ C Q χ => a τ C (fun x C1 => r x C1 Q) χ
def aNil : WA := fun _ C Q _ => Q [] C
def aCons (a : WE) (r : WA) : WA := fun τ C Q χ => a τ C (fun x C1 => r τ C1 (fun xs C2 => Q (x :: xs) C2) χ) χ
def eTup (a : WA) : WE := fun τ C Q χ => a τ C (fun xs C1 => xs.length ≤ sizeLine ∧ Q (.tup xs) C1) χ
def eLst (a : WA) : WE := fun τ C Q χ => a τ C (fun xs C1 => xs.length ≤ sizeLine ∧ ∀ p, C1 p = none → Q (.ref p) (up C1 p (.lst xs))) χ
def eCall (P : Calls) (i : Nat) (a : WA) : WE := fun τ C Q χ => a τ C (fun xs C1 => P i xs C1 Q χ) χ
def eBi (r : List T → Hw → WK → Prop) (a : WA) : WE := fun τ C Q χ => a τ C (fun xs C1 => r xs C1 Q) χ
def eMt (ty : T → Hw → Prop) (r : T → List T → Hw → WK → Prop) (o : WE) (a : WA) : WE := fun τ C Q χ => o τ C (fun x C1 => ty x C1 ∧ a τ C1 (fun xs C2 => r x xs C2 Q) χ) χ
def eIf (c : WT) (a b : WE) : WE := fun τ C Q χ => c τ C (fun k C1 => if k = true then a τ C1 Q χ else b τ C1 Q χ) χ
def eAnd (a b : WE) : WE := fun τ C Q χ => a τ C (fun x C1 => ∃ k, x = .bl k ∧ if k = true then b τ C1 Q χ else Q (.bl false) C1) χ
def eOr (a b : WE) : WE := fun τ C Q χ => a τ C (fun x C1 => ∃ k, x = .bl k ∧ if k = true then Q (.bl true) C1 else b τ C1 Q χ) χ
def eNot (a : WE) : WE := fun τ C Q χ => a τ C (fun x C1 => ∃ k, x = .bl k ∧ Q (.bl (!k)) C1) χ
/-- a value's truth -/
def tru : T → Hw → Bool → Prop
  | .non, _, k => k = false
  | .bl b, _, k => k = b
  | .int i, _, k => k = (i != 0)
  | .str y, _, k => y.length ≤ sizeLine ∧ k = ((y.length : Int) != 0)
  | .tup xs, _, k => k = !xs.isEmpty
  | .cl xs, _, k => k = !xs.isEmpty
  | .ref a, C, k => (∃ xs, C a = some (.lst xs) ∧ k = !xs.isEmpty) ∨ ∃ kvs, C a = some (.dic kvs) ∧ k = !kvs.isEmpty
def tTru (a : WE) : WT := fun τ C Q χ => a τ C (fun x C1 => ∃ k, tru x C1 k ∧ Q k C1) χ
/-- the value is a truth -/
def tBl (a : WE) : WT := fun τ C Q χ => a τ C (fun x C1 => ∃ k, x = .bl k ∧ Q k C1) χ
def tAn (a b : WT) : WT := fun τ C Q χ => a τ C (fun k C1 => if k = true then b τ C1 Q χ else Q false C1) χ
def tOr' (a b : WT) : WT := fun τ C Q χ => a τ C (fun k C1 => if k = true then Q true C1 else b τ C1 Q χ) χ
def tNo (a : WT) : WT := fun τ C Q χ => a τ C (fun k C1 => Q (!k) C1) χ
/-- a op1 b op2 c -/
def eChain (r r' : W2) (a b c : WE) : WE := fun τ C Q χ => a τ C (fun x C1 => b τ C1 (fun y C2 => r x y C2 fun z C3 => ∃ k, z = .bl k ∧ (if k = true then c τ C3 (fun w C4 => r' y w C4 Q) χ else Q (.bl false) C3)) χ) χ
def wAdd : W2
  | .int i, .int j, C, Q => Q (.int (i + j)) C
  | .str i, .str j, C, Q => i.length + j.length ≤ sizeLine ∧ Q (.str (i ++ j)) C
  | .tup xs, .tup ys, C, Q => xs.length + ys.length ≤ sizeLine ∧ Q (.tup (xs ++ ys)) C
  | .ref a, .ref b, C, Q => ∃ xs ys, C a = some (.lst xs) ∧ C b = some (.lst ys) ∧ xs.length + ys.length ≤ sizeLine ∧ ∀ p, C p = none → Q (.ref p) (up C p (.lst (xs ++ ys)))
  | _, _, _, _ => False
def wSub : W2
  | .int i, .int j, C, Q => Q (.int (i - j)) C
  | _, _, _, _ => False
def wMul : W2
  | .int i, .int j, C, Q => CMul i j ∧ Q (.int (i * j)) C
  | _, _, _, _ => False
def wDiv : W2
  | .int i, .int j, C, Q => CDiv i j ∧ Q (.int (i / j)) C
  | _, _, _, _ => False
def wMod : W2
  | .int i, .int j, C, Q => 0 < j ∧ Q (.int (i % j)) C
  | _, _, _, _ => False
def wPow : W2
  | .int i, .int j, C, Q => CPow i j ∧ Q (.int (i ^ j.toNat)) C
  | _, _, _, _ => False
def wNeg : T → Hw → WK → Prop
  | .int i, C, Q => Q (.int (-i)) C
  | _, _, _ => False
def wLt : W2
  | .int i, .int j, C, Q => Q (.bl (decide (i < j))) C
  | .str i, .str j, C, Q => Q (.bl (decide (i.cps.toList < j.cps.toList))) C
  | _, _, _, _ => False
def wLe : W2
  | .int i, .int j, C, Q => Q (.bl (decide (i ≤ j))) C
  | _, _, _, _ => False
def wGt : W2
  | .int i, .int j, C, Q => Q (.bl (decide (j < i))) C
  | _, _, _, _ => False
def wGe : W2
  | .int i, .int j, C, Q => Q (.bl (decide (j ≤ i))) C
  | _, _, _, _ => False
/-! equality, as == tells it -/
mutual
def eqT : T → T → Bool
  | .non, .non => true
  | .bl a, .bl b => a == b
  | .bl a, .int b => (if a then 1 else 0) == b
  | .int a, .bl b => a == (if b then 1 else 0)
  | .int a, .int b => a == b
  | .str a, .str b => a == b
  | .tup xs, .tup ys => eqTs xs ys
  | _, _ => false
def eqTs : List T → List T → Bool
  | [], [] => true
  | x :: xs, y :: ys => eqT x y && eqTs xs ys
  | _, _ => false
end
/-! nothing of the heap in it; how deep it is -/
mutual
def flat : T → Nat → Bool
  | .tup xs, n + 1 => flats xs n
  | .tup _, 0 => false
  | .ref _, _ => false
  | .cl _, _ => false
  | _, _ => true
def flats : List T → Nat → Bool
  | [], _ => true
  | x :: xs, n => flat x n && flats xs n
end
/-- how deep tuples that are compared may be -/
def eqDeep : Nat := 100
def isFlat (x : T) : Prop := flat x eqDeep = true
def wEqG (neg : Bool) : W2
  | .ref a, .ref b, C, Q => ∃ xs ys, C a = some (.lst xs) ∧ C b = some (.lst ys) ∧ (xs.length = ys.length → flats xs eqDeep = true ∧ flats ys eqDeep = true) ∧ Q (.bl (if neg then !eqTs xs ys else eqTs xs ys)) C
  | .ref a, y, C, Q => (∃ xs, C a = some (.lst xs)) ∧ isFlat y ∧ Q (.bl neg) C
  | x, .ref b, C, Q => (∃ ys, C b = some (.lst ys)) ∧ isFlat x ∧ Q (.bl neg) C
  | x, y, C, Q => isFlat x ∧ isFlat y ∧ Q (.bl (if neg then !eqT x y else eqT x y)) C
abbrev wEq : W2 := wEqG false
abbrev wNe : W2 := wEqG true
def wIsN : W2 := fun x y C Q => y = .non ∧ Q (.bl (match x with | .non => true | _ => false)) C
def wNotN : W2 := fun x y C Q => y = .non ∧ Q (.bl (match x with | .non => false | _ => true)) C
def inL (x : T) (xs : List T) : Bool := xs.any fun y => eqT y x
def wInG (neg : Bool) : W2
  | .str i, .str j, C, Q => Q (.bl (if neg then (!(!(Builtin.Str.occurrences j i 0 j.length 1).isEmpty)) else (!(Builtin.Str.occurrences j i 0 j.length 1).isEmpty))) C
  | x, .tup ys, C, Q => isFlat x ∧ flats ys eqDeep = true ∧ Q (.bl (if neg then !inL x ys else inL x ys)) C
  | x, .cl ys, C, Q => isFlat x ∧ flats ys eqDeep = true ∧ Q (.bl (if neg then !inL x ys else inL x ys)) C
  | x, .ref a, C, Q => ∃ ys, C a = some (.lst ys) ∧ isFlat x ∧ flats ys eqDeep = true ∧ Q (.bl (if neg then !inL x ys else inL x ys)) C
  | _, _, _, _ => False
abbrev wIn : W2 := wInG false
abbrev wNotIn : W2 := wInG true
def cut {α : Type} (xs : List α) (lo hi : Option Int) : List α := (xs.drop (HT.sIx xs.length 0 lo)).take (HT.sIx xs.length xs.length hi - HT.sIx xs.length 0 lo)
def wIdx : W2
  | .tup xs, .int i, C, Q => ∃ v, atI xs i = some v ∧ Q v C
  | .cl xs, .int i, C, Q => ∃ v, atI xs i = some v ∧ Q v C
  | .str z, .int i, C, Q => z.length ≤ sizeLine ∧ ∃ c, atI z.cps.toList i = some c ∧ Q (.str ⟨#[c]⟩) C
  | .ref a, .int i, C, Q => ∃ xs v, C a = some (.lst xs) ∧ atI xs i = some v ∧ Q v C
  | _, _, _, _ => False
def oNo : Sw → Hw → (Option Int → Hw → Prop) → WX → Prop := fun _ C Q _ => Q none C
def oSome (a : WE) : Sw → Hw → (Option Int → Hw → Prop) → WX → Prop := fun τ C Q χ => a τ C (fun x C1 => ∃ i, x = .int i ∧ Q (some i) C1) χ
def wSl : T → Option Int → Option Int → Hw → WK → Prop
  | .tup xs, lo, hi, C, Q => ¬ (HT.sIx xs.length 0 lo = 0 ∧ HT.sIx xs.length xs.length hi = xs.length) ∧ Q (.tup (cut xs lo hi)) C
  | .cl xs, lo, hi, C, Q => ∀ p, C p = none → Q (.ref p) (up C p (.lst (cut xs lo hi)))
  | .str z, lo, hi, C, Q => z.length ≤ sizeLine ∧ Q (.str (Txt.slice z lo hi)) C
  | .ref a, lo, hi, C, Q => ∃ xs, C a = some (.lst xs) ∧ ∀ p, C p = none → Q (.ref p) (up C p (.lst (cut xs lo hi)))
  | _, _, _, _, _ => False
def eSl (a : WE) (lo hi : Sw → Hw → (Option Int → Hw → Prop) → WX → Prop) : WE := fun τ C Q χ => a τ C (fun x C1 => lo τ C1 (fun l C2 => hi τ C2 (fun h C3 => wSl x l h C3 Q) χ) χ) χ
def bLen : List T → Hw → WK → Prop := fun vs C Q => ∃ x, vs = [x] ∧ match x with
  | .str z => z.length ≤ sizeLine ∧ Q (.int z.length) C
  | .tup xs => Q (.int xs.length) C
  | .cl xs => Q (.int xs.length) C
  | .ref a => ∃ xs, C a = some (.lst xs) ∧ Q (.int xs.length) C
  | _ => False
def bMax : List T → Hw → WK → Prop := fun vs C Q => ∃ i j, vs = [.int i, .int j] ∧ Q (.int (if j > i then j else i)) C
def bMin : List T → Hw → WK → Prop := fun vs C Q => ∃ i j, vs = [.int i, .int j] ∧ Q (.int (if j < i then j else i)) C
def bAll : List T → Hw → WK → Prop := fun vs C Q => ∃ (a : Addr) (bs : List Bool), vs = [.ref a] ∧ C a = some (.lst (bs.map T.bl)) ∧ Q (.bl (bs.all id)) C
def bTuple : List T → Hw → WK → Prop := fun vs C Q => ∃ x, vs = [x] ∧ match x with
  | .tup xs => Q (.tup xs) C
  | .cl xs => Q (.tup xs) C
  | .ref a => ∃ xs, C a = some (.lst xs) ∧ Q (.tup xs) C
  | _ => False
def bList : List T → Hw → WK → Prop := fun vs C Q => ∃ x, vs = [x] ∧ match x with
  | .tup xs => ∀ p, C p = none → Q (.ref p) (up C p (.lst xs))
  | .cl xs => ∀ p, C p = none → Q (.ref p) (up C p (.lst xs))
  | .ref a => ∃ xs, C a = some (.lst xs) ∧ ∀ p, C p = none → Q (.ref p) (up C p (.lst xs))
  | _ => False
/-- the name of a value's class -/
def tyN : T → Hw → String → Prop
  | .non, _, n => n = "NoneType"
  | .bl _, _, n => n = "bool"
  | .int _, _, n => n = "int"
  | .str _, _, n => n = "str"
  | .tup _, _, n => n = "tuple"
  | .cl _, _, n => n = "list"
  | .ref a, C, n => (n = "list" ∧ ∃ xs, C a = some (.lst xs)) ∨ (n = "dict" ∧ ∃ kvs, C a = some (.dic kvs))
def isCls (n c : String) : Bool := n == c || (n == "bool" && c == "int")
/-- isinstance(a, c), c a class of Python's own -/
def eIsi (a : WE) (c : String) : WE := fun τ C Q χ => a τ C (fun x C1 => ∃ n, tyN x C1 n ∧ Q (.bl (isCls n c)) C1) χ
def tyL' : T → Hw → Prop := fun x C => ∃ a xs, x = .ref a ∧ C a = some (.lst xs)
def tyS : T → Hw → Prop := fun x _ => ∃ z, x = .str z
def mAppend : T → List T → Hw → WK → Prop := fun x vs C Q => ∃ a xs y, x = .ref a ∧ vs = [y] ∧ C a = some (.lst xs) ∧ xs.length < sizeLine ∧ Q .non (up C a (.lst (xs ++ [y])))
def mPop : T → List T → Hw → WK → Prop := fun x vs C Q => ∃ a xs y, x = .ref a ∧ vs = [] ∧ C a = some (.lst xs) ∧ xs[xs.length - 1]? = some y ∧ Q y (up C a (.lst xs.dropLast))
def mPopAt : T → List T → Hw → WK → Prop := fun x vs C Q => ∃ a xs i k y, x = .ref a ∧ vs = [.int i] ∧ C a = some (.lst xs) ∧ -(2 ^ 63) ≤ i ∧ i < 2 ^ 63 ∧ seqIndex? i xs.length = some k ∧ xs[k]? = some y ∧ Q y (up C a (.lst (xs.eraseIdx k)))
/-! ### targets, statements -/
def gNm (i : Nat) : WG := fun v τ C Q _ => Q (τ.set i (some v)) C
def gsNil : WGs := fun vs τ C Q _ => vs = [] ∧ Q τ C
def gsCons (g : WG) (gs : WGs) : WGs := fun vs τ C Q χ => ∃ v r, vs = v :: r ∧ g v τ C (fun τ' C' => gs r τ' C' Q χ) χ
def gTp (gs : WGs) : WG := fun v τ C Q χ => ∃ xs, v = .tup xs ∧ gs xs τ C Q χ
/-- o[i] = .. -/
def gSb (o i : WE) : WG := fun v τ C Q χ => o τ C (fun x C1 => i τ C1 (fun y C2 => ∃ a xs k j, x = .ref a ∧ y = .int k ∧ C2 a = some (.lst xs) ∧ ixN xs.length k = some j ∧ Q τ (up C2 a (.lst (xs.set j v)))) χ) χ
def sPass : WS := fun D τ C => D.nx τ C
def sSeq (a b : WS) : WS := fun D τ C => a { D with nx := b D } τ C
def sExpr (e : WE) : WS := fun D τ C => e τ C (fun _ C1 => D.nx τ C1) D.xc
def sRet (e : WE) : WS := fun D τ C => e τ C D.rt D.xc
def sRetN : WS := fun D _ C => D.rt .non C
def sIf (c : WT) (a b : WS) : WS := fun D τ C => c τ C (fun k C1 => if k = true then a D τ C1 else b D τ C1) D.xc
def sAsg (e : WE) (g : WG) : WS := fun D τ C => e τ C (fun x C1 => g x τ C1 D.nx D.xc) D.xc
def sBrk : WS := fun D τ C => D.bk τ C
def sCont : WS := fun D τ C => D.ct τ C
def sNever : WS := fun _ _ _ => False
def forW (g : WG) (b : WS) (ok : Hw → Prop) (D : We) : List T → Sw → Hw → Prop
  | [], τ, C => ok C ∧ D.nx τ C
  | x :: xs, τ, C => ok C ∧ g x τ C (fun τ2 C2 => b { D with nx := forW g b ok D xs, ct := forW g b ok D xs, bk := D.nx } τ2 C2) D.xc
def sFor (i : WI) (g : WG) (b : WS) : WS := fun D τ C => i τ C (fun xs ok C1 => forW g b ok D xs τ C1) D.xc
def iSeq (e : WE) : WI := fun τ C R χ => e τ C (fun v C1 => match v with
  | .tup xs => R xs (fun _ => True) C1
  | .cl xs => R xs (fun _ => True) C1
  | .str z => R (z.cps.toList.map fun c => T.str ⟨#[c]⟩) (fun _ => True) C1
  | .ref a => ∃ xs, C1 a = some (.lst xs) ∧ R xs (fun C2 => C2 a = some (.lst xs)) C1
  | _ => False) χ
def rng (lo : Int) (n : Nat) : List T := (List.range n).map fun k : Nat => T.int (lo + k)
def iR1 (a : WA) : WI := fun τ C R χ => a τ C (fun vs C1 => ∃ j : Int, vs = [.int j] ∧ -(2 ^ 62) ≤ j ∧ j < 2 ^ 62 ∧ R (rng 0 j.toNat) (fun _ => True) C1) χ
def iR2 (a : WA) : WI := fun τ C R χ => a τ C (fun vs C1 => ∃ i j : Int, vs = [.int i, .int j] ∧ (-(2 ^ 62) ≤ i ∧ i < 2 ^ 62 ∧ -(2 ^ 62) ≤ j ∧ j < 2 ^ 62) ∧ R (rng i (j - i).toNat) (fun _ => True) C1) χ
def iEn (a : WA) : WI := fun τ C R χ => a τ C (fun vs C1 => ∃ z, vs = [.str z] ∧ R (z.cps.toList.zipIdx.map fun c => T.tup [.int c.2, .str ⟨#[c.1]⟩]) (fun _ => True) C1) χ
def capW (cap : List (Option Nat)) (τ : Sw) : Sw := cap.map fun o => o.bind fun i => (τ[i]?).join
def tYes : WT := fun _ C Q _ => Q true C
def compW (g : WG) (c : WT) (e : WE) (ok : Hw → Prop) (τ : Sw) (Q : List T → Hw → Prop) (χ : WX) : List T → List T → Hw → Prop
  | [], acc, C => ok C ∧ Q acc C
  | x :: xs, acc, C => ok C ∧ g x τ C (fun τ2 C2 => c τ2 C2 (fun b C3 => if b = true then e τ2 C3 (fun v C4 => acc.length < sizeLine ∧ compW g c e ok τ Q χ xs (acc ++ [v]) C4) χ else compW g c e ok τ Q χ xs acc C3) χ) χ
def eComp (cap : List (Option Nat)) (i : WI) (g : WG) (c : WT) (e : WE) : WE := fun τ C Q χ => i τ C (fun xs ok C1 => compW g c e ok (capW cap τ) (fun vs C2 => ∀ p, C2 p = none → Q (.ref p) (up C2 p (.lst vs))) χ xs [] C1) χ
/-! ### defs -/
structure Df where
  n : Nat
  ar : Nat
  body : Calls → WS
def wpc (pr : List Df) : Nat → Calls
  | 0 => fun _ _ _ _ _ => False
  | n + 1 => fun i vs C Q χ => ∃ d, pr[i]? = some d ∧ vs.length = d.ar ∧ d.body (wpc pr n) { nx := fun _ C' => Q .non C', rt := Q, xc := χ } (vs.map some ++ List.replicate (d.n - d.ar) none) C
end WL
set_option Elab.async false
set_option linter.all false
set_option maxRecDepth 100000
set_option maxHeartbeats 4000000
namespace WL
open PySem PySem.Spec PyProof.Rows L2
/-! ### equality of values over the heap -/
section
variable {X : Cx} {pins : List (Addr × Obj)} {σ : L2.St} {H : Hp} {s : Shared}
def sc : T → Option V
  | .non => some .non
  | .bl b => some (.bl b)
  | .int i => some (.int i)
  | .str z => some (.str z)
  | _ => none
theorem rep_sc {K : PySem.W.Frag} {H : Hp} {x z : V} {v : T} (h : sc v = some z) (r : Rep K H x v) : x = z ∧ flatV z = true := by
  cases v with
  | non => cases h; exact ⟨of_non r, rfl⟩
  | bl b => cases h; exact ⟨of_bl r, rfl⟩
  | int i => cases h; exact ⟨of_int r, rfl⟩
  | str z => cases h; exact ⟨of_str r, rfl⟩
  | _ => cases h
theorem eqT_sc {v w : T} {a b : V} (h : sc v = some a) (h' : sc w = some b) : eqT v w = eqV a b := by
  cases v <;> cases w <;> cases h <;> cases h' <;> unfold eqT <;> rfl
mutual
theorem eqT_refl : ∀ (v : T) {n : Nat}, flat v n = true → eqT v v = true
  | .non, _, _ => by unfold eqT; rfl
  | .bl b, _, _ => by unfold eqT; simp
  | .int b, _, _ => by unfold eqT; simp
  | .str b, _, _ => by unfold eqT; simp
  | .tup xs, 0, h => by unfold flat at h; cases h
  | .tup xs, n + 1, h => by unfold flat at h; unfold eqT; exact eqTs_refl xs h
  | .ref a, _, h => by unfold flat at h; cases h
  | .cl a, _, h => by unfold flat at h; cases h
theorem eqTs_refl : ∀ (v : List T) {n : Nat}, flats v n = true → eqTs v v = true
  | [], _, _ => by unfold eqTs; rfl
  | x :: xs, n, h => by
    unfold flats at h
    rw [Bool.and_eq_true] at h
    unfold eqTs
    rw [eqT_refl x h.1, eqTs_refl xs h.2]; rfl
end
theorem sc_none {v : T} {n : Nat} (h : flat v n = true) (e : sc v = none) : ∃ ts m, v = .tup ts ∧ n = m + 1 ∧ flats ts m = true := by
  cases v with
  | tup ts =>
    cases n with
    | zero => unfold flat at h; cases h
    | succ m => unfold flat at h; exact ⟨ts, m, rfl, rfl, h⟩
  | ref a => unfold flat at h; cases h
  | cl a => unfold flat at h; cases h
  | non => cases e
  | bl b => cases e
  | int b => cases e
  | str b => cases e
theorem flats_get : ∀ {vs : List T} {n i : Nat} {v : T}, flats vs n = true → vs[i]? = some v → flat v n = true
  | [], _, _, _, _, e => by simp at e
  | x :: xs, n, 0, v, h, e => by
    unfold flats at h
    rw [Bool.and_eq_true] at h
    simp at e; subst e; exact h.1
  | x :: xs, n, i + 1, v, h, e => by
    unfold flats at h
    rw [Bool.and_eq_true] at h
    exact flats_get h.2 (by simpa using e)
/-- the same thing stands for one flat value alone -/
theorem rep_inj (I : Inv X pins σ H s) : ∀ (n : Nat) {v w : T} {x : V}, flat v n = true → flat w n = true → Rep X.K H x v → Rep X.K H x w → v = w := by
  intro n
  induction n with
  | zero =>
    intro v w x fv fw rv rw'
    cases ev : sc v with
    | none => obtain ⟨_, _, _, h, _⟩ := sc_none fv ev; cases h
    | some a =>
      cases ew : sc w with
      | none => obtain ⟨_, _, _, h, _⟩ := sc_none fw ew; cases h
      | some b =>
        obtain ⟨e1, _⟩ := rep_sc ev rv
        obtain ⟨e2, _⟩ := rep_sc ew rw'
        have e : a = b := e1.symm.trans e2
        subst e
        cases v <;> cases ev <;> cases w <;> cases ew <;> rfl
  | succ n ih =>
    intro v w x fv fw rv rw'
    have lists : ∀ {ys : List V} {vs ws : List T}, flats vs n = true → flats ws n = true → Reps X.K H ys vs → Reps X.K H ys ws → vs = ws := by
      intro ys vs
      induction vs generalizing ys with
      | nil =>
        intro ws _ _ a b
        have := of_nil a
        subst this
        cases ws with
        | nil => rfl
        | cons w ws => obtain ⟨_, _, e, _⟩ := of_cons b; cases e
      | cons v vs ihv =>
        intro ws fa fb a b
        obtain ⟨y, r, rfl, a1, a2⟩ := of_cons a
        cases ws with
        | nil => have := of_nil b; cases this
        | cons w ws =>
          obtain ⟨y', r', e, b1, b2⟩ := of_cons b
          cases e
          unfold flats at fa fb
          rw [Bool.and_eq_true] at fa fb
          rw [ih fa.1 fb.1 a1 b1, ihv fa.2 fb.2 a2 b2]
    cases ev : sc v with
    | none =>
      obtain ⟨ts, m, rfl, em, ft⟩ := sc_none fv ev
      cases em
      obtain ⟨a, ys, rfl, hq, r⟩ := of_tup rv
      cases ew : sc w with
      | none =>
        obtain ⟨us, m', rfl, em, fu⟩ := sc_none fw ew
        cases em
        obtain ⟨b, zs, e, hq', r'⟩ := of_tup rw'
        cases e
        have e := I.tuple_inj hq hq'
        subst e
        rw [lists ft fu r r']
      | some b =>
        obtain ⟨e2, f⟩ := rep_sc ew rw'
        subst e2
        cases f
    | some a =>
      obtain ⟨e1, f⟩ := rep_sc ev rv
      cases ew : sc w with
      | none =>
        obtain ⟨us, m', rfl, em, fu⟩ := sc_none fw ew
        obtain ⟨b, zs, e, hq', r'⟩ := of_tup rw'
        subst e1
        subst e
        cases f
      | some b =>
        obtain ⟨e2, _⟩ := rep_sc ew rw'
        have e : a = b := e1.symm.trans e2
        subst e
        cases v <;> cases ev <;> cases w <;> cases ew <;> rfl
def eqJ (ts us : List T) (j : Nat) : Bool := match ts[j]?, us[j]? with
  | some a, some b => eqT a b
  | _, _ => true
theorem eqTs_range : ∀ (vs ws : List T), ((List.range (min vs.length ws.length)).all (eqJ vs ws) && vs.length == ws.length) = eqTs vs ws
  | [], [] => by unfold eqTs; rfl
  | [], _ :: _ => by unfold eqTs; simp
  | _ :: _, [] => by unfold eqTs; simp
  | v :: vs, w :: ws => by
    unfold eqTs
    rw [← eqTs_range vs ws]
    rw [List.length_cons, List.length_cons, show min (vs.length + 1) (ws.length + 1) = min vs.length ws.length + 1 by omega, List.range_succ_eq_map, List.all_cons, List.all_map]
    have e1 : eqJ (v :: vs) (w :: ws) 0 = eqT v w := rfl
    have e2 : (eqJ (v :: vs) (w :: ws) ∘ Nat.succ) = eqJ vs ws := by funext j; simp [Function.comp_def, eqJ]
    rw [e1, e2]
    simp [Bool.and_assoc]
/-- == within another comparison -/
theorem eqAtT (I : Inv X pins σ H s) : ∀ (n : Nat) {v w : T} {x y : V} {u u' : Value} {A : Around}, flat v n = true → flat w n = true → Rep X.K H x v → Rep X.K H y w → RelV x u → RelV y u' → A.units + n < cLine →
    SeqAt.EqAt A s u u' (eqT v w) := by
  intro n
  induction n with
  | zero =>
    intro v w x y u u' A fv fw rv rw' ru ru' hu
    cases ev : sc v with
    | none => obtain ⟨_, _, _, h, _⟩ := sc_none fv ev; cases h
    | some a =>
      cases ew : sc w with
      | none => obtain ⟨_, _, _, h, _⟩ := sc_none fw ew; cases h
      | some b =>
        obtain ⟨rfl, f1⟩ := rep_sc ev rv
        obtain ⟨rfl, f2⟩ := rep_sc ew rw'
        rw [eqT_sc ev ew]
        exact eqAt_V ru ru' f1 f2
  | succ n ih =>
    intro v w x y u u' A fv fw rv rw' ru ru' hu
    have hu0 : A.units < cLine := by omega
    cases ev : sc v with
    | some a =>
      obtain ⟨rfl, f1⟩ := rep_sc ev rv
      cases ew : sc w with
      | some b =>
        obtain ⟨rfl, f2⟩ := rep_sc ew rw'
        rw [eqT_sc ev ew]
        exact eqAt_V ru ru' f1 f2
      | none =>
        obtain ⟨ts, m, rfl, em, ft⟩ := sc_none fw ew
        obtain ⟨b, zs, rfl, hq, r⟩ := of_tup rw'
        cases ru'
        obtain ⟨its, _, p, _⟩ := I.tuple hq
        cases v with
        | non => cases ev; cases ru; unfold eqT; exact SeqAt.EqAt.none_tuple p hu0
        | bl c => cases ev; cases ru; unfold eqT; exact SeqAt.EqAt.bool_tuple c p hu0
        | int i => cases ev; obtain ⟨t, rfl⟩ := ru; unfold eqT; exact SeqAt.EqAt.int_tuple i t p hu0
        | str i => cases ev; obtain ⟨t, rfl⟩ := ru; unfold eqT; exact SeqAt.EqAt.str_tuple i t p hu0
        | _ => cases ev
    | none =>
      obtain ⟨ts, m, rfl, em, ft⟩ := sc_none fv ev
      cases em
      obtain ⟨a, ys, rfl, hq, r⟩ := of_tup rv
      cases ru
      obtain ⟨its, rI, p, _⟩ := I.tuple hq
      cases ew : sc w with
      | some b =>
        obtain ⟨rfl, f2⟩ := rep_sc ew rw'
        cases w with
        | non => cases ew; cases ru'; unfold eqT; exact SeqAt.EqAt.tuple_none p hu0
        | bl c => cases ew; cases ru'; unfold eqT; exact SeqAt.EqAt.tuple_bool c p hu0
        | int i => cases ew; obtain ⟨t, rfl⟩ := ru'; unfold eqT; exact SeqAt.EqAt.tuple_int i t p hu0
        | str i => cases ew; obtain ⟨t, rfl⟩ := ru'; unfold eqT; exact SeqAt.EqAt.tuple_str i t p hu0
        | _ => cases ew
      | none =>
        obtain ⟨us, m', rfl, em, fu⟩ := sc_none fw ew
        cases em
        obtain ⟨b, zs, rfl, hq', r'⟩ := of_tup rw'
        cases ru'
        obtain ⟨its', rI', p', _⟩ := I.tuple hq'
        by_cases hne : a = b
        · subst hne
          have e := rep_inj I (n + 1) fv fw (rep_tup hq r) (rep_tup hq' r')
          rw [e, eqT_refl _ fw]
          exact SeqAt.EqAt.same _
        · have l1 : its.toArray.size = ts.length := by rw [List.size_toArray, ← rI.length, r.length]
          have l2 : its'.toArray.size = us.length := by rw [List.size_toArray, ← rI'.length, r'.length]
          have key := SeqAt.EqAt.of_refs hne (SeqAt.RcAt.tuples (A := A) (e := eqJ ts us) p p' hu0 (fun j h1 h2 => by
            have i1 : ts[j]? = some (ts[j]'(by omega)) := by simp [l1 ▸ h1]
            have i2 : us[j]? = some (us[j]'(by omega)) := by simp [l2 ▸ h2]
            obtain ⟨x1, g1, q1⟩ := r.get i1
            obtain ⟨x2, g2, q2⟩ := r'.get i2
            obtain ⟨u1, k1, z1⟩ := rI.get g1
            obtain ⟨u2, k2, z2⟩ := rI'.get g2
            have e1 : its.toArray[j] = u1 := by
              have : its[j]? = some its.toArray[j] := by simp
              rw [k1] at this; exact (Option.some.inj this).symm
            have e2 : its'.toArray[j] = u2 := by
              have : its'[j]? = some its'.toArray[j] := by simp
              rw [k2] at this; exact (Option.some.inj this).symm
            rw [e1, e2]
            unfold eqJ
            simp only [i1, i2]
            exact ih (flats_get ft i1) (flats_get fu i2) q1 q2 z1 z2 (by show A.units + 1 + n < cLine; omega)))
          rw [l1, l2, eqTs_range] at key
          unfold eqT
          exact key
end
end WL
set_option Elab.async false
set_option linter.all false
set_option maxRecDepth 100000
set_option maxHeartbeats 4000000
namespace WL
open PySem PySem.Spec PyProof.Rows L2
def RepS (K : PySem.W.Frag) (H : Hp) (σ : L2.St) (τ : Sw) : Prop := σ.length = τ.length ∧ ∀ (i : Nat) (v : T), τ[i]? = some (some v) → ∃ x, σ[i]? = some (some x) ∧ Rep K H x v
theorem RepS.tx {K : PySem.W.Frag} {H H' : Hp} {σ : L2.St} {τ : Sw} (h : RepS K H σ τ) (t : Tx H H') : RepS K H' σ τ := ⟨h.1, fun i v e => let ⟨x, a, b⟩ := h.2 i v e; ⟨x, a, b.tx t⟩⟩
theorem RepS.set {K : PySem.W.Frag} {H : Hp} {σ : L2.St} {τ : Sw} (h : RepS K H σ τ) {i : Nat} {x : V} {v : T} (r : Rep K H x v) : RepS K H (σ.set i (some x)) (τ.set i (some v)) := by
  refine ⟨by rw [List.length_set, List.length_set]; exact h.1, fun j w e => ?_⟩
  by_cases hj : i = j
  · subst hj
    by_cases hi : i < τ.length
    · rw [List.getElem?_set_self hi] at e
      cases e
      exact ⟨x, List.getElem?_set_self (by rw [h.1]; exact hi), r⟩
    · rw [List.getElem?_eq_none (by rw [List.length_set]; omega)] at e
      cases e
  · rw [List.getElem?_set_ne hj] at e ⊢
    exact h.2 j w e
abbrev QE (K : PySem.W.Frag) (F H : Hp) (Q : VK) (Q' : WK) : Prop := ∀ x v H' C', Rl K F H' C' → Tx H H' → Rep K H' x v → Q' v C' → Q x H'
abbrev QT (K : PySem.W.Frag) (F H : Hp) (Q : Bool → Hp → Prop) (Q' : Bool → Hw → Prop) : Prop := ∀ b H' C', Rl K F H' C' → Tx H H' → Q' b C' → Q b H'
abbrev QA (K : PySem.W.Frag) (F H : Hp) (Q : List V → Hp → Prop) (Q' : List T → Hw → Prop) : Prop := ∀ xs vs H' C', Rl K F H' C' → Tx H H' → Reps K H' xs vs → Q' vs C' → Q xs H'
theorem QE.at {K : PySem.W.Frag} {F H H1 : Hp} {Q : VK} {Q' : WK} (q : QE K F H Q Q') (t : Tx H H1) : QE K F H1 Q Q' := fun x v H' C' R t' => q x v H' C' R (t.trans t')
def SimE (K : PySem.W.Frag) (te : TE) (we : WE) : Prop := ∀ (F H : Hp) (C : Hw) (σ : L2.St) (τ : Sw) (Q : VK) (Q' : WK) (χ : WX), Rl K F H C → RepS K H σ τ → we τ C Q' χ → QE K F H Q Q' → te σ H Q
def SimT (K : PySem.W.Frag) (te : TT) (we : WT) : Prop := ∀ (F H : Hp) (C : Hw) (σ : L2.St) (τ : Sw) (Q : Bool → Hp → Prop) (Q' : Bool → Hw → Prop) (χ : WX), Rl K F H C → RepS K H σ τ → we τ C Q' χ → QT K F H Q Q' → te σ H Q
def SimA (K : PySem.W.Frag) (te : TA) (we : WA) : Prop := ∀ (F H : Hp) (C : Hw) (σ : L2.St) (τ : Sw) (Q : List V → Hp → Prop) (Q' : List T → Hw → Prop) (χ : WX), Rl K F H C → RepS K H σ τ → we τ C Q' χ → QA K F H Q Q' → te σ H Q
def SimR (K : PySem.W.Frag) (r : R2) (w : W2) : Prop := ∀ (F H : Hp) (C : Hw) (x y : V) (v u : T) (Q : VK) (Q' : WK), Rl K F H C → Rep K H x v → Rep K H y u → w v u C Q' → QE K F H Q Q' → r x y H Q
def SimB (K : PySem.W.Frag) (r : List V → Hp → VK → Prop) (w : List T → Hw → WK → Prop) : Prop := ∀ (F H : Hp) (C : Hw) (xs : List V) (vs : List T) (Q : VK) (Q' : WK), Rl K F H C → Reps K H xs vs → w vs C Q' → QE K F H Q Q' → r xs H Q
def SimM (K : PySem.W.Frag) (r : V → List V → Hp → VK → Prop) (w : T → List T → Hw → WK → Prop) : Prop := ∀ (F H : Hp) (C : Hw) (x : V) (v : T) (xs : List V) (vs : List T) (Q : VK) (Q' : WK), Rl K F H C → Rep K H x v → Reps K H xs vs → w v vs C Q' → QE K F H Q Q' → r x xs H Q
def SimU (K : PySem.W.Frag) (r : V → Hp → VK → Prop) (w : T → Hw → WK → Prop) : Prop := ∀ (F H : Hp) (C : Hw) (x : V) (v : T) (Q : VK) (Q' : WK), Rl K F H C → Rep K H x v → w v C Q' → QE K F H Q Q' → r x H Q
def SdE (X : Cx) (e : Expr) (w : WE) : Prop := ∃ t, PE X e t ∧ SimE X.K t w
def SdT (X : Cx) (e : Expr) (w : WT) : Prop := ∃ t, PT X e t ∧ SimT X.K t w
def SdW (X : Cx) (e : Expr) (w : WT) : Prop := ∃ t, PW X e t ∧ SimT X.K t w
def SdA (X : Cx) (es : List Expr) (w : WA) : Prop := ∃ t, PA X es t ∧ SimA X.K t w
def OpS (X : Cx) (f : Value → Value → Sem Value) (w : W2) : Prop := ∃ r, OpR X f r ∧ SimR X.K r w
def IxS (X : Cx) (w : W2) : Prop := ∃ r, IxR X r ∧ SimR X.K r w
def CallS (X : Cx) (f : Value) (w : List T → Hw → WK → Prop) : Prop := ∃ r, CallR X f r ∧ SimB X.K r w
def MtS (X : Cx) (id : String) (w : T → List T → Hw → WK → Prop) : Prop := ∃ r, MtR X id r ∧ SimM X.K r w
section
variable {K : PySem.W.Frag} {ta tb tc : TE} {wa wb wc : WE} {r r' : R2} {w w' : W2}
theorem s_var {i : Nat} : SimE K (tVar i) (eVar i) := fun F H C σ τ Q Q' χ R S h q => by
  obtain ⟨v, e, h⟩ := h
  obtain ⟨x, ex, rx⟩ := S.2 i v e
  exact ⟨x, ex, q x v H C R (Tx.refl H) rx h⟩
theorem s_c {x : V} {v : T} (h : ∀ H, Rep K H x v) : SimE K (tC x) (eC v) := fun F H C σ τ Q Q' χ R S w q => q x v H C R (Tx.refl H) (h H) w
theorem s_op (ha : SimE K ta wa) (hb : SimE K tb wb) (hr : SimR K r w) : SimE K (tOp r ta tb) (eBin w wa wb) := fun F H C σ τ Q Q' χ R S h q => by
  refine ha F H C σ τ _ _ χ R S h fun x v H1 C1 R1 t1 rx h1 => ?_
  refine hb F H1 C1 σ τ _ _ χ R1 (S.tx t1) h1 fun y u H2 C2 R2 t2 ry h2 => ?_
  exact hr F H2 C2 x y v u Q Q' R2 (rx.tx t2) ry h2 (QE.at q (t1.trans t2))
theorem s_nil : SimA K tNil aNil := fun F H C σ τ Q Q' χ R S h q => q [] [] H C R (Tx.refl H) reps_nil h
theorem s_cons {t : TA} {wt : WA} (ha : SimE K ta wa) (hb : SimA K t wt) : SimA K (tCons ta t) (aCons wa wt) := fun F H C σ τ Q Q' χ R S h q => by
  refine ha F H C σ τ _ _ χ R S h fun x v H1 C1 R1 t1 rx h1 => ?_
  exact hb F H1 C1 σ τ _ _ χ R1 (S.tx t1) h1 fun xs vs H2 C2 R2 t2 rs h2 => q (x :: xs) (v :: vs) H2 C2 R2 (t1.trans t2) (reps_cons (rx.tx t2) rs) h2
theorem s_tup {t : TA} {wt : WA} (ha : SimA K t wt) : SimE K (tTup t) (eTup wt) := fun F H C σ τ Q Q' χ R S h q => by
  refine ha F H C σ τ _ _ χ R S h fun xs vs H1 C1 R1 t1 rs h1 => ⟨by rw [rs.length]; exact h1.1, fun p hp => ?_⟩
  exact q _ _ _ C1 (R1.hid hp) (t1.trans (Tx.new hp)) (rep_tup (SqT.of upd_same) (rs.tx (Tx.new hp))) h1.2
theorem s_lst {t : TA} {wt : WA} (ha : SimA K t wt) : SimE K (tLst t) (eLst wt) := fun F H C σ τ Q Q' χ R S h q => by
  refine ha F H C σ τ _ _ χ R S h fun xs vs H1 C1 R1 t1 rs h1 => ⟨by rw [rs.length]; exact h1.1, fun p hp => ?_⟩
  exact q _ _ _ _ (R1.newL hp rs) (t1.trans (Tx.new hp)) rep_ref (h1.2 p (R1.free hp))
theorem s_bi {r : List V → Hp → VK → Prop} {w : List T → Hw → WK → Prop} {t : TA} {wt : WA} (hr : SimB K r w) (ha : SimA K t wt) : SimE K (tCB r t) (eBi w wt) := fun F H C σ τ Q Q' χ R S h q => by
  refine ha F H C σ τ _ _ χ R S h fun xs vs H1 C1 R1 t1 rs h1 => ?_
  exact hr F H1 C1 xs vs Q Q' R1 rs h1 (QE.at q t1)
theorem s_and (ha : SimE K ta wa) (hb : SimE K tb wb) : SimE K (tAndV ta tb) (eAnd wa wb) := fun F H C σ τ Q Q' χ R S h q => by
  refine ha F H C σ τ _ _ χ R S h fun x v H1 C1 R1 t1 rx h1 => ?_
  obtain ⟨k, rfl, h1⟩ := h1
  refine ⟨k, of_bl rx, ?_⟩
  cases k with
  | true => exact hb F H1 C1 σ τ Q Q' χ R1 (S.tx t1) h1 (QE.at q t1)
  | false => exact q _ _ H1 C1 R1 t1 rep_bl h1
theorem s_not (ha : SimE K ta wa) : SimE K (tNotV ta) (eNot wa) := fun F H C σ τ Q Q' χ R S h q => by
  refine ha F H C σ τ _ _ χ R S h fun x v H1 C1 R1 t1 rx h1 => ?_
  obtain ⟨k, rfl, h1⟩ := h1
  exact ⟨k, of_bl rx, q _ _ H1 C1 R1 t1 rep_bl h1⟩
/-! tests -/
theorem s_bl (ha : SimE K ta wa) : SimT K (tTest ta) (tBl wa) := fun F H C σ τ Q Q' χ R S h q => by
  refine ha F H C σ τ _ _ χ R S h fun x v H1 C1 R1 t1 rx h1 => ?_
  obtain ⟨k, rfl, h1⟩ := h1
  exact ⟨k, of_bl rx, q k H1 C1 R1 t1 h1⟩
theorem s_tru (ha : SimE K ta wa) : SimT K (fun σ H Q => ta σ H fun x H' => ∃ k, TruV K x H' k ∧ Q k H') (tTru wa) := fun F H C σ τ Q Q' χ R S h q => by
  refine ha F H C σ τ _ _ χ R S h fun x v H1 C1 R1 t1 rx h1 => ?_
  obtain ⟨k, hk, h1⟩ := h1
  refine ⟨k, ?_, q k H1 C1 R1 t1 h1⟩
  have emp : ∀ {ys : List V} {xs : List T}, Reps K H1 ys xs → ys.isEmpty = xs.isEmpty := fun {ys xs} r => by
    have := r.length
    cases ys <;> cases xs <;> simp_all
  cases v with
  | non => cases of_non rx; exact hk
  | bl b => cases of_bl rx; exact hk
  | int i => cases of_int rx; exact hk
  | str z => cases of_str rx; exact hk
  | tup xs =>
    obtain ⟨a, ys, rfl, hq, r⟩ := of_tup rx
    refine .inr (.inl ⟨ys, hq, ?_⟩)
    rw [emp r]; exact hk
  | cl xs =>
    obtain ⟨a, ys, rfl, hq, r⟩ := of_cl rx
    refine .inl ⟨ys, hq.sq, ?_⟩
    rw [emp r]; exact hk
  | ref a =>
    cases of_ref rx
    rcases hk with ⟨xs, hx, e⟩ | ⟨kvs, hx, e⟩
    · obtain ⟨ys, hy, r⟩ := R1.lst hx
      refine .inl ⟨ys, SqL.of hy, ?_⟩
      rw [emp r]; exact e
    · obtain ⟨ks, hy, r⟩ := R1.obj a _ hx
      refine .inr (.inr ⟨ks, hy, ?_⟩)
      have := Paired.length r
      rw [e]
      cases ks <;> cases kvs <;> simp_all
theorem s_an {t u : TT} {w w' : WT} (ha : SimT K t w) (hb : SimT K u w') : SimT K (tAnd t u) (tAn w w') := fun F H C σ τ Q Q' χ R S h q => by
  refine ha F H C σ τ _ _ χ R S h fun k H1 C1 R1 t1 h1 => ?_
  cases k with
  | true => exact hb F H1 C1 σ τ Q Q' χ R1 (S.tx t1) h1 fun b H' C' R' t' => q b H' C' R' (t1.trans t')
  | false => exact q _ H1 C1 R1 t1 h1
theorem s_or' {t u : TT} {w w' : WT} (ha : SimT K t w) (hb : SimT K u w') : SimT K (tOr t u) (tOr' w w') := fun F H C σ τ Q Q' χ R S h q => by
  refine ha F H C σ τ _ _ χ R S h fun k H1 C1 R1 t1 h1 => ?_
  cases k with
  | true => exact q _ H1 C1 R1 t1 h1
  | false => exact hb F H1 C1 σ τ Q Q' χ R1 (S.tx t1) h1 fun b H' C' R' t' => q b H' C' R' (t1.trans t')
theorem s_no {t : TT} {w : WT} (ha : SimT K t w) : SimT K (tNot t) (tNo w) := fun F H C σ τ Q Q' χ R S h q => by
  refine ha F H C σ τ _ _ χ R S h fun k H1 C1 R1 t1 h1 => ?_
  exact q _ H1 C1 R1 t1 h1
end
/-! ### the operations -/
section
variable {X : Cx}
theorem o_add : OpS X (binaryOp .Add) wAdd := ⟨_, op_add.or (op_add_str.or (op_cat.or (op_catT0.or op_catT))), fun F H C x y v u Q Q' R rx ry h q => by
  cases v <;> cases u <;> first | exact False.elim h | skip
  case int.int i j => cases of_int rx; cases of_int ry; exact .inl ⟨i, j, rfl, rfl, q _ _ H C R (Tx.refl H) rep_int h⟩
  case str.str i j => cases of_str rx; cases of_str ry; exact .inr (.inl ⟨i, j, rfl, rfl, h.1, q _ _ H C R (Tx.refl H) rep_str h.2⟩)
  case ref.ref a b =>
    cases of_ref rx; cases of_ref ry
    obtain ⟨xs, ys, ha, hb, hl, h⟩ := h
    obtain ⟨zs, hz, rz⟩ := R.lst ha
    obtain ⟨ws, hw, rw'⟩ := R.lst hb
    exact .inr (.inr (.inl ⟨a, b, zs, ws, rfl, rfl, hz, hw, by rw [rz.length, rw'.length]; exact hl, fun p hp => q _ _ _ _ (R.newL hp (rz.app rw')) (Tx.new hp) rep_ref (h p (R.free hp))⟩))
  case tup.tup xs ys =>
    obtain ⟨a, zs, rfl, hz, rz⟩ := of_tup rx
    obtain ⟨b, ws, rfl, hw, rw'⟩ := of_tup ry
    by_cases e : zs = []
    · subst e
      have e2 : xs = [] := by
        have := rz.length
        cases xs with
        | nil => rfl
        | cons _ _ => cases this
      subst e2
      exact .inr (.inr (.inr (.inl ⟨a, b, ws, rfl, rfl, hz, hw, q _ _ H C R (Tx.refl H) (rep_tup hw rw') h.2⟩)))
    · refine .inr (.inr (.inr (.inr ⟨a, b, zs, ws, rfl, rfl, hz, hw, e, by rw [rz.length, rw'.length]; exact h.1, fun e2 => ?_, fun e2 p hp => ?_⟩)))
      · subst e2
        have e3 : ys = [] := by
          have := rw'.length
          cases ys with
          | nil => rfl
          | cons _ _ => cases this
        subst e3
        refine q _ _ H C R (Tx.refl H) (rep_tup hz rz) ?_
        have := h.2
        rw [List.append_nil] at this
        exact this
      · exact q _ _ _ C (R.hid hp) (Tx.new hp) (rep_tup (SqT.of upd_same) ((rz.app rw').tx (Tx.new hp))) h.2⟩
theorem o_sub : OpS X (binaryOp .Sub) wSub := ⟨_, op_sub, fun F H C x y v u Q Q' R rx ry h q => by
  cases v <;> cases u <;> first | exact False.elim h | skip
  case int.int i j => cases of_int rx; cases of_int ry; exact ⟨i, j, rfl, rfl, q _ _ H C R (Tx.refl H) rep_int h⟩⟩
theorem o_div : OpS X (binaryOp .FloorDiv) wDiv := ⟨_, op_fdiv, fun F H C x y v u Q Q' R rx ry h q => by
  cases v <;> cases u <;> first | exact False.elim h | skip
  case int.int i j => cases of_int rx; cases of_int ry; exact ⟨i, j, rfl, rfl, h.1, q _ _ H C R (Tx.refl H) rep_int h.2⟩⟩
theorem o_mod : OpS X (binaryOp .Mod) wMod := ⟨_, op_mod, fun F H C x y v u Q Q' R rx ry h q => by
  cases v <;> cases u <;> first | exact False.elim h | skip
  case int.int i j => cases of_int rx; cases of_int ry; exact ⟨i, j, rfl, rfl, h.1, q _ _ H C R (Tx.refl H) rep_int h.2⟩⟩
theorem o_pow : OpS X (binaryOp .Pow) wPow := ⟨_, op_pow, fun F H C x y v u Q Q' R rx ry h q => by
  cases v <;> cases u <;> first | exact False.elim h | skip
  case int.int i j => cases of_int rx; cases of_int ry; exact ⟨i, j, rfl, rfl, h.1, q _ _ H C R (Tx.refl H) rep_int h.2⟩⟩
theorem o_lt : OpS X (compareOp .Lt) wLt := ⟨_, op_lt.or op_lt_str, fun F H C x y v u Q Q' R rx ry h q => by
  cases v <;> cases u <;> first | exact False.elim h | skip
  case int.int i j => cases of_int rx; cases of_int ry; exact .inl ⟨i, j, rfl, rfl, q _ _ H C R (Tx.refl H) rep_bl h⟩
  case str.str i j => cases of_str rx; cases of_str ry; exact .inr ⟨i, j, rfl, rfl, q _ _ H C R (Tx.refl H) rep_bl h⟩⟩
theorem o_gt : OpS X (compareOp .Gt) wGt := ⟨_, op_gt, fun F H C x y v u Q Q' R rx ry h q => by
  cases v <;> cases u <;> first | exact False.elim h | skip
  case int.int i j => cases of_int rx; cases of_int ry; exact ⟨i, j, rfl, rfl, q _ _ H C R (Tx.refl H) rep_bl h⟩⟩
/-- a rule that stands over the state itself, by values -/
def rDir (X : Cx) (f : Value → Value → Sem Value) : R2 := fun x y H Q => ∀ (pins : List (Addr × Obj)) (s : Shared) (σ : L2.St) (v u : Value), Inv X pins σ H s → RelV x v → RelV y u → wpAny (model X.prog X.w) X.A (f v u) (EP X pins σ Q) X.xe s
theorem op_dir {f : Value → Value → Sem Value} : OpR X f (rDir X f) := fun pins s σ H x y v u Q I rx ry h => h pins s σ v u I rx ry
/-- the items of two lists, one by one -/
theorem items_at {pins : List (Addr × Obj)} {σ : L2.St} {H : Hp} {s : Shared} {A : Around} {n : Nat} {ts us : List T} {ys zs : List V} {its its' : List Value} (I : Inv X pins σ H s) (r : Reps X.K H ys ts) (r' : Reps X.K H zs us) (rI : Vals ys its) (rI' : Vals zs its')
    (f : flats ts n = true) (f' : flats us n = true) (hu : A.units + n < cLine) :
    ∀ j (h1 : j < its.toArray.size) (h2 : j < its'.toArray.size), SeqAt.EqAt A s its.toArray[j] its'.toArray[j] (eqJ ts us j) := fun j h1 h2 => by
  have l1 : its.toArray.size = ts.length := by rw [List.size_toArray, ← rI.length, r.length]
  have l2 : its'.toArray.size = us.length := by rw [List.size_toArray, ← rI'.length, r'.length]
  have i1 : ts[j]? = some (ts[j]'(by omega)) := by simp [l1 ▸ h1]
  have i2 : us[j]? = some (us[j]'(by omega)) := by simp [l2 ▸ h2]
  obtain ⟨x1, g1, q1⟩ := r.get i1
  obtain ⟨x2, g2, q2⟩ := r'.get i2
  obtain ⟨u1, k1, z1⟩ := rI.get g1
  obtain ⟨u2, k2, z2⟩ := rI'.get g2
  have e1 : its.toArray[j] = u1 := by
    have : its[j]? = some its.toArray[j] := by simp
    rw [k1] at this; exact (Option.some.inj this).symm
  have e2 : its'.toArray[j] = u2 := by
    have : its'[j]? = some its'.toArray[j] := by simp
    rw [k2] at this; exact (Option.some.inj this).symm
  rw [e1, e2]
  unfold eqJ
  simp only [i1, i2]
  exact eqAtT I n (flats_get f i1) (flats_get f' i2) q1 q2 z1 z2 hu
theorem eqTs_len {vs ws : List T} (h : vs.length ≠ ws.length) : eqTs vs ws = false := by
  rw [← eqTs_range, show (vs.length == ws.length) = false from beq_eq_false_iff_ne.mpr h, Bool.and_false]
theorem eqTs_same {vs ws : List T} (h : vs.length = ws.length) : (List.range vs.length).all (eqJ vs ws) = eqTs vs ws := by
  rw [← eqTs_range, h, Nat.min_self, beq_self_eq_true, Bool.and_true]
/-- == of two values at the top, nothing of the heap in them -/
theorem rcT {pins : List (Addr × Obj)} {σ : L2.St} {H : Hp} {s : Shared} {v w : T} {x y : V} {u u' : Value} {A : Around} {n : Nat} (I : Inv X pins σ H s) (fv : flat v n = true) (fw : flat w n = true) (rv : Rep X.K H x v) (rw' : Rep X.K H y w)
    (ru : RelV x u) (ru' : RelV y u') (hu : A.units + n + 1 < cLine) : SeqAt.RcAt A s u u' (eqT v w) ∧ SeqAt.RcNeAt A s u u' (!eqT v w) := by
  have hu0 : A.units < cLine := by omega
  cases ev : sc v with
  | some a =>
    obtain ⟨rfl, f1⟩ := rep_sc ev rv
    cases ew : sc w with
    | some b =>
      obtain ⟨rfl, f2⟩ := rep_sc ew rw'
      cases v with
      | non =>
        cases ev; cases ru
        cases w with
        | non => cases ew; cases ru'; unfold eqT; exact ⟨.none_none, .none_none⟩
        | bl c => cases ew; cases ru'; unfold eqT; exact ⟨.none_bool c, .none_bool c⟩
        | int c => cases ew; obtain ⟨t, rfl⟩ := ru'; unfold eqT; exact ⟨.none_int c t, .none_int c t⟩
        | str c => cases ew; obtain ⟨t, rfl⟩ := ru'; unfold eqT; exact ⟨.none_str c t, .none_str c t⟩
        | _ => cases ew
      | bl d =>
        cases ev; cases ru
        cases w with
        | non => cases ew; cases ru'; unfold eqT; exact ⟨.bool_none d, .bool_none d⟩
        | bl c => cases ew; cases ru'; unfold eqT; exact ⟨.bool_bool d c, .bool_bool d c⟩
        | int c => cases ew; obtain ⟨t, rfl⟩ := ru'; unfold eqT; exact ⟨.bool_int d c t, .bool_int d c t⟩
        | str c => cases ew; obtain ⟨t, rfl⟩ := ru'; unfold eqT; exact ⟨.bool_str d c t, .bool_str d c t⟩
        | _ => cases ew
      | int d =>
        cases ev; obtain ⟨t', rfl⟩ := ru
        cases w with
        | non => cases ew; cases ru'; unfold eqT; exact ⟨.int_none d t', .int_none d t'⟩
        | bl c => cases ew; cases ru'; unfold eqT; exact ⟨.int_bool d t' c, .int_bool d t' c⟩
        | int c => cases ew; obtain ⟨t, rfl⟩ := ru'; unfold eqT; exact ⟨.int_int d t' c t, .int_int d t' c t⟩
        | str c => cases ew; obtain ⟨t, rfl⟩ := ru'; unfold eqT; exact ⟨.int_str d t' c t, .int_str d t' c t⟩
        | _ => cases ew
      | str d =>
        cases ev; obtain ⟨t', rfl⟩ := ru
        cases w with
        | non => cases ew; cases ru'; unfold eqT; exact ⟨.str_none d t', .str_none d t'⟩
        | bl c => cases ew; cases ru'; unfold eqT; exact ⟨.str_bool d t' c, .str_bool d t' c⟩
        | int c => cases ew; obtain ⟨t, rfl⟩ := ru'; unfold eqT; exact ⟨.str_int d t' c t, .str_int d t' c t⟩
        | str c => cases ew; obtain ⟨t, rfl⟩ := ru'; unfold eqT; exact ⟨.str_str d t' c t, .str_str d t' c t⟩
        | _ => cases ew
      | _ => cases ev
    | none =>
      obtain ⟨ts, m, rfl, em, ft⟩ := sc_none fw ew
      obtain ⟨b, zs, rfl, hq, r⟩ := of_tup rw'
      cases ru'
      obtain ⟨its, _, p, _⟩ := I.tuple hq
      cases v with
      | non => cases ev; cases ru; unfold eqT; exact ⟨.none_tuple p hu0, .none_tuple p hu0⟩
      | bl c => cases ev; cases ru; unfold eqT; exact ⟨.bool_tuple c p hu0, .bool_tuple c p hu0⟩
      | int i => cases ev; obtain ⟨t, rfl⟩ := ru; unfold eqT; exact ⟨.int_tuple i t p hu0, .int_tuple i t p hu0⟩
      | str i => cases ev; obtain ⟨t, rfl⟩ := ru; unfold eqT; exact ⟨.str_tuple i t p hu0, .str_tuple i t p hu0⟩
      | _ => cases ev
  | none =>
    obtain ⟨ts, m, rfl, em, ft⟩ := sc_none fv ev
    subst em
    obtain ⟨a, ys, rfl, hq, r⟩ := of_tup rv
    cases ru
    obtain ⟨its, rI, p, _⟩ := I.tuple hq
    cases ew : sc w with
    | some b =>
      obtain ⟨rfl, f2⟩ := rep_sc ew rw'
      cases w with
      | non => cases ew; cases ru'; unfold eqT; exact ⟨.tuple_none p hu0, .tuple_none p hu0⟩
      | bl c => cases ew; cases ru'; unfold eqT; exact ⟨.tuple_bool c p hu0, .tuple_bool c p hu0⟩
      | int i => cases ew; obtain ⟨t, rfl⟩ := ru'; unfold eqT; exact ⟨.tuple_int i t p hu0, .tuple_int i t p hu0⟩
      | str i => cases ew; obtain ⟨t, rfl⟩ := ru'; unfold eqT; exact ⟨.tuple_str i t p hu0, .tuple_str i t p hu0⟩
      | _ => cases ew
    | none =>
      obtain ⟨us, m', rfl, em, fu⟩ := sc_none fw ew
      cases em
      obtain ⟨b, zs, rfl, hq', r'⟩ := of_tup rw'
      cases ru'
      obtain ⟨its', rI', p', _⟩ := I.tuple hq'
      have l1 : its.toArray.size = ts.length := by rw [List.size_toArray, ← rI.length, r.length]
      have l2 : its'.toArray.size = us.length := by rw [List.size_toArray, ← rI'.length, r'.length]
      have hi := items_at (A := A.in1) I r r' rI rI' ft fu (by show A.units + 1 + m < cLine; omega)
      have k1 := SeqAt.RcAt.tuples (A := A) p p' hu0 hi
      have k2 := SeqAt.RcNeAt.tuples (A := A) p p' hu0 hi
      rw [l1, l2, eqTs_range] at k1 k2
      unfold eqT
      exact ⟨k1, k2⟩
theorem list_vs {pins : List (Addr × Obj)} {σ : L2.St} {H : Hp} {s : Shared} {w : T} {y : V} {u' : Value} {A : Around} {n : Nat} {a : Addr} {its : List Value} (I : Inv X pins σ H s) (fw : flat w n = true) (rw' : Rep X.K H y w) (ru' : RelV y u') (hu0 : A.units < cLine)
    (p : s.heap.IsList a its.toArray) : (SeqAt.RcAt A s (.ref a) u' false ∧ SeqAt.RcNeAt A s (.ref a) u' true) ∧ (SeqAt.RcAt A s u' (.ref a) false ∧ SeqAt.RcNeAt A s u' (.ref a) true) := by
  cases w with
  | non => cases of_non rw'; cases ru'; exact ⟨⟨.list_none p hu0, .list_none p hu0⟩, .none_list p hu0, .none_list p hu0⟩
  | bl c => cases of_bl rw'; cases ru'; exact ⟨⟨.list_bool c p hu0, .list_bool c p hu0⟩, .bool_list c p hu0, .bool_list c p hu0⟩
  | int c => cases of_int rw'; obtain ⟨t, rfl⟩ := ru'; exact ⟨⟨.list_int c t p hu0, .list_int c t p hu0⟩, .int_list c t p hu0, .int_list c t p hu0⟩
  | str c => cases of_str rw'; obtain ⟨t, rfl⟩ := ru'; exact ⟨⟨.list_str c t p hu0, .list_str c t p hu0⟩, .str_list c t p hu0, .str_list c t p hu0⟩
  | tup ts =>
    obtain ⟨b, zs, rfl, hq, r⟩ := of_tup rw'
    cases ru'
    obtain ⟨its', _, p', _⟩ := I.tuple hq
    exact ⟨⟨.list_tuple p p' hu0, .list_tuple p p' hu0⟩, .tuple_list p' p hu0, .tuple_list p' p hu0⟩
  | ref b => unfold flat at fw; cases fw
  | cl b => unfold flat at fw; cases fw
theorem o_eqG (neg : Bool) (hu : X.A.units + 150 < cLine) : OpS X (compareOp (if neg then .NotEq else .Eq)) (wEqG neg) := ⟨_, op_dir, fun F H C x y v u Q Q' R rx ry h q pins s σ v' u' I r1 r2 => by
  have fin : ∀ {k : Bool}, SeqAt.RcAt X.A s v' u' k ∧ SeqAt.RcNeAt X.A s v' u' (!k) → Q (.bl (if neg then !k else k)) H → wpAny (model X.prog X.w) X.A (compareOp (if neg then .NotEq else .Eq) v' u') (EP X pins σ Q) X.xe s := fun {k} e hq => by
    cases neg with
    | true => exact EqBoolInt.of_rcne e.2 ⟨.bl (!k), H, I, rfl, hq⟩
    | false => exact EqBoolInt.of_rc e.1 ⟨.bl k, H, I, rfl, hq⟩
  have two : ∀ {v u : T}, Rep X.K H x v → Rep X.K H y u → isFlat v ∧ isFlat u ∧ Q' (.bl (if neg then !eqT v u else eqT v u)) C → wpAny (model X.prog X.w) X.A (compareOp (if neg then .NotEq else .Eq) v' u') (EP X pins σ Q) X.xe s := fun {v u} rx ry h =>
    fin (rcT I h.1 h.2.1 rx ry r1 r2 (show X.A.units + 100 + 1 < cLine by omega)) (q _ _ H C R (Tx.refl H) rep_bl h.2.2)
  have hn : (if neg then !false else false) = neg := by cases neg <;> rfl
  have lft : ∀ {a : Addr} {u : T}, v' = .ref a → Rep X.K H y u → (∃ xs, C a = some (.lst xs)) ∧ isFlat u ∧ Q' (.bl neg) C → wpAny (model X.prog X.w) X.A (compareOp (if neg then .NotEq else .Eq) v' u') (EP X pins σ Q) X.xe s := fun {a u} ev ry h => by
    obtain ⟨⟨xs, hx⟩, f, hq⟩ := h
    obtain ⟨ys, hy, r⟩ := R.lst hx
    obtain ⟨its, _, p, _⟩ := I.list (SqL.of hy)
    have z := (list_vs (A := X.A) I f ry r2 (by omega) p.isList).1
    subst ev
    refine fin (k := false) z ?_
    rw [hn]
    exact q _ _ H C R (Tx.refl H) rep_bl hq
  have rgt : ∀ {b : Addr} {v : T}, u' = .ref b → Rep X.K H x v → (∃ xs, C b = some (.lst xs)) ∧ isFlat v ∧ Q' (.bl neg) C → wpAny (model X.prog X.w) X.A (compareOp (if neg then .NotEq else .Eq) v' u') (EP X pins σ Q) X.xe s := fun {b v} eu rx h => by
    obtain ⟨⟨xs, hx⟩, f, hq⟩ := h
    obtain ⟨ys, hy, r⟩ := R.lst hx
    obtain ⟨its, _, p, _⟩ := I.list (SqL.of hy)
    have z := (list_vs (A := X.A) I f rx r1 (by omega) p.isList).2
    subst eu
    refine fin (k := false) z ?_
    rw [hn]
    exact q _ _ H C R (Tx.refl H) rep_bl hq
  cases v with
  | ref a =>
    have ev : v' = .ref a := by cases of_ref rx; exact r1
    cases u with
    | ref b =>
      have eu : u' = .ref b := by cases of_ref ry; exact r2
      obtain ⟨xs, ys, ha, hb, hf, hq⟩ := h
      obtain ⟨zs, hz, rz⟩ := R.lst ha
      obtain ⟨ws, hw, rw'⟩ := R.lst hb
      obtain ⟨its, rI, p, _⟩ := I.list (SqL.of hz)
      obtain ⟨its', rI', p', _⟩ := I.list (SqL.of hw)
      have l1 : its.toArray.size = xs.length := by rw [List.size_toArray, ← rI.length, rz.length]
      have l2 : its'.toArray.size = ys.length := by rw [List.size_toArray, ← rI'.length, rw'.length]
      subst ev
      subst eu
      refine fin ?_ (q _ _ H C R (Tx.refl H) rep_bl hq)
      by_cases hl : xs.length = ys.length
      · obtain ⟨f1, f2⟩ := hf hl
        have hi := items_at (A := X.A.in1) I rz rw' rI rI' f1 f2 (by show X.A.units + 1 + 100 < cLine; omega)
        have k1 := SeqAt.RcAt.lists (A := X.A) p.isList p'.isList (by rw [l1, l2, hl]) (by omega) hi
        have k2 := SeqAt.RcNeAt.lists (A := X.A) p.isList p'.isList (by rw [l1, l2, hl]) (by omega) hi
        rw [l1, eqTs_same hl] at k1 k2
        exact ⟨k1, k2⟩
      · rw [eqTs_len hl]
        have hne : (its.toArray.size != its'.toArray.size) = true := by rw [l1, l2]; exact bne_iff_ne.mpr hl
        exact ⟨SeqAt.RcAt.lists_lengths p.isList p'.isList hne (by omega), SeqAt.RcNeAt.lists_lengths p.isList p'.isList hne (by omega)⟩
    | non => exact lft ev ry h
    | bl b => exact lft ev ry h
    | int b => exact lft ev ry h
    | str b => exact lft ev ry h
    | tup b => exact lft ev ry h
    | cl b => exact lft ev ry h
  | non =>
    cases u with
    | ref b => exact rgt (by cases of_ref ry; exact r2) rx h
    | _ => exact two rx ry h
  | bl _ =>
    cases u with
    | ref b => exact rgt (by cases of_ref ry; exact r2) rx h
    | _ => exact two rx ry h
  | int _ =>
    cases u with
    | ref b => exact rgt (by cases of_ref ry; exact r2) rx h
    | _ => exact two rx ry h
  | str _ =>
    cases u with
    | ref b => exact rgt (by cases of_ref ry; exact r2) rx h
    | _ => exact two rx ry h
  | tup _ =>
    cases u with
    | ref b => exact rgt (by cases of_ref ry; exact r2) rx h
    | _ => exact two rx ry h
  | cl _ =>
    cases u with
    | ref b => exact rgt (by cases of_ref ry; exact r2) rx h
    | _ => exact two rx ry h⟩
theorem o_eq (hu : X.A.units + 150 < cLine) : OpS X (compareOp .Eq) wEq := o_eqG false hu
open Classical in
/-- the items' answers, by the values -/
noncomputable def eqAns (v : T) (us : List Value) (ts : List T) (u : Value) : Bool := match (us.zip ts).find? fun p => decide (p.1 = u) with
  | some p => eqT p.2 v
  | none => false
open Classical in
theorem o_ix : IxS X wIdx := ⟨_, ix_seq, fun F H C x y v u Q Q' R rx ry h q => by
  cases v <;> cases u <;> first | exact False.elim h | skip
  case tup.int xs i =>
    obtain ⟨a, ys, rfl, hq, r⟩ := of_tup rx
    cases of_int ry
    obtain ⟨v, hv, h⟩ := h
    obtain ⟨z, hz, rz⟩ := r.at hv
    exact .inr (.inl ⟨a, ys, i, z, rfl, rfl, hq, hz, q _ _ H C R (Tx.refl H) rz h⟩)
  case cl.int xs i =>
    obtain ⟨a, ys, rfl, hq, r⟩ := of_cl rx
    cases of_int ry
    obtain ⟨v, hv, h⟩ := h
    obtain ⟨z, hz, rz⟩ := r.at hv
    exact .inl ⟨a, ys, i, z, rfl, rfl, hq.sq, hz, q _ _ H C R (Tx.refl H) rz h⟩
  case ref.int a i =>
    cases of_ref rx
    cases of_int ry
    obtain ⟨xs, v, hx, hv, h⟩ := h
    obtain ⟨ys, hy, r⟩ := R.lst hx
    obtain ⟨z, hz, rz⟩ := r.at hv
    exact .inl ⟨a, ys, i, z, rfl, rfl, SqL.of hy, hz, q _ _ H C R (Tx.refl H) rz h⟩
  case str.int z i =>
    cases of_str rx
    cases of_int ry
    obtain ⟨hl, c, hc, h⟩ := h
    exact .inr (.inr ⟨z, i, c, rfl, rfl, hl, hc, q _ _ H C R (Tx.refl H) rep_str h⟩)⟩
/-! slices -/
def SlS (X : Cx) (w : T → Option Int → Option Int → Hw → WK → Prop) : Prop := ∃ r, SlR X r ∧ ∀ (F H : Hp) (C : Hw) (x : V) (v : T) (lo hi : Option Int) (Q : VK) (Q' : WK), Rl X.K F H C → Rep X.K H x v → w v lo hi C Q' → QE X.K F H Q Q' → r x lo hi H Q
theorem cut_reps {K : PySem.W.Frag} {H : Hp} {ys : List V} {xs : List T} (r : Reps K H ys xs) (lo hi : Option Int) : Reps K H (cutV ys lo hi) (cut xs lo hi) := by
  unfold cutV cut
  rw [r.length]
  exact (r.drop _).take _
theorem o_sl : SlS X wSl := ⟨_, sl_tup.or (sl_list.or sl_str), fun F H C x v lo hi Q Q' R rx h q => by
  cases v with
  | tup xs =>
    obtain ⟨a, ys, rfl, hq, r⟩ := of_tup rx
    exact .inl ⟨a, ys, rfl, hq, by rw [r.length]; exact h.1, fun p hp => q _ _ _ C (R.hid hp) (Tx.new hp) (rep_tup (SqT.of upd_same) ((cut_reps r lo hi).tx (Tx.new hp))) h.2⟩
  | cl xs =>
    obtain ⟨a, ys, rfl, hq, r⟩ := of_cl rx
    exact .inr (.inl ⟨a, ys, rfl, hq.sq, fun p hp => q _ _ _ _ (R.newL hp (cut_reps r lo hi)) (Tx.new hp) rep_ref (h p (R.free hp))⟩)
  | ref a =>
    cases of_ref rx
    obtain ⟨xs, hx, h⟩ := h
    obtain ⟨ys, hy, r⟩ := R.lst hx
    exact .inr (.inl ⟨a, ys, rfl, SqL.of hy, fun p hp => q _ _ _ _ (R.newL hp (cut_reps r lo hi)) (Tx.new hp) rep_ref (h p (R.free hp))⟩)
  | str z => cases of_str rx; exact .inr (.inr ⟨z, rfl, h.1, q _ _ H C R (Tx.refl H) rep_str h.2⟩)
  | _ => exact False.elim h⟩
/-! calls of builtins -/
theorem of_one {K : PySem.W.Frag} {H : Hp} {xs : List V} {v : T} (h : Reps K H xs [v]) : ∃ x, xs = [x] ∧ Rep K H x v := by
  obtain ⟨y, r, rfl, a, b⟩ := of_cons h
  cases of_nil b
  exact ⟨y, rfl, a⟩
theorem b_len : CallS X (.builtin "len") bLen := ⟨_, call_len_seq.or call_len_str, fun F H C xs vs Q Q' R rs h q => by
  obtain ⟨v, rfl, h⟩ := h
  obtain ⟨x, rfl, rx⟩ := of_one rs
  cases v with
  | str z => cases of_str rx; exact .inr ⟨z, rfl, h.1, q _ _ H C R (Tx.refl H) rep_int h.2⟩
  | tup xs =>
    obtain ⟨a, ys, rfl, hq, r⟩ := of_tup rx
    exact .inl ⟨a, ys, rfl, .inr hq, by rw [r.length]; exact q _ _ H C R (Tx.refl H) rep_int h⟩
  | cl xs =>
    obtain ⟨a, ys, rfl, hq, r⟩ := of_cl rx
    exact .inl ⟨a, ys, rfl, .inl hq.sq, by rw [r.length]; exact q _ _ H C R (Tx.refl H) rep_int h⟩
  | ref a =>
    cases of_ref rx
    obtain ⟨xs, hx, h⟩ := h
    obtain ⟨ys, hy, r⟩ := R.lst hx
    exact .inl ⟨a, ys, rfl, .inl (SqL.of hy), by rw [r.length]; exact q _ _ H C R (Tx.refl H) rep_int h⟩
  | _ => exact False.elim h⟩
/-! methods of lists -/
theorem m_append : MtS X "list.append" mAppend := ⟨_, mt_append, fun F H C x v xs vs Q Q' R rx rs h q => by
  obtain ⟨a, ts, y, rfl, rfl, hx, hl, h⟩ := h
  cases of_ref rx
  obtain ⟨z, rfl, rz⟩ := of_one rs
  obtain ⟨ys, hy, r⟩ := R.lst hx
  obtain ⟨R', t⟩ := R.putL hx (r.snoc rz)
  exact ⟨a, ys, z, rfl, rfl, hy, by rw [r.length]; exact hl, q _ _ _ _ R' t rep_non h⟩⟩
theorem m_pop : MtS X "list.pop" mPop := ⟨_, mt_pop, fun F H C x v xs vs Q Q' R rx rs h q => by
  obtain ⟨a, ts, y, rfl, rfl, hx, hy, h⟩ := h
  cases of_ref rx
  cases of_nil rs
  obtain ⟨ys, hys, r⟩ := R.lst hx
  obtain ⟨z, hz, rz⟩ := r.get hy
  obtain ⟨R', t⟩ := R.putL hx r.dropLast
  exact ⟨a, ys, z, rfl, rfl, hys, by rw [r.length]; exact hz, q _ _ _ _ R' t (rz.tx t) h⟩⟩
end
end WL
set_option Elab.async false
set_option linter.all false
set_option maxRecDepth 100000
set_option maxHeartbeats 4000000
namespace WL
open PySem PySem.Spec PyProof.Rows L2
/-! ### expressions -/
section
variable {X : Cx} {a b c e : Expr} {es : List Expr} {wa wb wc : WE} {wt wt' : WT} {wA : WA} {w w' : W2} {pos p apos cpos : Pos} {rest : List Expr}
theorem d_var (i : Nat) {x : Str} (hN : X.N[i]? = some x := by rfl) (hv : Vis X.env.scope x := by first | exact Or.inl rfl | exact Or.inr (Or.inl rfl) | exact Or.inr (Or.inr rfl)) (hd : (x == ("__debug__" : Str)) = false := by decide)
    (hcd : (x == ("__classdict__" : Str)) = false := by decide) : SdE X (.Name x pos) (eVar i) := ⟨_, pe_var hN hv hd hcd, s_var⟩
theorem d_int {i j} : SdE X (.Constant (.int i) j pos) (eC (.int i)) := ⟨_, pe_int, s_c fun _ => rep_int⟩
theorem d_str {i j} : SdE X (.Constant (.str i) j pos) (eC (.str i)) := ⟨_, pe_str, s_c fun _ => rep_str⟩
theorem d_bl {i j} : SdE X (.Constant (.bool i) j pos) (eC (.bl i)) := ⟨_, pe_bl, s_c fun _ => rep_bl⟩
/-- a name of the module's top that stands for a value -/
def Glb (K : PySem.W.Frag) (mg : Str → Option Value) (x : Str) (v : T) : Prop := ∃ z u, mg x = some u ∧ RelV z u ∧ ∀ H, Rep K H z v
theorem d_op {op : Operator} (ho : OpS X (binaryOp op) w) (ha : SdE X a wa) (hb : SdE X b wb) : SdE X (.BinOp a op b pos) (eBin w wa wb) := by
  obtain ⟨r, h1, h2⟩ := ho
  obtain ⟨ta, p1, s1⟩ := ha
  obtain ⟨tb, p2, s2⟩ := hb
  exact ⟨_, pe_op h1 p1 p2, s_op s1 s2 h2⟩
theorem d_cmp {op : CmpOp} (ho : OpS X (compareOp op) w) (ha : SdE X a wa) (hb : SdE X b wb) (hm : behindInMarks op b = false) : SdE X (.Compare a [op] [b] pos) (eBin w wa wb) := by
  obtain ⟨r, h1, h2⟩ := ho
  obtain ⟨ta, p1, s1⟩ := ha
  obtain ⟨tb, p2, s2⟩ := hb
  exact ⟨_, pe_cmpR h1 p1 p2 hm, s_op s1 s2 h2⟩
theorem d_and (ha : SdE X a wa) (hb : SdE X (.BoolOp .And (b :: rest) pos) wb) : SdE X (.BoolOp .And (a :: b :: rest) pos) (eAnd wa wb) := by
  obtain ⟨ta, p1, s1⟩ := ha
  obtain ⟨tb, p2, s2⟩ := hb
  exact ⟨_, pe_and p1 p2, s_and s1 s2⟩
theorem d_one {op} (ha : SdE X a wa) : SdE X (.BoolOp op [a] pos) wa := by
  obtain ⟨ta, p1, s1⟩ := ha
  exact ⟨_, pe_one p1, s1⟩
theorem d_not (ha : SdE X a wa) : SdE X (.UnaryOp .Not a pos) (eNot wa) := by
  obtain ⟨ta, p1, s1⟩ := ha
  exact ⟨_, pe_not p1, s_not s1⟩
theorem da_nil : SdA X [] aNil := ⟨_, pa_nil, s_nil⟩
theorem da_cons (ha : SdE X a wa) (hb : SdA X es wA) (hs : starEach (a :: es) X.env = (false, eval a X.env) :: starEach es X.env := by rfl) : SdA X (a :: es) (aCons wa wA) := by
  obtain ⟨ta, p1, s1⟩ := ha
  obtain ⟨tb, p2, s2⟩ := hb
  exact ⟨_, pa_cons p1 p2 hs, s_cons s1 s2⟩
theorem d_tup {x1} (h : SdA X es wA) : SdE X (.Tuple es x1 pos) (eTup wA) := by
  obtain ⟨t, p, s⟩ := h
  exact ⟨_, pe_tup p, s_tup s⟩
theorem d_lst (h : SdA X es wA) : SdE X (.List es pos) (eLst wA) := by
  obtain ⟨t, p, s⟩ := h
  exact ⟨_, pe_lst p, s_lst s⟩
theorem d_ix (ha : SdE X a wa) (hb : SdE X b wb) (hs : PlainIx b) : SdE X (.Subscript a b pos) (eBin wIdx wa wb) := by
  obtain ⟨r, h1, h2⟩ := o_ix (X := X)
  obtain ⟨ta, p1, s1⟩ := ha
  obtain ⟨tb, p2, s2⟩ := hb
  exact ⟨_, pe_ix h1 p1 p2 hs, s_op s1 s2 h2⟩
def SdO (X : Cx) (e : Option Expr) (w : Sw → Hw → (Option Int → Hw → Prop) → WX → Prop) : Prop := ∃ t, PO X e t ∧ ∀ (F H : Hp) (C : Hw) (σ : L2.St) (τ : Sw) (Q : Option Int → Hp → Prop) (Q' : Option Int → Hw → Prop) (χ : WX), Rl X.K F H C → RepS X.K H σ τ → w τ C Q' χ →
  (∀ o H' C', Rl X.K F H' C' → Tx H H' → Q' o C' → Q o H') → t σ H Q
theorem do_none : SdO X none oNo := ⟨_, po_none, fun F H C σ τ Q Q' χ R S h q => q none H C R (Tx.refl H) h⟩
theorem do_some (ha : SdE X a wa) : SdO X (some a) (oSome wa) := by
  obtain ⟨ta, p1, s1⟩ := ha
  refine ⟨_, po_some p1, fun F H C σ τ Q Q' χ R S h q => ?_⟩
  refine s1 F H C σ τ _ _ χ R S h fun x v H1 C1 R1 t1 rx h1 => ?_
  obtain ⟨i, rfl, h1⟩ := h1
  exact ⟨i, of_int rx, q (some i) H1 C1 R1 t1 h1⟩
theorem d_sl {lo hi : Option Expr} {wl wh : Sw → Hw → (Option Int → Hw → Prop) → WX → Prop} {p2 : Pos} (ha : SdE X a wa) (hl : SdO X lo wl) (hh : SdO X hi wh) : SdE X (.Subscript a (.Slice lo hi none p2) pos) (eSl wa wl wh) := by
  obtain ⟨r, h1, h2⟩ := o_sl (X := X)
  obtain ⟨ta, p1, s1⟩ := ha
  obtain ⟨tl, p3, s3⟩ := hl
  obtain ⟨th, p4, s4⟩ := hh
  refine ⟨_, pe_slice h1 p1 p3 p4, fun F H C σ τ Q Q' χ R S h q => ?_⟩
  refine s1 F H C σ τ _ _ χ R S h fun x v H1 C1 R1 t1 rx h1 => ?_
  refine s3 F H1 C1 σ τ _ _ χ R1 (S.tx t1) h1 fun l H2 C2 R2 t2 h2' => ?_
  refine s4 F H2 C2 σ τ _ _ χ R2 (S.tx (t1.trans t2)) h2' fun u H3 C3 R3 t3 h3 => ?_
  exact h2 F H3 C3 x v l u Q Q' R3 ((rx.tx t2).tx t3) h3 (QE.at q ((t1.trans t2).trans t3))
/-- f(e, ..), f a function of Python's own -/
theorem d_bi {x : Str} {id : String} {r : List T → Hw → WK → Prop} (hc : CallS X (.builtin id) r) (hg : Gl X x) (hm : X.mg x = none) (hv : bootBuiltins x = some (.builtin id)) (ha : SdA X (e :: es) wA) (hn : x ≠ "__name__" := by decide) (hdb : (x == ("__debug__" : Str)) = false := by decide)
    (he : starEach (e :: es) X.env = (false, eval e X.env) :: starEach es X.env := by rfl) (hpl : (backTo pos (starEach es X.env)).any (·.1) = false := by rfl) : SdE X (.Call (.Name x p) (e :: es) [] pos) (eBi r wA) := by
  obtain ⟨r, h1, h2⟩ := hc
  obtain ⟨t, p1, s1⟩ := ha
  exact ⟨_, pe_callB h1 hg hm hv p1 hn hdb he hpl, s_bi h2 s1⟩
theorem d_ty {x : Str} {id : String} {r : List T → Hw → WK → Prop} (hc : CallS X (.type id) r) (hg : Gl X x) (hm : X.mg x = none) (hv : bootBuiltins x = some (.type id)) (ha : SdA X (e :: es) wA) (hn : x ≠ "__name__" := by decide) (hdb : (x == ("__debug__" : Str)) = false := by decide)
    (he : starEach (e :: es) X.env = (false, eval e X.env) :: starEach es X.env := by rfl) (hpl : (backTo pos (starEach es X.env)).any (·.1) = false := by rfl) : SdE X (.Call (.Name x p) (e :: es) [] pos) (eBi r wA) := by
  obtain ⟨r, h1, h2⟩ := hc
  obtain ⟨t, p1, s1⟩ := ha
  exact ⟨_, pe_callTy h1 hg hm hv p1 hn hdb he hpl, s_bi h2 s1⟩
/-- the receiver's class -/
def TyS (X : Cx) (Tn : String) (ty : T → Hw → Prop) : Prop := ∀ (F H : Hp) (C : Hw) (x : V) (v : T), Rl X.K F H C → Rep X.K H x v → ty v C → tyV X.K Tn x H
theorem ty_list : TyS X "list" tyL' := fun F H C x v R rx h => by
  obtain ⟨a, xs, rfl, hx⟩ := h
  cases of_ref rx
  obtain ⟨ys, hy, r⟩ := R.lst hx
  exact L2.tyL hy
theorem ty_str : TyS X "str" tyS := fun F H C x v R rx h => by
  obtain ⟨z, rfl⟩ := h
  cases of_str rx
  unfold tyV
  rfl
theorem d_mt {o : Expr} {wo : WE} {name : Str} {Tn id : String} {ty : T → Hw → Prop} {r : T → List T → Hw → WK → Prop} (pa : PlainAttrs Tn) (slot : Slot Tn name id) (hty : typeOf (.builtin id) = pure (.type "method_descriptor")) (hT : TyS X Tn ty) (hm : MtS X id r) (ho : SdE X o wo) (ha : SdA X (e :: es) wA)
    (hbase : attributeBase o name X.env (eval o X.env) = eval o X.env := by rfl)
    (hfew : ((backTo cpos (starEach (e :: es) X.env)).all (fun x => !x.1) && (backToKw cpos (keywordEach [] X.env)).all (fun x => x.1.isSome)
      && decide ((e :: es).length + ([] : List Keyword).length + (if ([] : List Keyword).isEmpty then 0 else 1) < 30)) = true := by rfl)
    (hline : (apos.endLine == cpos.line) = true := by rfl) (hs : starEach (e :: es) X.env = (false, eval e X.env) :: starEach es X.env := by rfl) (hplain : (backTo cpos (starEach es X.env)).any (·.1) = false := by rfl) :
    SdE X (.Call (.Attribute o name apos) (e :: es) [] cpos) (eMt ty r wo wA) := by
  obtain ⟨rr, h1, h2⟩ := hm
  obtain ⟨to, p1, s1⟩ := ho
  obtain ⟨ta, p2, s2⟩ := ha
  refine ⟨_, pe_bm pa slot hty h1 p1 p2 hbase hfew hline hs hplain, fun F H C σ τ Q Q' χ R S h q => ?_⟩
  refine s1 F H C σ τ _ _ χ R S h fun x v H1 C1 R1 t1 rx h1' => ⟨hT F H1 C1 x v R1 rx h1'.1, ?_⟩
  refine s2 F H1 C1 σ τ _ _ χ R1 (S.tx t1) h1'.2 fun xs vs H2 C2 R2 t2 rs h2' => ?_
  exact h2 F H2 C2 x v xs vs Q Q' R2 (rx.tx t2) rs h2' (QE.at q (t1.trans t2))
theorem d_mt0 {o : Expr} {wo : WE} {name : Str} {Tn id : String} {ty : T → Hw → Prop} {r : T → List T → Hw → WK → Prop} (pa : PlainAttrs Tn) (slot : Slot Tn name id) (hty : typeOf (.builtin id) = pure (.type "method_descriptor")) (hT : TyS X Tn ty) (hm : MtS X id r) (ho : SdE X o wo)
    (hbase : attributeBase o name X.env (eval o X.env) = eval o X.env := by rfl) (hline : (apos.endLine == cpos.line) = true := by rfl) :
    SdE X (.Call (.Attribute o name apos) [] [] cpos) (eMt ty r wo aNil) := by
  obtain ⟨rr, h1, h2⟩ := hm
  obtain ⟨to, p1, s1⟩ := ho
  refine ⟨_, pe_bm0 pa slot hty h1 p1 hbase hline, fun F H C σ τ Q Q' χ R S h q => ?_⟩
  refine s1 F H C σ τ _ _ χ R S h fun x v H1 C1 R1 t1 rx h1' => ⟨hT F H1 C1 x v R1 rx h1'.1, ?_⟩
  exact h2 F H1 C1 x v [] [] Q Q' R1 rx reps_nil h1'.2 (QE.at q t1)
/-! isinstance -/
theorem kit_cls {K : PySem.W.Frag} {n c : String} (hn : n ∈ ["NoneType", "bool", "int", "str", "tuple", "list", "dict"]) (hc : c ∈ ["bool", "int", "str", "tuple", "list", "dict"]) : PySem.W.kitOne K (.type n) (.type c) = some (isCls n c) := by
  simp only [List.mem_cons, List.not_mem_nil, or_false] at hn hc
  rcases hn with rfl | rfl | rfl | rfl | rfl | rfl | rfl <;> rcases hc with rfl | rfl | rfl | rfl | rfl | rfl <;> rfl
theorem tyN_mem {v : T} {C : Hw} {n : String} (h : tyN v C n) : n ∈ ["NoneType", "bool", "int", "str", "tuple", "list", "dict"] := by
  cases v with
  | non => cases h; decide
  | bl _ => cases h; decide
  | int _ => cases h; decide
  | str _ => cases h; decide
  | tup _ => cases h; decide
  | cl _ => cases h; decide
  | ref _ => rcases h with ⟨rfl, _⟩ | ⟨rfl, _⟩ <;> decide
theorem isi_of {pins : List (Addr × Obj)} {σ : L2.St} {F H : Hp} {C : Hw} {s : Shared} {x : V} {v : T} {u : Value} {n c : String} {Q : Value → Shared → Prop} (I : Inv X pins σ H s) (R : Rl X.K F H C) (rx : Rep X.K H x v) (ru : RelV x u) (hn : tyN v C n) (hc : c ∈ ["bool", "int", "str", "tuple", "list", "dict"])
    (h : ∀ tk, Q (.bool (isCls n c)) { s with toks := tk }) : wpAny (model X.prog X.w) X.A (call (.builtin "isinstance") [u, .type c]) Q X.xe s := by
  have e := kit_cls (K := X.K) (tyN_mem hn) hc
  cases v with
  | non => cases hn; cases of_non rx; exact isinst_ok I ru .non e h
  | bl b => cases hn; cases of_bl rx; exact isinst_ok I ru (.bl b) e h
  | int b => cases hn; cases of_int rx; exact isinst_ok I ru (.int b) e h
  | str b => cases hn; cases of_str rx; exact isinst_ok I ru (.str b) e h
  | tup xs =>
    cases hn
    obtain ⟨a, ys, rfl, hq, r⟩ := of_tup rx
    cases ru
    obtain ⟨its, _, ⟨o, h1, h2, _⟩, _⟩ := I.tuple hq
    exact PySem.W.kia_one PySem.W.kitx_tuple I.kIn ⟨o, h1, h2⟩ e (fun z => nomatch z) h
  | cl xs =>
    cases hn
    obtain ⟨a, ys, rfl, hq, r⟩ := of_cl rx
    cases ru
    obtain ⟨its, _, p, _⟩ := I.list hq.sq
    obtain ⟨o, h1, h2, _⟩ := p.isList
    exact PySem.W.kia_one PySem.W.kitx_list I.kIn ⟨o, h1, h2⟩ e (fun z => nomatch z) h
  | ref a =>
    cases of_ref rx
    rcases hn with ⟨rfl, xs, hx⟩ | ⟨rfl, kvs, hx⟩
    · obtain ⟨ys, hy, r⟩ := R.lst hx
      exact isinst_ok I ru (.lst hy) e h
    · obtain ⟨ks, hy, r⟩ := R.obj a _ hx
      exact isinst_ok I ru (.dK hy) e h
theorem d_isi {x : Str} {q2 : Pos} {c : String} (hg : Gl X "isinstance") (hm : X.mg "isinstance" = none) (hgx : Gl X x) (hmx : X.mg x = none) (hvx : bootBuiltins x = some (.type c)) (hc : c ∈ ["bool", "int", "str", "tuple", "list", "dict"]) (ha : SdE X a wa)
    (hnx : x ≠ "__name__" := by decide) (hdx : (x == ("__debug__" : Str)) = false := by decide) (he : starEach [a, .Name x q2] X.env = [(false, eval a X.env), (false, eval (.Name x q2) X.env)] := by rfl) : SdE X (.Call (.Name "isinstance" p) [a, .Name x q2] [] pos) (eIsi wa c) := by
  obtain ⟨ta, p1, s1⟩ := ha
  let r : List V → Hp → VK → Prop := fun xs H Q => ∃ y F C v n, xs = [y, .ty c] ∧ Rl X.K F H C ∧ Rep X.K H y v ∧ tyN v C n ∧ Q (.bl (isCls n c)) H
  have hr : CallR X (.builtin "isinstance") r := by
    intro pins s σ H xs us Q I rs h
    obtain ⟨y, F, C, v, n, rfl, R, ry, hn, q⟩ := h
    obtain ⟨u, u2, rfl, ru, ru2⟩ := rs.two
    cases ru2
    exact isi_of I R ry ru hn hc fun tk => ⟨.bl _, H, I.tok tk, rfl, q⟩
  refine ⟨_, pe_callB hr hg hm bt_isinstance (pa_cons p1 (pa_cons (pe_bltn (v := .ty c) hgx hmx hvx rfl hnx hdx) pa_nil (by rw [show starEach [Expr.Name x q2] X.env = [(false, eval (.Name x q2) X.env)] from rfl]; rfl)) ?_) (by decide) (by decide) ?_ ?_, ?_⟩
  · rw [he]; rfl
  · rw [he]; rfl
  · rfl
  · intro F H C σ τ Q Q' χ R S h q
    refine s1 F H C σ τ _ _ χ R S h fun y v H1 C1 R1 t1 ry h1 => ?_
    obtain ⟨n, hn, h1⟩ := h1
    exact ⟨y, F, C1, v, n, rfl, R1, ry, hn, q _ _ H1 C1 R1 t1 rep_bl h1⟩
/-! tests -/
theorem dt_cmp {op : CmpOp} (ho : OpS X (compareOp op) w) (ha : SdE X a wa) (hb : SdE X b wb) (hm : behindInMarks op b = false) : SdT X (.Compare a [op] [b] pos) (tBl (eBin w wa wb)) := by
  obtain ⟨r, h1, h2⟩ := ho
  obtain ⟨ta, p1, s1⟩ := ha
  obtain ⟨tb, p2, s2⟩ := hb
  exact ⟨_, pt_cmpR h1 p1 p2 hm, s_bl (s_op s1 s2 h2)⟩
theorem dt_tru (ha : SdE X a wa) (he : ∀ whole, isTrue a X.env whole = (do let v ← whole; standAt a.pos; holding [v] (truthy v)) := by intro _; rfl) : SdT X a (tTru wa) := by
  obtain ⟨ta, p1, s1⟩ := ha
  exact ⟨_, pt_truth p1 he, s_tru s1⟩
theorem dw_and1 (ha : SdT X a wt) : SdW X (.BoolOp .And [a] pos) wt := by
  obtain ⟨t, p, s⟩ := ha
  exact ⟨_, pw_and1 p, s⟩
theorem dw_or1 (ha : SdT X a wt) : SdW X (.BoolOp .Or [a] pos) wt := by
  obtain ⟨t, p, s⟩ := ha
  exact ⟨_, pw_or1 p, s⟩
theorem dw_and (ha : SdT X a wt) (hb : SdW X (.BoolOp .And (b :: rest) pos) wt') : SdW X (.BoolOp .And (a :: b :: rest) pos) (tAn wt wt') := by
  obtain ⟨t, p, s⟩ := ha
  obtain ⟨t', p', s'⟩ := hb
  exact ⟨_, pw_and p p', s_an s s'⟩
theorem dw_or (ha : SdT X a wt) (hb : SdW X (.BoolOp .Or (b :: rest) pos) wt') : SdW X (.BoolOp .Or (a :: b :: rest) pos) (tOr' wt wt') := by
  obtain ⟨t, p, s⟩ := ha
  obtain ⟨t', p', s'⟩ := hb
  exact ⟨_, pw_or p p', s_or' s s'⟩
theorem dt_w (h : SdW X a wt) : SdT X a wt := by
  obtain ⟨t, p, s⟩ := h
  exact ⟨_, p.pt, s⟩
theorem dt_not (ha : SdT X a wt) : SdT X (.UnaryOp .Not a pos) (tNo wt) := by
  obtain ⟨t, p, s⟩ := ha
  exact ⟨_, pt_not p, s_no s⟩
end
/-! ### statements -/
structure DRel (K : PySem.W.Frag) (F H : Hp) (D : Ends) (D' : We) : Prop where
  nx : ∀ σ τ H' C', Rl K F H' C' → Tx H H' → RepS K H' σ τ → D'.nx τ C' → D.nx σ H'
  rt : ∀ x v H' C', Rl K F H' C' → Tx H H' → Rep K H' x v → D'.rt v C' → D.rt x H'
  bk : ∀ σ τ H' C', Rl K F H' C' → Tx H H' → RepS K H' σ τ → D'.bk τ C' → D.bk σ H'
  ct : ∀ σ τ H' C', Rl K F H' C' → Tx H H' → RepS K H' σ τ → D'.ct τ C' → D.ct σ H'
theorem DRel.at {K : PySem.W.Frag} {F H H1 : Hp} {D : Ends} {D' : We} (h : DRel K F H D D') (t : Tx H H1) : DRel K F H1 D D' :=
  ⟨fun σ τ H' C' R t' => h.nx σ τ H' C' R (t.trans t'), fun x v H' C' R t' => h.rt x v H' C' R (t.trans t'), fun σ τ H' C' R t' => h.bk σ τ H' C' R (t.trans t'), fun σ τ H' C' R t' => h.ct σ τ H' C' R (t.trans t')⟩
def SimS (K : PySem.W.Frag) (t : TS) (w : WS) : Prop := ∀ (F H : Hp) (C : Hw) (σ : L2.St) (τ : Sw) (D : Ends) (D' : We), Rl K F H C → RepS K H σ τ → w D' τ C → DRel K F H D D' → t D σ H
def SimG (K : PySem.W.Frag) (t : TG) (w : WG) : Prop := ∀ (F H : Hp) (C : Hw) (σ : L2.St) (τ : Sw) (x : V) (v : T) (Q : L2.St → Hp → Prop) (Q' : Sw → Hw → Prop) (χ : WX), Rl K F H C → RepS K H σ τ → Rep K H x v → w v τ C Q' χ →
  (∀ σ' τ' H' C', Rl K F H' C' → Tx H H' → RepS K H' σ' τ' → Q' τ' C' → Q σ' H') → t x σ H Q
def SimGs (K : PySem.W.Frag) (t : TGs) (w : WGs) : Prop := ∀ (F H : Hp) (C : Hw) (σ : L2.St) (τ : Sw) (x : List V) (v : List T) (Q : L2.St → Hp → Prop) (Q' : Sw → Hw → Prop) (χ : WX), Rl K F H C → RepS K H σ τ → Reps K H x v → w v τ C Q' χ →
  (∀ σ' τ' H' C', Rl K F H' C' → Tx H H' → RepS K H' σ' τ' → Q' τ' C' → Q σ' H') → t x σ H Q
def SdS (X : Cx) (st : Stmt) (w : WS) : Prop := ∃ t, PS X st t ∧ SimS X.K t w
def SdB (X : Cx) (st : List Stmt) (w : WS) : Prop := ∃ t, PSs X st t ∧ SimS X.K t w
/-- a target: also what a comprehension asks of it -/
def SdG (X : Cx) (e : Expr) (w : WG) : Prop := ∃ t, PG X e t ∧ SimG X.K t w
def SdGs (X : Cx) (e : List Expr) (w : WGs) : Prop := ∃ t, PGs X e t ∧ SimGs X.K t w
section
variable {X : Cx} {st : Stmt} {rest : List Stmt} {w u : WS} {e tg : Expr} {we : WE} {wt : WT} {g : WG} {gs : WGs} {pos : Pos}
theorem sg_name {K : PySem.W.Frag} {i : Nat} : SimG K (gName i) (gNm i) := fun F H C σ τ x v Q Q' χ R S r h q => q _ _ H C R (Tx.refl H) (S.set r) h
/-- how many a row of targets takes -/
def GsLen (n : Nat) (gs : WGs) : Prop := ∀ vs τ C Q χ, gs vs τ C Q χ → vs.length = n
def GMono (g : WG) : Prop := ∀ v τ C Q Q' χ, (∀ τ' C', Q τ' C' → Q' τ' C') → g v τ C Q χ → g v τ C Q' χ
theorem dg_name {i : Nat} {x : Str} (hN : X.N.Nodup) (hi : X.N[i]? = some x := by rfl) (hx : Loc X.env.scope x := by first | exact Or.inl rfl | exact Or.inr rfl) (hf : X.fn x = true ∨ X.env.scope.names.lookup x = some .local := by first | exact .inl rfl | exact .inr rfl | assumption) : SdG X (.Name x pos) (gNm i) := ⟨_, pg_name hN hi hx hf, sg_name⟩
theorem db_nil : SdB X [] sPass := ⟨_, pss_nil, fun F H C σ τ D D' R S h d => d.nx σ τ H C R (Tx.refl H) S h⟩
theorem db_one (a : SdS X st w) : SdB X [st] w := by
  obtain ⟨t, p, s⟩ := a
  exact ⟨_, pss_one p, s⟩
theorem db_cons (a : SdS X st w) (b : SdB X rest u) : SdB X (st :: rest) (sSeq w u) := by
  obtain ⟨t, p, s⟩ := a
  obtain ⟨t', p', s'⟩ := b
  refine ⟨_, pss_cons p p', fun F H C σ τ D D' R S h d => ?_⟩
  exact s F H C σ τ _ _ R S h ⟨fun σ' τ' H' C' R' t' S' h' => s' F H' C' σ' τ' D D' R' S' h' (d.at t'), d.rt, d.bk, d.ct⟩
theorem ds_expr (a : SdE X e we) (hs : swapsWith e none pos.line X.env = pure false := by rfl) : SdS X (.Expr e pos) (sExpr we) := by
  obtain ⟨t, p, s⟩ := a
  refine ⟨_, ps_expr p hs, fun F H C σ τ D D' R S h d => ?_⟩
  exact s F H C σ τ _ _ D'.xc R S h fun x v H1 C1 R1 t1 rx h1 => d.nx σ τ H1 C1 R1 t1 (S.tx t1) h1
theorem ds_ret (a : SdE X e we) : SdS X (.Return (some e) pos) (sRet we) := by
  obtain ⟨t, p, s⟩ := a
  refine ⟨_, ps_ret p, fun F H C σ τ D D' R S h d => ?_⟩
  exact s F H C σ τ _ _ D'.xc R S h d.rt
theorem ds_if {c : Expr} {a b : List Stmt} {wa wb : WS} (hc : SdT X c wt) (ha : SdB X a wa) (hb : SdB X b wb) : SdS X (.If c a b pos) (sIf wt wa wb) := by
  obtain ⟨t, p, s⟩ := hc
  obtain ⟨t1, p1, s1⟩ := ha
  obtain ⟨t2, p2, s2⟩ := hb
  refine ⟨_, ps_if p p1 p2, fun F H C σ τ D D' R S h d => ?_⟩
  refine s F H C σ τ _ _ D'.xc R S h fun k H1 C1 R1 t1 h1 => ?_
  cases k with
  | true => exact s1 F H1 C1 σ τ D D' R1 (S.tx t1) h1 (d.at t1)
  | false => exact s2 F H1 C1 σ τ D D' R1 (S.tx t1) h1 (d.at t1)
theorem ds_set {i : Nat} {x : Str} {pos' : Pos} (hN : X.N.Nodup) (he : SdE X e we) (hi : X.N[i]? = some x := by rfl) (hx : Loc X.env.scope x := by first | exact Or.inl rfl | exact Or.inr rfl) (hs : swapsWith e (some (.Name x pos')) pos.line X.env = pure false := by rfl)
    (hf : X.fn x = true ∨ X.env.scope.names.lookup x = some .local := by first | exact .inl rfl | exact .inr rfl | assumption) : SdS X (.Assign [.Name x pos'] e pos) (sAsg we (gNm i)) := by
  obtain ⟨t, p, s⟩ := he
  refine ⟨_, ps_set hN hi hx p hs hf, fun F H C σ τ D D' R S h d => ?_⟩
  refine s F H C σ τ _ _ D'.xc R S h fun x v H1 C1 R1 t1 rx h1 => ?_
  exact sg_name F H1 C1 σ τ x v _ _ D'.xc R1 (S.tx t1) rx h1 fun σ' τ' H' C' R' t' => d.nx σ' τ' H' C' R' (t1.trans t')
end
/-! ### what is walked -/
/-- the iterator gives these items, as long as ok holds -/
def ItRel (K : PySem.W.Frag) (F H0 : Hp) (J : It) (xs : List T) (ok : Hw → Prop) : Prop := ∀ (i : Nat) (H : Hp) (C : Hw), Rl K F H C → Tx H0 H → ok C →
  (i < xs.length → J.go i H ∧ ∀ x H', J.yld i H x H' → ∃ v, xs[i]? = some v ∧ Rl K F H' C ∧ Tx H H' ∧ Rep K H' x v) ∧ (i = xs.length → J.stop i H)
def SimI (K : PySem.W.Frag) (wi : TI) (w : WI) : Prop := ∀ (F H : Hp) (C : Hw) (σ : L2.St) (τ : Sw) (R : It → Hp → Prop) (R' : List T → (Hw → Prop) → Hw → Prop) (χ : WX), Rl K F H C → RepS K H σ τ → w τ C R' χ →
  (∀ J H' xs ok C', Rl K F H' C' → Tx H H' → (∀ F', ItRel K F' H' J xs ok) → R' xs ok C' → R J H') → wi σ H R
def SdI (X : Cx) (tg e : Expr) (w : WI) : Prop := ∃ t, PI X tg e t ∧ SimI X.K t w
section
variable {X : Cx} {tg e a b : Expr} {we : WE} {wA : WA} {pos p : Pos}
theorem it_list {K : PySem.W.Frag} {F H0 : Hp} {l : Addr} {xs : List T} : ItRel K F H0 (Itl K l) xs (fun C => C l = some (.lst xs)) := fun i H C R t ok => by
  obtain ⟨ys, hy, r⟩ := R.lst ok
  refine ⟨fun hi => ?_, fun hi => ⟨ys, SqL.of hy, by rw [r.length]; omega⟩⟩
  have ev : xs[i]? = some xs[i] := by simp [hi]
  obtain ⟨y, ey, ry⟩ := r.get ev
  refine ⟨⟨ys, y, SqL.of hy, ey⟩, fun x H' h => ?_⟩
  obtain ⟨rfl, h⟩ := h
  have e2 := h ys (SqL.of hy)
  rw [ey] at e2; cases e2
  exact ⟨_, ev, R, Tx.refl _, ry⟩
theorem it_cl {K : PySem.W.Frag} {F H0 : Hp} {l : Addr} {ys : List V} {xs : List T} (h0 : SqC K H0 l ys) (r0 : Reps K H0 ys xs) : ItRel K F H0 (Itl K l) xs (fun _ => True) := fun i H C R t ok => by
  have hy := (t.sqc h0).sq
  have r := r0.tx t
  refine ⟨fun hi => ?_, fun hi => ⟨ys, hy, by rw [r.length]; omega⟩⟩
  have ev : xs[i]? = some xs[i] := by simp [hi]
  obtain ⟨y, ey, ry⟩ := r.get ev
  refine ⟨⟨ys, y, hy, ey⟩, fun x H' h => ?_⟩
  obtain ⟨rfl, h⟩ := h
  have e2 := h ys hy
  rw [ey] at e2; cases e2
  exact ⟨_, ev, R, Tx.refl _, ry⟩
theorem it_tup {K : PySem.W.Frag} {F H0 : Hp} {l : Addr} {ys : List V} {xs : List T} (h0 : SqT K H0 l ys) (r0 : Reps K H0 ys xs) : ItRel K F H0 (Itt K l) xs (fun _ => True) := fun i H C R t ok => by
  have hy := t.sqt h0
  have r := r0.tx t
  refine ⟨fun hi => ?_, fun hi => ⟨ys, hy, by rw [r.length]; omega⟩⟩
  have ev : xs[i]? = some xs[i] := by simp [hi]
  obtain ⟨y, ey, ry⟩ := r.get ev
  refine ⟨⟨ys, y, hy, ey⟩, fun x H' h => ?_⟩
  obtain ⟨rfl, h⟩ := h
  have e2 := h ys hy
  rw [ey] at e2; cases e2
  exact ⟨_, ev, R, Tx.refl _, ry⟩
theorem it_str {K : PySem.W.Frag} {F H0 : Hp} {z : Str} : ItRel K F H0 (Its z) (z.cps.toList.map fun c => T.str ⟨#[c]⟩) (fun _ => True) := fun i H C R t ok => by
  refine ⟨fun hi => ⟨by show i < z.cps.size; simpa using hi, fun x H' h => ?_⟩, fun hi => by show i = z.cps.size; simpa using hi⟩
  obtain ⟨rfl, c, hc, rfl⟩ := h
  refine ⟨.str ⟨#[c]⟩, ?_, R, Tx.refl _, rep_str⟩
  rw [List.getElem?_map, Array.getElem?_toList, hc]; rfl
theorem str_iter {pins : List (Addr × Obj)} {σ : L2.St} {H1 : Hp} {s1 : Shared} {R : It → Hp → Prop} {z : Str} {v : Value} (I1 : Inv X pins σ H1 s1) (r1 : RelV (.str z) v) (q : R (Its z) H1) : wpAny (model X.prog X.w) X.A (pyIter v) (PIE X pins σ tg R) X.xe s1 := by
  obtain ⟨t, rfl⟩ := r1
  have fin : ∀ b ∈ [s1.heap.objs.size], FpOk X pins H1 b := fun b hb => by
    have e : b = s1.heap.objs.size := by simpa using hb
    subst e
    exact I1.fpOk (Nat.le_refl _) I1.fresh
  cases ha : z.cps.all (· < 128)
  · refine wpAny_pyIter_wide ha ⟨s1.heap.objs.size, [s1.heap.objs.size], _, _, H1, rfl, I1.kept (t' := s1.toks) fun b o e => Heap.get?_push_of_some _ e, turn_walks (ty := "str_iterator") (by decide) (fun A hA => Walks.strWide hA _ z t) fun _ _ _ _ _ st h => wpAny_pyIter_striter_wide st h, ⟨_, Heap.get?_push_size _ rfl, rfl, rfl⟩, fin, q⟩
  · refine wpAny_pyIter_ascii ha ⟨s1.heap.objs.size, [s1.heap.objs.size], _, _, H1, rfl, I1.kept (t' := s1.toks) fun b o e => Heap.get?_push_of_some _ e, turn_walks (ty := "str_ascii_iterator") (by decide) (fun A hA => Walks.strAscii hA _ z t) fun _ _ _ _ _ st h => wpAny_pyIter_striter_ascii st h, ⟨_, Heap.get?_push_size _ rfl, rfl, rfl⟩, fin, q⟩
/-- a list, a tuple or a text, whichever it is -/
def iDyn (K : PySem.W.Frag) (tl : TE) : TI := fun σ H R => tl σ H fun x H1 => (∃ a, x = .ref a ∧ (∃ xs, SqL K H1 a xs) ∧ R (Itl K a) H1) ∨ (∃ a, x = .ref a ∧ (∃ xs, SqT K H1 a xs) ∧ R (Itt K a) H1) ∨ ∃ z, x = .str z ∧ R (Its z) H1
theorem pi_dyn {tl : TE} (hl : PE X e tl) : PI X tg e (iDyn X.K tl) := by
  intro pins s σ H R I h
  refine thn (hl pins s σ H _ I h) fun v s1 ⟨x, H1, I1, r1, q1⟩ => ?_
  rcases q1 with ⟨a, rfl, ⟨xs, hq⟩, q⟩ | ⟨a, rfl, ⟨xs, hq⟩, q⟩ | ⟨z, rfl, q⟩
  · cases r1
    obtain ⟨its, rv, p, hz⟩ := I1.list hq
    refine wpAny_pyIter_list p.isList ?_
    refine ⟨s1.heap.objs.size, [s1.heap.objs.size], _, _, H1, rfl, I1.kept (t' := s1.toks) fun b o e => Heap.get?_push_of_some _ e, turn_list a _, ⟨_, Heap.get?_push_size _ rfl, rfl, rfl⟩, fun b hb => ?_, q⟩
    have e : b = s1.heap.objs.size := by simpa using hb
    subst e
    exact I1.fpOk (Nat.le_refl _) (I1.hok.fresh (Nat.le_refl _))
  · cases r1
    obtain ⟨its, rv, p, hz⟩ := I1.tuple hq
    refine wpAny_pyIter_tuple (show s1.heap.IsTuple a its.toArray from p) ?_
    refine ⟨s1.heap.objs.size, [s1.heap.objs.size], _, _, H1, rfl, I1.kept (t' := s1.toks) fun b o e => Heap.get?_push_of_some _ e, turn_tuple a _, ⟨_, Heap.get?_push_size _ rfl, rfl, rfl⟩, fun b hb => ?_, q⟩
    have e : b = s1.heap.objs.size := by simpa using hb
    subst e
    exact I1.fpOk (Nat.le_refl _) (I1.hok.fresh (Nat.le_refl _))
  · exact str_iter I1 r1 q
theorem di_seq (h : SdE X e we) : SdI X tg e (iSeq we) := by
  obtain ⟨t, p, s⟩ := h
  refine ⟨_, pi_dyn p, fun F H C σ τ R R' χ Rr S h q => ?_⟩
  refine s F H C σ τ _ _ χ Rr S h fun x v H1 C1 R1 t1 rx h1 => ?_
  cases v with
  | tup xs =>
    obtain ⟨a, ys, rfl, hq, r⟩ := of_tup rx
    exact .inr (.inl ⟨a, rfl, ⟨ys, hq⟩, q _ H1 xs _ C1 R1 t1 (fun _ => it_tup hq r) h1⟩)
  | cl xs =>
    obtain ⟨a, ys, rfl, hq, r⟩ := of_cl rx
    exact .inl ⟨a, rfl, ⟨ys, hq.sq⟩, q _ H1 xs _ C1 R1 t1 (fun _ => it_cl hq r) h1⟩
  | str z => cases of_str rx; exact .inr (.inr ⟨z, rfl, q _ H1 _ _ C1 R1 t1 (fun _ => it_str) h1⟩)
  | ref a =>
    cases of_ref rx
    obtain ⟨xs, hx, h1⟩ := h1
    obtain ⟨ys, hy, r⟩ := R1.lst hx
    exact .inl ⟨a, rfl, ⟨ys, SqL.of hy⟩, q _ H1 xs _ C1 R1 t1 (fun _ => it_list) h1⟩
  | _ => exact False.elim h1
end
/-! ### for -/
theorem sim_for {K : PySem.W.Frag} {wi : TI} {g : TG} {tb : TS} {i : WI} {g' : WG} {b : WS} (hi : SimI K wi i) (hg : SimG K g g') (hb : SimS K tb b) : SimS K (tFor wi g tb) (sFor i g' b) := fun F H C σ τ D D' R S h d => by
  refine hi F H C σ τ _ _ D'.xc R S h fun J H1 xs ok C1 R1 t1 it h1 => ?_
  have it1 := it F
  refine ⟨fun i m σ H => m = xs.length - i ∧ i ≤ xs.length ∧ ∃ τ C, Rl K F H C ∧ Tx H1 H ∧ RepS K H σ τ ∧ forW g' b ok D' (xs.drop i) τ C, ⟨xs.length, by simp, Nat.zero_le _, τ, C1, R1, Tx.refl _, S.tx t1, h1⟩, ?_⟩
  rintro i m σ2 H2 ⟨rfl, hle, τ2, C2, R2, t2, S2, h2⟩
  by_cases hlt : i < xs.length
  · right
    have ed : xs.drop i = xs[i] :: xs.drop (i + 1) := List.drop_eq_getElem_cons hlt
    rw [ed] at h2
    obtain ⟨hok, h2⟩ := h2
    obtain ⟨hgo, hy⟩ := (it1 i H2 C2 R2 t2 hok).1 hlt
    refine ⟨hgo, fun σ' H' => ∃ τ' C', Rl K F H' C' ∧ Tx H1 H' ∧ RepS K H' σ' τ' ∧ forW g' b ok D' (xs.drop (i + 1)) τ' C', fun σ' H' q => ⟨xs.length - (i + 1), by omega, rfl, hlt, q⟩, fun x H' hx => ?_⟩
    obtain ⟨v, ev, R3, t3, rv⟩ := hy x H' hx
    have : v = xs[i] := by
      have e : xs[i]? = some xs[i] := by simp [hlt]
      rw [e] at ev; exact (Option.some.inj ev).symm
    subst this
    refine hg F H' C2 σ2 τ2 x _ _ _ D'.xc R3 (S2.tx t3) rv h2 fun σ4 τ4 H4 C4 R4 t4 S4 h4 => ?_
    have tt : Tx H1 H4 := (t2.trans t3).trans t4
    exact hb F H4 C4 σ4 τ4 _ _ R4 S4 h4 ⟨fun σ5 τ5 H5 C5 R5 t5 S5 h5 => ⟨τ5, C5, R5, tt.trans t5, S5, h5⟩, fun x v H5 C5 R5 t5 => d.rt x v H5 C5 R5 ((t1.trans tt).trans t5), fun σ5 τ5 H5 C5 R5 t5 S5 h5 => d.nx σ5 τ5 H5 C5 R5 ((t1.trans tt).trans t5) S5 h5,
      fun σ5 τ5 H5 C5 R5 t5 S5 h5 => ⟨τ5, C5, R5, tt.trans t5, S5, h5⟩⟩
  · left
    have e : i = xs.length := by omega
    subst e
    rw [List.drop_length] at h2
    obtain ⟨hok, h2⟩ := h2
    exact ⟨(it1 _ H2 C2 R2 t2 hok).2 rfl, d.nx σ2 τ2 H2 C2 R2 (t1.trans t2) S2 h2⟩
theorem ds_for {X : Cx} {tg iter : Expr} {body : List Stmt} {i : WI} {g : WG} {b : WS} {pos : Pos} (hp : PassesOwn (model X.prog X.w) X.A X.env X.xe) (hc : X.calm = true) (hi : SdI X tg iter i) (hg : SdG X tg g) (hb : SdB X body b)
    (hs : ∀ x, foldedSetIterable iter X.env x = pure x := by intro _; rfl) : SdS X (.For tg iter body [] pos) (sFor i g b) := by
  obtain ⟨t, p, s⟩ := hi
  obtain ⟨t', p', s'⟩ := hg
  obtain ⟨t2, p2, s2⟩ := hb
  exact ⟨_, ps_for hp hc p p' p2 hs, sim_for s s' s2⟩
end WL
set_option Elab.async false
set_option linter.all false
set_option maxRecDepth 100000
set_option maxHeartbeats 4000000
namespace WL
open PySem PySem.Spec PyProof.Rows L2
/-! ### comprehensions -/
def tOf (K : PySem.W.Frag) (we : WE) : TE := fun σ H Q => ∃ (F : Hp) (C : Hw) (τ : Sw) (Q' : WK) (χ : WX), Rl K F H C ∧ RepS K H σ τ ∧ we τ C Q' χ ∧ QE K F H Q Q'
def ttOf (K : PySem.W.Frag) (wt : WT) : TT := fun σ H Q => ∃ (F : Hp) (C : Hw) (τ : Sw) (Q' : Bool → Hw → Prop) (χ : WX), Rl K F H C ∧ RepS K H σ τ ∧ wt τ C Q' χ ∧ QT K F H Q Q'
def SdIf (X : Cx) (ifs : List Expr) (w : WT) : Prop := ∃ t, PIfs X ifs t ∧ SimT X.K t w
/-- the frame with the list that grows -/
def frP (F : Hp) (p : Addr) (ys : List V) : Hp := fun b => if b = p then some (.lst ys) else F b
section
variable {X : Cx} {tg iter elt : Expr} {ifs : List Expr} {scope : Scope} {pos : Pos} {cN : List Str} {cap : List (Option Nat)} {cl : List (Str × Addr)} {js : List Nat} {i : WI} {g : TG} {wg : WG} {wc : WT} {we : WE}
/-- what is asked of a comprehension -/
structure CompD (X : Cx) (tg iter elt : Expr) (ifs : List Expr) (scope : Scope) (cN : List Str) (cap : List (Option Nat)) (cl : List (Str × Addr)) (js : List Nat) (i : WI) (g : TG) (wg : WG) (wc : WT) (we : WE) : Prop where
  calm : X.calm = true
  ok : X.Ok → CompOk X cN cap scope cl
  it : SdI X tg iter i
  tgt : ∀ fp s H, PG (cxComp X cN scope cl fp s H) tg g
  gm : TGmono g
  gk : GKeep js g
  sg : SimG X.K g wg
  js0 : ∀ j ∈ js, (cap[j]?).join = none
  ts : ∀ fp s H, SdIf (cxComp X cN scope cl fp s H) ifs wc
  el : ∀ fp s H, SdE (cxComp X cN scope cl fp s H) elt we
  fold : ∀ x, foldedSetIterable iter X.env x = pure x
end
theorem hu150 {A : Around} {k : Nat} (hr : Room k A) : A.units + 150 < cLine := by have := hr.un; omega
/-! ### calls of own defs -/
def spW (K : PySem.W.Frag) (pr : List Df) (n i : Nat) : Sp := fun vs H Q _ => ∃ (F : Hp) (C : Hw) (vs' : List T) (Q' : WK) (χ : WX), Rl K F H C ∧ Reps K H vs vs' ∧ wpc pr n i vs' C Q' χ ∧ QE K F H Q Q'
theorem d_call {X : Cx} {k i : Nat} {x : Str} {ps : List Str} {pr : List Df} {p pos : Pos} {e : Expr} {es : List Expr} {wA : WA} (Cc : Ca X.prog X.w X.K X.mg X.base k x ps (spW X.K pr k i)) (hr : Room k X.A) (hg : Gl X x) (ha : SdA X (e :: es) wA)
    (hdb : (x == ("__debug__" : Str)) = false := by decide) (he : starEach (e :: es) X.env = (false, eval e X.env) :: starEach es X.env := by rfl) (hpl : (backTo pos (starEach es X.env)).any (·.1) = false := by rfl) :
    SdE X (.Call (.Name x p) (e :: es) [] pos) (eCall (wpc pr k) i wA) := by
  obtain ⟨t, p1, s⟩ := ha
  refine ⟨_, pe_ca Cc hr hg p1 hdb he hpl, fun F H C σ τ Q Q' χ R S h q => ?_⟩
  refine s F H C σ τ _ _ χ R S h fun xs vs H1 C1 R1 t1 rs h1 => ?_
  refine ⟨F, C1, vs, Q', χ, R1, ?_, h1, QE.at q t1⟩
  rw [List.append_nil]; exact rs
theorem RepS.start {K : PySem.W.Frag} {H : Hp} {vs : List V} {vs' : List T} (h : Reps K H vs vs') (N : List Str) (m : Nat) (e : m = N.length - vs.length) : RepS K H (start N vs) (vs'.map some ++ List.replicate m none) := by
  refine ⟨?_, fun i v hv => ?_⟩
  · unfold L2.start
    rw [List.length_append, List.length_append, List.length_map, List.length_map, List.length_replicate, List.length_replicate, h.length, e, h.length]
  · unfold L2.start
    by_cases hi : i < vs'.length
    · rw [List.getElem?_append_left (by rw [List.length_map]; exact hi), List.getElem?_map] at hv
      cases hg : vs'[i]? with
      | none => rw [hg] at hv; cases hv
      | some z =>
        rw [hg] at hv
        cases hv
        obtain ⟨x, hx, r⟩ := h.get hg
        refine ⟨x, ?_, r⟩
        rw [List.getElem?_append_left (by rw [List.length_map, h.length]; exact hi), List.getElem?_map, hx]
        rfl
    · rw [List.getElem?_append_right (by rw [List.length_map]; omega), List.getElem?_replicate] at hv
      split at hv
      · cases hv
      · cases hv
theorem fn_ok {P : Program} {w : World} {K : PySem.W.Frag} {mg : Str → Option Value} {base : Heap} {x : Str} {st : Stmt} {f : Addr} {fd : FuncData} {N ps : List Str} {pr : List Df} {n i : Nat} {d : Df} (F : Fun K x x st f fd) (S : FnScope N ps (defScope st)) (hd : pr[i]? = some d) (hn : d.n = N.length) (har : d.ar = ps.length)
    (hb : ∀ (cdv : Value) (A : Around) (outer : List Env) (s : Shared) (H : Hp) (E : XK), Room n (A.deeper (envOfC x (defScope st) s.heap.objs.size f cdv)) → SdB (cxOf CX0 P w K mg base N x (defScope st) f cdv A outer s H E).nox (defBody st) (d.body (wpc pr n))) :
    FnOk P w K mg base CX0 (n + 1) f fd ps (spW K pr (n + 1) i) := by
  refine F.ok S (fun vs H Q E h => ?_) (fun cdv A outer s H vs Q E hr h => ?_)
  · obtain ⟨F', C, vs', Q', χ, R, rs, ⟨d', e1, e2, _⟩, _⟩ := h
    rw [hd] at e1; cases e1
    rw [rs.length, e2, har]
  · obtain ⟨F', C, vs', Q', χ, R, rs, ⟨d', e1, e2, h⟩, q⟩ := h
    rw [hd] at e1; cases e1
    obtain ⟨t, p, sm⟩ := hb cdv A outer s H E hr
    refine ⟨t, p, sm F' H C _ _ _ _ R (RepS.start rs N _ (by rw [rs.length, e2, hn])) h ⟨fun σ τ H' C' R' t' _ h' => q .non .non H' C' R' t' rep_non h', q, fun _ _ _ _ _ _ _ z => z.elim, fun _ _ _ _ _ _ _ z => z.elim⟩⟩
theorem ca_zero {P : Program} {w : World} {K : PySem.W.Frag} {mg : Str → Option Value} {base : Heap} {x : Str} {st : Stmt} {f : Addr} {fd : FuncData} {ps : List Str} {pr : List Df} {i : Nat} (F : Fun K x x st f fd) (hb : Binds K fd ps []) (hm : mg x = some (.ref f)) : Ca P w K mg base 0 x ps (spW K pr 0 i) :=
  ⟨f, fd, ⟨fun vs H Q E h => by obtain ⟨_, _, _, _, _, _, _, z, _⟩ := h; exact z.elim, fun A outer s H args us vs Q E _ _ _ _ h => by obtain ⟨_, _, _, _, _, _, _, z, _⟩ := h; exact z.elim⟩, hb, F.kp, hm⟩
theorem ca_succ {P : Program} {w : World} {K : PySem.W.Frag} {mg : Str → Option Value} {base : Heap} {x : Str} {st : Stmt} {f : Addr} {fd : FuncData} {ps : List Str} {sp : Sp} {n : Nat} (F : Fun K x x st f fd) (hb : Binds K fd ps []) (hm : mg x = some (.ref f)) (G : FnOk P w K mg base CX0 n f fd ps sp) : Ca P w K mg base n x ps sp :=
  ⟨f, fd, G, hb, F.kp, hm⟩
/-- the law's own promise, from what it does at the script -/
theorem law_sp {K : PySem.W.Frag} {pr : List Df} {n i : Nat} {H : Hp} {a : Addr} {ns : List Int} (hO : Only H) (hS : SqL K H a (ns.map V.int)) (h : wpc pr n i [.cl (ns.map T.int)] (fun _ => none) (fun v _ => v = .bl true) (fun _ _ => False)) :
    spW K pr n i [.ref a] H (fun v _ => v = .bl true) (fun _ _ _ => False) := by
  have hq : SqC K H a (ns.map V.int) := by
    rcases hS with (h | ⟨o, h⟩) | h
    · rcases hO a with e | ⟨o, xs, e⟩
      · rw [e] at h; cases h
      · rw [e] at h; cases h
    · exact .inl ⟨o, h⟩
    · exact .inr h
  refine ⟨fun _ => none, fun _ => none, [.cl (ns.map T.int)], _, _, ⟨(fun _ _ e => by cases e), (fun _ _ e => by cases e)⟩, reps_cons ?_ reps_nil, h, fun x v H' C' R t r e => ?_⟩
  · unfold Rep
    exact ⟨a, _, rfl, hq, reps_ints ns⟩
  · subst e; exact of_bl r
end WL
set_option Elab.async false
set_option linter.all false
set_option maxRecDepth 100000
set_option maxHeartbeats 4000000
/-! the second level: while, numbers as texts, dicts whose keys are ints or texts -/
namespace WL
open PySem PySem.Spec PyProof.Rows L2
/-! ### while -/
def whileN (c : WT) (b : WS) (D : We) : Nat → Sw → Hw → Prop
  | 0, _, _ => False
  | n + 1, τ, C => c τ C (fun k C1 => if k = true then b { D with nx := whileN c b D n, ct := whileN c b D n, bk := D.nx } τ C1 else D.nx τ C1) D.xc
def sWhile (c : WT) (b : WS) : WS := fun D τ C => ∃ n, whileN c b D n τ C
theorem sim_while {K : PySem.W.Frag} {c : TT} {tb : TS} {c' : WT} {b' : WS} (hc : SimT K c c') (hb : SimS K tb b') : SimS K (tWhile c tb) (sWhile c' b') := fun F H C σ τ D D' R S h d => by
  obtain ⟨n, h⟩ := h
  refine ⟨fun m σ H2 => ∃ τ C, Rl K F H2 C ∧ Tx H H2 ∧ RepS K H2 σ τ ∧ whileN c' b' D' m τ C, ⟨n, τ, C, R, Tx.refl _, S, h⟩, ?_⟩
  rintro m σ2 H2 ⟨τ2, C2, R2, t2, S2, h2⟩
  cases m with
  | zero => exact h2.elim
  | succ m =>
    refine hc F H2 C2 σ2 τ2 _ _ D'.xc R2 S2 h2 fun k H3 C3 R3 t3 h3 => ?_
    cases k with
    | true =>
      refine ⟨fun σ' H' => ∃ τ' C', Rl K F H' C' ∧ Tx H H' ∧ RepS K H' σ' τ' ∧ whileN c' b' D' m τ' C', fun σ' H' z => ⟨m, Nat.lt_succ_self m, z⟩, ?_⟩
      have t13 := t2.trans t3
      exact hb F H3 C3 σ2 τ2 _ _ R3 (S2.tx t3) h3 ⟨fun σ' τ' H' C' R' t' S' h' => ⟨τ', C', R', t13.trans t', S', h'⟩, fun x v H' C' R' t' => d.rt x v H' C' R' (t13.trans t'), fun σ' τ' H' C' R' t' S' h' => d.nx σ' τ' H' C' R' (t13.trans t') S' h', fun σ' τ' H' C' R' t' S' h' => ⟨τ', C', R', t13.trans t', S', h'⟩⟩
    | false => exact d.nx σ2 τ2 H3 C3 R3 (t2.trans t3) (S2.tx t3) h3
theorem ds_while {X : Cx} {c : Expr} {body : List Stmt} {wc : WT} {b : WS} {pos : Pos} (hp : PassesOwn (model X.prog X.w) X.A X.env X.xe) (hc : SdT X c wc) (hb : SdB X body b) : SdS X (.While c body [] pos) (sWhile wc b) := by
  obtain ⟨t, p, s⟩ := hc
  obtain ⟨t', p', s'⟩ := hb
  exact ⟨_, ps_while hp p p', sim_while s s'⟩
/-- a loop by what holds of the state and a number that falls -/
theorem while_inv {c : WT} {b : WS} {D : We} (Pv : Nat → Sw → Hw → Prop) {τ : Sw} {C : Hw} {m : Nat} (h0 : Pv m τ C)
    (hs : ∀ m τ C (N : Sw → Hw → Prop), Pv m τ C → (∀ m' τ' C', m' < m → Pv m' τ' C' → N τ' C') → c τ C (fun k C1 => if k = true then b { D with nx := N, ct := N, bk := D.nx } τ C1 else D.nx τ C1) D.xc) : sWhile c b D τ C := by
  have key : ∀ (n m : Nat) (τ : Sw) (C : Hw), m < n → Pv m τ C → whileN c b D n τ C := by
    intro n
    induction n with
    | zero => intro m τ C h _; omega
    | succ n ih => intro m τ C hm hp; exact hs m τ C _ hp fun m' τ' C' hlt hp' => ih m' τ' C' (by omega) hp'
  exact ⟨m + 1, key (m + 1) m τ C (Nat.lt_succ_self m) h0⟩
section
variable {X : Cx} {a b c e o i : Expr} {es : List Expr} {wa wb wc wo wi : WE} {wA : WA} {pos p p2 apos cpos : Pos}
/-! ### str(n), int(n) -/
def bStr : List T → Hw → WK → Prop := fun vs C Q => ∃ i : Int, vs = [.int i] ∧ i.natAbs.log2 < 1920 ∧ Q (.str (toString i)) C
theorem b_str : CallS X (.type "str") bStr := ⟨_, call_str_int, fun F H C xs vs Q Q' R rs h q => by
  obtain ⟨j, rfl, hl, h⟩ := h
  obtain ⟨x, rfl, rx⟩ := of_one rs
  cases of_int rx
  exact ⟨j, rfl, hl, q _ _ H C R (Tx.refl H) rep_str h⟩⟩
def bInt : List T → Hw → WK → Prop := fun vs C Q => (∃ i : Int, vs = [.int i] ∧ Q (.int i) C) ∨ ∃ k : Bool, vs = [.bl k] ∧ Q (.int (if k then 1 else 0)) C
def bAbs : List T → Hw → WK → Prop := fun vs C Q => ∃ i : Int, vs = [.int i] ∧ Q (.int (if i < 0 then -i else i)) C
end
/-! ### dicts: tables of values -/
def kT : T → Option Key
  | .int i => some (.inl i)
  | .str x => some (.inr x)
  | _ => none
def tK : Key → T
  | .inl i => .int i
  | .inr x => .str x
def getT (kvs : List (Key × T)) (k : Key) : Option T := (kvs.find? fun kv => decide (kv.1 = k)).map (·.2)
def putT (kvs : List (Key × T)) (k : Key) (v : T) : List (Key × T) :=
  if (kvs.any fun kv => decide (kv.1 = k)) = true then kvs.map (fun kv => if kv.1 = k then (kv.1, v) else kv) else kvs ++ [(k, v)]
section
variable {K : PySem.W.Frag} {F H : Hp} {C : Hw}
end
/-! ### dicts: readings and rules -/
def eDict0 : WE := fun _ C Q _ => ∀ p, C p = none → Q (.ref p) (up C p (.dic []))
def wDget : W2 := fun x y C Q => ∃ a kvs k v, x = .ref a ∧ kT y = some k ∧ C a = some (.dic kvs) ∧ getT kvs k = some v ∧ Q v C
def wDinG (neg : Bool) : W2 := fun y x C Q => ∃ a kvs k, x = .ref a ∧ kT y = some k ∧ C a = some (.dic kvs) ∧ Q (.bl (if neg then !(getT kvs k).isSome else (getT kvs k).isSome)) C
abbrev wDin : W2 := wDinG false
abbrev wDnotin : W2 := wDinG true
def gSd (o i : WE) : WG := fun v τ C Q χ => o τ C (fun x C1 => i τ C1 (fun y C2 => ∃ a kvs k, x = .ref a ∧ kT y = some k ∧ C2 a = some (.dic kvs) ∧ kvs.length < sizeLine ∧ Q τ (up C2 a (.dic (putT kvs k v)))) χ) χ
def eDget1 (o i : WE) : WE := fun τ C Q χ => o τ C (fun x C1 => (∃ a kvs, x = .ref a ∧ C1 a = some (.dic kvs)) ∧ i τ C1 (fun y C2 => ∃ a kvs k, x = .ref a ∧ kT y = some k ∧ C2 a = some (.dic kvs) ∧ Q ((getT kvs k).getD .non) C2) χ) χ
def eDget2 (o i d : WE) : WE := fun τ C Q χ => o τ C (fun x C1 => (∃ a kvs, x = .ref a ∧ C1 a = some (.dic kvs)) ∧ i τ C1 (fun y C2 => d τ C2 (fun z C3 => ∃ a kvs k, x = .ref a ∧ kT y = some k ∧ C3 a = some (.dic kvs) ∧ Q ((getT kvs k).getD z) C3) χ) χ) χ
def bLenD : List T → Hw → WK → Prop := fun vs C Q => ∃ a kvs, vs = [.ref a] ∧ C a = some (.dic kvs) ∧ Q (.int kvs.length) C
section
variable {X : Cx} {a b c e o i f : Expr} {es : List Expr} {wa wb wc wo wi wd : WE} {wA : WA} {pos p p2 apos cpos : Pos}
def rSetD : V → V → V → Hp → (Hp → Prop) → Prop := fun o i v H Q => ∃ p ks k, o = .ref p ∧ i = kV k ∧ H p = some (.dK ks) ∧ ks.length < sizeLine ∧ Q (upd H p (.dK (putK ks k v)))
end
end WL
set_option Elab.async false
set_option linter.all false
set_option maxRecDepth 100000
set_option maxHeartbeats 4000000
/-! the second level: join -/
namespace WL
open PySem PySem.Spec PyProof.Rows L2
section
variable {X : Cx}
theorem reps_strs' {K : PySem.W.Frag} {H : Hp} : ∀ {bs : List Str} {ys : List V}, Reps K H ys (bs.map T.str) → ys = bs.map V.str
  | [], _, h => of_nil h
  | b :: bs, _, h => by obtain ⟨y, r, rfl, a, c⟩ := of_cons h; cases of_str a; rw [reps_strs' c]; rfl
def mJoin : T → List T → Hw → WK → Prop := fun x vs C Q => ∃ z p zs, x = .str z ∧ vs = [.ref p] ∧ C p = some (.lst (zs.map T.str)) ∧ z.length ≤ 16 ∧ (zs.map (·.length)).sum + zs.length ≤ 1048576 ∧ Q (.str (Txt.join z zs)) C
theorem m_join : MtS X "str.join" mJoin := ⟨_, mt_join, fun F H C x v xs vs Q Q' R rx rs h q => by
  obtain ⟨z, p, zs, rfl, rfl, hx, h1, h2, h⟩ := h
  cases of_str rx
  obtain ⟨y, rfl, ry⟩ := of_one rs
  cases of_ref ry
  obtain ⟨ys, hy, r⟩ := R.lst hx
  cases reps_strs' r
  exact ⟨z, p, zs, rfl, rfl, SqL.of hy, h1, h2, q _ _ H C R (Tx.refl H) rep_str h⟩⟩
end
end WL
set_option Elab.async false
set_option linter.all false
set_option maxRecDepth 100000
set_option maxHeartbeats 4000000
/-! the second level's own words: reading a def, loops, what stays -/
namespace WL
open PySem PySem.Spec PyProof.Rows L2
/-- what stood stands -/
def Ex (C C' : Hw) : Prop := ∀ a o, C a = some o → C' a = some o
theorem Ex.refl (C : Hw) : Ex C C := fun _ _ h => h
theorem Ex.trans {C C1 C2 : Hw} (a : Ex C C1) (b : Ex C1 C2) : Ex C C2 := fun c o h => b c o (a c o h)
theorem cne {C : Hw} {a b : Addr} {o : O} (h : C a = some o) (h' : C b = none) : a ≠ b := fun e => by subst e; rw [h] at h'; cases h'
theorem Ex.new {C : Hw} {p : Addr} {o : O} (h : C p = none) : Ex C (up C p o) := fun a u e => by rw [up_ne (cne e h)]; exact e
theorem Ex.up {C C' : Hw} {p : Addr} {o : O} (e : Ex C C') (h : C p = none) : Ex C (up C' p o) := fun a u q => by rw [up_ne (cne q h)]; exact e a u q
theorem fr1 {C : Hw} {p q : Addr} {o : O} (h : up C p o q = none) : q ≠ p ∧ C q = none := by
  have n : q ≠ p := fun z => by subst z; rw [up_same] at h; cases h
  rw [up_ne n] at h
  exact ⟨n, h⟩
/-- what stood stands, but for one -/
def ExB (p : Addr) (C C' : Hw) : Prop := ∀ a o, a ≠ p → C a = some o → C' a = some o
theorem ExB.refl (p : Addr) (C : Hw) : ExB p C C := fun _ _ _ h => h
theorem ExB.put {p : Addr} {C C' : Hw} {o : O} (e : ExB p C C') : ExB p C (WL.up C' p o) := fun a u n h => by rw [up_ne n]; exact e a u n h
theorem ExB.new {p q : Addr} {C C' : Hw} {o : O} (e : ExB p C C') (h : C q = none) : ExB p C (WL.up C' q o) := fun a u n z => by rw [up_ne (cne z h)]; exact e a u n z
theorem flat_mono : ∀ (v : T) {n m : Nat}, flat v n = true → n ≤ m → flat v m = true := by
  have key : ∀ (n : Nat) (v : T) {m : Nat}, flat v n = true → n ≤ m → flat v m = true := by
    intro n
    induction n with
    | zero =>
      intro v m h _
      cases v with
      | tup xs => unfold flat at h; cases h
      | ref a => unfold flat at h; cases h
      | cl a => unfold flat at h; cases h
      | _ => unfold flat; rfl
    | succ n ih =>
      intro v m h hm
      have fl : ∀ (xs : List T) {m : Nat}, flats xs n = true → n ≤ m → flats xs m = true := by
        intro xs
        induction xs with
        | nil => intro m _ _; unfold flats; rfl
        | cons x xs ihx =>
          intro m h hm
          unfold flats at h ⊢
          rw [Bool.and_eq_true] at h ⊢
          exact ⟨ih x h.1 hm, ihx h.2 hm⟩
      cases v with
      | tup xs =>
        obtain ⟨k, rfl⟩ : ∃ k, m = k + 1 := ⟨m - 1, by omega⟩
        unfold flat at h ⊢
        exact fl xs h (by omega)
      | ref a => unfold flat at h; cases h
      | cl a => unfold flat at h; cases h
      | _ => unfold flat; rfl
  exact fun v {n m} => key n v
theorem flats_iff : ∀ {xs : List T} {n : Nat}, flats xs n = true ↔ ∀ x ∈ xs, flat x n = true
  | [], n => by unfold flats; simp
  | x :: xs, n => by unfold flats; rw [Bool.and_eq_true, flats_iff]; simp
theorem flat_tup {xs : List T} {n : Nat} (h : ∀ x ∈ xs, flat x n = true) : flat (.tup xs) (n + 1) = true := by unfold flat; exact flats_iff.mpr h
theorem flat_str {x : Str} {n : Nat} : flat (.str x) n = true := by unfold flat; rfl
theorem flat_int {x : Int} {n : Nat} : flat (.int x) n = true := by unfold flat; rfl
theorem flat_bl {x : Bool} {n : Nat} : flat (.bl x) n = true := by unfold flat; rfl
theorem isFlat_str {x : Str} : isFlat (.str x) = True := eq_true flat_str
theorem isFlat_int {x : Int} : isFlat (.int x) = True := eq_true flat_int
theorem isFlat_bl {x : Bool} : isFlat (.bl x) = True := eq_true flat_bl
section
variable {n : Bool} {C : Hw} {Q : WK}
theorem wEq_str {a b : Str} : wEqG n (.str a) (.str b) C Q = Q (.bl (if n = true then !(a == b) else a == b)) C := by
  show (isFlat _ ∧ isFlat _ ∧ Q (.bl (if n = true then !eqT (.str a) (.str b) else eqT (.str a) (.str b))) C) = _
  rw [isFlat_str, isFlat_str, true_and, true_and, show eqT (.str a) (.str b) = (a == b) by unfold eqT; rfl]
theorem wEq_int {a b : Int} : wEqG n (.int a) (.int b) C Q = Q (.bl (if n = true then !(a == b) else a == b)) C := by
  show (isFlat _ ∧ isFlat _ ∧ Q (.bl (if n = true then !eqT (.int a) (.int b) else eqT (.int a) (.int b))) C) = _
  rw [isFlat_int, isFlat_int, true_and, true_and, show eqT (.int a) (.int b) = (a == b) by unfold eqT; rfl]
theorem wEq_bl {a b : Bool} : wEqG n (.bl a) (.bl b) C Q = Q (.bl (if n = true then !(a == b) else a == b)) C := by
  show (isFlat _ ∧ isFlat _ ∧ Q (.bl (if n = true then !eqT (.bl a) (.bl b) else eqT (.bl a) (.bl b))) C) = _
  rw [isFlat_bl, isFlat_bl, true_and, true_and, show eqT (.bl a) (.bl b) = (a == b) by unfold eqT; rfl]
end
section
variable {α : Type} {a b c d e : α} {xs : List α}
theorem erase0 : (a :: xs).eraseIdx 0 = xs := rfl
theorem atI_0 : atI (a :: xs) 0 = some a := atI_nat (j := 0) rfl
theorem atI_1 : atI (a :: b :: xs) 1 = some b := atI_nat (j := 1) rfl
theorem atI_2 : atI (a :: b :: c :: xs) 2 = some c := atI_nat (j := 2) rfl
theorem atI_3 : atI (a :: b :: c :: d :: xs) 3 = some d := atI_nat (j := 3) rfl
theorem atI_4 : atI (a :: b :: c :: d :: e :: xs) 4 = some e := atI_nat (j := 4) rfl
theorem atI_m1 : atI [a] (-1) = some a := rfl
theorem atI_m2 : atI [a, b] (-1) = some b := rfl
theorem atI_m3 : atI [a, b, c] (-1) = some c := rfl
theorem atI_m4 : atI [a, b, c, d] (-1) = some d := rfl
end
/-- a loop by what holds of the turns done; N is whatever the next turn wants -/
theorem for_inv {g : WG} {b : WS} {ok : Hw → Prop} {D : We} {xs : List T} (Pv : Nat → Sw → Hw → Prop) {τ : Sw} {C : Hw} (h0 : Pv 0 τ C) (hok : ∀ i τ C, i ≤ xs.length → Pv i τ C → ok C)
    (hs : ∀ i x τ C (N : Sw → Hw → Prop), xs[i]? = some x → Pv i τ C → (∀ τ' C', Pv (i + 1) τ' C' → N τ' C') → g x τ C (fun τ2 C2 => b { D with nx := N, ct := N, bk := D.nx } τ2 C2) D.xc)
    (hd : ∀ τ C, Pv xs.length τ C → D.nx τ C) : forW g b ok D xs τ C := by
  have key : ∀ (k i : Nat) (τ : Sw) (C : Hw), xs.length - i = k → i ≤ xs.length → Pv i τ C → forW g b ok D (xs.drop i) τ C := by
    intro k
    induction k with
    | zero =>
      intro i τ C hk hi hp
      have e : i = xs.length := by omega
      subst e
      rw [List.drop_length]
      exact ⟨hok _ τ C (Nat.le_refl _) hp, hd τ C hp⟩
    | succ k ih =>
      intro i τ C hk hi hp
      have hlt : i < xs.length := by omega
      rw [List.drop_eq_getElem_cons hlt]
      exact ⟨hok i τ C hi hp, hs i _ τ C _ (by simp [hlt]) hp fun τ' C' h => ih (i + 1) τ' C' (by omega) hlt h⟩
  exact key xs.length 0 τ C (by simp) (Nat.zero_le _) h0
theorem small63 {n : Nat} (h : n ≤ 100000) : n ≤ sizeLine := Nat.le_trans h (by decide)
theorem small63' {n : Nat} (h : n ≤ 100000) : n < sizeLine := Nat.lt_of_le_of_lt h (by decide)
end WL
set_option Elab.async false
set_option linter.all false
set_option maxRecDepth 100000
set_option maxHeartbeats 4000000
namespace K21
open PySem PySem.Spec PyProof.Rows L2 WL
/-- slots: 0:kind -/
def w_kinds_within (P : Calls) : WS :=
    (sSeq (sIf (tBl (eBin wEq (eBin wIdx (eVar 0) (eC (.int 0))) (eC (.str "open")))) (sRet (eTup aNil)) sPass)
    (sRet (eSl (eVar 0) (oSome (eC (.int 1))) oNo)))
/-- slots: 0:kind 1:words 2:part -/
def w_show_kind (P : Calls) : WS :=
    (sSeq (sIf (tBl (eBin wEq (eBin wIdx (eVar 0) (eC (.int 0))) (eC (.str "open")))) (sRet (eBin wAdd (eC (.str "any")) (eBi bStr (aCons (eBin wIdx (eVar 0) (eC (.int 1))) aNil)))) sPass)
    (sSeq (sIf (tBl (eBin wEq (eCall P 0 (aCons (eVar 0) aNil)) (eTup aNil))) (sRet (eBin wIdx (eVar 0) (eC (.int 0)))) sPass)
    (sSeq (sAsg (eLst (aCons (eBin wIdx (eVar 0) (eC (.int 0))) aNil)) (gNm 1))
    (sSeq (sFor (iSeq (eCall P 0 (aCons (eVar 0) aNil))) (gNm 2)
    (sExpr (eMt tyL' mAppend (eVar 1) (aCons (eCall P 1 (aCons (eVar 2) aNil)) aNil))))
    (sRet (eBin wAdd (eBin wAdd (eC (.str "(")) (eMt tyS mJoin (eC (.str " ")) (aCons (eVar 1) aNil))) (eC (.str ")"))))))))
/-- slots: 0:kind 1:many 2:part -/
def w_size (P : Calls) : WS :=
    (sSeq (sAsg (eC (.int 1)) (gNm 1))
    (sSeq (sFor (iSeq (eCall P 0 (aCons (eVar 0) aNil))) (gNm 2)
    (sAsg (eBin wAdd (eVar 1) (eCall P 2 (aCons (eVar 2) aNil))) (gNm 1)))
    (sRet (eVar 1))))
/-- slots: 0:_law_found -/
def w__law_whole (P : Calls) : WS :=
    (sRet (eAnd (eIsi (eVar 0) "int") (eNot (eIsi (eVar 0) "bool"))))
/-- slots: 0:_law_way 1:_law_cell 2:_law_number -/
def w__law_leaf (P : Calls) : WS :=
    (sSeq (sIf (tBl (eBin wEq (eVar 0) (eC (.int 0)))) (sRet (eTup (aCons (eTup (aCons (eC (.str "num")) aNil)) (aCons (eC (.str "num")) (aCons (eC (.int 1)) aNil))))) sPass)
    (sSeq (sIf (tBl (eBin wEq (eVar 0) (eC (.int 1)))) (sRet (eTup (aCons (eTup (aCons (eC (.str "truth")) aNil)) (aCons (eC (.str "truth")) (aCons (eC (.int 1)) aNil))))) sPass)
    (sSeq (sAsg (eBin wMod (eVar 1) (eBin wPow (eC (.int 10)) (eC (.int 18)))) (gNm 2))
    (sSeq (sIf (tBl (eBin wEq (eBin wMod (eVar 1) (eC (.int 2))) (eC (.int 0)))) (sAsg (eBin wMod (eBin wDiv (eVar 1) (eC (.int 2))) (eC (.int 4))) (gNm 2)) sPass)
    (sRet (eTup (aCons (eTup (aCons (eC (.str "open")) (aCons (eVar 2) aNil))) (aCons (eBin wAdd (eC (.str "any")) (eBi bStr (aCons (eVar 2) aNil))) (aCons (eC (.int 1)) aNil)))))))))
/-- slots: 0:_law_word 1:_law_one 2:_law_other 3:_law_shown -/
def w__law_two (P : Calls) : WS :=
    (sSeq (sAsg (eBin wAdd (eBin wAdd (eBin wAdd (eBin wAdd (eBin wAdd (eBin wAdd (eC (.str "(")) (eVar 0)) (eC (.str " "))) (eBin wIdx (eVar 1) (eC (.int 1)))) (eC (.str " "))) (eBin wIdx (eVar 2) (eC (.int 1)))) (eC (.str ")"))) (gNm 3))
    (sRet (eTup (aCons (eTup (aCons (eVar 0) (aCons (eBin wIdx (eVar 1) (eC (.int 0))) (aCons (eBin wIdx (eVar 2) (eC (.int 0))) aNil)))) (aCons (eVar 3) (aCons (eBin wAdd (eBin wAdd (eBin wIdx (eVar 1) (eC (.int 2))) (eBin wIdx (eVar 2) (eC (.int 2)))) (eC (.int 1))) aNil))))))
/-- slots: 0:_law_pile 1:_law_cell 2:_law_way 3:_law_top -/
def w__law_piled (P : Calls) : WS :=
    (sSeq (sAsg (eBin wMod (eVar 1) (eC (.int 7))) (gNm 2))
    (sIf (tAn (tBl (eBin wGt (eVar 2) (eC (.int 2)))) (tBl (eBin wGt (eBi bLen (aCons (eVar 0) aNil)) (eC (.int 0))))) (sSeq (sAsg (eMt tyL' mPop (eVar 0) aNil) (gNm 3))
    (sIf (tOr' (tBl (eBin wLt (eVar 2) (eC (.int 5)))) (tBl (eBin wEq (eBi bLen (aCons (eVar 0) aNil)) (eC (.int 0))))) (sExpr (eMt tyL' mAppend (eVar 0) (aCons (eTup (aCons (eTup (aCons (eC (.str "list")) (aCons (eBin wIdx (eVar 3) (eC (.int 0))) aNil))) (aCons (eBin wAdd (eBin wAdd (eC (.str "(list ")) (eBin wIdx (eVar 3) (eC (.int 1)))) (eC (.str ")"))) (aCons (eBin wAdd (eBin wIdx (eVar 3) (eC (.int 2))) (eC (.int 1))) aNil)))) aNil))) (sExpr (eMt tyL' mAppend (eVar 0) (aCons (eCall P 5 (aCons (eBin wIdx (eLst (aCons (eC (.str "pair")) (aCons (eC (.str "to")) aNil))) (eBin wSub (eVar 2) (eC (.int 5)))) (aCons (eMt tyL' mPop (eVar 0) aNil) (aCons (eVar 3) aNil)))) aNil))))) (sExpr (eMt tyL' mAppend (eVar 0) (aCons (eCall P 4 (aCons (eBin wMod (eVar 2) (eC (.int 3))) (aCons (eBin wDiv (eVar 1) (eC (.int 7))) aNil))) aNil)))))
/-- slots: 0:_law_told 1:_law_shown 2:_law_many -/
def w__law_right (P : Calls) : WS :=
    (sSeq (sAsg (eCall P 1 (aCons (eBin wIdx (eVar 0) (eC (.int 0))) aNil)) (gNm 1))
    (sSeq (sAsg (eCall P 2 (aCons (eBin wIdx (eVar 0) (eC (.int 0))) aNil)) (gNm 2))
    (sRet (eAnd (eIsi (eVar 1) "str") (eAnd (eBin wEq (eVar 1) (eBin wIdx (eVar 0) (eC (.int 1)))) (eAnd (eCall P 3 (aCons (eVar 2) aNil)) (eBin wEq (eVar 2) (eBin wIdx (eVar 0) (eC (.int 2))))))))))
def w_law_t1 (P : Calls) : WS :=
    (sRet (eC (.bl true)))
def w_law_t2 (P : Calls) : WS :=
    (sSeq (sAsg (eBin wAdd (eVar 3) (eVar 1)) (gNm 3))
    (sSeq (sFor (iSeq (eBin wAdd (eVar 3) (eSl (eVar 3) oNo (oSome (eC (.int 1)))))) (gNm 5)
    (sIf (tNo (tTru (eCall P 7 (aCons (eVar 5) aNil)))) (sRet (eC (.bl false))) sPass))
    (w_law_t1 P)))
def w_law_t3 (P : Calls) : WS :=
    (sSeq (sAsg (eSl (eVar 1) oNo (oSome (eC (.int 2)))) (gNm 3))
    (sSeq (sWhile (tBl (eBin wGt (eBi bLen (aCons (eVar 1) aNil)) (eC (.int 1))))
    (sSeq (sAsg (eMt tyL' mPop (eVar 1) aNil) (gNm 4))
    (sExpr (eMt tyL' mAppend (eVar 1) (aCons (eCall P 5 (aCons (eBin wIdx (eLst (aCons (eC (.str "pair")) (aCons (eC (.str "to")) aNil))) (eBin wMod (eBi bLen (aCons (eVar 1) aNil)) (eC (.int 2)))) (aCons (eMt tyL' mPop (eVar 1) aNil) (aCons (eVar 4) aNil)))) aNil)))))
    (w_law_t2 P)))
/-- slots: 0:_law_script 1:_law_pile 2:_law_cell 3:_law_asked 4:_law_top 5:_law_told -/
def w_law (P : Calls) : WS :=
    (sSeq (sAsg (eLst (aCons (eTup (aCons (eTup (aCons (eC (.str "num")) aNil)) (aCons (eC (.str "num")) (aCons (eC (.int 1)) aNil)))) aNil)) (gNm 1))
    (sSeq (sFor (iSeq (eSl (eVar 0) oNo (oSome (eC (.int 50))))) (gNm 2)
    (sExpr (eCall P 6 (aCons (eVar 1) (aCons (eVar 2) aNil)))))
    (w_law_t3 P)))
abbrev i_kinds_within : Nat := 0
abbrev i_show_kind : Nat := 1
abbrev i_size : Nat := 2
abbrev i__law_whole : Nat := 3
abbrev i__law_leaf : Nat := 4
abbrev i__law_two : Nat := 5
abbrev i__law_piled : Nat := 6
abbrev i__law_right : Nat := 7
abbrev i_law : Nat := 8
def pr : List Df := [⟨1, 1, w_kinds_within⟩, ⟨3, 1, w_show_kind⟩, ⟨3, 1, w_size⟩, ⟨1, 1, w__law_whole⟩, ⟨3, 2, w__law_leaf⟩, ⟨4, 3, w__law_two⟩, ⟨4, 2, w__law_piled⟩, ⟨3, 1, w__law_right⟩, ⟨6, 1, w_law⟩]
theorem u_kinds_within {n : Nat} {vs : List T} {C : Hw} {Q : WK} {χ : WX} (hl : vs.length = 1) (h : w_kinds_within (wpc pr n) { nx := fun _ C' => Q .non C', rt := Q, xc := χ } (vs.map some ++ List.replicate 0 none) C) : wpc pr (n + 1) 0 vs C Q χ := ⟨_, rfl, hl, h⟩
theorem u_show_kind {n : Nat} {vs : List T} {C : Hw} {Q : WK} {χ : WX} (hl : vs.length = 1) (h : w_show_kind (wpc pr n) { nx := fun _ C' => Q .non C', rt := Q, xc := χ } (vs.map some ++ List.replicate 2 none) C) : wpc pr (n + 1) 1 vs C Q χ := ⟨_, rfl, hl, h⟩
theorem u_size {n : Nat} {vs : List T} {C : Hw} {Q : WK} {χ : WX} (hl : vs.length = 1) (h : w_size (wpc pr n) { nx := fun _ C' => Q .non C', rt := Q, xc := χ } (vs.map some ++ List.replicate 2 none) C) : wpc pr (n + 1) 2 vs C Q χ := ⟨_, rfl, hl, h⟩
theorem u__law_whole {n : Nat} {vs : List T} {C : Hw} {Q : WK} {χ : WX} (hl : vs.length = 1) (h : w__law_whole (wpc pr n) { nx := fun _ C' => Q .non C', rt := Q, xc := χ } (vs.map some ++ List.replicate 0 none) C) : wpc pr (n + 1) 3 vs C Q χ := ⟨_, rfl, hl, h⟩
theorem u__law_leaf {n : Nat} {vs : List T} {C : Hw} {Q : WK} {χ : WX} (hl : vs.length = 2) (h : w__law_leaf (wpc pr n) { nx := fun _ C' => Q .non C', rt := Q, xc := χ } (vs.map some ++ List.replicate 1 none) C) : wpc pr (n + 1) 4 vs C Q χ := ⟨_, rfl, hl, h⟩
theorem u__law_two {n : Nat} {vs : List T} {C : Hw} {Q : WK} {χ : WX} (hl : vs.length = 3) (h : w__law_two (wpc pr n) { nx := fun _ C' => Q .non C', rt := Q, xc := χ } (vs.map some ++ List.replicate 1 none) C) : wpc pr (n + 1) 5 vs C Q χ := ⟨_, rfl, hl, h⟩
theorem u__law_piled {n : Nat} {vs : List T} {C : Hw} {Q : WK} {χ : WX} (hl : vs.length = 2) (h : w__law_piled (wpc pr n) { nx := fun _ C' => Q .non C', rt := Q, xc := χ } (vs.map some ++ List.replicate 2 none) C) : wpc pr (n + 1) 6 vs C Q χ := ⟨_, rfl, hl, h⟩
theorem u__law_right {n : Nat} {vs : List T} {C : Hw} {Q : WK} {χ : WX} (hl : vs.length = 1) (h : w__law_right (wpc pr n) { nx := fun _ C' => Q .non C', rt := Q, xc := χ } (vs.map some ++ List.replicate 2 none) C) : wpc pr (n + 1) 7 vs C Q χ := ⟨_, rfl, hl, h⟩
theorem u_law {n : Nat} {vs : List T} {C : Hw} {Q : WK} {χ : WX} (hl : vs.length = 1) (h : w_law (wpc pr n) { nx := fun _ C' => Q .non C', rt := Q, xc := χ } (vs.map some ++ List.replicate 5 none) C) : wpc pr (n + 1) 8 vs C Q χ := ⟨_, rfl, hl, h⟩
end K21
set_option Elab.async false
set_option linter.all false
set_option maxRecDepth 100000
set_option maxHeartbeats 4000000
namespace K21
open PySem PySem.Spec PyProof.Rows L2 WL
def top (i : Nat) : Stmt := PySem.Challenge.pw_idlegraph_k21_kinds_shown.main.body.getD i (.Pass ⟨0, 0, 0, 0⟩)
structure Txt (K : PySem.W.Frag) (mg : Str → Option Value) : Prop where
  n_bool : mg "bool" = none
  n_int : mg "int" = none
  n_isinstance : mg "isinstance" = none
  n_len : mg "len" = none
  n_str : mg "str" = none
structure Cs (Pg : Program) (w : World) (K : PySem.W.Frag) (mg : Str → Option Value) (base : Heap) (n : Nat) : Prop where
  c_kinds_within : Ca Pg w K mg base n "kinds_within" ["kind"] (spW K pr n 0)
  c_show_kind : Ca Pg w K mg base n "show_kind" ["kind"] (spW K pr n 1)
  c_size : Ca Pg w K mg base n "size" ["kind"] (spW K pr n 2)
  c__law_whole : Ca Pg w K mg base n "_law_whole" ["_law_found"] (spW K pr n 3)
  c__law_leaf : Ca Pg w K mg base n "_law_leaf" ["_law_way", "_law_cell"] (spW K pr n 4)
  c__law_two : Ca Pg w K mg base n "_law_two" ["_law_word", "_law_one", "_law_other"] (spW K pr n 5)
  c__law_piled : Ca Pg w K mg base n "_law_piled" ["_law_pile", "_law_cell"] (spW K pr n 6)
  c__law_right : Ca Pg w K mg base n "_law_right" ["_law_told"] (spW K pr n 7)
  c_law : Ca Pg w K mg base n "law" ["_law_script"] (spW K pr n 8)
section
variable {Pg : Program} {w : World} {K : PySem.W.Frag} {mg : Str → Option Value} {base : Heap} {f : Addr} {fd : FuncData} {n : Nat}
abbrev st_kinds_within : Stmt := top 1
theorem sc_kinds_within : FnScope ["kind"] ["kind"] (defScope st_kinds_within) := ⟨rfl, rfl, rfl, by decide +kernel, rfl, by decide +kernel, by decide +kernel⟩
theorem ok_kinds_within (T : Txt K mg) (S : Cs Pg w K mg base n) (F : Fun K "kinds_within" "kinds_within" st_kinds_within f fd) : FnOk Pg w K mg base CX0 (n + 1) f fd ["kind"] (spW K pr (n + 1) 0) := fn_ok F sc_kinds_within rfl rfl rfl fun cdv A outer s H E hr => by
    have nd := sc_kinds_within.nd
    have hu := hu150 hr
    show SdB _ (defBody st_kinds_within) (w_kinds_within (wpc pr n))
    unfold w_kinds_within
    exact (db_cons (ds_if (dt_cmp (o_eq hu) (d_ix (d_var 0) d_int (fun _ _ => rfl)) d_str (nomark _)) (db_one (ds_ret (d_tup da_nil))) db_nil)
      (db_one (ds_ret (d_sl (d_var 0) (do_some d_int) do_none))))
abbrev st_show_kind : Stmt := top 2
theorem sc_show_kind : FnScope ["kind", "words", "part"] ["kind"] (defScope st_show_kind) := ⟨rfl, rfl, rfl, by decide +kernel, rfl, by decide +kernel, by decide +kernel⟩
theorem ok_show_kind (T : Txt K mg) (S : Cs Pg w K mg base n) (F : Fun K "show_kind" "show_kind" st_show_kind f fd) : FnOk Pg w K mg base CX0 (n + 1) f fd ["kind"] (spW K pr (n + 1) 1) := fn_ok F sc_show_kind rfl rfl rfl fun cdv A outer s H E hr => by
    have nd := sc_show_kind.nd
    have hu := hu150 hr
    show SdB _ (defBody st_show_kind) (w_show_kind (wpc pr n))
    unfold w_show_kind
    exact (db_cons (ds_if (dt_cmp (o_eq hu) (d_ix (d_var 0) d_int (fun _ _ => rfl)) d_str (nomark _)) (db_one (ds_ret (d_op o_add d_str (d_ty b_str (by rfl) T.n_str bt_str (da_cons (d_ix (d_var 0) d_int (fun _ _ => rfl)) da_nil))))) db_nil)
      (db_cons (ds_if (dt_cmp (o_eq hu) (d_call S.c_kinds_within hr (by rfl) (da_cons (d_var 0) da_nil)) (d_tup da_nil) (nomark _)) (db_one (ds_ret (d_ix (d_var 0) d_int (fun _ _ => rfl)))) db_nil)
      (db_cons (ds_set (i := 1) nd (d_lst (da_cons (d_ix (d_var 0) d_int (fun _ _ => rfl)) da_nil)))
      (db_cons (ds_for PassesOwn.never rfl (di_seq (d_call S.c_kinds_within hr (by rfl) (da_cons (d_var 0) da_nil))) (dg_name (i := 2) nd)
      (db_one (ds_expr (d_mt PySem.F.plainAttrs_list PySem.F.slot_list_append PySem.F.type_list_append ty_list m_append (d_var 1) (da_cons (d_call S.c_show_kind hr (by rfl) (da_cons (d_var 2) da_nil)) da_nil)))))
      (db_one (ds_ret (d_op o_add (d_op o_add d_str (d_mt PySem.F.plainAttrs_str PySem.F.slot_str_join PySem.F.type_str_join ty_str m_join d_str (da_cons (d_var 1) da_nil))) d_str)))))))
abbrev st_size : Stmt := top 3
theorem sc_size : FnScope ["kind", "many", "part"] ["kind"] (defScope st_size) := ⟨rfl, rfl, rfl, by decide +kernel, rfl, by decide +kernel, by decide +kernel⟩
theorem ok_size (T : Txt K mg) (S : Cs Pg w K mg base n) (F : Fun K "size" "size" st_size f fd) : FnOk Pg w K mg base CX0 (n + 1) f fd ["kind"] (spW K pr (n + 1) 2) := fn_ok F sc_size rfl rfl rfl fun cdv A outer s H E hr => by
    have nd := sc_size.nd
    have hu := hu150 hr
    show SdB _ (defBody st_size) (w_size (wpc pr n))
    unfold w_size
    exact (db_cons (ds_set (i := 1) nd d_int)
      (db_cons (ds_for PassesOwn.never rfl (di_seq (d_call S.c_kinds_within hr (by rfl) (da_cons (d_var 0) da_nil))) (dg_name (i := 2) nd)
      (db_one (ds_set (i := 1) nd (d_op o_add (d_var 1) (d_call S.c_size hr (by rfl) (da_cons (d_var 2) da_nil))))))
      (db_one (ds_ret (d_var 1)))))
abbrev st__law_whole : Stmt := top 5
theorem sc__law_whole : FnScope ["_law_found"] ["_law_found"] (defScope st__law_whole) := ⟨rfl, rfl, rfl, by decide +kernel, rfl, by decide +kernel, by decide +kernel⟩
theorem ok__law_whole (T : Txt K mg) (S : Cs Pg w K mg base n) (F : Fun K "_law_whole" "_law_whole" st__law_whole f fd) : FnOk Pg w K mg base CX0 (n + 1) f fd ["_law_found"] (spW K pr (n + 1) 3) := fn_ok F sc__law_whole rfl rfl rfl fun cdv A outer s H E hr => by
    have nd := sc__law_whole.nd
    have hu := hu150 hr
    show SdB _ (defBody st__law_whole) (w__law_whole (wpc pr n))
    unfold w__law_whole
    exact (db_one (ds_ret (d_and (d_isi (by rfl) T.n_isinstance (by rfl) T.n_int bt_int (by decide) (d_var 0)) (d_one (d_not (d_isi (by rfl) T.n_isinstance (by rfl) T.n_bool bt_bool (by decide) (d_var 0)))))))
abbrev st__law_leaf : Stmt := top 6
theorem sc__law_leaf : FnScope ["_law_way", "_law_cell", "_law_number"] ["_law_way", "_law_cell"] (defScope st__law_leaf) := ⟨rfl, rfl, rfl, by decide +kernel, rfl, by decide +kernel, by decide +kernel⟩
theorem ok__law_leaf (T : Txt K mg) (S : Cs Pg w K mg base n) (F : Fun K "_law_leaf" "_law_leaf" st__law_leaf f fd) : FnOk Pg w K mg base CX0 (n + 1) f fd ["_law_way", "_law_cell"] (spW K pr (n + 1) 4) := fn_ok F sc__law_leaf rfl rfl rfl fun cdv A outer s H E hr => by
    have nd := sc__law_leaf.nd
    have hu := hu150 hr
    show SdB _ (defBody st__law_leaf) (w__law_leaf (wpc pr n))
    unfold w__law_leaf
    exact (db_cons (ds_if (dt_cmp (o_eq hu) (d_var 0) d_int (nomark _)) (db_one (ds_ret (d_tup (da_cons (d_tup (da_cons d_str da_nil)) (da_cons d_str (da_cons d_int da_nil)))))) db_nil)
      (db_cons (ds_if (dt_cmp (o_eq hu) (d_var 0) d_int (nomark _)) (db_one (ds_ret (d_tup (da_cons (d_tup (da_cons d_str da_nil)) (da_cons d_str (da_cons d_int da_nil)))))) db_nil)
      (db_cons (ds_set (i := 2) nd (d_op o_mod (d_var 1) (d_op o_pow d_int d_int)))
      (db_cons (ds_if (dt_cmp (o_eq hu) (d_op o_mod (d_var 1) d_int) d_int (nomark _)) (db_one (ds_set (i := 2) nd (d_op o_mod (d_op o_div (d_var 1) d_int) d_int))) db_nil)
      (db_one (ds_ret (d_tup (da_cons (d_tup (da_cons d_str (da_cons (d_var 2) da_nil))) (da_cons (d_op o_add d_str (d_ty b_str (by rfl) T.n_str bt_str (da_cons (d_var 2) da_nil))) (da_cons d_int da_nil))))))))))
abbrev st__law_two : Stmt := top 7
theorem sc__law_two : FnScope ["_law_word", "_law_one", "_law_other", "_law_shown"] ["_law_word", "_law_one", "_law_other"] (defScope st__law_two) := ⟨rfl, rfl, rfl, by decide +kernel, rfl, by decide +kernel, by decide +kernel⟩
theorem ok__law_two (T : Txt K mg) (S : Cs Pg w K mg base n) (F : Fun K "_law_two" "_law_two" st__law_two f fd) : FnOk Pg w K mg base CX0 (n + 1) f fd ["_law_word", "_law_one", "_law_other"] (spW K pr (n + 1) 5) := fn_ok F sc__law_two rfl rfl rfl fun cdv A outer s H E hr => by
    have nd := sc__law_two.nd
    have hu := hu150 hr
    show SdB _ (defBody st__law_two) (w__law_two (wpc pr n))
    unfold w__law_two
    exact (db_cons (ds_set (i := 3) nd (d_op o_add (d_op o_add (d_op o_add (d_op o_add (d_op o_add (d_op o_add d_str (d_var 0)) d_str) (d_ix (d_var 1) d_int (fun _ _ => rfl))) d_str) (d_ix (d_var 2) d_int (fun _ _ => rfl))) d_str))
      (db_one (ds_ret (d_tup (da_cons (d_tup (da_cons (d_var 0) (da_cons (d_ix (d_var 1) d_int (fun _ _ => rfl)) (da_cons (d_ix (d_var 2) d_int (fun _ _ => rfl)) da_nil)))) (da_cons (d_var 3) (da_cons (d_op o_add (d_op o_add (d_ix (d_var 1) d_int (fun _ _ => rfl)) (d_ix (d_var 2) d_int (fun _ _ => rfl))) d_int) da_nil)))))))
abbrev st__law_piled : Stmt := top 8
theorem sc__law_piled : FnScope ["_law_pile", "_law_cell", "_law_way", "_law_top"] ["_law_pile", "_law_cell"] (defScope st__law_piled) := ⟨rfl, rfl, rfl, by decide +kernel, rfl, by decide +kernel, by decide +kernel⟩
theorem ok__law_piled (T : Txt K mg) (S : Cs Pg w K mg base n) (F : Fun K "_law_piled" "_law_piled" st__law_piled f fd) : FnOk Pg w K mg base CX0 (n + 1) f fd ["_law_pile", "_law_cell"] (spW K pr (n + 1) 6) := fn_ok F sc__law_piled rfl rfl rfl fun cdv A outer s H E hr => by
    have nd := sc__law_piled.nd
    have hu := hu150 hr
    show SdB _ (defBody st__law_piled) (w__law_piled (wpc pr n))
    unfold w__law_piled
    exact (db_cons (ds_set (i := 2) nd (d_op o_mod (d_var 1) d_int))
      (db_one (ds_if (dt_w (dw_and (dt_cmp o_gt (d_var 2) d_int (nomark _)) (dw_and1 (dt_cmp o_gt (d_bi b_len (by rfl) T.n_len PySem.boot_len (da_cons (d_var 0) da_nil)) d_int (nomark _))))) (db_cons (ds_set (i := 3) nd (d_mt0 PySem.F.plainAttrs_list PySem.F.slot_list_pop PySem.F.type_list_pop ty_list m_pop (d_var 0)))
      (db_one (ds_if (dt_w (dw_or (dt_cmp o_lt (d_var 2) d_int (nomark _)) (dw_or1 (dt_cmp (o_eq hu) (d_bi b_len (by rfl) T.n_len PySem.boot_len (da_cons (d_var 0) da_nil)) d_int (nomark _))))) (db_one (ds_expr (d_mt PySem.F.plainAttrs_list PySem.F.slot_list_append PySem.F.type_list_append ty_list m_append (d_var 0) (da_cons (d_tup (da_cons (d_tup (da_cons d_str (da_cons (d_ix (d_var 3) d_int (fun _ _ => rfl)) da_nil))) (da_cons (d_op o_add (d_op o_add d_str (d_ix (d_var 3) d_int (fun _ _ => rfl))) d_str) (da_cons (d_op o_add (d_ix (d_var 3) d_int (fun _ _ => rfl)) d_int) da_nil)))) da_nil)))) (db_one (ds_expr (d_mt PySem.F.plainAttrs_list PySem.F.slot_list_append PySem.F.type_list_append ty_list m_append (d_var 0) (da_cons (d_call S.c__law_two hr (by rfl) (da_cons (d_ix (d_lst (da_cons d_str (da_cons d_str da_nil))) (d_op o_sub (d_var 2) d_int) (fun _ _ => rfl)) (da_cons (d_mt0 PySem.F.plainAttrs_list PySem.F.slot_list_pop PySem.F.type_list_pop ty_list m_pop (d_var 0)) (da_cons (d_var 3) da_nil)))) da_nil))))))) (db_one (ds_expr (d_mt PySem.F.plainAttrs_list PySem.F.slot_list_append PySem.F.type_list_append ty_list m_append (d_var 0) (da_cons (d_call S.c__law_leaf hr (by rfl) (da_cons (d_op o_mod (d_var 2) d_int) (da_cons (d_op o_div (d_var 1) d_int) da_nil))) da_nil)))))))
abbrev st__law_right : Stmt := top 9
theorem sc__law_right : FnScope ["_law_told", "_law_shown", "_law_many"] ["_law_told"] (defScope st__law_right) := ⟨rfl, rfl, rfl, by decide +kernel, rfl, by decide +kernel, by decide +kernel⟩
theorem ok__law_right (T : Txt K mg) (S : Cs Pg w K mg base n) (F : Fun K "_law_right" "_law_right" st__law_right f fd) : FnOk Pg w K mg base CX0 (n + 1) f fd ["_law_told"] (spW K pr (n + 1) 7) := fn_ok F sc__law_right rfl rfl rfl fun cdv A outer s H E hr => by
    have nd := sc__law_right.nd
    have hu := hu150 hr
    show SdB _ (defBody st__law_right) (w__law_right (wpc pr n))
    unfold w__law_right
    exact (db_cons (ds_set (i := 1) nd (d_call S.c_show_kind hr (by rfl) (da_cons (d_ix (d_var 0) d_int (fun _ _ => rfl)) da_nil)))
      (db_cons (ds_set (i := 2) nd (d_call S.c_size hr (by rfl) (da_cons (d_ix (d_var 0) d_int (fun _ _ => rfl)) da_nil)))
      (db_one (ds_ret (d_and (d_isi (by rfl) T.n_isinstance (by rfl) T.n_str bt_str (by decide) (d_var 1)) (d_and (d_cmp (o_eq hu) (d_var 1) (d_ix (d_var 0) d_int (fun _ _ => rfl)) (nomark _)) (d_and (d_call S.c__law_whole hr (by rfl) (da_cons (d_var 2) da_nil)) (d_one (d_cmp (o_eq hu) (d_var 2) (d_ix (d_var 0) d_int (fun _ _ => rfl)) (nomark _))))))))))
abbrev st_law : Stmt := top 10
theorem sc_law : FnScope ["_law_script", "_law_pile", "_law_cell", "_law_asked", "_law_top", "_law_told"] ["_law_script"] (defScope st_law) := ⟨rfl, rfl, rfl, by decide +kernel, rfl, by decide +kernel, by decide +kernel⟩
theorem ok_law (T : Txt K mg) (S : Cs Pg w K mg base n) (F : Fun K "law" "law" st_law f fd) : FnOk Pg w K mg base CX0 (n + 1) f fd ["_law_script"] (spW K pr (n + 1) 8) := fn_ok F sc_law rfl rfl rfl fun cdv A outer s H E hr => by
    have nd := sc_law.nd
    have hu := hu150 hr
    show SdB _ (defBody st_law) (w_law (wpc pr n))
    unfold w_law w_law_t3 w_law_t2 w_law_t1
    exact (db_cons (ds_set (i := 1) nd (d_lst (da_cons (d_tup (da_cons (d_tup (da_cons d_str da_nil)) (da_cons d_str (da_cons d_int da_nil)))) da_nil)))
      (db_cons (ds_for PassesOwn.never rfl (di_seq (d_sl (d_var 0) do_none (do_some d_int))) (dg_name (i := 2) nd)
      (db_one (ds_expr (d_call S.c__law_piled hr (by rfl) (da_cons (d_var 1) (da_cons (d_var 2) da_nil))))))
      (db_cons (ds_set (i := 3) nd (d_sl (d_var 1) do_none (do_some d_int)))
      (db_cons (ds_while PassesOwn.never (dt_cmp o_gt (d_bi b_len (by rfl) T.n_len PySem.boot_len (da_cons (d_var 1) da_nil)) d_int (nomark _))
      (db_cons (ds_set (i := 4) nd (d_mt0 PySem.F.plainAttrs_list PySem.F.slot_list_pop PySem.F.type_list_pop ty_list m_pop (d_var 1)))
      (db_one (ds_expr (d_mt PySem.F.plainAttrs_list PySem.F.slot_list_append PySem.F.type_list_append ty_list m_append (d_var 1) (da_cons (d_call S.c__law_two hr (by rfl) (da_cons (d_ix (d_lst (da_cons d_str (da_cons d_str da_nil))) (d_op o_mod (d_bi b_len (by rfl) T.n_len PySem.boot_len (da_cons (d_var 1) da_nil)) d_int) (fun _ _ => rfl)) (da_cons (d_mt0 PySem.F.plainAttrs_list PySem.F.slot_list_pop PySem.F.type_list_pop ty_list m_pop (d_var 1)) (da_cons (d_var 4) da_nil)))) da_nil))))))
      (db_cons (ds_set (i := 3) nd (d_op o_add (d_var 3) (d_var 1)))
      (db_cons (ds_for PassesOwn.never rfl (di_seq (d_op o_add (d_var 3) (d_sl (d_var 3) do_none (do_some d_int)))) (dg_name (i := 5) nd)
      (db_one (ds_if (dt_not (dt_tru (d_call S.c__law_right hr (by rfl) (da_cons (d_var 5) da_nil)))) (db_one (ds_ret d_bl)) db_nil)))
      (db_one (ds_ret d_bl))))))))
end
theorem all_mk {l : PySem.W.OpenLaw} {w : World} {K : PySem.W.Frag} {h : Heap} {mg : Str → Option Value} {fa f0 f1 f2 f3 f4 f5 f6 f7 f8 : Addr} (X : K.In h) (G : h.Ns mainGlobals mg) (hfa : mg "law" = some (.ref fa))
    {od0 an0 od1 an1 od2 an2 od3 an3 od4 an4 od5 an5 od6 an6 od7 an7 od8 an8 : Option Addr} {sl0 sl1 sl2 sl3 sl4 sl5 sl6 sl7 sl8 : Array (Option Value)} {oc0 kV0 dc0 pm0 cd0 ct0 oc1 kV1 dc1 pm1 cd1 ct1 oc2 kV2 dc2 pm2 cd2 ct2 oc3 kV3 dc3 pm3 cd3 ct3 oc4 kV4 dc4 pm4 cd4 ct4 oc5 kV5 dc5 pm5 cd5 ct5 oc6 kV6 dc6 pm6 cd6 ct6 oc7 kV7 dc7 pm7 cd7 ct7 oc8 kV8 dc8 pm8 cd8 ct8 : Value}
    (a0 : PySem.W.nsIn K mainGlobals "kinds_within" = some (some (.ref f0))) (l0 : K.lookup f0 = some ⟨oc0, od0, .func (PySem.W.fnOf "kinds_within" "kinds_within" (defArgs st_kinds_within) (defBody st_kinds_within) (defScope st_kinds_within) .none kV0 dc0 pm0 an0 cd0 ct0), sl0⟩) (c0 : PySem.W.codeIn K cd0 "kinds_within" = true) (k0 : PySem.W.keepIn K (.ref f0) = true)
    (a1 : PySem.W.nsIn K mainGlobals "show_kind" = some (some (.ref f1))) (l1 : K.lookup f1 = some ⟨oc1, od1, .func (PySem.W.fnOf "show_kind" "show_kind" (defArgs st_show_kind) (defBody st_show_kind) (defScope st_show_kind) .none kV1 dc1 pm1 an1 cd1 ct1), sl1⟩) (c1 : PySem.W.codeIn K cd1 "show_kind" = true) (k1 : PySem.W.keepIn K (.ref f1) = true)
    (a2 : PySem.W.nsIn K mainGlobals "size" = some (some (.ref f2))) (l2 : K.lookup f2 = some ⟨oc2, od2, .func (PySem.W.fnOf "size" "size" (defArgs st_size) (defBody st_size) (defScope st_size) .none kV2 dc2 pm2 an2 cd2 ct2), sl2⟩) (c2 : PySem.W.codeIn K cd2 "size" = true) (k2 : PySem.W.keepIn K (.ref f2) = true)
    (a3 : PySem.W.nsIn K mainGlobals "_law_whole" = some (some (.ref f3))) (l3 : K.lookup f3 = some ⟨oc3, od3, .func (PySem.W.fnOf "_law_whole" "_law_whole" (defArgs st__law_whole) (defBody st__law_whole) (defScope st__law_whole) .none kV3 dc3 pm3 an3 cd3 ct3), sl3⟩) (c3 : PySem.W.codeIn K cd3 "_law_whole" = true) (k3 : PySem.W.keepIn K (.ref f3) = true)
    (a4 : PySem.W.nsIn K mainGlobals "_law_leaf" = some (some (.ref f4))) (l4 : K.lookup f4 = some ⟨oc4, od4, .func (PySem.W.fnOf "_law_leaf" "_law_leaf" (defArgs st__law_leaf) (defBody st__law_leaf) (defScope st__law_leaf) .none kV4 dc4 pm4 an4 cd4 ct4), sl4⟩) (c4 : PySem.W.codeIn K cd4 "_law_leaf" = true) (k4 : PySem.W.keepIn K (.ref f4) = true)
    (a5 : PySem.W.nsIn K mainGlobals "_law_two" = some (some (.ref f5))) (l5 : K.lookup f5 = some ⟨oc5, od5, .func (PySem.W.fnOf "_law_two" "_law_two" (defArgs st__law_two) (defBody st__law_two) (defScope st__law_two) .none kV5 dc5 pm5 an5 cd5 ct5), sl5⟩) (c5 : PySem.W.codeIn K cd5 "_law_two" = true) (k5 : PySem.W.keepIn K (.ref f5) = true)
    (a6 : PySem.W.nsIn K mainGlobals "_law_piled" = some (some (.ref f6))) (l6 : K.lookup f6 = some ⟨oc6, od6, .func (PySem.W.fnOf "_law_piled" "_law_piled" (defArgs st__law_piled) (defBody st__law_piled) (defScope st__law_piled) .none kV6 dc6 pm6 an6 cd6 ct6), sl6⟩) (c6 : PySem.W.codeIn K cd6 "_law_piled" = true) (k6 : PySem.W.keepIn K (.ref f6) = true)
    (a7 : PySem.W.nsIn K mainGlobals "_law_right" = some (some (.ref f7))) (l7 : K.lookup f7 = some ⟨oc7, od7, .func (PySem.W.fnOf "_law_right" "_law_right" (defArgs st__law_right) (defBody st__law_right) (defScope st__law_right) .none kV7 dc7 pm7 an7 cd7 ct7), sl7⟩) (c7 : PySem.W.codeIn K cd7 "_law_right" = true) (k7 : PySem.W.keepIn K (.ref f7) = true)
    (a8 : PySem.W.nsIn K mainGlobals "law" = some (some (.ref f8))) (l8 : K.lookup f8 = some ⟨oc8, od8, .func (PySem.W.fnOf "law" "law" (defArgs st_law) (defBody st_law) (defScope st_law) .none kV8 dc8 pm8 an8 cd8 ct8), sl8⟩) (c8 : PySem.W.codeIn K cd8 "law" = true) (k8 : PySem.W.keepIn K (.ref f8) = true)
    (z_bool : PySem.W.nsIn K mainGlobals "bool" = some none)
    (z_int : PySem.W.nsIn K mainGlobals "int" = some none)
    (z_isinstance : PySem.W.nsIn K mainGlobals "isinstance" = some none)
    (z_len : PySem.W.nsIn K mainGlobals "len" = some none)
    (z_str : PySem.W.nsIn K mainGlobals "str" = some none)
    : ∃ fd : FuncData, (∀ (s : Shared) (v : Value), BindsTo s fd ⟨[v], []⟩ [("_law_script", v)]) ∧ ∀ base : Heap, K.In base → base.Ns mainGlobals mg → FnOk l.prog w K mg base CX0 60 fa fd ["_law_script"] (spW K pr 60 8) := by
  have e := hfa.symm.trans (PySem.W.mg_of X G a8)
  cases e
  have T : Txt K mg := ⟨PySem.W.mg_none_of X G z_bool, PySem.W.mg_none_of X G z_int, PySem.W.mg_none_of X G z_isinstance, PySem.W.mg_none_of X G z_len, PySem.W.mg_none_of X G z_str⟩
  have F0 := fun_mk (st := st_kinds_within) l0 c0 k0
  have B0 : Binds K _ ["kind"] [] := F0.binds (fun _ _ _ _ _ _ us hl => match us, hl with | [_], _ => rfl)
  have M0 := PySem.W.mg_of X G a0
  have F1 := fun_mk (st := st_show_kind) l1 c1 k1
  have B1 : Binds K _ ["kind"] [] := F1.binds (fun _ _ _ _ _ _ us hl => match us, hl with | [_], _ => rfl)
  have M1 := PySem.W.mg_of X G a1
  have F2 := fun_mk (st := st_size) l2 c2 k2
  have B2 : Binds K _ ["kind"] [] := F2.binds (fun _ _ _ _ _ _ us hl => match us, hl with | [_], _ => rfl)
  have M2 := PySem.W.mg_of X G a2
  have F3 := fun_mk (st := st__law_whole) l3 c3 k3
  have B3 : Binds K _ ["_law_found"] [] := F3.binds (fun _ _ _ _ _ _ us hl => match us, hl with | [_], _ => rfl)
  have M3 := PySem.W.mg_of X G a3
  have F4 := fun_mk (st := st__law_leaf) l4 c4 k4
  have B4 : Binds K _ ["_law_way", "_law_cell"] [] := F4.binds (fun _ _ _ _ _ _ us hl => match us, hl with | [_, _], _ => rfl)
  have M4 := PySem.W.mg_of X G a4
  have F5 := fun_mk (st := st__law_two) l5 c5 k5
  have B5 : Binds K _ ["_law_word", "_law_one", "_law_other"] [] := F5.binds (fun _ _ _ _ _ _ us hl => match us, hl with | [_, _, _], _ => rfl)
  have M5 := PySem.W.mg_of X G a5
  have F6 := fun_mk (st := st__law_piled) l6 c6 k6
  have B6 : Binds K _ ["_law_pile", "_law_cell"] [] := F6.binds (fun _ _ _ _ _ _ us hl => match us, hl with | [_, _], _ => rfl)
  have M6 := PySem.W.mg_of X G a6
  have F7 := fun_mk (st := st__law_right) l7 c7 k7
  have B7 : Binds K _ ["_law_told"] [] := F7.binds (fun _ _ _ _ _ _ us hl => match us, hl with | [_], _ => rfl)
  have M7 := PySem.W.mg_of X G a7
  have F8 := fun_mk (st := st_law) l8 c8 k8
  have B8 : Binds K _ ["_law_script"] [] := F8.binds (fun _ _ _ _ _ _ us hl => match us, hl with | [_], _ => rfl)
  have M8 := PySem.W.mg_of X G a8
  refine ⟨PySem.W.fnOf "law" "law" (defArgs st_law) (defBody st_law) (defScope st_law) .none kV8 dc8 pm8 an8 cd8 ct8, fun s v => .of_eq rfl, fun base _ _ => ?_⟩
  have CS : ∀ n, Cs l.prog w K mg base n := fun n => by
    induction n with
    | zero => exact ⟨ca_zero F0 B0 M0, ca_zero F1 B1 M1, ca_zero F2 B2 M2, ca_zero F3 B3 M3, ca_zero F4 B4 M4, ca_zero F5 B5 M5, ca_zero F6 B6 M6, ca_zero F7 B7 M7, ca_zero F8 B8 M8⟩
    | succ n ih => exact ⟨ca_succ F0 B0 M0 (ok_kinds_within T ih F0), ca_succ F1 B1 M1 (ok_show_kind T ih F1), ca_succ F2 B2 M2 (ok_size T ih F2), ca_succ F3 B3 M3 (ok__law_whole T ih F3), ca_succ F4 B4 M4 (ok__law_leaf T ih F4), ca_succ F5 B5 M5 (ok__law_two T ih F5), ca_succ F6 B6 M6 (ok__law_piled T ih F6), ca_succ F7 B7 M7 (ok__law_right T ih F7), ca_succ F8 B8 M8 (ok_law T ih F8)⟩
  exact ok_law T (CS (59)) F8
end K21
set_option Elab.async false
set_option linter.all false
set_option maxRecDepth 100000
set_option maxHeartbeats 4000000
namespace K21
open PySem PySem.Spec PyProof.Rows L2 WL
local macro_rules | `(tactic| walk_at "ws") => `(tactic| try simp (config := { decide := true }) only [eVar, eC, eBin, eUn, aNil, aCons, eTup, eLst, eCall, eBi, eMt, eIf, eAnd, eOr, eNot, tTru, tBl, tAn, tOr', tNo, eChain, wAdd, wSub, wMul, wDiv, wMod, wPow, wNeg, wLt, wLe, wGt, wGe, wIsN, wNotN, wIdx, oNo, oSome, wSl, eSl, bLen, bMax, bMin, bTuple, bList, eIsi, tyN, gNm, gsNil, gsCons, gTp, gSb, sPass, sSeq, sExpr, sRet, sRetN, sIf, sAsg, sBrk, sCont, sNever, sFor, iSeq, iR1, iR2, iEn, capW, tYes, eComp, tyL', tyS, mAppend, mPop, mPopAt, wEq, wNe, wIn, wNotIn, wEq_str, wEq_int, erase0, atI_0, atI_1, atI_2, atI_3, atI_4, atI_m1, atI_m2, atI_m3, atI_m4, wEq_bl,
  List.map_cons, List.map_nil, List.length_cons, List.length_nil, List.replicate, List.cons_append, List.nil_append, List.getElem?_cons_zero, List.getElem?_cons_succ, List.set_cons_zero, List.set_cons_succ, Option.some.injEq, T.int.injEq, T.str.injEq, T.bl.injEq, T.ref.injEq, T.tup.injEq, T.cl.injEq, exists_eq_left', exists_eq_left, exists_eq', exists_and_left, and_assoc, List.cons.injEq, and_true, true_and, reduceCtorEq, false_and, exists_false, List.append_nil, if_true, if_false, Bool.not_not, decide_eq_true_eq, Bool.not_eq_true', decide_eq_false_iff_not, Bool.false_eq_true, List.nil_eq, Option.bind_none, Option.bind_some, Option.join_some, Nat.reduceAdd, Nat.reduceSub, Nat.sub_self, Nat.zero_add, Nat.sub_zero, beq_iff_eq, Bool.not_false, Bool.not_true])
inductive Kd where
  | num | truth | opn (i : Nat) | lst (k : Kd) | two (b : Bool) (k l : Kd)
def wd : Bool → Str
  | false => "pair"
  | true => "to"
def kt : Kd → T
  | .num => .tup [.str "num"]
  | .truth => .tup [.str "truth"]
  | .opn i => .tup [.str "open", .int i]
  | .lst k => .tup [.str "list", kt k]
  | .two b k l => .tup [.str (wd b), kt k, kt l]
def ks : Kd → Str
  | .num => "num"
  | .truth => "truth"
  | .opn i => ("any" : Str) ++ Str.ofString (toString (i : Int))
  | .lst k => ("(list " : Str) ++ ks k ++ (")" : Str)
  | .two b k l => ("(" : Str) ++ wd b ++ (" " : Str) ++ ks k ++ (" " : Str) ++ ks l ++ (")" : Str)
def kn : Kd → Nat
  | .lst k => kn k + 1
  | .two _ k l => kn k + kn l + 1
  | _ => 1
def kd : Kd → Nat
  | .lst k => kd k + 1
  | .two _ k l => max (kd k) (kd l) + 1
  | _ => 1
def kok : Kd → Prop
  | .opn i => i < 10 ^ 18
  | .lst k => kok k
  | .two _ k l => kok k ∧ kok l
  | _ => True
theorem kd_pos : ∀ k, 1 ≤ kd k
  | .num => Nat.le_refl _
  | .truth => Nat.le_refl _
  | .opn _ => Nat.le_refl _
  | .lst k => Nat.le_add_left _ _
  | .two _ k l => Nat.le_add_left _ _
theorem kn_pos : ∀ k, 1 ≤ kn k
  | .num => Nat.le_refl _
  | .truth => Nat.le_refl _
  | .opn _ => Nat.le_refl _
  | .lst k => Nat.le_add_left _ _
  | .two _ k l => Nat.le_add_left _ _
theorem dec_len {i : Nat} (h : i < 10 ^ 18) : (Str.ofString (toString (i : Int))).length ≤ 18 := by
  show (Str.ofString (toString (Int.ofNat i))).length ≤ 18
  rw [text_ofNat]
  show ((Nat.toDigits 10 i).map Char.toNat).toArray.size ≤ 18
  rw [List.size_toArray, List.length_map]
  exact digits10_le (by decide) h
theorem wd_len (b : Bool) : (wd b).length ≤ 4 := by cases b <;> decide
theorem ks_len : ∀ k, kok k → (ks k).length ≤ 40 * kn k
  | .num, _ => by decide
  | .truth, _ => by decide
  | .opn i, h => by
    unfold ks kn
    rw [Str.length_append]
    have := dec_len h
    have e : ("any" : Str).length = 3 := by decide
    omega
  | .lst k, h => by
    unfold ks kn
    rw [Str.length_append, Str.length_append]
    have := ks_len k h
    have e : ("(list " : Str).length = 6 := by decide
    have e' : (")" : Str).length = 1 := by decide
    omega
  | .two b k l, h => by
    unfold ks kn
    simp only [Str.length_append]
    have := ks_len k h.1
    have := ks_len l h.2
    have := wd_len b
    have e : ("(" : Str).length = 1 := by decide
    have e' : (")" : Str).length = 1 := by decide
    have e'' : (" " : Str).length = 1 := by decide
    omega
theorem kt_flat : ∀ k, flat (kt k) (kd k) = true
  | .num => by decide
  | .truth => by decide
  | .opn i => by unfold kt kd; exact flat_tup (n := 0) fun x hx => by simp at hx; rcases hx with rfl | rfl <;> first | exact flat_str | exact flat_int
  | .lst k => by
    unfold kt kd
    exact flat_tup fun x hx => by simp at hx; rcases hx with rfl | rfl <;> first | exact flat_str | exact kt_flat k
  | .two b k l => by
    unfold kt kd
    exact flat_tup fun x hx => by
      simp at hx
      rcases hx with rfl | rfl | rfl
      · exact flat_str
      · exact flat_mono _ (kt_flat k) (Nat.le_max_left _ _)
      · exact flat_mono _ (kt_flat l) (Nat.le_max_right _ _)
theorem join2 (a b : Str) : Txt.join (" " : Str) [a, b] = a ++ (" " : Str) ++ b := rfl
theorem join3 (a b c : Str) : Txt.join (" " : Str) [a, b, c] = a ++ (" " : Str) ++ b ++ (" " : Str) ++ c := rfl
def kids : Kd → List T
  | .lst k => [kt k]
  | .two _ k l => [kt k, kt l]
  | _ => []
theorem wEq_tup {n : Bool} {C : Hw} {Q : WK} {a b : List T} : wEqG n (.tup a) (.tup b) C Q = (isFlat (.tup a) ∧ isFlat (.tup b) ∧ Q (.bl (if n = true then !eqTs a b else eqTs a b)) C) := by
  show (isFlat _ ∧ isFlat _ ∧ Q (.bl (if n = true then !WL.eqT (.tup a) (.tup b) else WL.eqT (.tup a) (.tup b))) C) = _
  rw [show WL.eqT (.tup a) (.tup b) = eqTs a b by unfold WL.eqT; rfl]
section
variable {C : Hw} {Q : WK} {χ : WX} {n : Nat}
theorem s_within {k : Kd} (q : Q (.tup (kids k)) C) : wpc pr (n + 1) i_kinds_within [kt k] C Q χ := by
  refine u_kinds_within rfl ?_
  unfold w_kinds_within
  cases k with
  | two b k l =>
    cases b
    all_goals
      simp only [kt, wd]
      walk_at "ws"
      exact q
  | opn i =>
    simp only [kt]
    walk_at "ws"
    exact q
  | _ =>
    simp only [kt]
    walk_at "ws"
    exact q
theorem flat_e : isFlat (.tup []) := flat_tup (n := 99) fun x hx => by cases hx
theorem log_lt {i : Nat} (h : i < 10 ^ 18) : i.log2 < 1920 := by
  by_cases h0 : i = 0
  · subst h0; decide
  · exact (Nat.log2_lt h0).mpr (Nat.lt_of_lt_of_le h (Nat.le_trans (show 10 ^ 18 ≤ 2 ^ 60 by decide) (Nat.pow_le_pow_right (by decide) (by decide))))
theorem ex_none {C C' : Hw} (h : Ex C C') {p : Addr} {o : O} (q : C p = some o) : C' p = some o := h _ _ q
theorem s_show : ∀ (k : Kd) {m : Nat} {C : Hw} {Q : WK}, kok k → kd k ≤ 90 → kn k ≤ 1000 → kd k + 1 ≤ m → (∀ C', Ex C C' → Q (.str (ks k)) C') → wpc pr m i_show_kind [kt k] C Q χ
  | k, 0, _, _, _, _, _, h, _ => by have := kd_pos k; omega
  | .opn i, m + 1, C, Q, ho, _, _, hm, q => by
    refine u_show_kind rfl ?_
    unfold w_show_kind
    simp only [kt]
    walk_at "ws"
    unfold bStr
    have h1 : i < 10 ^ 18 := ho
    have hl := dec_len h1
    refine ⟨_, rfl, ?_, ?_, q C (Ex.refl C)⟩
    · show i.log2 < 1920
      exact log_lt h1
    · exact small63 (by have e : ("any" : Str).length = 3 := by decide
                        omega)
  | .num, m + 1, C, Q, _, _, _, hm, q => by
    refine u_show_kind rfl ?_
    unfold w_show_kind
    simp only [kt]
    walk_at "ws"
    obtain ⟨m, rfl⟩ : ∃ j, m = j + 1 := ⟨m - 1, by unfold kd at hm; omega⟩
    refine s_within (k := .num) ?_
    walk_at "ws"
    rw [wEq_tup]
    refine ⟨flat_e, flat_e, true, by simp [kids, eqTs], ?_⟩
    exact q C (Ex.refl C)
  | .truth, m + 1, C, Q, _, _, _, hm, q => by
    refine u_show_kind rfl ?_
    unfold w_show_kind
    simp only [kt]
    walk_at "ws"
    obtain ⟨m, rfl⟩ : ∃ j, m = j + 1 := ⟨m - 1, by unfold kd at hm; omega⟩
    refine s_within (k := .truth) ?_
    walk_at "ws"
    rw [wEq_tup]
    refine ⟨flat_e, flat_e, true, by simp [kids, eqTs], ?_⟩
    exact q C (Ex.refl C)
  | .lst k, m + 1, C, Q, ho, hd, hn, hm, q => by
    refine u_show_kind rfl ?_
    unfold w_show_kind
    simp only [kt]
    walk_at "ws"
    obtain ⟨m, rfl⟩ : ∃ j, m = j + 1 := ⟨m - 1, by unfold kd at hm; omega⟩
    refine s_within (k := .lst k) ?_
    unfold kd at hd hm
    unfold kn at hn
    simp only [kids]
    walk_at "ws"
    rw [wEq_tup]
    refine ⟨flat_mono _ (flat_tup (n := kd k) fun x hx => by rw [List.mem_singleton.mp hx]; exact kt_flat k) (by show _ ≤ 100; omega), flat_e, false, by simp [eqTs], ?_⟩
    walk_at "ws"
    intro p hp
    refine s_within (k := .lst k) ?_
    simp only [kids, forW]
    refine ⟨trivial, ?_⟩
    walk_at "ws"
    refine ⟨⟨_, up_same⟩, s_show k ho (by omega) (by omega) (by omega) fun C2 hE2 => ?_⟩
    walk_at "ws"
    have h2 := hE2 _ _ (up_same (C := C) (a := p) (o := .lst [.str "list"]))
    refine ⟨_, h2, small63' (by show 1 ≤ _; omega), ?_⟩
    have hl := ks_len k ho
    have e0 : ("list" : Str).length = 4 := by decide
    have e1 : ("(" : Str).length = 1 := by decide
    have e2 : (" " : Str).length = 1 := by decide
    have e3 : (")" : Str).length = 1 := by decide
    unfold mJoin
    refine ⟨_, p, ["list", ks k], rfl, rfl, up_same, by decide, by simp; omega, ?_⟩
    rw [join2]
    simp only [Str.length_append]
    refine ⟨small63 (by omega), small63 (by omega), ?_⟩
    have e : ("(" : Str) ++ ("list" ++ (" " : Str) ++ ks k) ++ (")" : Str) = ks (.lst k) := by
      show _ = ("(list " : Str) ++ ks k ++ (")" : Str)
      rw [← Str.append_assoc, ← Str.append_assoc]; rfl
    rw [e]
    exact q _ (((Ex.new hp).trans hE2).up hp)
  | .two b k l, m + 1, C, Q, ho, hd, hn, hm, q => by
    refine u_show_kind rfl ?_
    unfold w_show_kind
    have hb : ∀ z, z = wd b → (z == ("open" : Str)) = false := fun z hz => by subst hz; cases b <;> decide
    obtain ⟨m, rfl⟩ : ∃ j, m = j + 1 := ⟨m - 1, by unfold kd at hm; omega⟩
    have hk := kt_flat (.two b k l)
    unfold kd at hd hm hk
    unfold kn at hn
    simp only [kt] at hk ⊢
    walk_at "ws"
    have hb' := hb _ rfl
    rw [beq_eq_false_iff_ne] at hb'
    rw [if_neg hb']
    refine s_within (k := .two b k l) ?_
    simp only [kids]
    walk_at "ws"
    rw [wEq_tup]
    refine ⟨flat_mono _ (flat_tup (n := max (kd k) (kd l)) fun x hx => by
      simp at hx
      rcases hx with rfl | rfl
      · exact flat_mono _ (kt_flat k) (Nat.le_max_left _ _)
      · exact flat_mono _ (kt_flat l) (Nat.le_max_right _ _)) (by show _ ≤ 100; omega), flat_e, false, by simp [eqTs], ?_⟩
    walk_at "ws"
    intro p hp
    refine s_within (k := .two b k l) ?_
    simp only [kids, forW]
    refine ⟨trivial, ?_⟩
    walk_at "ws"
    refine ⟨⟨_, up_same⟩, s_show k ho.1 (by omega) (by omega) (by omega) fun C2 hE2 => ?_⟩
    walk_at "ws"
    have h2 := hE2 _ _ (up_same (C := C) (a := p) (o := .lst [.str (wd b)]))
    refine ⟨_, h2, small63' (by show 1 ≤ _; omega), ⟨_, up_same⟩, ?_⟩
    refine s_show l ho.2 (by omega) (by omega) (by omega) fun C3 hE3 => ?_
    walk_at "ws"
    have h3 := hE3 _ _ (up_same (C := C2) (a := p) (o := .lst [.str (wd b), .str (ks k)]))
    refine ⟨_, h3, small63' (by show 2 ≤ _; omega), ?_⟩
    have hl := ks_len k ho.1
    have hl2 := ks_len l ho.2
    have e0 := wd_len b
    have e1 : ("(" : Str).length = 1 := by decide
    have e2 : (" " : Str).length = 1 := by decide
    have e3 : (")" : Str).length = 1 := by decide
    unfold mJoin
    refine ⟨_, p, [wd b, ks k, ks l], rfl, rfl, up_same, by decide, by simp; omega, ?_⟩
    rw [join3]
    simp only [Str.length_append]
    refine ⟨small63 (by omega), small63 (by omega), ?_⟩
    have e : ("(" : Str) ++ (wd b ++ (" " : Str) ++ ks k ++ (" " : Str) ++ ks l) ++ (")" : Str) = ks (.two b k l) := by
      show _ = ("(" : Str) ++ wd b ++ (" " : Str) ++ ks k ++ (" " : Str) ++ ks l ++ (")" : Str)
      simp only [Str.append_assoc]
    rw [e]
    exact q _ (((((Ex.new hp).trans hE2).up hp).trans hE3).up hp)
theorem s_size : ∀ (k : Kd) {m : Nat} {C : Hw} {Q : WK}, kd k + 1 ≤ m → (∀ C', Ex C C' → Q (.int (kn k)) C') → wpc pr m i_size [kt k] C Q χ
  | k, 0, _, _, h, _ => by have := kd_pos k; omega
  | .lst k, m + 1, C, Q, hm, q => by
    refine u_size rfl ?_
    unfold w_size
    obtain ⟨m, rfl⟩ : ∃ j, m = j + 1 := ⟨m - 1, by unfold kd at hm; omega⟩
    unfold kd at hm
    walk_at "ws"
    refine s_within ?_
    simp only [kids, forW]
    refine ⟨trivial, ?_⟩
    walk_at "ws"
    refine s_size k (by omega) fun C2 hE2 => ?_
    walk_at "ws"
    have := q C2 hE2
    unfold kn at this
    rw [show (1 : Int) + (kn k : Int) = ((kn k + 1 : Nat) : Int) by omega]
    exact this
  | .two b k l, m + 1, C, Q, hm, q => by
    refine u_size rfl ?_
    unfold w_size
    obtain ⟨m, rfl⟩ : ∃ j, m = j + 1 := ⟨m - 1, by unfold kd at hm; omega⟩
    unfold kd at hm
    walk_at "ws"
    refine s_within ?_
    simp only [kids, forW]
    refine ⟨trivial, ?_⟩
    walk_at "ws"
    refine s_size k (by omega) fun C2 hE2 => ?_
    walk_at "ws"
    refine s_size l (by omega) fun C3 hE3 => ?_
    walk_at "ws"
    have := q C3 (hE2.trans hE3)
    unfold kn at this
    rw [show (1 : Int) + (kn k : Int) + (kn l : Int) = ((kn k + kn l + 1 : Nat) : Int) by omega]
    exact this
  | .num, m + 1, C, Q, hm, q => by
    refine u_size rfl ?_
    unfold w_size
    obtain ⟨m, rfl⟩ : ∃ j, m = j + 1 := ⟨m - 1, by unfold kd at hm; omega⟩
    walk_at "ws"
    refine s_within ?_
    simp only [kids, forW]
    refine ⟨trivial, ?_⟩
    walk_at "ws"
    exact q C (Ex.refl C)
  | .truth, m + 1, C, Q, hm, q => by
    refine u_size rfl ?_
    unfold w_size
    obtain ⟨m, rfl⟩ : ∃ j, m = j + 1 := ⟨m - 1, by unfold kd at hm; omega⟩
    walk_at "ws"
    refine s_within ?_
    simp only [kids, forW]
    refine ⟨trivial, ?_⟩
    walk_at "ws"
    exact q C (Ex.refl C)
  | .opn i, m + 1, C, Q, hm, q => by
    refine u_size rfl ?_
    unfold w_size
    obtain ⟨m, rfl⟩ : ∃ j, m = j + 1 := ⟨m - 1, by unfold kd at hm; omega⟩
    walk_at "ws"
    refine s_within ?_
    simp only [kids, forW]
    refine ⟨trivial, ?_⟩
    walk_at "ws"
    exact q C (Ex.refl C)
def tri (k : Kd) : T := .tup [kt k, .str (ks k), .int (kn k)]
/-- fit to be asked -/
def Fit (k : Kd) : Prop := kok k ∧ kd k ≤ 54 ∧ kn k ≤ 200
theorem s_right {k : Kd} (h : Fit k) (q : ∀ C', Ex C C' → Q (.bl true) C') : wpc pr 59 i__law_right [tri k] C Q χ := by
  refine u__law_right rfl ?_
  obtain ⟨h1, h2, h3⟩ := h
  unfold w__law_right tri
  walk_at "ws"
  refine s_show k h1 (by omega) (by omega) (by omega) fun C1 hE1 => ?_
  walk_at "ws"
  refine s_size k (by omega) fun C2 hE2 => ?_
  walk_at "ws"
  refine u__law_whole rfl ?_
  unfold w__law_whole
  walk_at "ws"
  rw [beq_self_eq_true]
  exact q C2 (hE1.trans hE2)
theorem s_leaf {w c : Int} (h0 : 0 ≤ w) (h2 : w ≤ 2) (q : ∀ k, kn k = 1 → kd k = 1 → kok k → Q (tri k) C) : wpc pr (n + 1) i__law_leaf [.int w, .int c] C Q χ := by
  refine u__law_leaf rfl ?_
  unfold w__law_leaf
  have : w = 0 ∨ w = 1 ∨ w = 2 := by omega
  rcases this with rfl | rfl | rfl
  · walk_at "ws"
    exact q .num rfl rfl trivial
  · walk_at "ws"
    exact q .truth rfl rfl trivial
  · walk_at "ws"
    refine ⟨⟨by decide, by decide⟩, ?_⟩
    have fin : ∀ {x : Int}, 0 ≤ x → x < 10 ^ 18 → ∃ j : Nat, x = (j : Int) ∧ j < 10 ^ 18 := fun {x} a b => ⟨x.toNat, by omega, by omega⟩
    have e18 : (10 : Int) ^ Int.toNat 18 = 10 ^ 18 := rfl
    by_cases hc : c % 2 = 0
    · rw [if_pos hc]
      refine ⟨⟨by decide, by decide⟩, ?_⟩
      obtain ⟨j, e, hj⟩ := fin (x := c / 2 % 4) (by omega) (by omega)
      rw [e]
      refine ⟨_, rfl, log_lt hj, ?_⟩
      have := dec_len hj
      have e3 : ("any" : Str).length = 3 := by decide
      exact ⟨small63 (by omega), q (.opn j) rfl rfl hj⟩
    · rw [if_neg hc, e18]
      obtain ⟨j, e, hj⟩ := fin (x := c % 10 ^ 18) (by omega) (by omega)
      rw [e]
      refine ⟨_, rfl, log_lt hj, ?_⟩
      have := dec_len hj
      have e3 : ("any" : Str).length = 3 := by decide
      exact ⟨small63 (by omega), q (.opn j) rfl rfl hj⟩
theorem s_two {b : Bool} {k l : Kd} (hk : kok k ∧ kn k ≤ 400) (hl : kok l ∧ kn l ≤ 400) (q : Q (tri (.two b k l)) C) : wpc pr (n + 1) i__law_two [.str (wd b), tri k, tri l] C Q χ := by
  refine u__law_two rfl ?_
  unfold w__law_two
  unfold tri
  walk_at "ws"
  have a1 := ks_len k hk.1
  have a2 := ks_len l hl.1
  have a3 := wd_len b
  have e1 : ("(" : Str).length = 1 := by decide
  have e2 : (" " : Str).length = 1 := by decide
  have e3 : (")" : Str).length = 1 := by decide
  simp only [Str.length_append]
  refine ⟨small63 (by omega), small63 (by omega), small63 (by omega), small63 (by omega), small63 (by omega), small63 (by omega), ?_⟩
  unfold tri at q
  rw [show ((kn k : Int) + (kn l : Int)) + 1 = ((kn (.two b k l) : Nat) : Int) by show _ = ((kn k + kn l + 1 : Nat) : Int); omega]
  exact q
/-- one turn of the pile -/
inductive Step : List Kd → List Kd → Prop
  | push {K : List Kd} {k : Kd} (h1 : kn k = 1) (h2 : kd k = 1) (h3 : kok k) : Step K (K ++ [k])
  | wrap {K : List Kd} {x : Kd} : Step (K ++ [x]) (K ++ [.lst x])
  | pair {K : List Kd} {x y : Kd} {b : Bool} : Step (K ++ [y] ++ [x]) (K ++ [.two b y x])
/-- the pile within its bounds -/
structure Gd (B : Nat) (K : List Kd) : Prop where
  ne : K ≠ []
  at_ : ∀ (j : Nat) (k : Kd), K[j]? = some k → kd k + j ≤ B ∧ kok k
  sum : (K.map kn).sum + K.length ≤ 2 * B
theorem sum_mem : ∀ {K : List Kd} {k : Kd}, k ∈ K → kn k ≤ (K.map kn).sum
  | x :: K, k, h => by
    rw [List.map_cons, List.sum_cons]
    rcases List.mem_cons.mp h with rfl | h
    · omega
    · have := sum_mem h; omega
theorem Gd.mem {B : Nat} {K : List Kd} (h : Gd B K) {k : Kd} (hk : k ∈ K) : kok k ∧ kd k ≤ B ∧ kn k ≤ 2 * B := by
  obtain ⟨j, hj⟩ := List.mem_iff_getElem?.mp hk
  have h1 := h.at_ j k hj
  have h2 := h.sum
  have h3 := sum_mem hk
  exact ⟨h1.2, by omega, by omega⟩
theorem at_snoc {K : List Kd} {x : Kd} {j : Nat} {k : Kd} (h : (K ++ [x])[j]? = some k) : (K[j]? = some k ∧ j < K.length) ∨ (j = K.length ∧ k = x) := by
  by_cases c : j < K.length
  · rw [List.getElem?_append_left c] at h; exact .inl ⟨h, c⟩
  · rw [List.getElem?_append_right (by omega)] at h
    match e : j - K.length, h with
    | 0, h => simp at h; exact .inr ⟨by omega, h.symm⟩
    | i + 1, h => simp at h
theorem snoc_last {K : List Kd} {x : Kd} : (K ++ [x])[K.length]? = some x := by simp
theorem Gd.step {B : Nat} {K K' : List Kd} (h : Gd B K) (s : Step K K') : Gd (B + 1) K' := by
  cases s with
  | @push _ k h1 h2 h3 =>
    have hs := h.sum
    have hn : 0 < K.length := List.length_pos_iff.mpr h.ne
    refine ⟨by simp, fun j k' e => ?_, by simp; omega⟩
    rcases at_snoc e with ⟨e, hj⟩ | ⟨rfl, rfl⟩
    · have := h.at_ j k' e; exact ⟨by omega, this.2⟩
    · obtain ⟨z, hz⟩ : ∃ z, K[K.length - 1]? = some z := ⟨K[K.length - 1], by simp⟩
      have := (h.at_ _ z hz).1
      have := kd_pos z
      exact ⟨by omega, h3⟩
  | @wrap K x =>
    have hs := h.sum
    simp at hs
    refine ⟨by simp, fun j k' e => ?_, by simp [kn]; omega⟩
    rcases at_snoc e with ⟨e, hj⟩ | ⟨rfl, rfl⟩
    · have := h.at_ j k' (by rw [List.getElem?_append_left hj]; exact e); exact ⟨by omega, this.2⟩
    · have := h.at_ _ x snoc_last
      exact ⟨by unfold kd; omega, this.2⟩
  | @pair K x y b =>
    have hs := h.sum
    simp at hs
    refine ⟨by simp, fun j k' e => ?_, by simp [kn]; omega⟩
    rcases at_snoc e with ⟨e, hj⟩ | ⟨rfl, rfl⟩
    · have := h.at_ j k' (by rw [List.append_assoc, List.getElem?_append_left hj]; exact e); exact ⟨by omega, this.2⟩
    · have h1 := h.at_ _ x snoc_last
      have h2 := h.at_ K.length y (by rw [List.append_assoc]; simp)
      rw [List.length_append, List.length_singleton] at h1
      exact ⟨by unfold kd; omega, h2.2, h1.2⟩
theorem split_last {K : List Kd} (h : K ≠ []) : ∃ K' x, K = K' ++ [x] := ⟨K.dropLast, K.getLast h, (List.dropLast_concat_getLast h).symm⟩
theorem pop_at {K : List Kd} {x : Kd} : ((K ++ [x]).map tri)[((K ++ [x]).map tri).length - 1]? = some (tri x) := by simp
theorem pop_drop {K : List Kd} {x : Kd} : ((K ++ [x]).map tri).dropLast = K.map tri := by rw [List.map_append]; simp
theorem s_piled {B : Nat} {p : Addr} {c : Int} {K : List Kd} (hB : B ≤ 100) (h : Gd B K) (hp : C p = some (.lst (K.map tri))) (q : ∀ K' C', Step K K' → C' p = some (.lst (K'.map tri)) → ExB p C C' → Q .non C') : wpc pr (n + 2) i__law_piled [.ref p, .int c] C Q χ := by
  refine u__law_piled rfl ?_
  unfold w__law_piled
  obtain ⟨K0, x, rfl⟩ := split_last h.ne
  have hx := h.mem (k := x) (by simp)
  have hl : (K0 ++ [x]).length ≤ 200 := by have := h.sum; omega
  have hl' := ks_len x hx.1
  walk_at "ws"
  have w7 : c % 7 = 0 ∨ c % 7 = 1 ∨ c % 7 = 2 ∨ c % 7 = 3 ∨ c % 7 = 4 ∨ c % 7 = 5 ∨ c % 7 = 6 := by omega
  have hpos : (0 : Int) < (((K0 ++ [x]).map tri).length : Int) := by simp
  have e6 : ("(list " : Str).length = 6 := by decide
  have e1 : (")" : Str).length = 1 := by decide
  have h0 : K0.length ≤ 200 := by simp at hl; omega
  have wrapIt : ∀ {C' : Hw}, C' p = some (.lst (K0.map tri)) → ExB p C C' → Q .non (up C' p (.lst (K0.map tri ++ [.tup [.tup [.str "list", kt x], .str (("(list " : Str) ++ ks x ++ (")" : Str)), .int ((kn x : Int) + 1)]]))) := fun {C'} hC hE => by
    refine q (K0 ++ [.lst x]) _ .wrap ?_ hE.put
    rw [up_same, List.map_append]
    rfl
  rcases w7 with w | w | w | w | w | w | w
  iterate 3
    · rw [w]
      walk_at "ws"
      refine ⟨⟨_, hp⟩, ⟨by decide, by decide⟩, s_leaf (by decide) (by decide) fun k a b d => ⟨_, hp, ?_, ?_⟩⟩
      · rw [List.length_map]; exact small63' (by omega)
      · refine q _ _ (.push a b d) ?_ (ExB.put (ExB.refl _ _))
        rw [up_same, List.map_append (l₁ := K0 ++ [x])]; rfl
  iterate 2
    · rw [w]
      walk_at "ws"
      refine ⟨_, hp, ?_⟩
      rw [if_pos hpos]
      refine ⟨⟨_, hp⟩, _, hp, _, pop_at, ⟨_, up_same⟩, ?_⟩
      rw [pop_drop]
      generalize hT : K0.map tri = L
      have hTl : L.length ≤ 200 := by rw [← hT, List.length_map]; exact h0
      unfold tri
      walk_at "ws"
      simp only [Str.length_append]
      refine ⟨small63 (by omega), small63 (by omega), _, up_same, small63' (by omega), ?_⟩
      subst hT
      exact wrapIt up_same (ExB.put (ExB.refl _ _))
  · rw [w]
    walk_at "ws"
    refine ⟨_, hp, ?_⟩
    rw [if_pos hpos]
    refine ⟨⟨_, hp⟩, _, hp, _, pop_at, ?_⟩
    rw [pop_drop]
    refine ⟨_, up_same, ?_⟩
    rw [List.length_map]
    by_cases hK : K0 = []
    · subst hK
      simp only [List.map_nil] at wrapIt ⊢
      unfold tri
      walk_at "ws"
      simp only [Str.length_append]
      exact ⟨⟨_, up_same⟩, small63 (by omega), small63 (by omega), _, up_same, small63' (by show 0 ≤ _; omega), wrapIt up_same (ExB.put (ExB.refl _ _))⟩
    · obtain ⟨K1, y, rfl⟩ := split_last hK
      have hy := h.mem (k := y) (by simp)
      have hne : ¬ (((K1 ++ [y]).length : Int) = 0) := by simp; omega
      rw [if_neg hne]
      refine ⟨⟨_, up_same⟩, ?_⟩
      intro r hr
      obtain ⟨n1, n2⟩ := fr1 hr
      have hpr : up (up C p (.lst ((K1 ++ [y]).map tri))) r (.lst [.str "pair", .str "to"]) p = some (.lst ((K1 ++ [y]).map tri)) := by rw [up_ne n1.symm]; exact up_same
      refine ⟨_, up_same, _, rfl, ⟨_, hpr⟩, _, hpr, _, pop_at, ?_⟩
      rw [pop_drop]
      refine s_two (b := false) (k := y) (l := x) ⟨hy.1, by omega⟩ ⟨hx.1, by omega⟩ ⟨_, up_same, ?_, ?_⟩
      · rw [List.length_map]; simp at h0; exact small63' (by omega)
      · refine q (K1 ++ [.two false y x]) _ .pair ?_ (ExB.put (ExB.put (ExB.new (ExB.put (ExB.refl _ _)) n2)))
        rw [up_same, List.map_append]; rfl
  · rw [w]
    walk_at "ws"
    refine ⟨_, hp, ?_⟩
    rw [if_pos hpos]
    refine ⟨⟨_, hp⟩, _, hp, _, pop_at, ?_⟩
    rw [pop_drop]
    refine ⟨_, up_same, ?_⟩
    rw [List.length_map]
    by_cases hK : K0 = []
    · subst hK
      simp only [List.map_nil] at wrapIt ⊢
      unfold tri
      walk_at "ws"
      simp only [Str.length_append]
      exact ⟨⟨_, up_same⟩, small63 (by omega), small63 (by omega), _, up_same, small63' (by show 0 ≤ _; omega), wrapIt up_same (ExB.put (ExB.refl _ _))⟩
    · obtain ⟨K1, y, rfl⟩ := split_last hK
      have hy := h.mem (k := y) (by simp)
      have hne : ¬ (((K1 ++ [y]).length : Int) = 0) := by simp; omega
      rw [if_neg hne]
      refine ⟨⟨_, up_same⟩, ?_⟩
      intro r hr
      obtain ⟨n1, n2⟩ := fr1 hr
      have hpr : up (up C p (.lst ((K1 ++ [y]).map tri))) r (.lst [.str "pair", .str "to"]) p = some (.lst ((K1 ++ [y]).map tri)) := by rw [up_ne n1.symm]; exact up_same
      refine ⟨_, up_same, _, rfl, ⟨_, hpr⟩, _, hpr, _, pop_at, ?_⟩
      rw [pop_drop]
      refine s_two (b := true) (k := y) (l := x) ⟨hy.1, by omega⟩ ⟨hx.1, by omega⟩ ⟨_, up_same, ?_, ?_⟩
      · rw [List.length_map]; simp at h0; exact small63' (by omega)
      · refine q (K1 ++ [.two true y x]) _ .pair ?_ (ExB.put (ExB.put (ExB.new (ExB.put (ExB.refl _ _)) n2)))
        rw [up_same, List.map_append]; rfl
/-- the pile while it is joined: its top may be one deeper -/
structure Jd (B : Nat) (K : List Kd) (x : Kd) : Prop where
  at_ : ∀ (j : Nat) (k : Kd), K[j]? = some k → kd k + j ≤ B ∧ kok k
  top : kd x + K.length ≤ B + 1 ∧ kok x
  sum : (K.map kn).sum + kn x + K.length + 1 ≤ 2 * B
theorem Jd.next {B : Nat} {K : List Kd} {x y : Kd} {b : Bool} (h : Jd B (K ++ [y]) x) : Jd B K (.two b y x) := by
  have h1 := h.at_ K.length y snoc_last
  have h2 := h.top
  have h3 := h.sum
  simp at h3 h2
  refine ⟨fun j k e => h.at_ j k (by rw [List.getElem?_append_left (List.getElem?_eq_some_iff.mp e).1]; exact e), ⟨?_, h1.2, h2.2⟩, ?_⟩
  · unfold kd; omega
  · show (K.map kn).sum + (kn y + kn x + 1) + K.length + 1 ≤ 2 * B; omega
theorem cut2 {α : Type} {xs : List α} : ∀ x ∈ cut xs none (some 2), x ∈ xs := fun x h => List.mem_of_mem_drop (List.mem_of_mem_take h)
theorem cut1 {α : Type} {xs : List α} {n : Int} : (cut xs none (some n)).length ≤ xs.length ∧ ∀ x ∈ cut xs none (some n), x ∈ xs := ⟨by
  unfold cut
  rw [List.length_take, List.length_drop]; omega, fun x h => List.mem_of_mem_drop (List.mem_of_mem_take h)⟩
abbrev yes : WK := fun v _ => v = .bl true
theorem tail2 {D : We} (hD : ∀ C, D.rt (.bl true) C) {a p : Addr} {A : List T} {K : List Kd} {x0 x2 x4 x5 : Option T} (ha : C a = some (.lst A)) (hp : C p = some (.lst (K.map tri))) (hA : ∀ t ∈ A, ∃ k, t = tri k ∧ Fit k) (hK : ∀ k ∈ K, Fit k) (hl : A.length + K.length ≤ 1000) :
    w_law_t2 (wpc pr 59) D [x0, some (.ref p), x2, some (.ref a), x4, x5] C := by
  unfold w_law_t2
  walk_at "ws"
  refine ⟨_, ha, _, hp, by rw [List.length_map]; exact small63 (by omega), fun r hr => ?_⟩
  refine ⟨_, up_same, fun r2 hr2 => ⟨A ++ K.map tri, ?_, _, up_same, ?_, fun r3 hr3 => ⟨_, up_same, ?_⟩⟩⟩
  · rw [up_ne (fr1 hr2).1.symm]; exact up_same
  · have := (cut1 (xs := A ++ K.map tri) (n := 1)).1
    rw [List.length_append, List.length_map] at this ⊢
    exact small63 (by omega)
  · have hall : ∀ t ∈ (A ++ K.map tri) ++ cut (A ++ K.map tri) none (some 1), ∃ k, t = tri k ∧ Fit k := by
      have h1 : ∀ t ∈ A ++ K.map tri, ∃ k, t = tri k ∧ Fit k := fun t ht => by
        rcases List.mem_append.mp ht with ht | ht
        · exact hA t ht
        · obtain ⟨k, hk, rfl⟩ := List.mem_map.mp ht; exact ⟨k, rfl, hK k hk⟩
      intro t ht
      rcases List.mem_append.mp ht with ht | ht
      · exact h1 t ht
      · exact h1 t (cut1.2 t ht)
    generalize hC5 : up (up (up C r _) r2 _) r3 _ = C5
    have h5 : C5 r3 = some (.lst ((A ++ K.map tri) ++ cut (A ++ K.map tri) none (some 1))) := by rw [← hC5]; exact up_same
    refine for_inv (fun i τ C' => ∃ x5, τ = [x0, some (.ref p), x2, some (.ref r), x4, x5] ∧ Ex C5 C') ⟨_, rfl, Ex.refl _⟩ (fun i τ C' _ h => by obtain ⟨_, _, hE⟩ := h; exact hE _ _ h5) ?_ ?_
    · rintro i t τ C' N hx ⟨x5, rfl, hE⟩ hN
      obtain ⟨k, rfl, hk⟩ := hall t (List.mem_of_getElem? hx)
      walk_at "ws"
      refine s_right hk fun C6 hE6 => ?_
      exact ⟨true, rfl, hN _ _ ⟨_, rfl, hE.trans hE6⟩⟩
    · rintro τ C' ⟨x5, rfl, hE⟩
      unfold w_law_t1
      walk_at "ws"
      exact hD C'
theorem tail3 {D : We} (hD : ∀ C, D.rt (.bl true) C) {p : Addr} {K : List Kd} {x0 x2 x3 x4 x5 : Option T} (hp : C p = some (.lst (K.map tri))) (h : Gd 51 K) : w_law_t3 (wpc pr 59) D [x0, some (.ref p), x2, x3, x4, x5] C := by
  unfold w_law_t3
  walk_at "ws"
  refine ⟨_, hp, fun a ha => ?_⟩
  obtain ⟨K0, x, rfl⟩ := split_last h.ne
  have hA : ∀ t ∈ cut ((K0 ++ [x]).map tri) none (some 2), ∃ k, t = tri k ∧ Fit k := fun t ht => by
    obtain ⟨k, hk, rfl⟩ := List.mem_map.mp (cut1.2 t ht)
    have := h.mem hk
    exact ⟨k, rfl, this.1, by omega, by omega⟩
  have hAl := (cut1 (xs := (K0 ++ [x]).map tri) (n := 2)).1
  generalize cut ((K0 ++ [x]).map tri) none (some 2) = A at hA hAl
  have pa : p ≠ a := cne hp ha
  have hS := h.sum
  rw [List.length_map] at hAl
  have hJ : Jd 51 K0 x := by
    refine ⟨fun j k e => h.at_ j k (by rw [List.getElem?_append_left (List.getElem?_eq_some_iff.mp e).1]; exact e), ?_, ?_⟩
    · have := h.at_ _ x snoc_last; exact ⟨by omega, this.2⟩
    · simp at hS; omega
  refine while_inv (fun m τ C' => ∃ x4 K x, τ = [x0, some (.ref p), x2, some (.ref a), x4, x5] ∧ C' p = some (.lst ((K ++ [x]).map tri)) ∧ C' a = some (.lst A) ∧ K.length = m ∧ Jd 51 K x) (m := K0.length) ⟨x4, K0, x, rfl, by rw [up_ne pa]; exact hp, up_same, rfl, hJ⟩ ?_
  rintro m τ C' N ⟨x4, K, x, rfl, hp', ha', hm, hJ⟩ hN
  walk_at "ws"
  refine ⟨_, hp', ?_⟩
  rw [List.length_map]
  by_cases hK : K = []
  · subst hK
    have : ¬ ((1 : Int) < ((([] : List Kd) ++ [x]).length : Int)) := by simp
    rw [if_neg this]
    have hs := hJ.sum
    have ht := hJ.top
    simp at hs ht
    refine tail2 hD ha' hp' hA (fun k hk => ?_) ?_
    · simp at hk; subst hk; exact ⟨ht.2, by omega, by omega⟩
    · simp at hS hAl ⊢; omega
  · obtain ⟨K1, y, rfl⟩ := split_last hK
    have : (1 : Int) < ((K1 ++ [y] ++ [x]).length : Int) := by simp; omega
    rw [if_pos this]
    refine ⟨⟨_, hp'⟩, _, hp', _, pop_at, ?_⟩
    rw [pop_drop]
    refine ⟨⟨_, up_same⟩, fun r hr => ?_⟩
    obtain ⟨n1, n2⟩ := fr1 hr
    have hpr : up (up C' p (.lst ((K1 ++ [y]).map tri))) r (.lst [.str "pair", .str "to"]) p = some (.lst ((K1 ++ [y]).map tri)) := by rw [up_ne n1.symm]; exact up_same
    have hy := hJ.at_ _ y snoc_last
    have hs := hJ.sum
    have ht := hJ.top
    simp at hs
    have hat : ∃ b, atI [T.str "pair", T.str "to"] ((((K1 ++ [y]).map tri).length : Int) % 2) = some (.str (wd b)) := by
      have : (((K1 ++ [y]).map tri).length : Int) % 2 = 0 ∨ (((K1 ++ [y]).map tri).length : Int) % 2 = 1 := by omega
      rcases this with e | e
      · rw [e]; exact ⟨false, rfl⟩
      · rw [e]; exact ⟨true, rfl⟩
    obtain ⟨b, hat⟩ := hat
    refine ⟨_, hpr, _, up_same, _, hat, ⟨_, hpr⟩, _, hpr, _, pop_at, ?_⟩
    rw [pop_drop]
    refine s_two (k := y) (l := x) ⟨hy.2, by omega⟩ ⟨ht.2, by omega⟩ ⟨_, up_same, ?_, ?_⟩
    · rw [List.length_map]; exact small63' (by omega)
    · refine hN K1.length _ _ (by rw [← hm]; simp) ⟨_, K1, .two b y x, rfl, ?_, ?_, rfl, hJ.next⟩
      · rw [up_same, List.map_append]; rfl
      · rw [up_ne pa.symm, up_ne pa.symm, up_ne (cne ha' n2), up_ne pa.symm]; exact ha'
theorem law_true (ns : List Int) (h63 : ns.length ≤ 63) : wpc pr 60 i_law [.cl (ns.map T.int)] (fun _ => none) (fun v _ => v = .bl true) (fun _ _ => False) := by
  refine u_law rfl ?_
  unfold w_law
  walk_at "ws"
  intro p hp a ha
  obtain ⟨n1, n2⟩ := fr1 ha
  refine ⟨_, up_same, ?_⟩
  have hc : ∀ t ∈ cut (ns.map T.int) none (some 50), ∃ c : Int, t = .int c := fun t ht => by
    obtain ⟨c, _, rfl⟩ := List.mem_map.mp (cut1.2 t ht)
    exact ⟨c, rfl⟩
  have hcl : (cut (ns.map T.int) none (some 50)).length ≤ 50 := by
    unfold cut
    have e0 : HT.sIx (ns.map T.int).length 0 none = 0 := rfl
    rw [e0, List.length_take, List.length_drop]
    have : HT.sIx (ns.map T.int).length (ns.map T.int).length (some 50) ≤ 50 := by
      rw [List.length_map]
      have hall : ∀ m, m ≤ 63 → HT.sIx m m (some 50) ≤ 50 := by decide
      exact hall _ h63
    omega
  generalize cut (ns.map T.int) none (some 50) = A at hc hcl
  generalize hC1 : up (up (fun _ => none) p _) a _ = C1
  have ha1 : C1 a = some (.lst A) := by rw [← hC1]; exact up_same
  have hp1 : C1 p = some (.lst ([Kd.num].map tri)) := by rw [← hC1, up_ne n1.symm]; exact up_same
  refine for_inv (fun i τ C' => ∃ x2 K, τ = [some (.cl (ns.map T.int)), some (.ref p), x2, none, none, none] ∧ C' p = some (.lst (K.map tri)) ∧ C' a = some (.lst A) ∧ Gd (i + 1) K) ⟨none, [.num], rfl, hp1, ha1, ?_⟩ (fun i τ C' _ h => by obtain ⟨_, _, _, _, h, _⟩ := h; exact h) ?_ ?_
  · refine ⟨by simp, fun j k e => ?_, by simp [kn]⟩
    match j, e with
    | 0, e => simp at e; subst e; exact ⟨by decide, trivial⟩
    | j + 1, e => simp at e
  · rintro i t τ C' N hx ⟨x2, K, rfl, hp', ha', hG⟩ hN
    obtain ⟨c, rfl⟩ := hc t (List.mem_of_getElem? hx)
    have hi : i < A.length := (List.getElem?_eq_some_iff.mp hx).1
    walk_at "ws"
    exact s_piled (B := i + 1) (by omega) hG hp' fun K' C2 hS hp2 hE => hN _ _ ⟨_, K', rfl, hp2, hE _ _ n1 ha', hG.step hS⟩
  · rintro τ C' ⟨x2, K, rfl, hp', ha', hG⟩
    refine tail3 (fun _ => rfl) hp' ⟨hG.ne, fun j k e => ?_, ?_⟩
    · have := hG.at_ j k e; exact ⟨by omega, this.2⟩
    · have := hG.sum; omega
end
end K21
set_option Elab.async false
set_option linter.all false
set_option maxRecDepth 100000
set_option maxHeartbeats 4000000
open PySem PySem.W PyProof.Rows
set_option maxRecDepth 100000 in
set_option maxHeartbeats 0 in
theorem PySem.Challenge.cw_idlegraph_k21_kinds_shown_holds : PySem.Challenge.rw_idlegraph_k21_kinds_shown.Holds := by
  w_on; o_law; k_head; (case hw => w_witness2)
  k_fill
  refine L2.walk_ofK (l := PySem.Challenge.rw_idlegraph_k21_kinds_shown) (n := 63) (k := 60) (x := "_law_script") (CX := L2.CX0) (sp := fun K => WL.spW K K21.pr 60 8) rfl (by decide) rfl ⟨rfl, by decide, by decide⟩ (fun w h Y => PySem.W.kIn_of Y) ?F (fun K H a ns hl hO hS => WL.law_sp hO hS (K21.law_true ns hl)) (fun _ _ _ _ z => z)
  case F =>
    intro w mg fa h KX G hmg
    refine' K21.all_mk KX G hmg ?a0 ?l0 ?c0 ?k0 ?a1 ?l1 ?c1 ?k1 ?a2 ?l2 ?c2 ?k2 ?a3 ?l3 ?c3 ?k3 ?a4 ?l4 ?c4 ?k4 ?a5 ?l5 ?c5 ?k5 ?a6 ?l6 ?c6 ?k6 ?a7 ?l7 ?c7 ?k7 ?a8 ?l8 ?c8 ?k8 ?z_bool ?z_int ?z_isinstance ?z_len ?z_str
    (case a0 => k_is)
    (case l0 => k_is)
    (case c0 => k_is)
    (case k0 => k_is)
    (case a1 => k_is)
    (case l1 => k_is)
    (case c1 => k_is)
    (case k1 => k_is)
    (case a2 => k_is)
    (case l2 => k_is)
    (case c2 => k_is)
    (case k2 => k_is)
    (case a3 => k_is)
    (case l3 => k_is)
    (case c3 => k_is)
    (case k3 => k_is)
    (case a4 => k_is)
    (case l4 => k_is)
    (case c4 => k_is)
    (case k4 => k_is)
    (case a5 => k_is)
    (case l5 => k_is)
    (case c5 => k_is)
    (case k5 => k_is)
    (case a6 => k_is)
    (case l6 => k_is)
    (case c6 => k_is)
    (case k6 => k_is)
    (case a7 => k_is)
    (case l7 => k_is)
    (case c7 => k_is)
    (case k7 => k_is)
    (case a8 => k_is)
    (case l8 => k_is)
    (case c8 => k_is)
    (case k8 => k_is)
    (case z_bool => k_is)
    (case z_int => k_is)
    (case z_isinstance => k_is)
    (case z_len => k_is)
    (case z_str => k_is)
#print axioms PySem.Challenge.cw_idlegraph_k21_kinds_shown_holds