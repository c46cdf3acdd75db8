import PyProof.Rows.All
import Wide.All
import OpenK.AllK
import Wide.FinOn
import Lean
import PyProof.EqAt
import PyProof.EqKinds
import PyProof.TupleCall
import PySem.Challenge.RW_idlegraph_k31_reckoned
set_option Elab.async false
set_option linter.all false
set_option maxRecDepth 100000
/-! THE HAND LAYER, for ints, bools, texts, own classes, LISTS and tuples (index, slices, in, append, pop ..), calls, loops. Paste it whole ahead of your own text; what your proof does not reach may be deleted. -/
namespace L2
open PySem PySem.Spec PyProof.Rows
/-- a key: an int or a str -/
abbrev Key := Sum Int Str
def keyIs : Key → Value → Bool
  | .inl k, v => Value.isInt k v
  | .inr x, v => Value.isStrOf x v
def keyH (w : World) : Key → Int
  | .inl k => hashInt k
  | .inr x => hashStr w x
theorem keyIs_shape : ∀ {k : Key} {v : Value}, keyIs k v = true → (∃ i t, k = Sum.inl i ∧ v = Value.int i t) ∨ (∃ x t, k = Sum.inr x ∧ v = Value.str x t)
  | .inl i, v, h => by
    obtain ⟨t, e⟩ := Value.isInt_shape (k := i) (v := v) h
    exact .inl ⟨i, t, rfl, e⟩
  | .inr x, v, h => by
    obtain ⟨t, e⟩ := Value.isStrOf_shape (x := x) (v := v) h
    exact .inr ⟨x, t, rfl, e⟩
theorem keyIs_int (i : Int) (t : Tok) : keyIs (.inl i) (.int i t) = true := by simp [keyIs, Value.isInt]
theorem keyIs_str (x : Str) (t : Tok) : keyIs (.inr x) (.str x t) = true := by simp [keyIs, Value.isStrOf]
theorem key_ll (a b : Int) : decide ((Sum.inl a : Key) = Sum.inl b) = (a == b) := by
  by_cases e : a = b
  · subst e; simp
  · have h : ¬ (Sum.inl a : Key) = Sum.inl b := fun q => e (Sum.inl.inj q)
    rw [decide_eq_false h]
    exact (beq_eq_false_iff_ne.mpr e).symm
theorem key_rr (a b : Str) : decide ((Sum.inr a : Key) = Sum.inr b) = decide (a = b) := by
  by_cases e : a = b
  · subst e; simp
  · have h : ¬ (Sum.inr a : Key) = Sum.inr b := fun q => e (Sum.inr.inj q)
    rw [decide_eq_false h, decide_eq_false e]
theorem key_lr (a : Int) (b : Str) : decide ((Sum.inl a : Key) = Sum.inr b) = false := decide_eq_false (fun q => nomatch q)
theorem key_rl (a : Str) (b : Int) : decide ((Sum.inr a : Key) = Sum.inl b) = false := decide_eq_false (fun q => nomatch q)
def mixKind (prog : Program) (w : World) : PySem.KeyKind prog w Key where
  is := keyIs
  hash := keyH w
  inj := fun v a b ha hb => by
    rcases keyIs_shape ha with ⟨i, t, rfl, rfl⟩ | ⟨x, t, rfl, rfl⟩
    · rcases keyIs_shape hb with ⟨j, u, rfl, e⟩ | ⟨y, u, rfl, e⟩
      · injection e with e1 _; rw [e1]
      · exact nomatch e
    · rcases keyIs_shape hb with ⟨j, u, rfl, e⟩ | ⟨y, u, rfl, e⟩
      · exact nomatch e
      · injection e with e1 _; rw [e1]
  byValue := fun k v h => by
    rcases keyIs_shape h with ⟨i, t, rfl, rfl⟩ | ⟨x, t, rfl, rfl⟩ <;> rfl
  pyHash := fun hv h => by
    rcases keyIs_shape hv with ⟨i, t, rfl, rfl⟩ | ⟨x, t, rfl, rfl⟩
    · exact wpAny_pyHash_int h
    · exact wpAny_pyHash_str h
  eqBool := fun hu hv h => by
    rcases keyIs_shape hu with ⟨i, t, rfl, rfl⟩ | ⟨x, t, rfl, rfl⟩
    · rcases keyIs_shape hv with ⟨j, u, rfl, rfl⟩ | ⟨y, u, rfl, rfl⟩
      · rw [key_ll] at h; exact wpAny_eqBool_int h
      · rw [key_lr] at h; exact SeqAt.EqAt.int_str i t y u _ _ _ _ h
    · rcases keyIs_shape hv with ⟨j, u, rfl, rfl⟩ | ⟨y, u, rfl, rfl⟩
      · rw [key_rl] at h; exact SeqAt.EqAt.str_int x t j u _ _ _ _ h
      · rw [key_rr] at h; exact wpAny_eqBool_str h
  «strs» := fun k x t v h => by
    rcases keyIs_shape h with ⟨i, u, rfl, e⟩ | ⟨y, u, rfl, e⟩
    · exact nomatch e
    · injection e with e1 _
      subst e1
      cases v <;> rfl
theorem mixKind_is (prog : Program) (w : World) (k : Key) (v : Value) : (mixKind prog w).is k v = keyIs k v := rfl
theorem mixKind_int (prog : Program) (w : World) (i : Int) (t : Tok) : (mixKind prog w).is (.inl i) (.int i t) = true := keyIs_int i t
theorem mixKind_str (prog : Program) (w : World) (x : Str) (t : Tok) : (mixKind prog w).is (.inr x) (.str x t) = true := keyIs_str x t
end L2
namespace L2
open PySem PySem.Spec PyProof.Rows
/-- a value, without the heap -/
inductive V where
  | non | bl (b : Bool) | int (i : Int) | str (x : Str) | byt (b : Array UInt8) | flt (b : UInt64) | ref (a : Addr) | ty (n : String)
  deriving DecidableEq
def RelV : V → Value → Prop
  | .non, u => u = Value.none
  | .bl b, u => u = Value.bool b
  | .int i, u => ∃ t, u = Value.int i t
  | .str x, u => ∃ t, u = Value.str x t
  | .byt b, u => ∃ t, u = Value.bytes b t
  | .flt b, u => ∃ t, u = Value.float b t
  | .ref a, u => u = Value.ref a
  | .ty n, u => u = Value.type n
abbrev Vals : List V → List Value → Prop := Paired RelV
theorem Vals.length {xs : List V} {us : List Value} (r : Vals xs us) : xs.length = us.length := Paired.length r
theorem Vals.get : ∀ {xs : List V} {us : List Value} {i : Nat} {x : V}, Vals xs us → xs[i]? = some x → ∃ u, us[i]? = some u ∧ RelV x u
  | _, _, _, _, .nil, e => by simp at e
  | _, _, 0, _, .cons r _, e => by simp at e; subst e; exact ⟨_, rfl, r⟩
  | _, _, i + 1, x, .cons _ t, e => by
    obtain ⟨u, h1, h2⟩ := Vals.get (i := i) (x := x) t (by simpa using e)
    exact ⟨u, by simpa using h1, h2⟩
theorem Vals.set {x : V} {u : Value} (r : RelV x u) : ∀ {xs : List V} {us : List Value} (i : Nat), Vals xs us → Vals (xs.set i x) (us.set i u)
  | _, _, _, .nil => .nil
  | _, _, 0, .cons _ t => .cons r t
  | _, _, i + 1, .cons q t => .cons q (Vals.set r i t)
theorem Vals.append : ∀ {xs ys : List V} {us ws : List Value}, Vals xs us → Vals ys ws → Vals (xs ++ ys) (us ++ ws)
  | _, _, _, _, .nil, s => s
  | _, _, _, _, .cons r t, s => .cons r (Vals.append t s)
theorem Vals.take : ∀ {xs : List V} {us : List Value} (n : Nat), Vals xs us → Vals (xs.take n) (us.take n)
  | _, _, 0, _ => .nil
  | _, _, _ + 1, .nil => .nil
  | _, _, n + 1, .cons r t => .cons r (Vals.take n t)
theorem Vals.drop : ∀ {xs : List V} {us : List Value} (n : Nat), Vals xs us → Vals (xs.drop n) (us.drop n)
  | _, _, 0, r => r
  | _, _, _ + 1, .nil => .nil
  | _, _, n + 1, .cons _ t => Vals.drop n t
theorem Vals.none_of : ∀ {xs : List V} {us : List Value} {i : Nat}, Vals xs us → xs[i]? = none → us[i]? = none := fun {xs us i} r e => by
  have h1 := r.length
  have h2 : xs.length ≤ i := List.getElem?_eq_none_iff.mp e
  exact List.getElem?_eq_none_iff.mpr (by omega)
def RelO : Option V → Option Value → Prop
  | some v, some u => RelV v u
  | none, none => True
  | _, _ => False
def KV {κ : Type} : List (κ × V) → List (κ × Value) → Prop := Paired fun (p : κ × V) (q : κ × Value) => p.1 = q.1 ∧ RelV p.2 q.2
/-- a key of a dict (00_mix): an int or a text -/
def kV : Key → V
  | .inl i => .int i
  | .inr x => .str x
/-- what stands at a tracked address -/
inductive HO where
  /-- a list -/
  | lst (xs : List V)
  /-- a tuple (never changes) -/
  | tup (xs : List V)
  /-- a dict whose keys are ints and texts; one whose keys are tuples of ints and texts (the empty one is both) -/
  | dK (kvs : List (Key × V)) | dT (kvs : List (List Key × V))
  /-- a set of ints: its members, its size -/
  | set (S : Int → Bool) (n : Nat)
  /-- an instance of the class at C, its dict at dx, its attributes -/
  | ins (C dx : Addr) (fs : List (Str × V))
  /-- the dict of the instance at x -/
  | own (x : Addr)
  /-- the dict of an exception -/
  | xd (fs : List (Str × V))
  /-- a bound method, f of x -/
  | met (f x : Addr)
  /-- a range object lo, lo + 1, .. below hi -/
  | rng (lo hi : Int)
  /-- a thing that is known to the object (the script; a dict while a loop walks it): read, never written while it is so -/
  | frz (o : Obj) (u : HO)
  /-- a code object's table -/
  | tbl (ps : Array Value)
  /-- any other thing, by what is true of its one object (a def of one's own: SetO a S n := HO.ext fun h => ..) -/
  | ext (φ : Heap → Prop)
abbrev Hp := Addr → Option HO
def upd (H : Hp) (a : Addr) (o : HO) : Hp := fun b => if b = a then some o else H b
theorem upd_same {H : Hp} {a : Addr} {o : HO} : upd H a o a = some o := by unfold upd; rw [if_pos rfl]
theorem upd_ne {H : Hp} {a b : Addr} {o : HO} (h : b ≠ a) : upd H a o b = H b := by unfold upd; rw [if_neg h]
theorem upd_upd {H : Hp} {a : Addr} {o u : HO} : upd (upd H a o) a u = upd H a u := by
  funext b; unfold upd; split <;> rfl
/-- two objects of different content stand apart -/
theorem ne_of {H : Hp} {a b : Addr} {o u : HO} (h : H a = some o) (h' : H b = some u) (d : o ≠ u) : a ≠ b := by
  intro e; subst e; rw [h] at h'; exact d (Option.some.inj h')
theorem ne_of_none {H : Hp} {a b : Addr} {o : HO} (h : H a = some o) (h' : H b = none) : a ≠ b := by
  intro e; subst e; rw [h] at h'; cases h'
section
variable (P : Program) (w : World)
def ObjOk (H : Hp) (h : Heap) (a : Addr) : HO → Prop
  | .lst xs => xs.length ≤ sizeLine ∧ ∃ (its : List Value) (n : Nat), Vals xs its ∧ h.get? a = some { cls := .type "list", data := .seq its.toArray n }
  | .tup xs => xs.length ≤ sizeLine ∧ ∃ its : List Value, Vals xs its ∧ IsTup h a its.toArray
  | .dK kvs => kvs.length ≤ sizeLine ∧ (a == sysModules) = false ∧ ∃ vs, KV kvs vs ∧ h.DictOf (mixKind P w) a vs
  | .dT kvs => kvs.length ≤ sizeLine ∧ (a == sysModules) = false ∧ ∃ xs : List (List Key × Addr × Value),
      Paired (fun (p : List Key × V) (q : List Key × Addr × Value) => p.1 = q.1 ∧ H q.2.1 = some (.tup (p.1.map kV)) ∧ RelV p.2 q.2.2) kvs xs ∧
      ∃ o es ep, h.get? a = some o ∧ o.ExactDict ∧ o.data = .dict es ep ∧ es.toList = xs.map (entryOfKey (tupleKind (mixKind P w))) ∧ (xs.map (·.1)).Nodup
  | .set S n => h.SetOf (intKind P w) a S n
  | .ins C dx fs => H dx = some (.own a) ∧ fs.length ≤ 1000 ∧ dx ≠ a ∧ h.get? a = some (PySem.W.instObj C dx) ∧
      ∃ mA, h.Ns1 dx mA ∧ (∀ f, RelO (fs.lookup f) (mA f)) ∧ PySem.Within mA (fs.map (·.1))
  | .own _ => ∃ o, h.get? a = some o
  | .xd fs => ∃ mA, h.Ns1 a mA ∧ ∀ f, RelO (fs.lookup f) (mA f)
  | .rng lo hi => ∃ t u v, h.get? a = some { cls := .type "range", data := .fields #[.int lo t, .int hi u, .int 1 v] }
  | .frz o u => h.get? a = some o ∧ ObjOk H h a u
  | .tbl ps => h.get? a = some { cls := .none, data := .fields ps }
  | .met f x => h.get? a = some (PySem.W.methodObj (.ref f) (.ref x))
  | .ext φ => φ h ∧ (∃ o, h.get? a = some o) ∧ ∀ h1 h2 : Heap, φ h1 → (∀ o, h1.get? a = some o → h2.get? a = some o) → φ h2
/-- the abstract heap is held -/
def HOk (H : Hp) (h : Heap) : Prop := ∀ a o, H a = some o → ObjOk P w H h a o
end
section
variable {P : Program} {w : World} {H H' : Hp} {h h' : Heap} {a : Addr} {o : HO}
theorem ObjOk.lt (x : ObjOk P w H h a o) : a < h.objs.size := by
  cases o with
  | lst xs => obtain ⟨_, _, _, _, e⟩ := x; exact Heap.lt_size e
  | tup xs => obtain ⟨_, _, _, p⟩ := x; exact p.lt
  | dK kvs => obtain ⟨_, _, _, _, o, _, _, e, _⟩ := x; exact Heap.lt_size e
  | dT kvs => obtain ⟨_, _, _, _, o, _, _, e, _⟩ := x; exact Heap.lt_size e
  | set S n => obtain ⟨o, _, _, _, e, _⟩ := x; exact Heap.lt_size e
  | ins C dx fs => obtain ⟨_, _, _, e, _⟩ := x; exact Heap.lt_size e
  | own y => obtain ⟨_, e⟩ := x; exact Heap.lt_size e
  | xd fs => obtain ⟨_, ⟨_, _, _, e, _⟩, _⟩ := x; exact Heap.lt_size e
  | rng lo hi => obtain ⟨_, _, _, e⟩ := x; exact Heap.lt_size e
  | frz ob u => obtain ⟨e, _⟩ := x; exact Heap.lt_size e
  | tbl ps => exact Heap.lt_size (show h.get? a = some _ from x)
  | met f y => exact Heap.lt_size (show h.get? a = some _ from x)
  | ext φ => obtain ⟨_, ⟨_, e⟩, _⟩ := x; exact Heap.lt_size e
theorem Paired.mapP {α β : Type} {F G : α → β → Prop} : ∀ {l₁ : List α} {l₂ : List β}, Paired F l₁ l₂ → (∀ a b, F a b → G a b) → Paired G l₁ l₂
  | _, _, .nil, _ => .nil
  | _, _, .cons r t, f => .cons (f _ _ r) (Paired.mapP t f)
theorem Paired.imp' {α β : Type} {F G : α → β → Prop} (f : ∀ a b, F a b → G a b) {l₁ : List α} {l₂ : List β} (r : Paired F l₁ l₂) : Paired G l₁ l₂ := Paired.mapP r f
/-- what an object's description leans on: its own object, its own dict, the tuples -/
theorem ObjOk.stay (x : ObjOk P w H h a o) (k : ∀ b u, (b = a ∨ H b = some (.own a)) → h.get? b = some u → h'.get? b = some u)
    (ho : ∀ b, H b = some (.own a) → H' b = some (.own a)) (ht : ∀ b xs, H b = some (.tup xs) → H' b = some (.tup xs)) : ObjOk P w H' h' a o := by
  induction o with
  | lst xs => obtain ⟨z, its, n, r, e⟩ := x; exact ⟨z, its, n, r, k _ _ (.inl rfl) e⟩
  | tup xs => obtain ⟨z, its, r, ob, e, c⟩ := x; exact ⟨z, its, r, ob, k _ _ (.inl rfl) e, c⟩
  | dK kvs => obtain ⟨z, y, vs, r, ob, es, ep, e, c⟩ := x; exact ⟨z, y, vs, r, ob, es, ep, k _ _ (.inl rfl) e, c⟩
  | dT kvs =>
    obtain ⟨z, y, xs, r, ob, es, ep, e, c⟩ := x
    exact ⟨z, y, xs, Paired.mapP r fun p q z => ⟨z.1, ht _ _ z.2.1, z.2.2⟩, ob, es, ep, k _ _ (.inl rfl) e, c⟩
  | set S n => obtain ⟨ob, es, ep, t, e, c⟩ := x; exact ⟨ob, es, ep, t, k _ _ (.inl rfl) e, c⟩
  | ins C dx fs =>
    obtain ⟨d, z, ne, e, mA, ⟨od, es, ep, e2, c⟩, r⟩ := x
    exact ⟨ho _ d, z, ne, k _ _ (.inl rfl) e, mA, ⟨od, es, ep, k _ _ (.inr d) e2, c⟩, r⟩
  | own y => obtain ⟨ob, e⟩ := x; exact ⟨ob, k _ _ (.inl rfl) e⟩
  | xd fs => obtain ⟨mA, ⟨od, es, ep, e, c⟩, r⟩ := x; exact ⟨mA, ⟨od, es, ep, k _ _ (.inl rfl) e, c⟩, r⟩
  | rng lo hi => obtain ⟨t, u, v, e⟩ := x; exact ⟨t, u, v, k _ _ (.inl rfl) e⟩
  | frz ob u ih => obtain ⟨e, q⟩ := x; exact ⟨k _ _ (.inl rfl) e, ih q⟩
  | tbl ps =>
    have e : h.get? a = some { cls := .none, data := .fields ps } := x
    show h'.get? a = some { cls := .none, data := .fields ps }
    exact k a _ (.inl rfl) e
  | met f y =>
    have e : h.get? a = some (PySem.W.methodObj (.ref f) (.ref y)) := x
    show h'.get? a = some (PySem.W.methodObj (.ref f) (.ref y))
    exact k a _ (.inl rfl) e
  | ext φ => obtain ⟨p, ⟨o, e⟩, st⟩ := x; exact ⟨st _ _ p fun o q => k _ _ (.inl rfl) q, ⟨o, k _ _ (.inl rfl) e⟩, st⟩
theorem HOk.lt (x : HOk P w H h) (e : H a = some o) : a < h.objs.size := (x a o e).lt
theorem HOk.fresh (x : HOk P w H h) (e : h.objs.size ≤ a) : H a = none := by
  cases q : H a with
  | none => rfl
  | some u => exact absurd (Nat.lt_of_lt_of_le (x.lt q) e) (Nat.lt_irrefl _)
/-- every object of the heap is kept -/
theorem HOk.kept (x : HOk P w H h) (k : ∀ b u, h.get? b = some u → h'.get? b = some u) : HOk P w H h' := fun a o e =>
  (x a o e).stay (fun b u _ q => k b u q) (fun _ q => q) fun _ _ q => q
/-- a new object is laid and tracked -/
theorem HOk.laid (x : HOk P w H h) (k : ∀ b u, h.get? b = some u → h'.get? b = some u) (hp : h.objs.size ≤ a) (new : ObjOk P w (upd H a o) h' a o) : HOk P w (upd H a o) h' := fun b u e => by
  have hn := x.fresh hp
  by_cases hb : b = a
  · subst hb; rw [upd_same] at e; cases e; exact new
  · rw [upd_ne hb] at e
    exact (x b u e).stay (fun c v _ q => k c v q) (fun c q => by rw [upd_ne (ne_of_none q hn)]; exact q) fun c xs q => by rw [upd_ne (ne_of_none q hn)]; exact q
end
/-- what may be read as u: it is u, or a known u -/
def Rd (H : Hp) (a : Addr) (u : HO) : Prop := H a = some u ∨ ∃ o, H a = some (.frz o u)
theorem Rd.of {H : Hp} {a : Addr} {u : HO} (h : H a = some u) : Rd H a u := .inl h
theorem Rd.ok {P : Program} {w : World} {H : Hp} {h : Heap} {a : Addr} {u : HO} (r : Rd H a u) (x : HOk P w H h) : ObjOk P w H h a u := by
  rcases r with r | ⟨o, r⟩
  · exact x a u r
  · obtain ⟨_, q⟩ := x a _ r
    exact q
/-- what may be written -/
def Mut : Option HO → Prop
  | some (.lst _) => True
  | some (.dK _) => True
  | some (.dT _) => True
  | some (.set _ _) => True
  | some (.ins _ _ _) => True
  | some (.ext _) => True
  | _ => False
section
variable {P : Program} {w : World} {H : Hp} {h h' : Heap} {x e : Addr} {o' : HO}
/-- the object at e is changed: x itself, or the dict of the instance x -/
theorem HOk.write (ok : HOk P w H h) (mu : Mut (H x)) (he : e = x ∨ H e = some (.own x)) (k : ∀ b u, b ≠ e → h.get? b = some u → h'.get? b = some u) (heo : ∃ u, h'.get? e = some u)
    (new : ObjOk P w (upd H x o') h' x o') : HOk P w (upd H x o') h' := fun b u q => by
  have nown : ∀ c y, H c = some (.own y) → c ≠ x := fun c y r z => by subst z; rw [r] at mu; exact mu
  have ntup : ∀ c xs, H c = some (.tup xs) → c ≠ x := fun c xs r z => by subst z; rw [r] at mu; exact mu
  by_cases hb : b = x
  · subst hb; rw [upd_same] at q; cases q; exact new
  · rw [upd_ne hb] at q
    by_cases hbe : b = e
    · have q' : H b = some (.own x) := by
        rcases he with z | z
        · exact absurd (hbe.trans z) hb
        · rw [hbe]; exact z
      rw [q] at q'; cases q'
      obtain ⟨v, hv⟩ := heo
      exact ⟨v, by rw [hbe]; exact hv⟩
    · refine (ok b u q).stay (fun c v hc r => k c v ?_ r) (fun c r => by rw [upd_ne (nown c b r)]; exact r) fun c xs r => by rw [upd_ne (ntup c xs r)]; exact r
      rcases hc with rfl | hc
      · exact hbe
      · rintro rfl
        rcases he with z | z
        · exact nown c b hc z
        · rw [hc] at z; cases z; exact hb rfl
end
/-! ### kept unless tracked; of the frames at fs (the callers') the slots may change (an exception that passes writes there); of the records at ex (iterators) nothing is said -/
structure Un (fs ex : List Addr) (H H' : Hp) (h h' : Heap) : Prop where
  keep : ∀ b o, h.get? b = some o → H b = none → b ∉ fs → b ∉ ex → h'.get? b = some o
  slot : ∀ b o, h.get? b = some o → H b = none → b ∈ fs → b ∉ ex → ∃ sl, h'.get? b = some { o with slots := sl }
  free : ∀ b o, h.get? b = some o → H b = none → b ∉ ex → H' b = none
  there : ∀ b o, h.get? b = some o → b ∉ ex → ∃ o', h'.get? b = some o'
  tups : ∀ b xs, H b = some (.tup xs) → H' b = some (.tup xs)
  frzs : ∀ b o u, H b = some (.frz o u) → H' b = some (.frz o u)
  tbls : ∀ b ps, H b = some (.tbl ps) → ∃ more, H' b = some (.tbl (ps ++ more))
section
variable {fs fs' ex ex' : List Addr} {H H1 H2 : Hp} {h h1 h2 h' : Heap} {a x e : Addr} {o : HO}
theorem Un.any (u : Un fs ex H H1 h h1) {b : Addr} {ob : Obj} (q : h.get? b = some ob) (n : H b = none) (hx : b ∉ ex) : ∃ sl, h1.get? b = some { ob with slots := sl } := by
  by_cases hb : b ∈ fs
  · exact u.slot b ob q n hb hx
  · exact ⟨ob.slots, u.keep b ob q n hb hx⟩
theorem Un.trans (a : Un fs ex H H1 h h1) (b : Un fs ex H1 H2 h1 h2) : Un fs ex H H2 h h2 where
  keep := fun c ob q n hc hx => b.keep c ob (a.keep c ob q n hc hx) (a.free c ob q n hx) hc hx
  slot := fun c ob q n hc hx => by
    obtain ⟨sl, e1⟩ := a.slot c ob q n hc hx
    obtain ⟨sl', e2⟩ := b.slot c _ e1 (a.free c ob q n hx) hc hx
    exact ⟨sl', e2⟩
  free := fun c ob q n hx => by
    obtain ⟨o', e1⟩ := a.there c ob q hx
    exact b.free c o' e1 (a.free c ob q n hx) hx
  there := fun c ob q hx => by
    obtain ⟨o', e1⟩ := a.there c ob q hx
    exact b.there c o' e1 hx
  tups := fun c xs q => b.tups c xs (a.tups c xs q)
  frzs := fun c ob xs q => b.frzs c ob xs (a.frzs c ob xs q)
  tbls := fun c ps q => by
    obtain ⟨m1, e1⟩ := a.tbls c ps q
    obtain ⟨m2, e2⟩ := b.tbls c _ e1
    exact ⟨m1 ++ m2, by rw [e2, Array.append_assoc]⟩
theorem Un.kept (k : ∀ b u, h.get? b = some u → h'.get? b = some u) : Un fs ex H H h h' :=
  ⟨fun b ob q _ _ _ => k b ob q, fun b ob q _ _ _ => ⟨ob.slots, k b ob q⟩, fun _ _ _ n _ => n, fun b ob q _ => ⟨ob, k b ob q⟩, fun _ _ q => q, fun _ _ _ q => q, fun _ ps q => ⟨#[], by rw [q]; simp⟩⟩
theorem Un.refl : Un fs ex H H h h := Un.kept fun _ _ q => q
theorem Un.laid (k : ∀ b u, h.get? b = some u → h'.get? b = some u) (hp : h.objs.size ≤ a) (hn : H a = none) : Un fs ex H (upd H a o) h h' where
  keep := fun b u q _ _ _ => k b u q
  slot := fun b u q _ _ _ => ⟨u.slots, k b u q⟩
  free := fun b u q n _ => by rw [upd_ne (Nat.ne_of_lt (Nat.lt_of_lt_of_le (Heap.lt_size q) hp))]; exact n
  there := fun b u q _ => ⟨u, k b u q⟩
  tups := fun b xs q => by rw [upd_ne (ne_of_none q hn)]; exact q
  frzs := fun b u xs q => by rw [upd_ne (ne_of_none q hn)]; exact q
  tbls := fun b ps q => ⟨#[], by rw [upd_ne (ne_of_none q hn), q]; simp⟩
theorem Un.write (mu : Mut (H x)) (he : e = x ∨ H e = some (.own x)) (k : ∀ b u, b ≠ e → h.get? b = some u → h'.get? b = some u) (heo : ∃ u, h'.get? e = some u) : Un fs ex H (upd H x o) h h' := by
  have hx : ∀ b, H b = none → b ≠ x := fun b n z => by subst z; rw [n] at mu; exact mu
  have hb : ∀ b, H b = none → b ≠ e := fun b n z => by
    subst z
    rcases he with r | r
    · exact hx b n r
    · rw [n] at r; cases r
  have hm : ∀ b u, H b = some u → ¬ Mut (some u) → b ≠ x := fun b u q nm z => by subst z; rw [q] at mu; exact nm mu
  refine ⟨fun b u q n _ _ => k b u (hb b n) q, fun b u q n _ _ => ⟨u.slots, k b u (hb b n) q⟩, fun b u q n _ => by rw [upd_ne (hx b n)]; exact n, fun b u q _ => ?_,
    fun b xs q => by rw [upd_ne (hm b _ q fun z => z)]; exact q, fun b u xs q => by rw [upd_ne (hm b _ q fun z => z)]; exact q, fun b ps q => ⟨#[], by rw [upd_ne (hm b _ q fun z => z), q]; simp⟩⟩
  by_cases hbe : b = e
  · subst hbe; exact heo
  · exact ⟨u, k b u hbe q⟩
theorem Un.mono (u : Un fs ex H H1 h h1) (hs : ∀ b ∈ fs, b ∈ fs') (hx : ∀ b ∈ ex, b ∈ ex') : Un fs' ex' H H1 h h1 :=
  ⟨fun b ob q n hb he => u.keep b ob q n (fun z => hb (hs b z)) fun z => he (hx b z), fun _ _ q n _ he => u.any q n fun z => he (hx _ z), fun b ob q n he => u.free b ob q n fun z => he (hx b z), fun b ob q he => u.there b ob q fun z => he (hx b z), u.tups, u.frzs, u.tbls⟩
end
/-! ### the heap without what is tracked -/
def trk (h : Heap) (H : Hp) : List Addr := (List.range h.objs.size).filter fun a => (H a).isSome
def hidT (h : Heap) (H : Hp) : Heap := PySem.W.hideAll h (trk h H)
theorem hidT_size (h : Heap) (H : Hp) : (hidT h H).objs.size = h.objs.size := PySem.W.hideAll_size _ _
theorem hidT_get {h : Heap} {H : Hp} {b : Addr} {o : Obj} (e : h.get? b = some o) (n : H b = none) : (hidT h H).get? b = some o :=
  PySem.W.hideAll_get _ e fun hm => by
    have q : (H b).isSome = true := (List.mem_filter.mp hm).2
    rw [n] at q; simp at q
theorem of_hidT {h : Heap} {H : Hp} {b : Addr} {o : Obj} (e : (hidT h H).get? b = some o) : h.get? b = some o ∧ H b = none := by
  have e' : h.get? b = some o := PySem.W.of_hideAll (trk h H) e
  refine ⟨e', ?_⟩
  cases q : H b with
  | none => rfl
  | some x =>
    have hm : b ∈ trk h H := List.mem_filter.mpr ⟨List.mem_range.mpr (Heap.lt_size e'), by simp [q]⟩
    have z : (hidT h H).get? b = none := PySem.W.hideAll_none (trk h H) hm
    rw [z] at e; cases e
/-! ### OpenK's ledger, filled with every new object but one -/
def allNews (g h : Heap) (L : Addr) : List (Addr × Obj) := (List.range h.objs.size).filterMap fun a => if a = L ∨ (g.get? a).isSome = true then none else (h.get? a).map fun o => (a, o)
theorem mem_allNews {g h : Heap} {L a : Addr} {o : Obj} (h1 : a ≠ L) (h2 : g.get? a = none) (h3 : h.get? a = some o) : (a, o) ∈ allNews g h L :=
  List.mem_filterMap.mpr ⟨a, List.mem_range.mpr (Heap.lt_size h3), by simp [h1, h2, h3]⟩
theorem of_mem_allNews {g h : Heap} {L : Addr} {p : Addr × Obj} (hp : p ∈ allNews g h L) : p.1 ≠ L ∧ g.get? p.1 = none ∧ h.get? p.1 = some p.2 := by
  obtain ⟨b, _, e⟩ := List.mem_filterMap.mp hp
  split at e
  · cases e
  · rename_i hn
    cases q : h.get? b with
    | none => rw [q] at e; simp at e
    | some u =>
      rw [q] at e
      simp only [Option.map_some, Option.some.injEq] at e
      subst e
      refine ⟨fun z => hn (.inl z), ?_, q⟩
      show g.get? b = none
      cases r : g.get? b with
      | none => rfl
      | some v => exact (hn (.inr (by simp [r]))).elim
def rest (g h : Heap) (L d : Addr) : List (Addr × Obj) := (allNews g h L).filter fun p => decide (p.1 ≠ d)
theorem rest_ne {g h : Heap} {L d : Addr} : ∀ p ∈ rest g h L d, p.1 ≠ d := fun p hp => of_decide_eq_true (List.mem_filter.mp hp).2
theorem mem_rest {g h : Heap} {L d a : Addr} {o : Obj} (h1 : a ≠ L) (h2 : g.get? a = none) (h3 : h.get? a = some o) (h4 : a ≠ d) : (a, o) ∈ rest g h L d :=
  List.mem_filter.mpr ⟨mem_allNews h1 h2 h3, decide_eq_true h4⟩
theorem news_all {g h : Heap} {L : Addr} : News g L h (allNews g h L) := fun p hp => let ⟨a, b, c⟩ := of_mem_allNews hp; ⟨c, a, b⟩
theorem news_at {g h : Heap} {L d : Addr} {o : Obj} (h1 : d ≠ L) (h2 : g.get? d = none) (h3 : h.get? d = some o) : News g L h ((d, o) :: rest g h L d) := fun p hp => by
  rcases List.mem_cons.mp hp with rfl | hp
  · exact ⟨h3, h1, h2⟩
  · exact news_all p (List.mem_filter.mp hp).1
/-- behind a rule that changed d alone: all else but the frame is kept -/
theorem kept_of_news {g h h' : Heap} {L d : Addr} {m : Str → Option Value} (k : ∀ b o, g.get? b = some o → h.get? b = some o) (F : Fr g L h' m) (N : News g L h' (rest g h L d)) :
    ∀ b o, b ≠ L → b ≠ d → h.get? b = some o → h'.get? b = some o := fun b o h1 h2 e => by
  cases q : g.get? b with
  | some u =>
    have := k b u q
    rw [e] at this; cases this
    exact F.keep b _ q
  | none => exact (N (b, o) (mem_rest h1 q e h2)).1
end L2
namespace L2
open PySem PySem.Spec PyProof.Rows
/-- the module's facts, over the base: the heap at the law's entry without what is tracked there -/
structure Mod (K : PySem.W.Frag) (mg : Str → Option Value) (base : Heap) : Prop where
  kin : K.In base
  glob : base.Ns mainGlobals mg
  blt : ∃ mb, base.Ns builtinsNs mb ∧ ∀ x : Str, x ≠ "__name__" → mb x = bootBuiltins x
  nolimit : base.NoLimit
/-- the context: a def's body (or a comprehension's block) running. base: fixed through the whole law; s₀, H₀: the entry; outer: the frames whose slots others may change (a def's callers); stack: all frames that run;
   ex: iterators that were made ahead of the entry and are walked here (a comprehension's); fn: the names whose cells were made at the entry (a def: all; a comprehension's block: its own); calm: not within an except suite; pn: pins that every state bears; xe: what is wanted of an exception that leaves the code -/
structure Cx where
  prog : Program
  w : World
  K : PySem.W.Frag
  mg : Str → Option Value
  base : Heap
  A : Around
  N : List Str
  s₀ : Shared
  H₀ : Hp
  env : Env
  outer : List Env
  stack : List Env
  ex : List Addr
  fn : Str → Bool
  calm : Bool
  pn : List (Addr × Obj)
  xe : Value → Shared → Prop
/-- the callers' frames -/
def frs (l : List Env) : List Addr := l.filterMap (·.frame)
abbrev Cx.fs (X : Cx) : List Addr := frs X.outer
def Vis (sc : Scope) (x : Str) : Prop := sc.names.lookup x = some .local ∨ sc.names.lookup x = some .cell ∨ sc.names.lookup x = some .free
def Loc (sc : Scope) (x : Str) : Prop := sc.names.lookup x = some .local ∨ sc.names.lookup x = some .cell
def Look (env : Env) (h : Heap) (m : Str → Option Value) (x : Str) (u : Value) : Prop :=
  (env.kindOf x = some .local ∧ m x = some u) ∨ ((env.kindOf x = some .cell ∨ env.kindOf x = some .free) ∧ ∃ c, env.cells.lookup x = some c ∧ h.IsCell c (some u))
structure Cx.Ok (X : Cx) : Prop where
  mod : Mod X.K X.mg X.base
  kind : X.env.scope.kind = .function
  glob : X.env.globals = mainGlobals
  blt : X.env.builtins = builtinsNs
  above : X.s₀.heap.objs.size ≤ X.env.locals
  inj : ∀ x y c, X.env.cells.lookup x = some c → X.env.cells.lookup y = some c → x = y
  has : ∀ x, (X.env.kindOf x = some .cell ∨ X.env.kindOf x = some .free) → ∃ c, X.env.cells.lookup x = some c
  cab : ∀ x c, X.fn x = true → X.env.cells.lookup x = some c → X.s₀.heap.objs.size ≤ c
  hd : X.calm = true → X.A.handled = none
  frames : X.A.frames = some X.stack
  stk : X.stack = X.outer ∨ (X.stack = X.env :: X.outer ∧ X.env.frame = some X.env.locals)
  exf : ∀ b ∈ X.ex, b ≠ X.env.locals ∧ ∀ x c, X.env.cells.lookup x = some c → c ≠ b
  bs : ∀ b o, X.base.get? b = some o → X.s₀.heap.get? b = some o ∧ X.H₀ b = none
  bsz : X.base.objs.size ≤ X.s₀.heap.objs.size
  noex : ∀ b o, X.base.get? b = some o → b ∉ X.ex
  exfs : ∀ b ∈ X.ex, b ∉ X.fs
  funs : X.s₀.heap.FunFrames X.base X.outer
  frf : ∀ b ∈ X.fs, X.H₀ b = none
structure Inv (X : Cx) (pins : List (Addr × Obj)) (σ : List (Option V)) (H : Hp) (s : Shared) : Prop where
  ok : X.Ok
  os : s.os = X.s₀.os
  bare : AllBare s.gens
  base : Un X.fs X.ex X.H₀ H X.s₀.heap s.heap
  loc : ∃ m, s.heap.Ns X.env.locals m ∧ ∀ (i : Nat) (x : Str) (v : V), X.N[i]? = some x → σ[i]? = some (some v) → Vis X.env.scope x → ∃ u, RelV v u ∧ Look X.env s.heap m x u
  cell : ∀ x c, X.env.cells.lookup x = some c → ∃ v, s.heap.IsCell c v
  free : H X.env.locals = none
  freeC : ∀ x c, X.env.cells.lookup x = some c → H c = none
  pin : ∀ p ∈ X.pn ++ pins, s.heap.get? p.1 = some p.2 ∧ H p.1 = none ∧ p.1 ≠ X.env.locals ∧ p.1 ∉ X.fs ∧ ∀ v, p.2.data ≠ .cell v
  hok : HOk X.prog X.w H s.heap
  len : σ.length = X.N.length
section
variable {X : Cx} {pins : List (Addr × Obj)} {σ : List (Option V)} {H H' : Hp} {s : Shared} {h' : Heap}
theorem Cx.Ok.nofr (ok : X.Ok) {b : Addr} {o : Obj} (e : X.base.get? b = some o) : b ∉ X.fs := fun hb => by
  have := (ok.funs.mem hb).1
  rw [e] at this; cases this
theorem Inv.bs (I : Inv X pins σ H s) : ∀ b o, X.base.get? b = some o → s.heap.get? b = some o ∧ H b = none := fun b o e =>
  ⟨I.base.keep b o (I.ok.bs b o e).1 (I.ok.bs b o e).2 (I.ok.nofr e) (I.ok.noex b o e), I.base.free b o (I.ok.bs b o e).1 (I.ok.bs b o e).2 (I.ok.noex b o e)⟩
theorem Inv.bk (I : Inv X pins σ H s) : ∀ b o, X.base.get? b = some o → s.heap.get? b = some o := fun b o e => (I.bs b o e).1
theorem Inv.mod (I : Inv X pins σ H s) : Mod X.K X.mg X.base := I.ok.mod
theorem Inv.kIn (I : Inv X pins σ H s) : X.K.In s.heap := I.ok.mod.kin.keeps I.bk
theorem Inv.nolimit (I : Inv X pins σ H s) : s.heap.NoLimit := I.ok.mod.nolimit.keeps I.bk
/-- the frame over the base: for OpenK's rules (K.In X.base is I.mod.kin) -/
theorem Inv.fr (I : Inv X pins σ H s) : ∃ m, Fr X.base X.env.locals s.heap m :=
  let ⟨m, hn, _⟩ := I.loc
  ⟨m, hn, I.bk, Nat.le_trans I.ok.bsz I.ok.above⟩
theorem Inv.lt (I : Inv X pins σ H s) : X.env.locals < s.heap.objs.size := let ⟨_, hn, _⟩ := I.loc; hn.lt
theorem Inv.sz (I : Inv X pins σ H s) : X.s₀.heap.objs.size ≤ s.heap.objs.size := Nat.le_trans I.ok.above (Nat.le_of_lt I.lt)
theorem Inv.nofs (I : Inv X pins σ H s) {a : Addr} (h : s.heap.objs.size ≤ a) : a ∉ X.fs := fun hb => by
  obtain ⟨_, o, ho, _⟩ := I.ok.funs.mem hb
  exact absurd (Nat.lt_of_lt_of_le (Heap.lt_size ho) (Nat.le_trans I.sz h)) (Nat.lt_irrefl _)
theorem Inv.cne (I : Inv X pins σ H s) : ∀ x c, X.env.cells.lookup x = some c → c ≠ X.env.locals := fun x c e z => by
  obtain ⟨v, o, ho, hd⟩ := I.cell x c e
  obtain ⟨m, ⟨o', es, ep, ho', hd', _⟩, _⟩ := I.loc
  rw [z, ho'] at ho; cases ho; rw [hd'] at hd; cases hd
theorem Inv.funs (I : Inv X pins σ H s) : s.heap.FunFrames X.base X.outer := by
  have all : ∀ (l : List Env), (∀ b ∈ frs l, b ∈ X.fs) → X.s₀.heap.FunFrames X.base l → s.heap.FunFrames X.base l := by
    intro l
    induction l with
    | nil => intro _ _; trivial
    | cons env r ih =>
      intro hs hl
      obtain ⟨hk, ⟨L, o, hf, hn, ho, hd⟩, hr⟩ := hl
      have hL : L ∈ X.fs := hs L (by unfold frs; rw [List.filterMap_cons, hf]; exact List.mem_cons_self)
      obtain ⟨sl, e⟩ := I.base.slot L o ho (I.ok.frf L hL) hL fun z => I.ok.exfs L z hL
      exact ⟨hk, ⟨L, _, hf, hn, e, hd⟩, ih (fun b hb => hs b (by unfold frs; rw [List.filterMap_cons, hf]; exact List.mem_cons_of_mem _ hb)) hr⟩
  exact all X.outer (fun _ hb => hb) I.ok.funs
/-- the frames that run, for a call -/
theorem Inv.stack (I : Inv X pins σ H s) : s.heap.FunFrames X.base X.stack := by
  rcases I.ok.stk with e | ⟨e, hf⟩
  · rw [e]; exact I.funs
  · rw [e]
    obtain ⟨m, hn, _⟩ := I.loc
    refine .cons (by rw [I.ok.kind]; decide) hf hn ?_ I.funs
    exact Heap.get?_none_of_le (Nat.le_trans I.ok.bsz I.ok.above)
theorem Inv.stkSub (I : Inv X pins σ H s) : ∀ b ∈ frs X.stack, b ∈ X.env.locals :: X.fs := fun b hb => by
  rcases I.ok.stk with e | ⟨e, hf⟩
  · rw [e] at hb; exact List.mem_cons_of_mem _ hb
  · rw [e] at hb
    unfold frs at hb
    rw [List.filterMap_cons, hf] at hb
    exact hb
theorem Inv.stkFree (I : Inv X pins σ H s) : ∀ b ∈ frs X.stack, H b = none := fun b hb => by
  rcases List.mem_cons.mp (I.stkSub b hb) with e | hb
  · rw [e]; exact I.free
  · obtain ⟨_, o, ho, _⟩ := I.ok.funs.mem hb
    exact I.base.free b o ho (I.ok.frf b hb) fun z => I.ok.exfs b z hb
/-- THE STEP: the untracked objects but the frame and the records at ch are kept (the callers' frames up to slots), the frame's map is kept, the new abstract heap is held -/
theorem Inv.step {g' : Array GenState} {t' : Nat} {d' : Drawn} {ch : List Addr} (I : Inv X pins σ H s)
    (hch : ∀ b ∈ ch, (b ∈ X.ex ∨ X.s₀.heap.objs.size ≤ b) ∧ b ≠ X.env.locals ∧ (∀ x c, X.env.cells.lookup x = some c → c ≠ b) ∧ ∀ p ∈ X.pn ++ pins, p.1 ≠ b)
    (keep : ∀ b o, b ≠ X.env.locals → b ∉ X.fs → b ∉ ch → s.heap.get? b = some o → H b = none → h'.get? b = some o)
    (slot : ∀ b o, b ≠ X.env.locals → b ∈ X.fs → b ∉ ch → s.heap.get? b = some o → H b = none → ∃ sl, h'.get? b = some { o with slots := sl }) (free : ∀ b o, b ∉ ch → s.heap.get? b = some o → H b = none → H' b = none)
    (there : ∀ b o, b ∉ ch → s.heap.get? b = some o → ∃ o', h'.get? b = some o')
    (tups : ∀ b xs, H b = some (.tup xs) → H' b = some (.tup xs)) (frzs : ∀ b o u, H b = some (.frz o u) → H' b = some (.frz o u)) (tbls : ∀ b ps, H b = some (.tbl ps) → ∃ more, H' b = some (.tbl (ps ++ more)))
    (ns : ∀ m, s.heap.Ns X.env.locals m → h'.Ns X.env.locals m) (hok : HOk X.prog X.w H' h') (hg : AllBare g') :
    Inv X pins σ H' { s with heap := h', gens := g', drawn := d', toks := t' } := by
  have neL : ∀ b o, X.s₀.heap.get? b = some o → b ≠ X.env.locals := fun b o e => Nat.ne_of_lt (Nat.lt_of_lt_of_le (Heap.lt_size e) I.ok.above)
  have neC : ∀ b o, X.s₀.heap.get? b = some o → b ∉ X.ex → b ∉ ch := fun b o e hx hb => by
    rcases (hch b hb).1 with z | z
    · exact hx z
    · exact absurd (Nat.lt_of_lt_of_le (Heap.lt_size e) z) (Nat.lt_irrefl _)
  have cellK : ∀ x c, X.env.cells.lookup x = some c → ∀ v, s.heap.IsCell c v → h'.IsCell c v := fun x c e v ⟨o, ho, hd⟩ => by
    have nch : c ∉ ch := fun z => (hch c z).2.2.1 x c e rfl
    by_cases hc : c ∈ X.fs
    · obtain ⟨sl, q⟩ := slot c o (I.cne x c e) hc nch ho (I.freeC x c e)
      exact ⟨_, q, hd⟩
    · exact ⟨o, keep c o (I.cne x c e) hc nch ho (I.freeC x c e), hd⟩
  refine ⟨I.ok, I.os, hg, ⟨fun b o e n hb hx => ?_, fun b o e n hb hx => ?_, fun b o e n hx => ?_, fun b o e hx => ?_, fun b xs e => tups b xs (I.base.tups b xs e), fun b o xs e => frzs b o xs (I.base.frzs b o xs e), fun b ps e => ?_⟩, ?_, fun x c e => ?_, ?_, fun x c e => ?_, fun p hp => ?_, hok, I.len⟩
  · exact keep b o (neL b o e) hb (neC b o e hx) (I.base.keep b o e n hb hx) (I.base.free b o e n hx)
  · obtain ⟨sl, e1⟩ := I.base.slot b o e n hb hx
    obtain ⟨sl', e2⟩ := slot b _ (neL b o e) hb (neC b o e hx) e1 (I.base.free b o e n hx)
    exact ⟨sl', e2⟩
  · obtain ⟨o', e1⟩ := I.base.there b o e hx
    exact free b o' (neC b o e hx) e1 (I.base.free b o e n hx)
  · obtain ⟨o', e1⟩ := I.base.there b o e hx
    exact there b o' (neC b o e hx) e1
  · obtain ⟨m1, e1⟩ := I.base.tbls b ps e
    obtain ⟨m2, e2⟩ := tbls b _ e1
    exact ⟨m1 ++ m2, by rw [e2, Array.append_assoc]⟩
  · obtain ⟨m, hn, hl⟩ := I.loc
    refine ⟨m, ns m hn, fun i x v e1 e2 e3 => ?_⟩
    obtain ⟨u, r, l⟩ := hl i x v e1 e2 e3
    refine ⟨u, r, ?_⟩
    rcases l with l | ⟨k, c, e, z⟩
    · exact .inl l
    · exact .inr ⟨k, c, e, cellK x c e _ z⟩
  · obtain ⟨v, z⟩ := I.cell x c e
    exact ⟨v, cellK x c e v z⟩
  · obtain ⟨m, ⟨o, _, _, ho, _⟩, _⟩ := I.loc
    exact free _ o (fun z => (hch _ z).2.1 rfl) ho I.free
  · obtain ⟨v, o, ho, hd⟩ := I.cell x c e
    exact free c o (fun z => (hch c z).2.2.1 x c e rfl) ho (I.freeC x c e)
  · obtain ⟨e, n, ne, nf, d⟩ := I.pin p hp
    have nch : p.1 ∉ ch := fun z => (hch p.1 z).2.2.2 p hp rfl
    exact ⟨keep p.1 p.2 ne nf nch e n, free p.1 p.2 nch e n, ne, nf, d⟩
/-- .. where the frame's own object is kept too -/
theorem Inv.un {t' : Nat} (I : Inv X pins σ H s) (u : Un X.fs [] H H' s.heap h') (hok : HOk X.prog X.w H' h') : Inv X pins σ H' { s with heap := h', toks := t' } := by
  obtain ⟨m, ⟨o, es, ep, ho, r⟩, _⟩ := id I.loc
  obtain ⟨sl, hL⟩ := u.any ho I.free (by simp)
  exact I.step (g' := s.gens) (d' := s.drawn) (ch := []) (fun _ z => nomatch z) (fun b o _ hb _ e n => u.keep b o e n hb (by simp)) (fun b o _ hb _ e n => u.slot b o e n hb (by simp)) (fun b o _ e n => u.free b o e n (by simp)) (fun b o _ e => u.there b o e (by simp)) u.tups u.frzs u.tbls (fun m' hm => by
    obtain ⟨o', es', ep', ho', r'⟩ := hm
    rw [ho] at ho'; cases ho'
    exact ⟨_, es', ep', hL, r'⟩) hok I.bare
/-- behind a call (or a comprehension's block): the slots of this frame may have changed too, the records at ch may have turned -/
theorem Inv.call {g' : Array GenState} {t' : Nat} {d' : Drawn} {ch : List Addr} (I : Inv X pins σ H s) (u : Un (frs X.stack) ch H H' s.heap h') (hok : HOk X.prog X.w H' h') (hg : AllBare g')
    (hch : ∀ b ∈ ch, (b ∈ X.ex ∨ X.s₀.heap.objs.size ≤ b) ∧ b ≠ X.env.locals ∧ (∀ x c, X.env.cells.lookup x = some c → c ≠ b) ∧ ∀ p ∈ X.pn ++ pins, p.1 ≠ b) :
    Inv X pins σ H' { s with heap := h', gens := g', drawn := d', toks := t' } := by
  obtain ⟨m, ⟨o, es, ep, ho, r⟩, _⟩ := id I.loc
  obtain ⟨sl, hL⟩ := u.any ho I.free fun z => (hch _ z).2.1 rfl
  exact I.step (ch := ch) hch (fun b o hL hb hc e n => u.keep b o e n (fun z => (List.mem_cons.mp (I.stkSub b z)).elim hL hb) hc) (fun b o _ _ hc e n => u.any e n hc) (fun b o hc e n => u.free b o e n hc) (fun b o hc e => u.there b o e hc) u.tups u.frzs u.tbls (fun m' hm => by
    obtain ⟨o', es', ep', ho', r'⟩ := hm
    rw [ho] at ho'; cases ho'
    exact ⟨_, es', ep', hL, r'⟩) hok hg
/-- an untracked record of ours (an iterator) has turned -/
theorem Inv.turned {t' : Nat} {it : Addr} (I : Inv X pins σ H s) (k : ∀ b o, b ≠ it → s.heap.get? b = some o → h'.get? b = some o) (hn : H it = none) (hL : it ≠ X.env.locals)
    (h1 : it ∈ X.ex ∨ X.s₀.heap.objs.size ≤ it) (h2 : ∀ x c, X.env.cells.lookup x = some c → c ≠ it) (h3 : ∀ p ∈ X.pn ++ pins, p.1 ≠ it) : Inv X pins σ H { s with heap := h', toks := t' } := by
  have nit : ∀ b u, H b = some u → b ≠ it := fun b u e z => by rw [z, hn] at e; cases e
  refine I.step (g' := s.gens) (d' := s.drawn) (ch := [it]) (fun b hb => ?_) (fun b o _ _ hc e _ => k b o (fun z => hc (by simp [z])) e) (fun b o _ _ hc e _ => ⟨o.slots, k b o (fun z => hc (by simp [z])) e⟩) (fun _ _ _ _ n => n)
    (fun b o hc e => ⟨o, k b o (fun z => hc (by simp [z])) e⟩) (fun _ _ e => e) (fun _ _ _ e => e) (fun b ps e => ⟨#[], by rw [e]; simp⟩) (fun m hm => ?_) (fun b u e => ?_) I.bare
  · have e : b = it := by simpa using hb
    subst e
    exact ⟨h1, hL, h2, h3⟩
  · obtain ⟨o, es, ep, ho, r⟩ := hm
    exact ⟨o, es, ep, k _ o (Ne.symm hL) ho, r⟩
  · refine (I.hok b u e).stay (fun c v hc q => k c v ?_ q) (fun _ q => q) fun _ _ q => q
    rcases hc with z | z
    · rw [z]; exact nit b u e
    · exact nit c _ z
theorem Inv.tok (I : Inv X pins σ H s) (t : Nat) : Inv X pins σ H { s with toks := t } := I.un (h' := s.heap) (t' := t) Un.refl I.hok
/-- all objects kept -/
theorem Inv.kept {t' : Nat} (I : Inv X pins σ H s) (k : ∀ b u, s.heap.get? b = some u → h'.get? b = some u) : Inv X pins σ H { s with heap := h', toks := t' } := I.un (Un.kept k) (I.hok.kept k)
/-- a new object laid and tracked -/
theorem Inv.laid {a : Addr} {o : HO} {t' : Nat} (I : Inv X pins σ H s) (k : ∀ b u, s.heap.get? b = some u → h'.get? b = some u) (hp : s.heap.objs.size ≤ a) (new : ObjOk X.prog X.w (upd H a o) h' a o) :
    Inv X pins σ (upd H a o) { s with heap := h', toks := t' } := I.un (Un.laid k hp (I.hok.fresh hp)) (I.hok.laid k hp new)
/-- an object written -/
theorem Inv.write {x e : Addr} {o : HO} {t' : Nat} (I : Inv X pins σ H s) (mu : Mut (H x)) (he : e = x ∨ H e = some (.own x)) (k : ∀ b u, b ≠ e → s.heap.get? b = some u → h'.get? b = some u) (heo : ∃ u, h'.get? e = some u)
    (new : ObjOk X.prog X.w (upd H x o) h' x o) : Inv X pins σ (upd H x o) { s with heap := h', toks := t' } := I.un (Un.write mu he k heo) (I.hok.write mu he k heo new)
/-- forgetting slots, pins -/
theorem Inv.weak {σ' : List (Option V)} (I : Inv X pins σ H s) (hl : σ'.length = σ.length) (w : ∀ (i : Nat) v, σ'[i]? = some (some v) → σ[i]? = some (some v)) : Inv X pins σ' H s :=
  ⟨I.ok, I.os, I.bare, I.base, let ⟨m, hn, hl'⟩ := I.loc; ⟨m, hn, fun i x v e1 e2 e3 => hl' i x v e1 (w i v e2) e3⟩, I.cell, I.free, I.freeC, I.pin, I.hok, hl.trans I.len⟩
theorem Inv.pins_of {pins' : List (Addr × Obj)} (I : Inv X pins σ H s) (h : ∀ p ∈ pins', s.heap.get? p.1 = some p.2 ∧ H p.1 = none ∧ p.1 ≠ X.env.locals ∧ p.1 ∉ X.fs ∧ ∀ v, p.2.data ≠ .cell v) : Inv X pins' σ H s :=
  ⟨I.ok, I.os, I.bare, I.base, I.loc, I.cell, I.free, I.freeC, fun p hp => (List.mem_append.mp hp).elim (fun z => I.pin p (List.mem_append_left _ z)) (h p), I.hok, I.len⟩
theorem nodup_ix {N : List Str} (hN : N.Nodup) {i j : Nat} {x : Str} (a : N[i]? = some x) (b : N[j]? = some x) : i = j := by
  obtain ⟨h1, e1⟩ := List.getElem?_eq_some_iff.mp a
  obtain ⟨h2, e2⟩ := List.getElem?_eq_some_iff.mp b
  exact (List.getElem_inj hN).mp (e1.trans e2.symm)
/-- a name is stored; what changed -/
theorem store_ok2 {M : Model} {A : Around} {E : Value → Shared → Prop} {i : Nat} {x : Str} {v : V} {u : Value} {Q : Unit → Shared → Prop} (I : Inv X pins σ H s) (hN : X.N.Nodup) (hi : X.N[i]? = some x) (hx : Loc X.env.scope x) (r : RelV v u)
    (h : ∀ s', Inv X pins (σ.set i (some v)) H s' → (∃ a, Heap.SameBut a s.heap s'.heap ∧ (a = X.env.locals ∨ X.env.cells.lookup x = some a)) → Q () s') (hf : X.fn x = true ∨ X.env.scope.names.lookup x = some .local := by first | exact .inl rfl | exact .inr rfl | assumption) : wpAny M A (storeName X.env x u) Q E s := by
  obtain ⟨m, hn, hl⟩ := id I.loc
  have hcls : (X.env.scope.kind == .class || (X.env.scope.kind == .module && X.env.locals != X.env.globals)) = false := by rw [I.ok.kind]; rfl
  have hiσ : i < σ.length := by rw [I.len]; exact (List.getElem?_eq_some_iff.mp hi).1
  have cne := I.cne
  have tracked : ∀ {a : Addr} {h' : Heap}, (∃ o, s.heap.get? a = some o ∧ H a = none) → Heap.SameBut a s.heap h' → HOk X.prog X.w H h' := fun {a h'} ha hs b ob e => by
    obtain ⟨_, _, hfree⟩ := ha
    refine (I.hok b ob e).stay (fun c w' hc q => (hs.2 c ?_).trans q) (fun _ q => q) fun _ _ q => q
    rintro rfl
    rcases hc with rfl | hc
    · rw [hfree] at e; cases e
    · rw [hfree] at hc; cases hc
  rcases hx with hk | hk
  · refine wpAny_storeName_local hk hn (fun h' hn' hs => ?_) hcls
    obtain ⟨oL, _, _, hoL, _⟩ := id hn
    refine h _ ⟨I.ok, I.os, I.bare, ⟨fun b o e n hb hx => ?_, fun b o e n hb hx => ?_, I.base.free, fun b o e hx => ?_, I.base.tups, I.base.frzs, I.base.tbls⟩, ⟨_, hn', fun j y v' e1 e2 e3 => ?_⟩, fun y c e => ?_, I.free, I.freeC, fun p hp => ?_, tracked ⟨oL, hoL, I.free⟩ hs, by simpa using I.len⟩ ⟨_, hs, .inl rfl⟩
    · exact (hs.2 b (Nat.ne_of_lt (Nat.lt_of_lt_of_le (Heap.lt_size e) I.ok.above))).trans (I.base.keep b o e n hb hx)
    · obtain ⟨sl, e1⟩ := I.base.slot b o e n hb hx
      exact ⟨sl, (hs.2 b (Nat.ne_of_lt (Nat.lt_of_lt_of_le (Heap.lt_size e) I.ok.above))).trans e1⟩
    · obtain ⟨o', e1⟩ := I.base.there b o e hx
      exact ⟨o', (hs.2 b (Nat.ne_of_lt (Nat.lt_of_lt_of_le (Heap.lt_size e) I.ok.above))).trans e1⟩
    · by_cases hj : j = i
      · subst hj
        rw [hi] at e1; cases e1
        rw [List.getElem?_set_self hiσ] at e2
        cases e2
        exact ⟨u, r, .inl ⟨hk, by simp⟩⟩
      · rw [List.getElem?_set_ne (Ne.symm hj)] at e2
        obtain ⟨u', r', q⟩ := hl j y v' e1 e2 e3
        refine ⟨u', r', ?_⟩
        rcases q with ⟨k, e⟩ | ⟨k, c, e, z⟩
        · refine .inl ⟨k, ?_⟩
          have : y ≠ x := fun e => hj (nodup_ix hN e1 (e ▸ hi))
          simp [this, e]
        · exact .inr ⟨k, c, e, z.sameBut hs (cne y c e)⟩
    · obtain ⟨w', z⟩ := I.cell y c e
      exact ⟨w', z.sameBut hs (cne y c e)⟩
    · obtain ⟨e, n, ne, nf, d⟩ := I.pin p hp
      exact ⟨(hs.2 p.1 ne).trans e, n, ne, nf, d⟩
  · have hfn : X.fn x = true := by
      rcases hf with z | z
      · exact z
      · rw [z] at hk; cases hk
    obtain ⟨c, hc⟩ := I.ok.has x (.inl hk)
    obtain ⟨w', z⟩ := I.cell x c hc
    refine wpAny_storeName_cell I.ok.kind hk hc z (fun h' hc' hs => ?_)
    obtain ⟨oc, hoc, hocd⟩ := id z
    refine h { s with heap := h' } ⟨I.ok, I.os, I.bare, ⟨fun b o e n hb hx => ?_, fun b o e n hb hx => ?_, I.base.free, fun b o e hx => ?_, I.base.tups, I.base.frzs, I.base.tbls⟩, ⟨m, hn.sameBut hs (Ne.symm (cne x c hc)), fun j y v' e1 e2 e3 => ?_⟩, fun y c' e => ?_, I.free, I.freeC, fun p hp => ?_, tracked ⟨oc, hoc, I.freeC x c hc⟩ hs, by simpa using I.len⟩ ⟨c, hs, .inr hc⟩
    · exact (hs.2 b (Nat.ne_of_lt (Nat.lt_of_lt_of_le (Heap.lt_size e) (I.ok.cab x c hfn hc)))).trans (I.base.keep b o e n hb hx)
    · obtain ⟨sl, e1⟩ := I.base.slot b o e n hb hx
      exact ⟨sl, (hs.2 b (Nat.ne_of_lt (Nat.lt_of_lt_of_le (Heap.lt_size e) (I.ok.cab x c hfn hc)))).trans e1⟩
    · obtain ⟨o', e1⟩ := I.base.there b o e hx
      exact ⟨o', (hs.2 b (Nat.ne_of_lt (Nat.lt_of_lt_of_le (Heap.lt_size e) (I.ok.cab x c hfn hc)))).trans e1⟩
    · by_cases hj : j = i
      · subst hj
        rw [hi] at e1; cases e1
        rw [List.getElem?_set_self hiσ] at e2
        cases e2
        exact ⟨u, r, .inr ⟨.inl hk, c, hc, hc'⟩⟩
      · rw [List.getElem?_set_ne (Ne.symm hj)] at e2
        obtain ⟨u', r', q⟩ := hl j y v' e1 e2 e3
        refine ⟨u', r', ?_⟩
        rcases q with q | ⟨k, c', e, z'⟩
        · exact .inl q
        · refine .inr ⟨k, c', e, z'.sameBut hs ?_⟩
          rintro rfl
          exact hj (nodup_ix hN e1 (I.ok.inj _ _ _ e hc ▸ hi))
    · by_cases hcc : c' = c
      · subst hcc; exact ⟨_, hc'⟩
      · obtain ⟨w2, z2⟩ := I.cell y c' e
        exact ⟨w2, z2.sameBut hs hcc⟩
    · obtain ⟨e, n, ne, nf, d⟩ := I.pin p hp
      refine ⟨(hs.2 p.1 ?_).trans e, n, ne, nf, d⟩
      intro q
      rw [q, hoc] at e
      have q' : oc = p.2 := Option.some.inj e
      exact d w' (by rw [← q']; exact hocd)
theorem store_ok {M : Model} {A : Around} {E : Value → Shared → Prop} {i : Nat} {x : Str} {v : V} {u : Value} {Q : Unit → Shared → Prop} (I : Inv X pins σ H s) (hN : X.N.Nodup) (hi : X.N[i]? = some x) (hx : Loc X.env.scope x) (r : RelV v u)
    (h : ∀ s', Inv X pins (σ.set i (some v)) H s' → Q () s') (hf : X.fn x = true ∨ X.env.scope.names.lookup x = some .local := by first | exact .inl rfl | exact .inr rfl | assumption) : wpAny M A (storeName X.env x u) Q E s :=
  store_ok2 I hN hi hx r (fun s' I' _ => h s' I') hf
/-- behind a call or a block, the state as it is -/
theorem Inv.call' {s' : Shared} {ch : List Addr} (I : Inv X pins σ H s) (ho : s'.os = s.os) (u : Un (frs X.stack) ch H H' s.heap s'.heap) (hok : HOk X.prog X.w H' s'.heap) (hg : AllBare s'.gens)
    (hch : ∀ b ∈ ch, (b ∈ X.ex ∨ X.s₀.heap.objs.size ≤ b) ∧ b ≠ X.env.locals ∧ (∀ x c, X.env.cells.lookup x = some c → c ≠ b) ∧ ∀ p ∈ X.pn ++ pins, p.1 ≠ b) : Inv X pins σ H' s' := by
  obtain ⟨h', g', d', t', o'⟩ := s'
  have e : o' = s.os := ho
  subst e
  exact I.call (g' := g') (t' := t') (d' := d') u hok hg hch
end
/-! ### the judgements -/
/-- an exception: its class, its own dict's address (where it has one), the abstract heap behind it -/
abbrev XK := Value → Option Addr → Hp → Prop
abbrev St := List (Option V)
abbrev VK := V → Hp → Prop
/-- an expression's reading; a test's; an argument list's -/
abbrev TE := St → Hp → VK → Prop
abbrev TT := St → Hp → (Bool → Hp → Prop) → Prop
abbrev TA := St → Hp → (List V → Hp → Prop) → Prop
/-- what is wanted behind a statement -/
structure Ends where
  nx : St → Hp → Prop
  rt : VK
  bk : St → Hp → Prop := fun _ _ => False
  ct : St → Hp → Prop := fun _ _ => False
abbrev TS := Ends → St → Hp → Prop
def EP (X : Cx) (pins : List (Addr × Obj)) (σ : St) (Q : VK) (u : Value) (s' : Shared) : Prop := ∃ v H', Inv X pins σ H' s' ∧ RelV v u ∧ Q v H'
def TP (X : Cx) (pins : List (Addr × Obj)) (σ : St) (Q : Bool → Hp → Prop) (b : Bool) (s' : Shared) : Prop := ∃ H', Inv X pins σ H' s' ∧ Q b H'
def AP (X : Cx) (pins : List (Addr × Obj)) (σ : St) (Q : List V → Hp → Prop) (us : List Value) (s' : Shared) : Prop := ∃ vs H', Inv X pins σ H' s' ∧ Vals vs us ∧ Q vs H'
def SP (X : Cx) (pins : List (Addr × Obj)) (D : Ends) (f : Flow) (s' : Shared) : Prop :=
  match f with
  | .next => ∃ σ' H', Inv X pins σ' H' s' ∧ D.nx σ' H'
  | .brk => ∃ σ' H', Inv X pins σ' H' s' ∧ D.bk σ' H'
  | .cont => ∃ σ' H', Inv X pins σ' H' s' ∧ D.ct σ' H'
  | .ret u => ∃ v σ' H', Inv X pins σ' H' s' ∧ RelV v u ∧ D.rt v H'
def PE (X : Cx) (e : Expr) (t : TE) : Prop :=
  ∀ (pins : List (Addr × Obj)) (s : Shared) (σ : St) (H : Hp) (Q : VK), Inv X pins σ H s → t σ H Q → wpAny (model X.prog X.w) X.A (eval e X.env) (EP X pins σ Q) X.xe s
def PT (X : Cx) (e : Expr) (t : TT) : Prop :=
  ∀ (pins : List (Addr × Obj)) (s : Shared) (σ : St) (H : Hp) (Q : Bool → Hp → Prop), Inv X pins σ H s → t σ H Q → wpAny (model X.prog X.w) X.A (isTrue e X.env (eval e X.env)) (TP X pins σ Q) X.xe s
/-- a test whatever its 'whole' is (and, or) -/
def PW (X : Cx) (e : Expr) (t : TT) : Prop :=
  ∀ (whole : Sem Value) (pins : List (Addr × Obj)) (s : Shared) (σ : St) (H : Hp) (Q : Bool → Hp → Prop), Inv X pins σ H s → t σ H Q → wpAny (model X.prog X.w) X.A (isTrue e X.env whole) (TP X pins σ Q) X.xe s
theorem PW.pt {X : Cx} {e : Expr} {t : TT} (h : PW X e t) : PT X e t := h _
/-- an argument list (no star), from the left -/
def PA (X : Cx) (es : List Expr) (t : TA) : Prop :=
  ∀ (pos : Pos) (pins : List (Addr × Obj)) (s : Shared) (σ : St) (H : Hp) (Q : List V → Hp → Prop), Inv X pins σ H s → t σ H Q → wpAny (model X.prog X.w) X.A (spliced (backTo pos (starEach es X.env))) (AP X pins σ Q) X.xe s
def PS (X : Cx) (st : Stmt) (t : TS) : Prop :=
  ∀ (pins : List (Addr × Obj)) (s : Shared) (σ : St) (H : Hp) (D : Ends), Inv X pins σ H s → t D σ H → wpAny (model X.prog X.w) X.A (exec st X.env) (SP X pins D) X.xe s
def PSs (X : Cx) (st : List Stmt) (t : TS) : Prop :=
  ∀ (pins : List (Addr × Obj)) (s : Shared) (σ : St) (H : Hp) (D : Ends), Inv X pins σ H s → t D σ H → wpAny (model X.prog X.w) X.A (execs st X.env) (SP X pins D) X.xe s
/-- weaken the end -/
theorem thn {α : Type} {t : Sem α} {Q Q' : α → Shared → Prop} {M : Model} {A : Around} {E : Value → Shared → Prop} {s : Shared} (h : wpAny M A t Q E s) (hQ : ∀ a s, Q a s → Q' a s) : wpAny M A t Q' E s := wpAny_mono h hQ fun _ _ x => x
end L2
namespace L2
open PySem PySem.Spec PyProof.Rows
section
variable {X : Cx}
/-- two expressions in a row -/
theorem bin {a b : Expr} {ta tb : TE} (ha : PE X a ta) (hb : PE X b tb) {pins : List (Addr × Obj)} {s : Shared} {σ : St} {H : Hp} {R : V → V → Hp → Prop} (I : Inv X pins σ H s) (h : ta σ H fun x H1 => tb σ H1 fun y H2 => R x y H2)
    {α : Type} {Q : α → Shared → Prop} {f : Value → Value → Sem α}
    (hf : ∀ v u s2 x y H2, Inv X pins σ H2 s2 → RelV x v → RelV y u → R x y H2 → wpAny (model X.prog X.w) X.A (f v u) Q X.xe s2) :
    wpAny (model X.prog X.w) X.A (eval a X.env) (fun v s₁ => wpAny (model X.prog X.w) X.A (eval b X.env) (fun u s₂ => wpAny (model X.prog X.w) X.A (f v u) Q X.xe s₂) X.xe s₁) X.xe s := by
  refine thn (ha pins s σ H _ I h) fun v s1 ⟨x, H1, I1, r1, q1⟩ => ?_
  refine thn (hb pins s1 σ H1 _ I1 q1) fun u s2 ⟨y, H2, I2, r2, q2⟩ => ?_
  exact hf v u s2 x y H2 I2 r1 r2 q2
/-! ### names and constants -/
def tVar (i : Nat) : TE := fun σ H Q => ∃ v, σ[i]? = some (some v) ∧ Q v H
def tC (v : V) : TE := fun _ H Q => Q v H
theorem pe_var {i : Nat} {x : Str} {pos : Pos} (hN : X.N[i]? = some x) (hv : Vis X.env.scope x) (hd : (x == ("__debug__" : Str)) = false := by decide) (hcd : (x == ("__classdict__" : Str)) = false := by decide) : PE X (.Name x pos) (tVar i) := by
  intro pins s σ H Q I h
  obtain ⟨v, e, h⟩ := h
  obtain ⟨m, hn, hl⟩ := I.loc
  obtain ⟨u, r, l⟩ := hl i x v hN e hv
  have fin : EP X pins σ Q u s := ⟨v, H, I, r, h⟩
  rcases l with ⟨hk, hm⟩ | ⟨hk, c, hc, hcell⟩
  · exact wpAny_Name (wpAny_loadName_local I.ok.kind hk hn hm fin) hd
  · rcases hk with hk | hk
    · exact wpAny_Name (wpAny_loadName_cell I.ok.kind hk hc hcell fin) hd
    · exact wpAny_Name (wpAny_loadName_free I.ok.kind hk hc hcell fin hcd) hd
theorem pe_int {i j pos} : PE X (.Constant (.int i) j pos) (tC (.int i)) := fun _ _ _ H _ I h => wpAny_Constant_int ⟨.int i, H, I.tok _, ⟨_, rfl⟩, h⟩
theorem pe_bl {b j pos} : PE X (.Constant (.bool b) j pos) (tC (.bl b)) := fun _ _ _ H _ I h => Constant_bool ⟨.bl b, H, I, rfl, h⟩
theorem pe_non {j pos} : PE X (.Constant .none j pos) (tC .non) := fun _ _ _ H _ I h => Constant_none ⟨.non, H, I, rfl, h⟩
theorem pe_str {x j pos} : PE X (.Constant (.str x) j pos) (tC (.str x)) := fun _ _ _ H _ I h => Calls.Constant_str ⟨.str x, H, I.tok _, ⟨_, rfl⟩, h⟩
/-- a global name of the def -/
def Gl (X : Cx) (x : Str) : Prop := X.env.kindOf x = some .globalImplicit
theorem ld_glob {E : Value → Shared → Prop} {pins : List (Addr × Obj)} {s : Shared} {σ : St} {H : Hp} {x : Str} {u : Value} {pos : Pos} {Q : Value → Shared → Prop} (I : Inv X pins σ H s) (hg : Gl X x) (hm : X.mg x = some u) (h : Q u s)
    (hd : (x == ("__debug__" : Str)) = false := by decide) : wpAny (model X.prog X.w) X.A (eval (.Name x pos) X.env) Q E s :=
  Calls.Name_function_global I.ok.kind hg (Calls.loadGlobal_global (by rw [I.ok.glob]; exact I.mod.glob.keeps I.bk) hm h) hd
theorem ld_blt {E : Value → Shared → Prop} {pins : List (Addr × Obj)} {s : Shared} {σ : St} {H : Hp} {x : Str} {u : Value} {pos : Pos} {Q : Value → Shared → Prop} (I : Inv X pins σ H s) (hg : Gl X x) (hm : X.mg x = none) (hv : bootBuiltins x = some u) (h : Q u s)
    (hn : x ≠ "__name__" := by decide) (hd : (x == ("__debug__" : Str)) = false := by decide) : wpAny (model X.prog X.w) X.A (eval (.Name x pos) X.env) Q E s := by
  obtain ⟨mb, h1, h2⟩ := I.mod.blt
  exact Calls.Name_function_global I.ok.kind hg (Calls.loadGlobal_builtin (by rw [I.ok.glob]; exact I.mod.glob.keeps I.bk) hm (by rw [I.ok.blt]; exact h1.keeps I.bk) ((h2 x hn).trans hv) h) hd
/-- a module's constant, a class, a function, as a value -/
theorem pe_glob {x : Str} {v : V} {u : Value} {pos : Pos} (hg : Gl X x) (hm : X.mg x = some u) (r : RelV v u) (hd : (x == ("__debug__" : Str)) = false := by decide) : PE X (.Name x pos) (tC v) :=
  fun _ _ _ H _ I h => ld_glob I hg hm ⟨v, H, I, r, h⟩ hd
theorem pe_bltn {x : Str} {v : V} {u : Value} {pos : Pos} (hg : Gl X x) (hm : X.mg x = none) (hv : bootBuiltins x = some u) (r : RelV v u) (hn : x ≠ "__name__" := by decide) (hd : (x == ("__debug__" : Str)) = false := by decide) : PE X (.Name x pos) (tC v) :=
  fun _ _ _ H _ I h => ld_blt I hg hm hv ⟨v, H, I, r, h⟩ hn hd
/-! ### arithmetic -/
/-- two ints -/
def t2I (ta tb : TE) (k : Int → Int → Hp → Prop) : St → Hp → Prop := fun σ H => ta σ H fun x H1 => tb σ H1 fun y H2 => ∃ i j, x = .int i ∧ y = .int j ∧ k i j H2
def tAdd (ta tb : TE) : TE := fun σ H Q => t2I ta tb (fun i j H2 => Q (.int (i + j)) H2) σ H
def tSub (ta tb : TE) : TE := fun σ H Q => t2I ta tb (fun i j H2 => Q (.int (i - j)) H2) σ H
/-- the left factor below 2^64 -/
def tMul (ta tb : TE) : TE := fun σ H Q => t2I ta tb (fun i j H2 => (-(2 ^ 64) < i ∧ i < 2 ^ 64) ∧ Q (.int (i * j)) H2) σ H
variable {a b : Expr} {ta tb : TE} {pos : Pos}
theorem pe_add (ha : PE X a ta) (hb : PE X b tb) : PE X (.BinOp a .Add b pos) (tAdd ta tb) := by
  intro pins s σ H Q I h
  refine wpAny_BinOp (bin ha hb I h fun v u s2 x y H2 I2 rx ry q => ?_)
  obtain ⟨i, j, rfl, rfl, q⟩ := q
  obtain ⟨t, rfl⟩ := rx
  obtain ⟨t', rfl⟩ := ry
  exact add_int ⟨.int _, H2, I2.tok _, ⟨_, rfl⟩, q⟩
theorem pe_sub (ha : PE X a ta) (hb : PE X b tb) : PE X (.BinOp a .Sub b pos) (tSub ta tb) := by
  intro pins s σ H Q I h
  refine wpAny_BinOp (bin ha hb I h fun v u s2 x y H2 I2 rx ry q => ?_)
  obtain ⟨i, j, rfl, rfl, q⟩ := q
  obtain ⟨t, rfl⟩ := rx
  obtain ⟨t', rfl⟩ := ry
  exact sub_int ⟨.int _, H2, I2.tok _, ⟨_, rfl⟩, q⟩
theorem pe_mul (ha : PE X a ta) (hb : PE X b tb) : PE X (.BinOp a .Mult b pos) (tMul ta tb) := by
  intro pins s σ H Q I h
  refine wpAny_BinOp (bin ha hb I h fun v u s2 x y H2 I2 rx ry q => ?_)
  obtain ⟨i, j, rfl, rfl, ⟨q1, q2⟩, q⟩ := q
  obtain ⟨t, rfl⟩ := rx
  obtain ⟨t', rfl⟩ := ry
  exact mul_int ⟨.int _, H2, I2.tok _, ⟨_, rfl⟩, q⟩ (.of_left (intBits_le_64 q1 q2))
/-! ### comparisons -/
def PC (X : Cx) (op : CmpOp) (a b : Expr) (t : TE) : Prop :=
  ∀ (pins : List (Addr × Obj)) (s : Shared) (σ : St) (H : Hp) (Q : VK), Inv X pins σ H s → t σ H Q →
    wpAny (model X.prog X.w) X.A (eval a X.env) (fun v s₁ => wpAny (model X.prog X.w) X.A (eval b X.env) (fun u s₂ => wpAny (model X.prog X.w) X.A (compareOp op v u) (EP X pins σ Q) X.xe s₂) X.xe s₁) X.xe s
theorem nobehind (b : Expr) {op : CmpOp} (h : op ≠ .In) (h2 : op ≠ .NotIn) : behindInMarks op b = false := by
  have e1 : (op == CmpOp.In) = false := by cases op <;> first | rfl | exact absurd rfl h
  have e2 : (op == CmpOp.NotIn) = false := by cases op <;> first | rfl | exact absurd rfl h2
  cases b <;> simp [behindInMarks, e1, e2]
def tCmp (p : Int → Int → Bool) (ta tb : TE) : TE := fun σ H Q => t2I ta tb (fun i j H2 => Q (.bl (p i j)) H2) σ H
abbrev tLt : TE → TE → TE := tCmp fun i j => decide (i < j)
abbrev tLe : TE → TE → TE := tCmp fun i j => decide (i ≤ j)
abbrev tGt : TE → TE → TE := tCmp fun i j => decide (j < i)
abbrev tGe : TE → TE → TE := tCmp fun i j => decide (j ≤ i)
abbrev tEqI : TE → TE → TE := tCmp fun i j => decide (i = j)
abbrev tNeI : TE → TE → TE := tCmp fun i j => !decide (i = j)
/-- a comparison of two ints, by its rule -/
theorem pc_int {op : CmpOp} {p : Int → Int → Bool} (ha : PE X a ta) (hb : PE X b tb)
    (rule : ∀ (i j : Int) (t u : Tok) (Q : Value → Shared → Prop) (s : Shared), Q (.bool (p i j)) s → wpAny (model X.prog X.w) X.A (compareOp op (.int i t) (.int j u)) Q X.xe s) : PC X op a b (tCmp p ta tb) := by
  intro pins s σ H Q I h
  refine bin ha hb I h fun v u s2 x y H2 I2 rx ry q => ?_
  obtain ⟨i, j, rfl, rfl, q⟩ := q
  obtain ⟨t, rfl⟩ := rx
  obtain ⟨t', rfl⟩ := ry
  exact rule i j t t' _ s2 ⟨.bl _, H2, I2, rfl, q⟩
theorem pc_lt (ha : PE X a ta) (hb : PE X b tb) : PC X .Lt a b (tLt ta tb) := pc_int ha hb fun _ _ _ _ _ _ h => lt_int h
theorem pc_le (ha : PE X a ta) (hb : PE X b tb) : PC X .LtE a b (tLe ta tb) := pc_int ha hb fun _ _ _ _ _ _ h => le_int h
theorem pc_gt (ha : PE X a ta) (hb : PE X b tb) : PC X .Gt a b (tGt ta tb) := pc_int ha hb fun _ _ _ _ _ _ h => gt_int h
theorem pc_ge (ha : PE X a ta) (hb : PE X b tb) : PC X .GtE a b (tGe ta tb) := pc_int ha hb fun _ _ _ _ _ _ h => ge_int h
theorem pc_eqI (ha : PE X a ta) (hb : PE X b tb) : PC X .Eq a b (tEqI ta tb) := pc_int ha hb fun _ _ _ _ _ _ h => eq_int (by rw [Bool.beq_eq_decide_eq]; exact h)
theorem pc_neI (ha : PE X a ta) (hb : PE X b tb) : PC X .NotEq a b (tNeI ta tb) := pc_int ha hb fun _ _ _ _ _ _ h => ne_int (by rw [bne, Bool.beq_eq_decide_eq]; exact h)
/-- is None -/
def tIsN (ta : TE) : TE := fun σ H Q => ta σ H fun x H1 => Q (.bl (decide (x = .non))) H1
def tNotN (ta : TE) : TE := fun σ H Q => ta σ H fun x H1 => Q (.bl (!decide (x = .non))) H1
theorem RelV.none_iff {x : V} {v : Value} (r : RelV x v) : (v == Value.none) = decide (x = .non) := by
  cases x with
  | non => cases r; rfl
  | bl _ => cases r; rfl
  | int _ => obtain ⟨t, rfl⟩ := r; rfl
  | str _ => obtain ⟨t, rfl⟩ := r; rfl
  | byt _ => obtain ⟨t, rfl⟩ := r; rfl
  | flt _ => obtain ⟨t, rfl⟩ := r; rfl
  | ref _ => cases r; rfl
  | ty _ => cases r; rfl
theorem pc_isN {j pos'} (ha : PE X a ta) : PC X .Is a (.Constant .none j pos') (tIsN ta) := by
  intro pins s σ H Q I h
  refine thn (ha pins s σ H _ I h) fun v s1 ⟨x, H1, I1, r1, q1⟩ => ?_
  exact Constant_none (is_none_gen ⟨.bl _, H1, I1, by rw [r1.none_iff]; rfl, q1⟩)
theorem pc_notN {j pos'} (ha : PE X a ta) : PC X .IsNot a (.Constant .none j pos') (tNotN ta) := by
  intro pins s σ H Q I h
  refine thn (ha pins s σ H _ I h) fun v s1 ⟨x, H1, I1, r1, q1⟩ => ?_
  exact Constant_none (isnot_none_gen ⟨.bl _, H1, I1, by rw [r1.none_iff]; rfl, q1⟩)
/-- a comparison as a value, as a test -/
def tB (t : TE) : TT := fun σ H Q => t σ H fun x H1 => ∃ c, x = .bl c ∧ Q c H1
theorem pe_cmp {op : CmpOp} {t : TE} (h : PC X op a b t) (h1 : behindInMarks op b = false := by first | exact nobehind _ (by decide) (by decide) | rfl) : PE X (.Compare a [op] [b] pos) t := fun pins s σ H Q I hw => wpAny_Compare1 (h pins s σ H Q I hw) h1
theorem pt_cmp {op : CmpOp} {t : TE} (h : PC X op a b t) (h1 : behindInMarks op b = false := by first | exact nobehind _ (by decide) (by decide) | rfl) : PT X (.Compare a [op] [b] pos) (tB t) := by
  intro pins s σ H Q I hw
  refine wpAny_isTrue_Compare1 (thn (h pins s σ H _ I hw) fun v s1 h1 => thn h1 fun u s2 h2 => thn h2 fun c s3 ⟨x, H1, I1, r1, q1⟩ => ?_) h1
  obtain ⟨d, rfl, q⟩ := q1
  cases r1
  exact wpAny_truthy_bool ⟨H1, I1, q⟩
/-- an expression whose value is a bool, as a test -/
theorem pt_val {e : Expr} {t : TE} (h : PE X e t) (he : ∀ whole, isTrue e X.env whole = (do let v ← whole; standAt e.pos; holding [v] (truthy v)) := by intro _; rfl) : PT X e (tB t) := by
  intro pins s σ H Q I hw
  refine isTrue_plain (thn (h pins s σ H _ I hw) fun v s1 ⟨x, H1, I1, r1, q1⟩ => ?_) (he _)
  obtain ⟨d, rfl, q⟩ := q1
  cases r1
  exact wpAny_truthy_bool ⟨H1, I1, q⟩
/-! ### and, or, not -/
variable {tA tB' : TT} {rest : List Expr}
def tAnd (t u : TT) : TT := fun σ H Q => t σ H fun c H1 => if c = true then u σ H1 Q else Q false H1
def tOr (t u : TT) : TT := fun σ H Q => t σ H fun c H1 => if c = true then Q true H1 else u σ H1 Q
def tNot (t : TT) : TT := fun σ H Q => t σ H fun c H1 => Q (!c) H1
theorem pw_and1 (ha : PT X a tA) : PW X (.BoolOp .And [a] pos) tA := by
  intro wh pins s σ H Q I h
  refine isTrue_and (thn (ha pins s σ H Q I h) fun c s1 e => ?_)
  cases c with
  | true => exact isTrue_and_nil e
  | false => exact e
theorem pw_or1 (ha : PT X a tA) : PW X (.BoolOp .Or [a] pos) tA := by
  intro wh pins s σ H Q I h
  refine isTrue_or (thn (ha pins s σ H Q I h) fun c s1 e => ?_)
  cases c with
  | false => exact isTrue_or_nil e
  | true => exact e
theorem pw_and (ha : PT X a tA) (hb : PW X (.BoolOp .And (b :: rest) pos) tB') : PW X (.BoolOp .And (a :: b :: rest) pos) (tAnd tA tB') := by
  intro wh pins s σ H Q I h
  refine isTrue_and (thn (ha pins s σ H _ I h) fun c s1 ⟨H1, I1, q1⟩ => ?_)
  cases c with
  | true => exact hb wh pins s1 σ H1 Q I1 q1
  | false => exact ⟨H1, I1, q1⟩
theorem pw_or (ha : PT X a tA) (hb : PW X (.BoolOp .Or (b :: rest) pos) tB') : PW X (.BoolOp .Or (a :: b :: rest) pos) (tOr tA tB') := by
  intro wh pins s σ H Q I h
  refine isTrue_or (thn (ha pins s σ H _ I h) fun c s1 ⟨H1, I1, q1⟩ => ?_)
  cases c with
  | true => exact ⟨H1, I1, q1⟩
  | false => exact hb wh pins s1 σ H1 Q I1 q1
theorem pt_not (ha : PT X a tA) : PT X (.UnaryOp .Not a pos) (tNot tA) := by
  intro pins s σ H Q I h
  exact isTrue_not (ha pins s σ H (fun c H1 => Q (!c) H1) I h)
/-- .. as values (bools) -/
def tAndV (ta tb : TE) : TE := fun σ H Q => ta σ H fun x H1 => ∃ c, x = .bl c ∧ if c = true then tb σ H1 Q else Q (.bl false) H1
def tOrV (ta tb : TE) : TE := fun σ H Q => ta σ H fun x H1 => ∃ c, x = .bl c ∧ if c = true then Q (.bl true) H1 else tb σ H1 Q
def tNotV (ta : TE) : TE := fun σ H Q => ta σ H fun x H1 => ∃ c, x = .bl c ∧ Q (.bl (!c)) H1
theorem pe_one {op} {t : TE} (h : PE X a t) : PE X (.BoolOp op [a] pos) t := fun pins s σ H Q I hw => BoolOp_one (h pins s σ H Q I hw)
theorem pe_and (ha : PE X a ta) (hb : PE X (.BoolOp .And (b :: rest) pos) tb) : PE X (.BoolOp .And (a :: b :: rest) pos) (tAndV ta tb) := by
  intro pins s σ H Q I h
  refine BoolOp_and (thn (ha pins s σ H _ I h) fun v s1 ⟨x, H1, I1, r1, q1⟩ => ?_)
  obtain ⟨c, rfl, q1⟩ := q1
  cases r1
  refine wpAny_truthy_bool ?_
  cases c with
  | true => exact hb pins s1 σ H1 Q I1 q1
  | false => exact ⟨.bl false, H1, I1, rfl, q1⟩
theorem pe_or (ha : PE X a ta) (hb : PE X (.BoolOp .Or (b :: rest) pos) tb) : PE X (.BoolOp .Or (a :: b :: rest) pos) (tOrV ta tb) := by
  intro pins s σ H Q I h
  refine BoolOp_or (thn (ha pins s σ H _ I h) fun v s1 ⟨x, H1, I1, r1, q1⟩ => ?_)
  obtain ⟨c, rfl, q1⟩ := q1
  cases r1
  refine wpAny_truthy_bool ?_
  cases c with
  | false => exact hb pins s1 σ H1 Q I1 q1
  | true => exact ⟨.bl true, H1, I1, rfl, q1⟩
theorem pe_not (ha : PE X a ta) : PE X (.UnaryOp .Not a pos) (tNotV ta) := by
  intro pins s σ H Q I h
  refine UnaryOp_ (thn (ha pins s σ H _ I h) fun v s1 ⟨x, H1, I1, r1, q1⟩ => ?_)
  obtain ⟨c, rfl, q1⟩ := q1
  cases r1
  exact not_of (wpAny_truthy_bool ⟨.bl (!c), H1, I1, rfl, q1⟩)
/-- a if t else b -/
def tIf (t : TT) (ta tb : TE) : TE := fun σ H Q => t σ H fun c H1 => if c = true then ta σ H1 Q else tb σ H1 Q
theorem pe_ifExp {c : Expr} (hc : PT X c tA) (ha : PE X a ta) (hb : PE X b tb) : PE X (.IfExp c a b pos) (tIf tA ta tb) := by
  intro pins s σ H Q I h
  refine wpAny_IfExp (thn (hc pins s σ H _ I h) fun d s1 ⟨H1, I1, q1⟩ => ?_)
  cases d with
  | true => exact ha pins s1 σ H1 Q I1 q1
  | false => exact hb pins s1 σ H1 Q I1 q1
end
end L2
namespace L2
open PySem PySem.Spec PyProof.Rows
/-! ### a list, a tuple that is read: tracked, frozen, or an object of the module -/
def SqL (K : PySem.W.Frag) (H : Hp) (a : Addr) (xs : List V) : Prop :=
  Rd H a (.lst xs) ∨
    ∃ (o : Obj) (its : Array Value) (n : Nat), K.lookup a = some o ∧ o.cls = .type "list" ∧ o.dict = none ∧ o.data = .seq its n ∧ its.size ≤ sizeLine ∧ Vals xs its.toList
def SqT (K : PySem.W.Frag) (H : Hp) (a : Addr) (xs : List V) : Prop :=
  Rd H a (.tup xs) ∨
    ∃ (o : Obj) (its : Array Value) (n : Nat), K.lookup a = some o ∧ o.cls = .type "tuple" ∧ o.data = .seq its n ∧ its.size ≤ sizeLine ∧ Vals xs its.toList
def absV : Value → Option V
  | .none => some .non
  | .bool b => some (.bl b)
  | .int i _ => some (.int i)
  | .str x _ => some (.str x)
  | .bytes b _ => some (.byt b)
  | .float b _ => some (.flt b)
  | .ref a => some (.ref a)
  | .type n => some (.ty n)
  | _ => none
theorem RelV.abs {x : V} {u : Value} (r : RelV x u) : absV u = some x := by
  cases x with
  | non => cases r; rfl
  | bl _ => cases r; rfl
  | int _ => obtain ⟨t, rfl⟩ := r; rfl
  | str _ => obtain ⟨t, rfl⟩ := r; rfl
  | byt _ => obtain ⟨t, rfl⟩ := r; rfl
  | flt _ => obtain ⟨t, rfl⟩ := r; rfl
  | ref _ => cases r; rfl
  | ty _ => cases r; rfl
theorem RelV.inj {x y : V} {u : Value} (r : RelV x u) (q : RelV y u) : x = y := Option.some.inj (r.abs.symm.trans q.abs)
theorem Vals.inj : ∀ {xs ys : List V} {us : List Value}, Vals xs us → Vals ys us → xs = ys
  | _, _, _, .nil, .nil => rfl
  | _, _, _, .cons r t, .cons r' t' => by rw [r.inj r', Vals.inj t t']
section
variable {X : Cx} {pins : List (Addr × Obj)} {σ : St} {H : Hp} {s : Shared} {a : Addr} {xs ys : List V}
theorem SqL.of {K : PySem.W.Frag} (h : H a = some (.lst xs)) : SqL K H a xs := .inl (.inl h)
theorem SqT.of {K : PySem.W.Frag} (h : H a = some (.tup xs)) : SqT K H a xs := .inl (.inl h)
theorem Inv.list (I : Inv X pins σ H s) (h : SqL X.K H a xs) : ∃ its : List Value, Vals xs its ∧ PlainL s.heap a its.toArray ∧ xs.length ≤ sizeLine := by
  rcases h with h | ⟨o, its, n, hk, hc, hd, hs, hz, r⟩
  · obtain ⟨z, its, n, r, e⟩ := h.ok I.hok
    exact ⟨its, r, ⟨_, n, e, rfl, rfl, rfl⟩, z⟩
  · refine ⟨its.toList, r, ⟨o, n, I.kIn a o hk, hc, hd, by simpa using hs⟩, ?_⟩
    have e := r.length
    simp only [Array.length_toList] at e
    omega
theorem Inv.tuple (I : Inv X pins σ H s) (h : SqT X.K H a xs) : ∃ its : List Value, Vals xs its ∧ IsTup s.heap a its.toArray ∧ xs.length ≤ sizeLine := by
  rcases h with h | ⟨o, its, n, hk, hc, hs, hz, r⟩
  · obtain ⟨z, its, r, p⟩ := h.ok I.hok
    exact ⟨its, r, p, z⟩
  · refine ⟨its.toList, r, ⟨o, I.kIn a o hk, hc, n, by simpa using hs⟩, ?_⟩
    have e := r.length
    simp only [Array.length_toList] at e
    omega
theorem Inv.list_inj (I : Inv X pins σ H s) (h : SqL X.K H a xs) (h' : SqL X.K H a ys) : xs = ys := by
  obtain ⟨its, r, ⟨o, n, e, _, _, d⟩, _⟩ := I.list h
  obtain ⟨its', r', ⟨o', n', e', _, _, d'⟩, _⟩ := I.list h'
  rw [e] at e'; cases e'
  rw [d] at d'
  injection d' with d1 _
  have : its = its' := by simpa using congrArg Array.toList d1
  subst this
  exact r.inj r'
theorem Inv.tuple_inj (I : Inv X pins σ H s) (h : SqT X.K H a xs) (h' : SqT X.K H a ys) : xs = ys := by
  obtain ⟨its, r, ⟨o, e, _, n, d⟩, _⟩ := I.tuple h
  obtain ⟨its', r', ⟨o', e', _, n', d'⟩, _⟩ := I.tuple h'
  rw [e] at e'; cases e'
  rw [d] at d'
  injection d' with d1 _
  have : its = its' := by simpa using congrArg Array.toList d1
  subst this
  exact r.inj r'
end
/-! ### another wish about exceptions -/
abbrev Cx.wish (X : Cx) (E : Value → Shared → Prop) : Cx := { X with xe := E }
/-- no exception leaves -/
abbrev Cx.nox (X : Cx) : Cx := X.wish fun _ _ => False
theorem Cx.Ok.wish {X : Cx} (ok : X.Ok) (E : Value → Shared → Prop) : (X.wish E).Ok :=
  ⟨ok.mod, ok.kind, ok.glob, ok.blt, ok.above, ok.inj, ok.has, ok.cab, ok.hd, ok.frames, ok.stk, ok.exf, ok.bs, ok.bsz, ok.noex, ok.exfs, ok.funs, ok.frf⟩
theorem Cx.Ok.unwish {X : Cx} {E : Value → Shared → Prop} (ok : (X.wish E).Ok) : X.Ok :=
  ⟨ok.mod, ok.kind, ok.glob, ok.blt, ok.above, ok.inj, ok.has, ok.cab, ok.hd, ok.frames, ok.stk, ok.exf, ok.bs, ok.bsz, ok.noex, ok.exfs, ok.funs, ok.frf⟩
section
variable {X : Cx} {pins : List (Addr × Obj)} {σ : St} {H : Hp} {s : Shared} {E : Value → Shared → Prop}
theorem Inv.wish (I : Inv X pins σ H s) (E : Value → Shared → Prop) : Inv (X.wish E) pins σ H s := ⟨I.ok.wish E, I.os, I.bare, I.base, I.loc, I.cell, I.free, I.freeC, I.pin, I.hok, I.len⟩
theorem Inv.unwish (I : Inv (X.wish E) pins σ H s) : Inv X pins σ H s := ⟨I.ok.unwish, I.os, I.bare, I.base, I.loc, I.cell, I.free, I.freeC, I.pin, I.hok, I.len⟩
theorem SP.unwish {D : Ends} {f : Flow} {s' : Shared} (h : SP (X.wish E) pins D f s') : SP X pins D f s' := by
  cases f with
  | next => obtain ⟨σ', H', I, q⟩ := h; exact ⟨σ', H', I.unwish, q⟩
  | brk => obtain ⟨σ', H', I, q⟩ := h; exact ⟨σ', H', I.unwish, q⟩
  | cont => obtain ⟨σ', H', I, q⟩ := h; exact ⟨σ', H', I.unwish, q⟩
  | ret u => obtain ⟨v, σ', H', I, r, q⟩ := h; exact ⟨v, σ', H', I.unwish, r, q⟩
theorem PE.nox {e : Expr} {t : TE} (h : PE X.nox e t) : PE X e t := fun pins s σ H Q I hw =>
  wpAny_mono (h pins s σ H Q (I.wish _) hw) (fun _ _ ⟨v, H', I', r, q⟩ => ⟨v, H', I'.unwish, r, q⟩) fun _ _ z => False.elim z
theorem PT.nox {e : Expr} {t : TT} (h : PT X.nox e t) : PT X e t := fun pins s σ H Q I hw =>
  wpAny_mono (h pins s σ H Q (I.wish _) hw) (fun _ _ ⟨H', I', q⟩ => ⟨H', I'.unwish, q⟩) fun _ _ z => False.elim z
theorem PSs.nox {st : List Stmt} {t : TS} (h : PSs X.nox st t) : PSs X st t := fun pins s σ H D I hw =>
  wpAny_mono (h pins s σ H D (I.wish _) hw) (fun _ _ q => q.unwish) fun _ _ z => False.elim z
end
/-! ### blocks and small statements -/
section
variable {X : Cx} {st : Stmt} {rest : List Stmt} {t u : TS} {e : Expr} {te : TE} {pos : Pos}
def tNext : TS := fun D σ H => D.nx σ H
def tSeq (t u : TS) : TS := fun D σ H => t { D with nx := u D } σ H
theorem pss_nil : PSs X [] tNext := fun _ _ σ H _ I h => wpAny_execs_nil ⟨σ, H, I, h⟩
theorem pss_cons (h1 : PS X st t) (h2 : PSs X rest u) : PSs X (st :: rest) (tSeq t u) := by
  intro pins s σ H D I h
  refine wpAny_execs_cons (thn (h1 pins s σ H { D with nx := u D } I h) fun f s1 q => ?_)
  cases f with
  | next =>
    obtain ⟨σ', H', I', q⟩ := q
    exact h2 pins s1 σ' H' D I' q
  | ret v => exact q
  | brk => exact q
  | cont => exact q
theorem pss_one (h1 : PS X st t) : PSs X [st] t := by
  intro pins s σ H D I h
  refine wpAny_execs_cons (thn (h1 pins s σ H D I h) fun f s1 q => ?_)
  cases f with
  | next => exact wpAny_execs_nil q
  | ret v => exact q
  | brk => exact q
  | cont => exact q
def tBreak : TS := fun D σ H => D.bk σ H
def tCont : TS := fun D σ H => D.ct σ H
theorem ps_pass : PS X (.Pass pos) tNext := fun _ _ σ H _ I h => wpAny_Pass ⟨σ, H, I, h⟩
theorem ps_break : PS X (.Break pos) tBreak := fun _ _ σ H _ I h => wpAny_Break ⟨σ, H, I, h⟩
theorem ps_continue : PS X (.Continue pos) tCont := fun _ _ σ H _ I h => wpAny_Continue ⟨σ, H, I, h⟩
/-- in a def's body nothing is shown -/
theorem Inv.quiet {pins : List (Addr × Obj)} {σ : St} {H : Hp} {s : Shared} (I : Inv X pins σ H s) : interactive X.env = false := by simp [interactive, I.ok.kind]
/-- a docstring -/
theorem ps_doc {x j pos pos'} : PS X (.Expr (.Constant (.str x) j pos) pos') tNext := fun _ s σ H _ I h => wpAny_Expr (Calls.Constant_str (show SP X _ _ .next { s with toks := s.toks + 1 } from ⟨σ, H, I.tok _, h⟩)) I.quiet
/-- an expression whose value is dropped -/
def tDrop (te : TE) : TS := fun D σ H => te σ H fun _ H1 => D.nx σ H1
theorem ps_expr (he : PE X e te) (hs : swapsWith e none pos.line X.env = pure false := by rfl) : PS X (.Expr e pos) (tDrop te) := by
  intro pins s σ H D I h
  exact wpAny_Expr_any (thn (he pins s σ H _ I h) fun v s1 ⟨x, H1, I1, r1, q1⟩ => ⟨σ, H1, I1, q1⟩) I.quiet hs
def tRet (te : TE) : TS := fun D σ H => te σ H D.rt
theorem ps_ret (he : PE X e te) : PS X (.Return (some e) pos) (tRet te) := by
  intro pins s σ H D I h
  exact wpAny_Return_some (thn (he pins s σ H _ I h) fun v s1 ⟨x, H1, I1, r1, q1⟩ => ⟨x, σ, H1, I1, r1, q1⟩)
def tRetN : TS := fun D _ H => D.rt .non H
theorem ps_retN : PS X (.Return none pos) tRetN := fun _ _ σ H _ I h => wpAny_Return_none ⟨.non, σ, H, I, rfl, h⟩
def tIfS (c : TT) (t u : TS) : TS := fun D σ H => c σ H fun b H1 => if b = true then t D σ H1 else u D σ H1
theorem ps_if {c : Expr} {a b : List Stmt} {tc : TT} (hc : PT X c tc) (ha : PSs X a t) (hb : PSs X b u) : PS X (.If c a b pos) (tIfS tc t u) := by
  intro pins s σ H D I h
  refine wpAny_If (thn (hc pins s σ H _ I h) fun d s1 ⟨H1, I1, q1⟩ => ?_)
  cases d with
  | true => exact ha pins s1 σ H1 D I1 q1
  | false => exact hb pins s1 σ H1 D I1 q1
/-- code that the proof never comes to -/
def tNever : TS := fun _ _ _ => False
theorem ps_never : PS X st tNever := fun _ _ _ _ _ _ h => h.elim
theorem pss_never {sts : List Stmt} : PSs X sts tNever := fun _ _ _ _ _ _ h => h.elim
end
/-! ### targets -/
abbrev TG := V → St → Hp → (St → Hp → Prop) → Prop
abbrev TGs := List V → St → Hp → (St → Hp → Prop) → Prop
def PG (X : Cx) (target : Expr) (t : TG) : Prop :=
  ∀ (pins : List (Addr × Obj)) (s : Shared) (σ : St) (H : Hp) (v : V) (u : Value) (Q : St → Hp → Prop), Inv X pins σ H s → RelV v u → t v σ H Q →
    wpAny (model X.prog X.w) X.A (assign target X.env u) (fun _ s' => ∃ σ' H', Inv X pins σ' H' s' ∧ Q σ' H') X.xe s
/-- several targets, one after another -/
def PGs (X : Cx) (ts : List Expr) (t : TGs) : Prop :=
  ∀ (pins : List (Addr × Obj)) (s : Shared) (σ : St) (H : Hp) (vs : List V) (us : List Value) (Q : St → Hp → Prop), Inv X pins σ H s → Vals vs us → t vs σ H Q →
    wpAny (model X.prog X.w) X.A (assignInOrder ((assignEach ts X.env).map (·.2)) us) (fun _ s' => ∃ σ' H', Inv X pins σ' H' s' ∧ Q σ' H') X.xe s
/-- o[i] = v, by values -/
abbrev TSet := V → V → V → Hp → (Hp → Prop) → Prop
def PSet (X : Cx) (t : TSet) : Prop :=
  ∀ (pins : List (Addr × Obj)) (s : Shared) (σ : St) (H : Hp) (o i v : V) (ov iv u : Value) (Q : Hp → Prop), Inv X pins σ H s → RelV o ov → RelV i iv → RelV v u → t o i v H Q →
    wpAny (model X.prog X.w) X.A (setItem ov iv u) (fun _ s' => ∃ H', Inv X pins σ H' s' ∧ Q H') X.xe s
/-- a op= b, by values -/
abbrev TIp := V → V → Hp → VK → Prop
def PIp (X : Cx) (op : Operator) (t : TIp) : Prop :=
  ∀ (pins : List (Addr × Obj)) (s : Shared) (σ : St) (H : Hp) (x y : V) (v u : Value) (Q : VK), Inv X pins σ H s → RelV x v → RelV y u → t x y H Q →
    wpAny (model X.prog X.w) X.A (inplaceOp op v u) (EP X pins σ Q) X.xe s
section
variable {X : Cx} {pos : Pos}
def gName (i : Nat) : TG := fun v σ H Q => Q (σ.set i (some v)) H
theorem pg_name {i : Nat} {x : Str} (hN : X.N.Nodup) (hi : X.N[i]? = some x) (hx : Loc X.env.scope x) (hf : X.fn x = true ∨ X.env.scope.names.lookup x = some .local := by first | exact .inl rfl | exact .inr rfl | assumption) : PG X (.Name x pos) (gName i) := by
  intro pins s σ H v u Q I r h
  exact wpAny_assign_Name (store_ok I hN hi hx r (fun s' I' => ⟨_, H, I', h⟩) hf)
def gNil : TGs := fun vs σ H Q => vs = [] ∧ Q σ H
def gCons (t : TG) (u : TGs) : TGs := fun vs σ H Q => ∃ v r, vs = v :: r ∧ t v σ H fun σ' H' => u r σ' H' Q
theorem pgs_nil : PGs X [] gNil := by
  intro pins s σ H vs us Q I r h
  obtain ⟨e, h⟩ := h
  subst e
  cases r
  exact assignInOrder_nil ⟨σ, H, I, h⟩
theorem pgs_cons {e : Expr} {es : List Expr} {t : TG} {u : TGs} (h1 : PG X e t) (h2 : PGs X es u)
    (hs : (assignEach (e :: es) X.env).map (·.2) = assign e X.env :: (assignEach es X.env).map (·.2) := by rfl) : PGs X (e :: es) (gCons t u) := by
  intro pins s σ H vs us Q I r h
  obtain ⟨v, vr, e1, h⟩ := h
  subst e1
  cases r with
  | cons r rr =>
    rw [hs]
    refine assignInOrder_cons (thn (h1 pins s σ H _ _ _ I r h) fun _ s1 ⟨σ1, H1, I1, q1⟩ => ?_)
    exact h2 pins s1 σ1 H1 _ _ Q I1 rr q1
/-- (a, b, ..) = a tuple of that length -/
def gTup (K : PySem.W.Frag) (n : Nat) (t : TGs) : TG := fun v σ H Q => ∃ a xs, v = .ref a ∧ SqT K H a xs ∧ xs.length = n ∧ t xs σ H Q
theorem pg_tup {es : List Expr} {k : Nat} {t : TGs} {n : Nat} (hc : X.calm = true) (h : PGs X es t)
    (hn : (assignEach es X.env).length = n := by rfl) (hst : (assignEach es X.env).findIdx? (·.1) = none := by rfl) : PG X (.Tuple es k pos) (gTup X.K n t) := by
  intro pins s σ H v u Q I r hw
  obtain ⟨a, xs, e1, hq, hl, hw⟩ := hw
  subst e1
  cases r
  obtain ⟨its, rv, ht, hz⟩ := I.tuple hq
  refine assign_Tuple_tuple (I.ok.hd hc) ht (by simp [hn, ← hl, rv.length]) hst fun h' hx => ?_
  have I1 : Inv X pins σ H { s with heap := h' } := I.kept (t' := s.toks) fun b o e => hx b o (Nat.ne_of_lt (Heap.lt_size e)) e
  exact h pins _ σ H xs _ Q I1 (by simpa using rv) hw
/-- o[i] = .. -/
def gSub (to ti : TE) (t : TSet) : TG := fun v σ H Q => to σ H fun o H1 => ti σ H1 fun i H2 => t o i v H2 fun H3 => Q σ H3
theorem pg_sub {o i : Expr} {to ti : TE} {t : TSet} (ho : PE X o to) (hi : PE X i ti) (hs : PSet X t)
    (ha : ∀ v, assign (.Subscript o i pos) X.env v = (do
      let ov ← holding [v] (eval o X.env)
      let iv ← holding [v, ov] (eval i X.env)
      standAt pos
      holding [v, ov, iv] (setItem ov iv v)
      release [v, ov, iv] []) := by intro _; rfl) : PG X (.Subscript o i pos) (gSub to ti t) := by
  intro pins s σ H v u Q I r h
  rw [ha]
  refine wpAny_bind (wpAny_holding (thn (ho pins s σ H _ I h) fun ov s1 ⟨x, H1, I1, r1, q1⟩ => ?_))
  refine wpAny_bind (wpAny_holding (thn (hi pins s1 σ H1 _ I1 q1) fun iv s2 ⟨y, H2, I2, r2, q2⟩ => ?_))
  refine wpAny_bind (wpAny_standAt (wpAny_bind (wpAny_holding (thn (hs pins s2 σ H2 x y v ov iv u _ I2 r1 r2 r q2) fun _ s3 ⟨H3, I3, q3⟩ => ?_))))
  exact wpAny_release ⟨σ, H3, I3, q3⟩
/-- target = value -/
def tAsg (te : TE) (g : TG) : TS := fun D σ H => te σ H fun x H1 => g x σ H1 D.nx
theorem ps_asg {tg e : Expr} {te : TE} {g : TG} (he : PE X e te) (hg : PG X tg g) (hs : swapsWithSole [tg] e pos.line X.env = pure false := by rfl) (hw : swappedStores [tg] e X.env = pure none := by rfl)
    (h1 : (assignEach [tg] X.env).map (·.2) = [assign tg X.env] := by rfl) : PS X (.Assign [tg] e pos) (tAsg te g) := by
  intro pins s σ H D I h
  refine wpAny_Assign_stores (thn (he pins s σ H _ I h) fun v s1 ⟨x, H1, I1, r1, q1⟩ => ?_) hs hw
  rw [h1]
  exact thn (hg pins s1 σ H1 x v _ I1 r1 q1) fun _ s2 q => q
/-- name = value -/
theorem ps_set {i : Nat} {x : Str} {e : Expr} {te : TE} {pos' : Pos} (hN : X.N.Nodup) (hi : X.N[i]? = some x) (hx : Loc X.env.scope x) (he : PE X e te) (hs : swapsWith e (some (.Name x pos')) pos.line X.env = pure false := by rfl) (hf : X.fn x = true ∨ X.env.scope.names.lookup x = some .local := by first | exact .inl rfl | exact .inr rfl | assumption) :
    PS X (.Assign [.Name x pos'] e pos) (tAsg te (gName i)) := by
  intro pins s σ H D I h
  refine wpAny_Assign_Name (thn (he pins s σ H _ I h) fun v s1 ⟨y, H1, I1, r1, q1⟩ => ?_) hs
  exact store_ok I1 hN hi hx r1 (fun s2 I2 => ⟨_, H1, I2, q1⟩) hf
/-- a, b = x, y with plain local names: stored from the right; the pair itself is not tracked (the opening rows as in PyProof/Rows/TupAssign.lean:23) -/
def tPar (i j : Nat) (ta : TA) : TS := fun D σ H => ta σ H fun vs H1 => ∃ v w, vs = [v, w] ∧ D.nx ((σ.set i (some v)).set j (some w)) H1
theorem ps_par {i j : Nat} {x y : Str} {a b : Expr} {ta : TA} {px py pt : Pos} {kt k2 pt2} (hc : X.calm = true) (hN : X.N.Nodup) (hi : X.N[i]? = some x) (hj : X.N[j]? = some y) (hij : i ≠ j)
    (hx : X.env.scope.names.lookup x = some .local) (hy : X.env.scope.names.lookup y = some .local) (ha : PA X [a, b] ta)
    (hw : swappedStores [.Tuple [.Name x px, .Name y py] kt pt] (.Tuple [a, b] k2 pt2) X.env = pure (some [x, y]))
    (hs : swapsWithSole [.Tuple [.Name x px, .Name y py] kt pt] (.Tuple [a, b] k2 pt2) pos.line X.env = pure false := by rfl) :
    PS X (.Assign [.Tuple [.Name x px, .Name y py] kt pt] (.Tuple [a, b] k2 pt2) pos) (tPar i j ta) := by
  intro pins s σ H D I h
  rw [exec_Assign_arm]
  refine wpAny_bind (wpAny_standAt ?_)
  rw [hs]
  refine wpAny_bind (wpAny_pure ?_)
  rw [if_neg (by decide)]
  refine wpAny_bind (Tuple_ (thn (ha _ pins s σ H _ I h) fun us s1 ⟨vs, H1, I1, r1, q1⟩ => ?_))
  obtain ⟨v, w, e1, q1⟩ := q1
  subst e1
  obtain ⟨u1, u2, rfl, rv, rw'⟩ : ∃ u1 u2, us = [u1, u2] ∧ RelV v u1 ∧ RelV w u2 := by
    cases r1 with
    | cons p q =>
      cases q with
      | cons p' q' =>
        cases q'
        exact ⟨_, _, rfl, p, p'⟩
  refine wpAny_newObj_type ?_ (by show 2 ≤ sizeLine; decide)
  have I2 : Inv X pins σ H1 { s1 with heap := s1.heap.push { cls := .type "tuple", data := .seq [u1, u2].toArray } } := I1.kept (t' := s1.toks) fun b o e => Heap.get?_push_of_some _ e
  rw [hw]
  refine wpAny_bind (wpAny_pure ?_)
  show wpAny (model X.prog X.w) X.A (do rule "assign.swapped-stores"; let items ← unpackItems (.ref s1.heap.objs.size) 2 none; assignInOrder [fun v => bindName X.env y v, fun v => bindName X.env x v] items.reverse; pure Flow.next) _ _ _
  refine wpAny_bind (wpAny_rule (wpAny_bind (unpackItems_tuple (items := #[u1, u2]) (I.ok.hd hc) (IsTup.new s1.heap _) fun h' hx' => ?_)))
  have I3 := I2.kept (h' := h') (t' := s1.toks) fun b o e => hx' b o (Nat.ne_of_lt (Heap.lt_size e)) e
  show wpAny _ _ (assignInOrder [fun v => bindName X.env y v, fun v => bindName X.env x v] [u2, u1] >>= fun _ => pure Flow.next) _ _ _
  refine wpAny_bind (assignInOrder_cons (wpAny_bindName (store_ok I3 hN hj (.inl hy) rw' (fun s2 I4 => ?_) (.inr hy))))
  refine assignInOrder_cons (wpAny_bindName (store_ok I4 hN hi (.inl hx) rv (fun s3 I5 => assignInOrder_nil (wpAny_pure ?_)) (.inr hx)))
  rw [List.set_comm _ _ (Ne.symm hij)] at I5
  exact ⟨_, H1, I5, q1⟩
/-- name op= e -/
def tAug (i : Nat) (te : TE) (ti : TIp) : TS := fun D σ H => ∃ x, σ[i]? = some (some x) ∧ te σ H fun y H1 => ti x y H1 fun z H2 => D.nx (σ.set i (some z)) H2
theorem ps_aug {i : Nat} {x : Str} {e : Expr} {te : TE} {op : Operator} {ti : TIp} {pos' : Pos} (hN : X.N.Nodup) (hi : X.N[i]? = some x) (hx : Loc X.env.scope x) (he : PE X e te) (ho : PIp X op ti) (hf : X.fn x = true ∨ X.env.scope.names.lookup x = some .local := by first | exact .inl rfl | exact .inr rfl | assumption) :
    PS X (.AugAssign (.Name x pos') op e pos) (tAug i te ti) := by
  intro pins s σ H D I h
  obtain ⟨v, e1, h⟩ := h
  obtain ⟨m, hn, hl⟩ := I.loc
  have vis : Vis X.env.scope x := by rcases hx with k | k; exact .inl k; exact .inr (.inl k)
  obtain ⟨u, r, l⟩ := hl i x v hi e1 vis
  refine wpAny_AugAssign_Name ?_
  have go : wpAny (model X.prog X.w) X.A (eval e X.env) (fun w s₂ => wpAny (model X.prog X.w) X.A (inplaceOp op u w) (fun r s₃ => wpAny (model X.prog X.w) X.A (storeName X.env x r) (fun _ => SP X pins D .next) X.xe s₃) X.xe s₂) X.xe s := by
    refine thn (he pins s σ H _ I h) fun w s1 ⟨y, H1, I1, r1, q1⟩ => ?_
    refine thn (ho pins s1 σ H1 v y u w _ I1 r r1 q1) fun z s2 ⟨zv, H2, I2, r2, q2⟩ => ?_
    exact store_ok I2 hN hi hx r2 (fun s3 I3 => ⟨_, H2, I3, q2⟩) hf
  rcases l with ⟨hk, hm⟩ | ⟨hk, c, hc, hcell⟩
  · exact wpAny_loadName_local I.ok.kind hk hn hm go
  · rcases hk with hk | hk
    · exact wpAny_loadName_cell I.ok.kind hk hc hcell go
    · rcases hx with k | k
      · have : X.env.scope.names.lookup x = some .free := hk
        rw [k] at this; cases this
      · have : X.env.scope.names.lookup x = some .free := hk
        rw [k] at this; cases this
/-- o[i] op= e -/
def tAugS (to ti te : TE) (tget : V → V → Hp → VK → Prop) (tip : TIp) (tset : TSet) : TS := fun D σ H => to σ H fun o H1 => ti σ H1 fun i H2 => tget o i H2 fun x H3 => te σ H3 fun y H4 => tip x y H4 fun z H5 => tset o i z H5 fun H6 => D.nx σ H6
/-- o[i], by values -/
def PGet (X : Cx) (t : V → V → Hp → VK → Prop) : Prop :=
  ∀ (pins : List (Addr × Obj)) (s : Shared) (σ : St) (H : Hp) (o i : V) (ov iv : Value) (Q : VK), Inv X pins σ H s → RelV o ov → RelV i iv → t o i H Q →
    wpAny (model X.prog X.w) X.A (getItem ov iv) (EP X pins σ Q) X.xe s
theorem ps_augS {o i e : Expr} {to ti te : TE} {tget : V → V → Hp → VK → Prop} {tip : TIp} {tset : TSet} {op : Operator} {tpos : Pos} (ho : PE X o to) (hi : PE X i ti) (hg : PGet X tget) (he : PE X e te) (hp : PIp X op tip) (hs : PSet X tset)
    (ha : ∀ ov iv new, augStore i ov iv new = (do holding [new, ov, iv] (setItem ov iv new); release [new, ov, iv] []; pure .next) := by intros; rfl) : PS X (.AugAssign (.Subscript o i tpos) op e pos) (tAugS to ti te tget tip tset) := by
  intro pins s σ H D I h
  refine wpAny_AugAssign_SubscriptAny (thn (ho pins s σ H _ I h) fun ov s1 ⟨x1, H1, I1, r1, q1⟩ => ?_) ha
  refine thn (hi pins s1 σ H1 _ I1 q1) fun iv s2 ⟨x2, H2, I2, r2, q2⟩ => ?_
  refine thn (hg pins s2 σ H2 x1 x2 ov iv _ I2 r1 r2 q2) fun old s3 ⟨x3, H3, I3, r3, q3⟩ => ?_
  refine thn (he pins s3 σ H3 _ I3 q3) fun v s4 ⟨x4, H4, I4, r4, q4⟩ => ?_
  refine thn (hp pins s4 σ H4 x3 x4 old v _ I4 r3 r4 q4) fun new s5 ⟨x5, H5, I5, r5, q5⟩ => ?_
  exact thn (hs pins s5 σ H5 x1 x2 x5 ov iv new _ I5 r1 r2 r5 q5) fun _ s6 ⟨H6, I6, q6⟩ => ⟨σ, H6, I6, q6⟩
/-- ints -/
def ipI (f : Int → Int → Int) : TIp := fun x y H Q => ∃ i j, x = .int i ∧ y = .int j ∧ Q (.int (f i j)) H
theorem ip_add : PIp X .Add (ipI fun i j => i + j) := by
  intro pins s σ H x y v u Q I r1 r2 h
  obtain ⟨i, j, e1, e2, q⟩ := h
  subst e1; subst e2
  obtain ⟨t, rfl⟩ := r1
  obtain ⟨t', rfl⟩ := r2
  exact iadd_int ⟨.int _, H, I.tok _, ⟨_, rfl⟩, q⟩
theorem ip_sub : PIp X .Sub (ipI fun i j => i - j) := by
  intro pins s σ H x y v u Q I r1 r2 h
  obtain ⟨i, j, e1, e2, q⟩ := h
  subst e1; subst e2
  obtain ⟨t, rfl⟩ := r1
  obtain ⟨t', rfl⟩ := r2
  exact isub_int ⟨.int _, H, I.tok _, ⟨_, rfl⟩, q⟩
end
/-! ### while -/
section
variable {X : Cx} {pos : Pos}
/-- the invariant W with its measure -/
def tWhile (c : TT) (tb : TS) : TS := fun D σ H => ∃ W : Nat → St → Hp → Prop, (∃ m, W m σ H) ∧ ∀ m σ H, W m σ H →
  c σ H fun b H1 => if b = true then ∃ N : St → Hp → Prop, (∀ σ' H', N σ' H' → ∃ m', m' < m ∧ W m' σ' H') ∧ tb { D with nx := N, ct := N, bk := D.nx } σ H1 else D.nx σ H1
theorem ps_while {c : Expr} {body : List Stmt} {tc : TT} {tb : TS} (hp : PassesOwn (model X.prog X.w) X.A X.env X.xe) (hc : PT X c tc) (hb : PSs X body tb) : PS X (.While c body [] pos) (tWhile tc tb) := by
  intro pins s σ H D I h
  obtain ⟨W, ⟨m0, w0⟩, turn⟩ := h
  refine wpAny_While (codeAny_whileLoop (fun n s' => ∃ σ' H', Inv X pins σ' H' s' ∧ W n σ' H') ?_ m0 ⟨σ, H, I, w0⟩)
  rintro n s1 ⟨σ1, H1, I1, w1⟩
  refine wpAny_passesOwn hp (thn (hc pins s1 σ1 H1 _ I1 (turn n σ1 H1 w1)) fun b s2 ⟨H2, I2, q2⟩ => ?_)
  cases b with
  | true =>
    obtain ⟨N, hN, q2⟩ := q2
    rw [if_pos rfl]
    refine wpAny_passesOwn hp (thn (hb pins s2 σ1 H2 _ I2 q2) fun f s3 q3 => ?_)
    cases f with
    | next =>
      obtain ⟨σ3, H3, I3, n3⟩ := q3
      obtain ⟨m', hm, w3⟩ := hN σ3 H3 n3
      exact ⟨m', hm, σ3, H3, I3, w3⟩
    | cont =>
      obtain ⟨σ3, H3, I3, n3⟩ := q3
      obtain ⟨m', hm, w3⟩ := hN σ3 H3 n3
      exact ⟨m', hm, σ3, H3, I3, w3⟩
    | brk => exact q3
    | ret v => exact q3
  | false =>
    rw [if_neg Bool.false_ne_true]
    exact wpAny_execs_nil ⟨σ1, H2, I2, q2⟩
end
/-! ### what a loop or a comprehension walks -/
/-- at turn i: it yields x (the heap may grow), or it stops -/
structure It where
  go : Nat → Hp → Prop
  yld : Nat → Hp → V → Hp → Prop
  stop : Nat → Hp → Prop
/-- the iterator's own objects may turn: they are not the frame's, not pinned, younger than the entry (or a comprehension's own) -/
def FpOk (X : Cx) (pins : List (Addr × Obj)) (H : Hp) (b : Addr) : Prop :=
  H b = none ∧ b ≠ X.env.locals ∧ b ∉ X.fs ∧ (b ∈ X.ex ∨ X.s₀.heap.objs.size ≤ b) ∧ (∀ x c, X.env.cells.lookup x = some c → c ≠ b) ∧ ∀ p ∈ X.pn ++ pins, p.1 ≠ b
theorem Inv.fpOk {X : Cx} {pins : List (Addr × Obj)} {σ : St} {H H' : Hp} {s : Shared} {b : Addr} (I : Inv X pins σ H s) (hb : s.heap.objs.size ≤ b) (hn : H' b = none) : FpOk X pins H' b := by
  refine ⟨hn, Nat.ne_of_gt (Nat.lt_of_lt_of_le I.lt hb), I.nofs hb, .inr (Nat.le_trans I.sz hb), fun x c e z => ?_, fun p hp z => ?_⟩
  · obtain ⟨v, q⟩ := I.cell x c e
    exact absurd (Nat.lt_of_lt_of_le q.lt (by rw [z]; exact hb)) (Nat.lt_irrefl _)
  · exact absurd (Nat.lt_of_lt_of_le (Heap.lt_size (I.pin p hp).1) (by rw [z]; exact hb)) (Nat.lt_irrefl _)
structure Turn (P : Program) (w : World) (K : PySem.W.Frag) (tg : Expr) (J : It) (fp : List Addr) (it : Addr) (tn : Nat → Heap → Prop) : Prop where
  mem : it ∈ fp
  obj : ∀ i h, tn i h → ∀ b ∈ fp, ∃ o, h.get? b = some o ∧ ∀ v, o.data ≠ .cell v
  keep : ∀ i h h', tn i h → (∀ b ∈ fp, ∀ o, h.get? b = some o → h'.get? b = some o) → tn i h'
  item : ∀ (X : Cx), X.prog = P → X.w = w → X.K = K → X.calm = true → ∀ (i : Nat) (pins : List (Addr × Obj)) (s : Shared) (σ : St) (H : Hp) (E : Value → Shared → Prop), Inv X pins σ H s → (∀ b ∈ fp, FpOk X pins H b) → tn i s.heap → J.go i H →
    wpAny (model P w) X.A (pyNext (.ref it)) (fun r s1 => ∃ u, r = some u ∧
      wpAny (model P w) X.A (letOwnedTupleGo tg (.ref it) u) (fun _ s2 => ∃ x H', Inv X pins σ H' s2 ∧ RelV x u ∧ J.yld i H x H' ∧ tn (i + 1) s2.heap ∧ ∀ b ∈ fp, H' b = none) E s1) E s
  done : ∀ (X : Cx), X.prog = P → X.w = w → X.K = K → X.calm = true → ∀ (i : Nat) (pins : List (Addr × Obj)) (s : Shared) (σ : St) (H : Hp) (E : Value → Shared → Prop), Inv X pins σ H s → (∀ b ∈ fp, FpOk X pins H b) → tn i s.heap → J.stop i H →
    wpAny (model P w) X.A (pyNext (.ref it)) (fun r s1 => r = none ∧ Inv X pins σ H s1) E s
  self : ∀ (A : Around) (i : Nat) (s : Shared) (Q : Value → Shared → Prop) (E : Value → Shared → Prop), tn i s.heap → Q (.ref it) s → wpAny (model P w) A (pyIter (.ref it)) Q E s
abbrev TI := St → Hp → (It → Hp → Prop) → Prop
/-- an iterator has come -/
def PIE (X : Cx) (pins : List (Addr × Obj)) (σ : St) (tg : Expr) (R : It → Hp → Prop) (itv : Value) (s2 : Shared) : Prop :=
  ∃ (it : Addr) (fp : List Addr) (tn : Nat → Heap → Prop) (J : It) (H' : Hp), itv = .ref it ∧ Inv X pins σ H' s2 ∧ Turn X.prog X.w X.K tg J fp it tn ∧ tn 0 s2.heap ∧ (∀ b ∈ fp, FpOk X pins H' b) ∧ R J H'
def PI (X : Cx) (tg iter : Expr) (wi : TI) : Prop :=
  ∀ (pins : List (Addr × Obj)) (s : Shared) (σ : St) (H : Hp) (R : It → Hp → Prop), Inv X pins σ H s → wi σ H R →
    wpAny (model X.prog X.w) X.A (eval iter X.env) (fun v s1 => wpAny (model X.prog X.w) X.A (pyIter v) (PIE X pins σ tg R) X.xe s1) X.xe s
/-- the step ahead of the store is nothing for an iterator that keeps no tuple -/
theorem go_of {M : Model} {A : Around} {E : Value → Shared → Prop} {s : Shared} {tg : Expr} {it : Addr} {u : Value} {o : Obj} {n : String} {vs : Array Value} {Q : Unit → Shared → Prop} (ho : s.heap.get? it = some o) (hc : o.cls = .type n) (hd : o.data = .fields vs)
    (hn : ["enumerate", "zip", "dict_itemiterator", "dict_reverseitemiterator", "odict_iterator", "itertools.zip_longest", "itertools.pairwise"].contains n = false) (hQ : Q () s) : wpAny M A (letOwnedTupleGo tg (.ref it) u) Q E s := by
  unfold letOwnedTupleGo
  cases tg <;> first
    | exact wpAny_pure hQ
    | (cases u <;> first
        | exact wpAny_pure hQ
        | (refine wpAny_bind (wpAny_load ho ?_)
           rw [hc, hd]
           show wpAny M A (if (["enumerate", "zip", "dict_itemiterator", "dict_reverseitemiterator", "odict_iterator", "itertools.zip_longest", "itertools.pairwise"].contains n && vs[0]? == some (rawInt _)) = true then _ else _) Q E s
           rw [if_neg (by intro h; rw [hn, Bool.false_and] at h; cases h)]
           exact wpAny_pure hQ))
/-- the list at a, as it stands at each turn (a loop may append to it) -/
def Itl (K : PySem.W.Frag) (a : Addr) : It :=
  ⟨fun i H => ∃ xs x, SqL K H a xs ∧ xs[i]? = some x, fun i H x H' => H' = H ∧ ∀ xs, SqL K H a xs → xs[i]? = some x, fun i H => ∃ xs, SqL K H a xs ∧ xs.length ≤ i⟩
def Itt (K : PySem.W.Frag) (a : Addr) : It :=
  ⟨fun i H => ∃ xs x, SqT K H a xs ∧ xs[i]? = some x, fun i H x H' => H' = H ∧ ∀ xs, SqT K H a xs → xs[i]? = some x, fun i H => ∃ xs, SqT K H a xs ∧ xs.length ≤ i⟩
/-- lo, lo + 1, .. (n of them) -/
def Itr (lo : Int) (n : Nat) : It := ⟨fun i _ => i < n, fun i H x H' => H' = H ∧ x = .int (lo + i), fun i _ => n ≤ i⟩
theorem turn_list {P : Program} {w : World} {K : PySem.W.Frag} {tg : Expr} (a it : Addr) : Turn P w K tg (Itl K a) [it] it (fun i h => h.IsListIter it a i) where
  mem := by simp
  obj := fun i h st b hb => by
    have e : b = it := by simpa using hb
    subst e
    obtain ⟨o, e, c, d⟩ := st
    exact ⟨o, e, fun v z => by rw [d] at z; cases z⟩
  keep := fun i h h' st k => st.at fun o e => k it (by simp) o e
  item := by
    intro X hP hw hK hc i pins s σ H E I hf st hg
    subst hP hw hK
    obtain ⟨xs, x, hq, hx⟩ := hg
    obtain ⟨its, rv, p, hz⟩ := I.list hq
    obtain ⟨u, hu, ru⟩ := rv.get hx
    obtain ⟨f0, f1, f2, f3, f4, f5⟩ := hf it (by simp)
    refine wpAny_pyNext_list_item st p.isList (x := u) (by simpa using hu) fun h' st' sb => ?_
    have I1 : Inv X pins σ H { s with heap := h' } := I.turned (t' := s.toks) (fun b o hb e => (sb.2 b hb).trans e) f0 f1 f3 f4 f5
    obtain ⟨o, e, c, d⟩ := id st'
    exact ⟨u, rfl, go_of (s := { s with heap := h' }) e c d (by decide) ⟨x, H, I1, ru, ⟨rfl, fun ys hy => by rw [I.list_inj hy hq]; exact hx⟩, st', fun b hb => (hf b hb).1⟩⟩
  done := by
    intro X hP hw hK hc i pins s σ H E I hf st hg
    subst hP hw hK
    obtain ⟨xs, hq, hx⟩ := hg
    obtain ⟨its, rv, p, hz⟩ := I.list hq
    obtain ⟨f0, f1, f2, f3, f4, f5⟩ := hf it (by simp)
    have hl := rv.length
    exact wpAny_pyNext_list_end (I.ok.hd hc) st p.isList (by simp; omega) fun h' eb => ⟨rfl, I.turned (t' := s.toks) (fun b o hb e => eb b o hb e) f0 f1 f3 f4 f5⟩
  self := fun _ _ _ _ _ st h => wpAny_pyIter_listiter st h
theorem turn_tuple {P : Program} {w : World} {K : PySem.W.Frag} {tg : Expr} (a it : Addr) : Turn P w K tg (Itt K a) [it] it (fun i h => h.IsTupleIter it a i) where
  mem := by simp
  obj := fun i h st b hb => by
    have e : b = it := by simpa using hb
    subst e
    obtain ⟨o, e, c, d⟩ := st
    exact ⟨o, e, fun v z => by rw [d] at z; cases z⟩
  keep := fun i h h' st k => st.at fun o e => k it (by simp) o e
  item := by
    intro X hP hw hK hc i pins s σ H E I hf st hg
    subst hP hw hK
    obtain ⟨xs, x, hq, hx⟩ := hg
    obtain ⟨its, rv, p, hz⟩ := I.tuple hq
    obtain ⟨u, hu, ru⟩ := rv.get hx
    obtain ⟨f0, f1, f2, f3, f4, f5⟩ := hf it (by simp)
    refine wpAny_pyNext_tuple_item st (show s.heap.IsTuple a its.toArray from p) (x := u) (by simpa using hu) fun h' st' sb => ?_
    have I1 : Inv X pins σ H { s with heap := h' } := I.turned (t' := s.toks) (fun b o hb e => (sb.2 b hb).trans e) f0 f1 f3 f4 f5
    obtain ⟨o, e, c, d⟩ := id st'
    exact ⟨u, rfl, go_of (s := { s with heap := h' }) e c d (by decide) ⟨x, H, I1, ru, ⟨rfl, fun ys hy => by rw [I.tuple_inj hy hq]; exact hx⟩, st', fun b hb => (hf b hb).1⟩⟩
  done := by
    intro X hP hw hK hc i pins s σ H E I hf st hg
    subst hP hw hK
    obtain ⟨xs, hq, hx⟩ := hg
    obtain ⟨its, rv, p, hz⟩ := I.tuple hq
    obtain ⟨f0, f1, f2, f3, f4, f5⟩ := hf it (by simp)
    have hl := rv.length
    exact wpAny_pyNext_tuple_end (I.ok.hd hc) st (show s.heap.IsTuple a its.toArray from p) (by simp; omega) fun h' eb => ⟨rfl, I.turned (t' := s.toks) (fun b o hb e => eb b o hb e) f0 f1 f3 f4 f5⟩
  self := fun _ _ _ _ _ st h => wpAny_pyIter_tupleiter st h
theorem turn_range {P : Program} {w : World} {K : PySem.W.Frag} {tg : Expr} (it : Addr) (lo : Int) (n : Nat) : Turn P w K tg (Itr lo n) [it] it (fun i h => IsRangeIter h it (lo + (i : Nat) * 1) ((n : Int) - (i : Nat)) 1) where
  mem := by simp
  obj := fun i h st b hb => by
    have e : b = it := by simpa using hb
    subst e
    exact ⟨_, st, fun v z => by
      have z' : Data.fields _ = Data.cell v := z
      cases z'⟩
  keep := fun i h h' st k => k it (by simp) _ st
  item := by
    intro X hP hw hK hc i pins s σ H E I hf st hg
    subst hP hw hK
    obtain ⟨f0, f1, f2, f3, f4, f5⟩ := hf it (by simp)
    have W := Walks.range (prog := X.prog) (w := X.w) (I.ok.hd hc) it lo 1 n
    refine W.item i s _ _ hg st fun v h' tk hv st' kk => ?_
    obtain ⟨t, rfl⟩ := hv
    have I1 : Inv X pins σ H { s with heap := h', toks := tk } := I.turned (fun b o hb e => kk b o (by simpa using hb) e) f0 f1 f3 f4 f5
    refine ⟨_, rfl, go_of (s := { s with heap := h', toks := tk }) (n := "range_iterator") st' rfl rfl (by decide) ⟨.int (lo + i), H, I1, ⟨t, ?_⟩, ⟨rfl, rfl⟩, st', fun b hb => (hf b hb).1⟩⟩
    rw [Int.mul_one]
  done := by
    intro X hP hw hK hc i pins s σ H E I hf st hg
    subst hP hw hK
    obtain ⟨f0, f1, f2, f3, f4, f5⟩ := hf it (by simp)
    exact wpAny_pyNext_range_end (I.ok.hd hc) st (by have : n ≤ i := hg; omega) fun h' eb => ⟨rfl, I.turned (t' := s.toks) (fun b o hb e => eb b o hb e) f0 f1 f3 f4 f5⟩
  self := fun _ _ _ _ _ st h => wpAny_pyIter_rangeiter st h
end L2
namespace L2
open PySem PySem.Spec PyProof.Rows
section
variable {X : Cx} {tg : Expr}
def iList (K : PySem.W.Frag) (tl : TE) : TI := fun σ H R => tl σ H fun x H1 => ∃ a, x = .ref a ∧ (∃ xs, SqL K H1 a xs) ∧ R (Itl K a) H1
def iTup (K : PySem.W.Frag) (tl : TE) : TI := fun σ H R => tl σ H fun x H1 => ∃ a, x = .ref a ∧ (∃ xs, SqT K H1 a xs) ∧ R (Itt K a) H1
theorem pi_list {l : Expr} {tl : TE} (hl : PE X l tl) : PI X tg l (iList X.K tl) := by
  intro pins s σ H R I h
  refine thn (hl pins s σ H _ I h) fun v s1 ⟨x, H1, I1, r1, q1⟩ => ?_
  obtain ⟨a, e, ⟨xs, hq⟩, q⟩ := q1
  subst e
  cases r1
  obtain ⟨its, rv, p, hz⟩ := I1.list hq
  refine wpAny_pyIter_list p.isList ?_
  refine ⟨s1.heap.objs.size, [s1.heap.objs.size], _, _, H1, rfl, I1.kept (t' := s1.toks) fun b o e => Heap.get?_push_of_some _ e, turn_list a _, ⟨_, Heap.get?_push_size _ rfl, rfl, rfl⟩, fun b hb => ?_, q⟩
  have e : b = s1.heap.objs.size := by simpa using hb
  subst e
  exact I1.fpOk (Nat.le_refl _) (I1.hok.fresh (Nat.le_refl _))
theorem pi_tup {l : Expr} {tl : TE} (hl : PE X l tl) : PI X tg l (iTup X.K tl) := by
  intro pins s σ H R I h
  refine thn (hl pins s σ H _ I h) fun v s1 ⟨x, H1, I1, r1, q1⟩ => ?_
  obtain ⟨a, e, ⟨xs, hq⟩, q⟩ := q1
  subst e
  cases r1
  obtain ⟨its, rv, p, hz⟩ := I1.tuple hq
  refine wpAny_pyIter_tuple (show s1.heap.IsTuple a its.toArray from p) ?_
  refine ⟨s1.heap.objs.size, [s1.heap.objs.size], _, _, H1, rfl, I1.kept (t' := s1.toks) fun b o e => Heap.get?_push_of_some _ e, turn_tuple a _, ⟨_, Heap.get?_push_size _ rfl, rfl, rfl⟩, fun b hb => ?_, q⟩
  have e : b = s1.heap.objs.size := by simpa using hb
  subst e
  exact I1.fpOk (Nat.le_refl _) (I1.hok.fresh (Nat.le_refl _))
/-- a range object just made, walked -/
theorem range_it {pins : List (Addr × Obj)} {σ : St} {H : Hp} {s : Shared} {R : It → Hp → Prop} {E : Value → Shared → Prop} {lo hi : Int} {t u v : Tok} {tk : Nat} (I : Inv X pins σ H s) (h1 : -(2 ^ 62) ≤ lo) (h2 : lo < 2 ^ 62) (h3 : -(2 ^ 62) ≤ hi) (h4 : hi < 2 ^ 62)
    (q : R (Itr lo (hi - lo).toNat) H) : wpAny (model X.prog X.w) X.A (pyIter (.ref s.heap.objs.size)) (PIE X pins σ tg R) E { s with heap := s.heap.push { cls := .type "range", data := .fields #[.int lo t, .int hi u, .int 1 v] }, toks := tk } := by
  refine wpAny_pyIter_range (IsRange.new ..) (small_one h1 h2 h3 h4) ?_
  have I1 : Inv X pins σ H { s with heap := s.heap.push { cls := .type "range", data := .fields #[.int lo t, .int hi u, .int 1 v] }, toks := tk } := I.kept fun b o e => Heap.get?_push_of_some _ e
  refine ⟨(s.heap.push { cls := .type "range", data := .fields #[.int lo t, .int hi u, .int 1 v] }).objs.size, [(s.heap.push { cls := .type "range", data := .fields #[.int lo t, .int hi u, .int 1 v] }).objs.size], _, _, H, rfl,
    I1.kept (t' := tk) fun b o e => Heap.get?_push_of_some _ e, turn_range _ lo (hi - lo).toNat, ?_, fun b hb => ?_, q⟩
  · have e1 : lo + ((0 : Nat) : Int) * 1 = lo := by simp
    have e2 : (((hi - lo).toNat : Nat) : Int) - ((0 : Nat) : Int) = Builtin.Range.rangeSize lo hi 1 := by rw [rangeSize_one]; split <;> omega
    show IsRangeIter _ _ (lo + ((0 : Nat) : Int) * 1) ((((hi - lo).toNat : Nat) : Int) - ((0 : Nat) : Int)) 1
    rw [e1, e2]
    exact Heap.get?_push_size _ rfl
  · have e : b = (s.heap.push { cls := .type "range", data := .fields #[.int lo t, .int hi u, .int 1 v] }).objs.size := by simpa using hb
    subst e
    exact I1.fpOk (Nat.le_refl _) (I1.hok.fresh (Nat.le_refl _))
def iRng1 (ta : TA) : TI := fun σ H R => ta σ H fun vs H1 => ∃ j : Int, vs = [.int j] ∧ -(2 ^ 62) ≤ j ∧ j < 2 ^ 62 ∧ R (Itr 0 j.toNat) H1
def iRng2 (ta : TA) : TI := fun σ H R => ta σ H fun vs H1 => ∃ i j : Int, vs = [.int i, .int j] ∧ (-(2 ^ 62) ≤ i ∧ i < 2 ^ 62 ∧ -(2 ^ 62) ≤ j ∧ j < 2 ^ 62) ∧ R (Itr i (j - i).toNat) H1
theorem pi_range1 {a : Expr} {ta : TA} {p pos : Pos} (hg : Gl X "range") (hm : X.mg "range" = none) (ha : PA X [a] ta) (hs : starEach [a] X.env = [(false, eval a X.env)] := by rfl) : PI X tg (.Call (.Name "range" p) [a] [] pos) (iRng1 ta) := by
  intro pins s σ H R I h
  refine Call_ (ld_blt I hg hm boot_range (PyProof.Rows.callWith_type1 (thn (ha pos pins s σ H _ I h) fun us s1 ⟨vs, H1, I1, r1, q1⟩ => ?_) hs rfl))
  obtain ⟨j, e, q1, q2, q⟩ := q1
  subst e
  cases r1 with
  | cons r rr =>
    cases rr
    obtain ⟨t, rfl⟩ := r
    exact call_range_1 (range_it I1 (by omega) (by omega) q1 q2 (by simpa using q))
theorem pi_range2 {a b : Expr} {ta : TA} {p pos : Pos} (hg : Gl X "range") (hm : X.mg "range" = none) (ha : PA X [a, b] ta) (hs : starEach [a, b] X.env = [(false, eval a X.env), (false, eval b X.env)] := by rfl) (hs2 : starEach [b] X.env = [(false, eval b X.env)] := by rfl) :
    PI X tg (.Call (.Name "range" p) [a, b] [] pos) (iRng2 ta) := by
  intro pins s σ H R I h
  refine Call_ (ld_blt I hg hm boot_range (PyProof.Rows.callWith_type1 (thn (ha pos pins s σ H _ I h) fun us s1 ⟨vs, H1, I1, r1, q1⟩ => ?_) (by rw [hs, hs2]) (by rw [hs2]; rfl)))
  obtain ⟨i, j, e, ⟨q1, q2, q3, q4⟩, q⟩ := q1
  subst e
  cases r1 with
  | cons r rr =>
    cases rr with
    | cons r' rr =>
      cases rr
      obtain ⟨t, rfl⟩ := r
      obtain ⟨t', rfl⟩ := r'
      exact call_range_2 (range_it I1 q1 q2 q3 q4 q)
/-! ### for -/
/-- W: the invariant by the turn and a measure; N: what the body is to reach -/
def tFor (wi : TI) (g : TG) (tb : TS) : TS := fun D σ H => wi σ H fun J H1 => ∃ W : Nat → Nat → St → Hp → Prop, (∃ m, W 0 m σ H1) ∧ ∀ i m σ H, W i m σ H →
  (J.stop i H ∧ D.nx σ H) ∨ (J.go i H ∧ ∃ N : St → Hp → Prop, (∀ σ' H', N σ' H' → ∃ m', m' < m ∧ W (i + 1) m' σ' H') ∧ ∀ x H', J.yld i H x H' → g x σ H' fun σ2 H2 => tb { D with nx := N, ct := N, bk := D.nx } σ2 H2)
/-- the records at fp as they stand -/
def pinsAt (fp : List Addr) (h : Heap) : List (Addr × Obj) := fp.filterMap fun b => (h.get? b).map fun o => (b, o)
theorem mem_pinsAt {fp : List Addr} {h : Heap} {b : Addr} {o : Obj} (hb : b ∈ fp) (e : h.get? b = some o) : (b, o) ∈ pinsAt fp h := List.mem_filterMap.mpr ⟨b, hb, by rw [e]; rfl⟩
theorem of_pinsAt {fp : List Addr} {h : Heap} {p : Addr × Obj} (hp : p ∈ pinsAt fp h) : p.1 ∈ fp ∧ h.get? p.1 = some p.2 := by
  obtain ⟨b, hb, e⟩ := List.mem_filterMap.mp hp
  cases q : h.get? b with
  | none => rw [q] at e; cases e
  | some o =>
    rw [q] at e
    have e' : (b, o) = p := Option.some.inj e
    subst e'
    exact ⟨hb, q⟩
theorem Inv.pinned {pins : List (Addr × Obj)} {σ : St} {H : Hp} {s : Shared} {fp : List Addr} (I : Inv X pins σ H s) (hf : ∀ b ∈ fp, FpOk X pins H b) (ho : ∀ b ∈ fp, ∃ o, s.heap.get? b = some o ∧ ∀ v, o.data ≠ .cell v) : Inv X (pins ++ pinsAt fp s.heap) σ H s :=
  I.pins_of fun p hp => (List.mem_append.mp hp).elim (fun z => I.pin p (List.mem_append_right _ z)) fun z => by
    obtain ⟨hb, e⟩ := of_pinsAt z
    obtain ⟨f0, f1, f2, _⟩ := hf p.1 hb
    obtain ⟨o, e', d⟩ := ho p.1 hb
    rw [e] at e'; cases e'
    exact ⟨e, f0, f1, f2, d⟩
theorem Inv.unpinned {pins pl : List (Addr × Obj)} {σ : St} {H : Hp} {s : Shared} (I : Inv X (pins ++ pl) σ H s) : Inv X pins σ H s := I.pins_of fun p hp => I.pin p (List.mem_append_right _ (List.mem_append_left _ hp))
theorem ps_for {iter : Expr} {body : List Stmt} {wi : TI} {g : TG} {tb : TS} {pos : Pos} (hp : PassesOwn (model X.prog X.w) X.A X.env X.xe) (hc : X.calm = true) (hi : PI X tg iter wi) (hg : PG X tg g) (hb : PSs X body tb)
    (hs : ∀ x, foldedSetIterable iter X.env x = pure x := by intro _; rfl) : PS X (.For tg iter body [] pos) (tFor wi g tb) := by
  intro pins s σ H D I h
  refine wpAny_For (thn (hi pins s σ H _ I h) fun v s1 h1 => thn h1 fun itv s2 h2 => ?_) hs
  obtain ⟨it, fp, tn, J, H2, e, I2, T, st2, f2, W, ⟨m0, w0⟩, turn⟩ := h2
  subst e
  -- what stays true of the iterator's objects through the loop
  have stat : ∀ {H' : Hp}, (∀ b ∈ fp, H' b = none) → ∀ b ∈ fp, FpOk X pins H' b := fun hn b hb => ⟨hn b hb, (f2 b hb).2⟩
  refine codeAny_forLoop_any (fun n s' => ∃ i σ' H', Inv X pins σ' H' s' ∧ tn i s'.heap ∧ (∀ b ∈ fp, H' b = none) ∧ W i n σ' H') ?_ m0 ⟨0, σ, H2, I2, st2, fun b hb => (f2 b hb).1, w0⟩
  rintro n s3 ⟨i, σ3, H3, I3, st3, fr3, w3⟩
  rcases turn i n σ3 H3 w3 with ⟨stop, qn⟩ | ⟨go, N, hN, step⟩
  · refine wpAny_passesOwn hp (thn (T.done X rfl rfl rfl hc i pins s3 σ3 H3 X.xe I3 (stat fr3) st3 stop) fun r s4 ⟨hr, I4⟩ => ?_)
    subst hr
    exact wpAny_execs_nil ⟨σ3, H3, I4, qn⟩
  · refine wpAny_passesOwn hp (thn (T.item X rfl rfl rfl hc i pins s3 σ3 H3 X.xe I3 (stat fr3) st3 go) fun r s4 ⟨u, hr, h4⟩ => ?_)
    subst hr
    refine wpAny_passesOwn hp (thn h4 fun _ s5 ⟨x, H5, I5, r5, y5, st5, fr5⟩ => ?_)
    have I5' := I5.pinned (stat fr5) (T.obj _ _ st5)
    refine wpAny_passesOwn hp (thn (hg _ s5 σ3 H5 x u _ I5' r5 (step x H5 y5)) fun _ s6 ⟨σ6, H6, I6, q6⟩ => ?_)
    refine wpAny_passesOwn hp (thn (hb _ s6 σ6 H6 _ I6 q6) fun f s7 q7 => ?_)
    have again : ∀ {σ7 : St} {H7 : Hp}, Inv X (pins ++ pinsAt fp s5.heap) σ7 H7 s7 → N σ7 H7 → ∃ m, m < n ∧ ∃ i σ' H', Inv X pins σ' H' s7 ∧ tn i s7.heap ∧ (∀ b ∈ fp, H' b = none) ∧ W i m σ' H' := fun {σ7 H7} I7 n7 => by
      obtain ⟨m', hm, w7⟩ := hN σ7 H7 n7
      refine ⟨m', hm, i + 1, σ7, H7, I7.unpinned, T.keep _ _ _ st5 fun b hb o e => (I7.pin (b, o) (List.mem_append_right _ (List.mem_append_right _ (mem_pinsAt hb e)))).1, fun b hb => ?_, w7⟩
      obtain ⟨o, e, d⟩ := T.obj _ _ st5 b hb
      exact (I7.pin (b, o) (List.mem_append_right _ (List.mem_append_right _ (mem_pinsAt hb e)))).2.1
    cases f with
    | next => obtain ⟨σ7, H7, I7, n7⟩ := q7; exact again I7 n7
    | cont => obtain ⟨σ7, H7, I7, n7⟩ := q7; exact again I7 n7
    | brk => obtain ⟨σ7, H7, I7, q7⟩ := q7; exact ⟨σ7, H7, I7.unpinned, q7⟩
    | ret v => obtain ⟨x7, σ7, H7, I7, r7, q7⟩ := q7; exact ⟨x7, σ7, H7, I7.unpinned, r7, q7⟩
end
/-! ### the forms one uses -/
/-- over a list that the body leaves as it is -/
theorem for_list {K : PySem.W.Frag} {a : Addr} {xs : List V} {g : TG} {tb : TS} {D : Ends} {σ : St} {H : Hp} (Pv : Nat → St → Hp → Prop) (h0 : Pv 0 σ H) (hl : ∀ i σ H, i ≤ xs.length → Pv i σ H → SqL K H a xs)
    (hs : ∀ i x σ H, xs[i]? = some x → Pv i σ H → g x σ H fun σ2 H2 => tb { D with nx := Pv (i + 1), ct := Pv (i + 1), bk := D.nx } σ2 H2) (hd : ∀ σ H, Pv xs.length σ H → D.nx σ H) :
    ∃ W : Nat → Nat → St → Hp → Prop, (∃ m, W 0 m σ H) ∧ ∀ i m σ H, W i m σ H →
      ((Itl K a).stop i H ∧ D.nx σ H) ∨ ((Itl K a).go i H ∧ ∃ N : St → Hp → Prop, (∀ σ' H', N σ' H' → ∃ m', m' < m ∧ W (i + 1) m' σ' H') ∧ ∀ x H', (Itl K a).yld i H x H' → g x σ H' fun σ2 H2 => tb { D with nx := N, ct := N, bk := D.nx } σ2 H2) := by
  refine ⟨fun i m σ H => m = xs.length - i ∧ i ≤ xs.length ∧ Pv i σ H, ⟨xs.length, by simp, Nat.zero_le _, h0⟩, ?_⟩
  rintro i m σ H ⟨rfl, hi, p⟩
  have q := hl i σ H hi p
  by_cases hlt : i < xs.length
  · refine .inr ⟨⟨xs, xs[i], q, by simp [hlt]⟩, Pv (i + 1), fun σ' H' p' => ⟨xs.length - (i + 1), by omega, rfl, hlt, p'⟩, fun x H' y => ?_⟩
    obtain ⟨e, y⟩ := y
    subst e
    exact hs i x σ _ (y xs q) p
  · have e : i = xs.length := by omega
    subst e
    exact .inl ⟨⟨xs, q, Nat.le_refl _⟩, hd σ H p⟩
theorem for_tup {K : PySem.W.Frag} {a : Addr} {xs : List V} {g : TG} {tb : TS} {D : Ends} {σ : St} {H : Hp} (Pv : Nat → St → Hp → Prop) (h0 : Pv 0 σ H) (hl : ∀ i σ H, i ≤ xs.length → Pv i σ H → SqT K H a xs)
    (hs : ∀ i x σ H, xs[i]? = some x → Pv i σ H → g x σ H fun σ2 H2 => tb { D with nx := Pv (i + 1), ct := Pv (i + 1), bk := D.nx } σ2 H2) (hd : ∀ σ H, Pv xs.length σ H → D.nx σ H) :
    ∃ W : Nat → Nat → St → Hp → Prop, (∃ m, W 0 m σ H) ∧ ∀ i m σ H, W i m σ H →
      ((Itt K a).stop i H ∧ D.nx σ H) ∨ ((Itt K a).go i H ∧ ∃ N : St → Hp → Prop, (∀ σ' H', N σ' H' → ∃ m', m' < m ∧ W (i + 1) m' σ' H') ∧ ∀ x H', (Itt K a).yld i H x H' → g x σ H' fun σ2 H2 => tb { D with nx := N, ct := N, bk := D.nx } σ2 H2) := by
  refine ⟨fun i m σ H => m = xs.length - i ∧ i ≤ xs.length ∧ Pv i σ H, ⟨xs.length, by simp, Nat.zero_le _, h0⟩, ?_⟩
  rintro i m σ H ⟨rfl, hi, p⟩
  have q := hl i σ H hi p
  by_cases hlt : i < xs.length
  · refine .inr ⟨⟨xs, xs[i], q, by simp [hlt]⟩, Pv (i + 1), fun σ' H' p' => ⟨xs.length - (i + 1), by omega, rfl, hlt, p'⟩, fun x H' y => ?_⟩
    obtain ⟨e, y⟩ := y
    subst e
    exact hs i x σ _ (y xs q) p
  · have e : i = xs.length := by omega
    subst e
    exact .inl ⟨⟨xs, q, Nat.le_refl _⟩, hd σ H p⟩
theorem for_range {lo : Int} {n : Nat} {g : TG} {tb : TS} {D : Ends} {σ : St} {H : Hp} (Pv : Nat → St → Hp → Prop) (h0 : Pv 0 σ H)
    (hs : ∀ i σ H, i < n → Pv i σ H → g (.int (lo + i)) σ H fun σ2 H2 => tb { D with nx := Pv (i + 1), ct := Pv (i + 1), bk := D.nx } σ2 H2) (hd : ∀ σ H, Pv n σ H → D.nx σ H) :
    ∃ W : Nat → Nat → St → Hp → Prop, (∃ m, W 0 m σ H) ∧ ∀ i m σ H, W i m σ H →
      ((Itr lo n).stop i H ∧ D.nx σ H) ∨ ((Itr lo n).go i H ∧ ∃ N : St → Hp → Prop, (∀ σ' H', N σ' H' → ∃ m', m' < m ∧ W (i + 1) m' σ' H') ∧ ∀ x H', (Itr lo n).yld i H x H' → g x σ H' fun σ2 H2 => tb { D with nx := N, ct := N, bk := D.nx } σ2 H2) := by
  refine ⟨fun i m σ H => m = n - i ∧ i ≤ n ∧ Pv i σ H, ⟨n, by simp, Nat.zero_le _, h0⟩, ?_⟩
  rintro i m σ H ⟨rfl, hi, p⟩
  by_cases hlt : i < n
  · refine .inr ⟨hlt, Pv (i + 1), fun σ' H' p' => ⟨n - (i + 1), by omega, rfl, hlt, p'⟩, fun x H' y => ?_⟩
    obtain ⟨e, y⟩ := y
    subst e y
    exact hs i σ _ hlt p
  · have e : i = n := by omega
    subst e
    exact .inl ⟨Nat.le_refl _, hd σ H p⟩
/-- while, by a word and a measure of the state -/
theorem while_by {c : TT} {tb : TS} {D : Ends} {σ : St} {H : Hp} (Pv : St → Hp → Prop) (μ : St → Hp → Nat) (h0 : Pv σ H)
    (hs : ∀ σ H, Pv σ H → c σ H fun b H1 => if b = true then tb { D with nx := fun σ' H' => Pv σ' H' ∧ μ σ' H' < μ σ H, ct := fun σ' H' => Pv σ' H' ∧ μ σ' H' < μ σ H, bk := D.nx } σ H1 else D.nx σ H1)
    (mono : ∀ σ H Q Q', (∀ b H1, Q b H1 → Q' b H1) → c σ H Q → c σ H Q') : tWhile c tb D σ H := by
  refine ⟨fun m σ H => m = μ σ H ∧ Pv σ H, ⟨_, rfl, h0⟩, ?_⟩
  rintro m σ H ⟨rfl, p⟩
  refine mono σ H _ _ (fun b H1 q => ?_) (hs σ H p)
  cases b with
  | true => exact ⟨_, fun σ' H' ⟨p', l⟩ => ⟨_, l, rfl, p'⟩, q⟩
  | false => exact q
end L2
namespace L2
open PySem PySem.Spec PyProof.Rows
abbrev R2 := V → V → Hp → VK → Prop
/-- a two-place operation on values: f is binaryOp op, inplaceOp op or compareOp op -/
def OpR (X : Cx) (f : Value → Value → Sem Value) (r : R2) : Prop :=
  ∀ (pins : List (Addr × Obj)) (s : Shared) (σ : St) (H : Hp) (x y : V) (v u : Value) (Q : VK), Inv X pins σ H s → RelV x v → RelV y u → r x y H Q →
    wpAny (model X.prog X.w) X.A (f v u) (EP X pins σ Q) X.xe s
/-- a one-place operation -/
def UnR (X : Cx) (f : Value → Sem Value) (r : V → Hp → VK → Prop) : Prop :=
  ∀ (pins : List (Addr × Obj)) (s : Shared) (σ : St) (H : Hp) (x : V) (v : Value) (Q : VK), Inv X pins σ H s → RelV x v → r x H Q →
    wpAny (model X.prog X.w) X.A (f v) (EP X pins σ Q) X.xe s
/-- a call of a value that is known (a builtin, a type) with values -/
def CallR (X : Cx) (f : Value) (r : List V → Hp → VK → Prop) : Prop :=
  ∀ (pins : List (Addr × Obj)) (s : Shared) (σ : St) (H : Hp) (xs : List V) (us : List Value) (Q : VK), Inv X pins σ H s → Vals xs us → r xs H Q →
    wpAny (model X.prog X.w) X.A (call f us) (EP X pins σ Q) X.xe s
/-- a value's truth -/
def TruR (X : Cx) (r : V → Hp → (Bool → Hp → Prop) → Prop) : Prop :=
  ∀ (pins : List (Addr × Obj)) (s : Shared) (σ : St) (H : Hp) (x : V) (v : Value) (Q : Bool → Hp → Prop), Inv X pins σ H s → RelV x v → r x H Q →
    wpAny (model X.prog X.w) X.A (truthy v) (TP X pins σ Q) X.xe s
def tOp (r : R2) (ta tb : TE) : TE := fun σ H Q => ta σ H fun x H1 => tb σ H1 fun y H2 => r x y H2 Q
def tUn (r : V → Hp → VK → Prop) (ta : TE) : TE := fun σ H Q => ta σ H fun x H1 => r x H1 Q
/-- ints in, under C, and a value out -/
def rI (C : Int → Int → Prop) (g : Int → Int → V) : R2 := fun x y H Q => ∃ i j, x = .int i ∧ y = .int j ∧ C i j ∧ Q (g i j) H
def rI0 (g : Int → Int → V) : R2 := fun x y H Q => ∃ i j, x = .int i ∧ y = .int j ∧ Q (g i j) H
def rU (g : Int → V) : V → Hp → VK → Prop := fun x H Q => ∃ i, x = .int i ∧ Q (g i) H
section
variable {X : Cx} {a b c : Expr} {ta tb tc : TE} {pos : Pos}
theorem binT (ha : PE X a ta) (hb : PE X b tb) {pins : List (Addr × Obj)} {s : Shared} {σ : St} {H : Hp} {R : V → V → Hp → Prop} (I : Inv X pins σ H s)
    (h : ta σ H fun x H1 => tb σ H1 fun y H2 => R x y H2) {Q : Value → Shared → Prop} {f : Value → Value → Sem Value}
    (hf : ∀ v u s2 x y H2, Inv X pins σ H2 s2 → RelV x v → RelV y u → R x y H2 → wpAny (model X.prog X.w) X.A (f v u) Q X.xe s2) :
    wpAny (model X.prog X.w) X.A (eval a X.env) (fun v s₁ => wpAny (model X.prog X.w) X.A (eval b X.env) (fun u s₂ => wpAny (model X.prog X.w) X.A (f v u) Q X.xe s₂) X.xe s₁) X.xe s := by
  refine thn (ha pins s σ H _ I h) fun v s1 ⟨x, H1, I1, r1, q1⟩ => ?_
  refine thn (hb pins s1 σ H1 _ I1 q1) fun u s2 ⟨y, H2, I2, r2, q2⟩ => ?_
  exact hf v u s2 x y H2 I2 r1 r2 q2
theorem pe_op {op : Operator} {r : R2} (ho : OpR X (binaryOp op) r) (ha : PE X a ta) (hb : PE X b tb) : PE X (.BinOp a op b pos) (tOp r ta tb) := by
  intro pins s σ H Q I h
  exact wpAny_BinOp (binT ha hb I h fun v u s2 x y H2 I2 rx ry q => ho pins s2 σ H2 x y v u Q I2 rx ry q)
theorem pe_un {op : UnaryOp} {r : V → Hp → VK → Prop} (ho : UnR X (unaryOp op) r) (ha : PE X a ta) : PE X (.UnaryOp op a pos) (tUn r ta) := by
  intro pins s σ H Q I h
  exact UnaryOp_ (thn (ha pins s σ H _ I h) fun v s1 ⟨x, H1, I1, r1, q1⟩ => ho pins s1 σ H1 x v Q I1 r1 q1)
/-- a op= e at a name: the name's slot i -/
theorem augR {op : Operator} {r : R2} (ho : OpR X (inplaceOp op) r) {pins : List (Addr × Obj)} {s : Shared} {σ : St} {H : Hp} {x y : V} {v u : Value} {Q : VK} (I : Inv X pins σ H s)
    (rx : RelV x v) (ry : RelV y u) (q : r x y H Q) : wpAny (model X.prog X.w) X.A (inplaceOp op v u) (EP X pins σ Q) X.xe s := ho pins s σ H x y v u Q I rx ry q
/-! ### ints -/
theorem opI {f : Value → Value → Sem Value} {C : Int → Int → Prop} {g : Int → Int → Int}
    (rule : ∀ (i j : Int) (t u : Tok) (s : Shared) (Q : Value → Shared → Prop) (E : Value → Shared → Prop), C i j → Q (.int (g i j) s.toks) { s with toks := s.toks + 1 } → wpAny (model X.prog X.w) X.A (f (.int i t) (.int j u)) Q E s) :
    OpR X f (rI C fun i j => .int (g i j)) := by
  intro pins s σ H x y v u Q I rx ry h
  obtain ⟨i, j, rfl, rfl, hc, q⟩ := h
  obtain ⟨t, rfl⟩ := rx
  obtain ⟨t', rfl⟩ := ry
  exact rule i j t t' s _ _ hc ⟨.int (g i j), H, I.tok _, ⟨_, rfl⟩, q⟩
theorem opI0 {f : Value → Value → Sem Value} {g : Int → Int → Int}
    (rule : ∀ (i j : Int) (t u : Tok) (s : Shared) (Q : Value → Shared → Prop) (E : Value → Shared → Prop), Q (.int (g i j) s.toks) { s with toks := s.toks + 1 } → wpAny (model X.prog X.w) X.A (f (.int i t) (.int j u)) Q E s) :
    OpR X f (rI0 fun i j => .int (g i j)) := by
  intro pins s σ H x y v u Q I rx ry h
  obtain ⟨i, j, rfl, rfl, q⟩ := h
  obtain ⟨t, rfl⟩ := rx
  obtain ⟨t', rfl⟩ := ry
  exact rule i j t t' s _ _ ⟨.int (g i j), H, I.tok _, ⟨_, rfl⟩, q⟩
theorem opB0 {f : Value → Value → Sem Value} {g : Int → Int → Bool}
    (rule : ∀ (i j : Int) (t u : Tok) (s : Shared) (Q : Value → Shared → Prop) (E : Value → Shared → Prop), Q (.bool (g i j)) s → wpAny (model X.prog X.w) X.A (f (.int i t) (.int j u)) Q E s) :
    OpR X f (rI0 fun i j => .bl (g i j)) := by
  intro pins s σ H x y v u Q I rx ry h
  obtain ⟨i, j, rfl, rfl, q⟩ := h
  obtain ⟨t, rfl⟩ := rx
  obtain ⟨t', rfl⟩ := ry
  exact rule i j t t' s _ _ ⟨.bl (g i j), H, I, rfl, q⟩
def CDiv (i j : Int) : Prop := 0 < j ∧ j < 1073741824
def CDivN (i j : Int) : Prop := j ≠ 0 ∧ j.natAbs < 1073741824
def CPow (i j : Int) : Prop := 0 ≤ j ∧ j ≤ 1000000 ∧ i.natAbs < 2 ^ 64
def CMul (i j : Int) : Prop := (-(2 ^ 64) < i ∧ i < 2 ^ 64) ∨ (-(2 ^ 64) < j ∧ j < 2 ^ 64)
theorem CMul.ok {i j : Int} (h : CMul i j) : IntMulOk i j := by
  rcases h with ⟨h1, h2⟩ | ⟨h1, h2⟩
  · exact .of_left (intBits_le_64 h1 h2)
  · exact .of_right (intBits_le_64 h1 h2)
theorem two_pow_nn (k : Nat) : (0 : Int) ≤ 2 ^ k := by
  rw [two_pow_cast]
  exact Int.natCast_nonneg _
theorem op_add : OpR X (binaryOp .Add) (rI0 fun i j => .int (i + j)) := opI0 fun _ _ _ _ _ _ _ q => add_int q
theorem op_sub : OpR X (binaryOp .Sub) (rI0 fun i j => .int (i - j)) := opI0 fun _ _ _ _ _ _ _ q => sub_int q
theorem op_mul : OpR X (binaryOp .Mult) (rI CMul fun i j => .int (i * j)) := opI fun _ _ _ _ _ _ _ hc q => mul_int q hc.ok
/-- // by a positive divisor -/
theorem op_fdiv : OpR X (binaryOp .FloorDiv) (rI CDiv fun i j => .int (i / j)) := opI fun i j _ _ _ _ _ hc q => by
  have h1 : (0 : Int) < j := hc.1
  have h2 : j < 1073741824 := hc.2
  exact floordiv_int (by omega) (by rw [Int.fdiv_eq_ediv_of_nonneg i (by omega)]; exact q) (.inl (PyProof.noPylong_small (by omega)))
theorem op_fdivN : OpR X (binaryOp .FloorDiv) (rI CDivN fun i j => .int (i.fdiv j)) := opI fun _ _ _ _ _ _ _ hc q => floordiv_int hc.1 q (.inl (PyProof.noPylong_small hc.2))
/-- % by a positive divisor of any size -/
theorem op_mod : OpR X (binaryOp .Mod) (rI (fun _ j => 0 < j) fun i j => .int (i % j)) := opI fun i j _ _ _ _ _ hc q => by
  have h1 : (0 : Int) < j := hc
  exact mod_int' (by omega) (by rw [Int.fmod_eq_emod_of_nonneg i (by omega)]; exact q)
theorem op_modN : OpR X (binaryOp .Mod) (rI (fun _ j => j ≠ 0) fun i j => .int (i.fmod j)) := opI fun _ _ _ _ _ _ _ hc q => mod_int' hc q
theorem op_pow : OpR X (binaryOp .Pow) (rI CPow fun i j => .int (i ^ j.toNat)) := opI fun _ _ _ _ _ _ _ hc q => pow_int_small hc.1 hc.2.1 hc.2.2 q
theorem op_shl : OpR X (binaryOp .LShift) (rI CPow fun i j => .int (i * 2 ^ j.toNat)) := opI fun _ _ _ _ _ _ _ hc q => lshift_int_small hc.1 hc.2.1 hc.2.2 q
theorem op_shr : OpR X (binaryOp .RShift) (rI (fun _ j => 0 ≤ j) fun i j => .int (i / 2 ^ j.toNat)) := opI fun i j _ _ _ _ _ hc q =>
  rshift_int hc (by rw [Int.fdiv_eq_ediv_of_nonneg i (two_pow_nn _)]; exact q)
theorem op_and : OpR X (binaryOp .BitAnd) (rI0 fun i j => .int (Builtin.bitAnd i j)) := opI0 fun _ _ _ _ _ _ _ q => and_int q
theorem op_or : OpR X (binaryOp .BitOr) (rI0 fun i j => .int (Builtin.bitOr i j)) := opI0 fun _ _ _ _ _ _ _ q => or_int q
theorem op_xor : OpR X (binaryOp .BitXor) (rI0 fun i j => .int (Builtin.bitXor i j)) := opI0 fun _ _ _ _ _ _ _ q => xor_int q
theorem iop_add : OpR X (inplaceOp .Add) (rI0 fun i j => .int (i + j)) := opI0 fun _ _ _ _ _ _ _ q => iadd_int q
theorem iop_sub : OpR X (inplaceOp .Sub) (rI0 fun i j => .int (i - j)) := opI0 fun _ _ _ _ _ _ _ q => isub_int q
theorem iop_mul : OpR X (inplaceOp .Mult) (rI CMul fun i j => .int (i * j)) := opI fun _ _ _ _ _ _ _ hc q => imul_int q hc.ok
theorem iop_fdiv : OpR X (inplaceOp .FloorDiv) (rI CDiv fun i j => .int (i / j)) := opI fun i j _ _ _ _ _ hc q => by
  have h1 : (0 : Int) < j := hc.1
  have h2 : j < 1073741824 := hc.2
  exact ifloordiv_int (by omega) (by rw [Int.fdiv_eq_ediv_of_nonneg i (by omega)]; exact q) (.inl (PyProof.noPylong_small (by omega)))
theorem iop_mod : OpR X (inplaceOp .Mod) (rI (fun _ j => 0 < j) fun i j => .int (i % j)) := opI fun i j _ _ _ _ _ hc q => by
  have h1 : (0 : Int) < j := hc
  exact imod_int (by omega) (by rw [Int.fmod_eq_emod_of_nonneg i (by omega)]; exact q)
theorem iop_shl : OpR X (inplaceOp .LShift) (rI CPow fun i j => .int (i * 2 ^ j.toNat)) := opI fun _ _ _ _ _ _ _ hc q => ilshift_int_small hc.1 hc.2.1 hc.2.2 q
theorem iop_shr : OpR X (inplaceOp .RShift) (rI (fun _ j => 0 ≤ j) fun i j => .int (i / 2 ^ j.toNat)) := opI fun i j _ _ _ _ _ hc q =>
  irshift_int hc (by rw [Int.fdiv_eq_ediv_of_nonneg i (two_pow_nn _)]; exact q)
theorem iop_and : OpR X (inplaceOp .BitAnd) (rI0 fun i j => .int (Builtin.bitAnd i j)) := opI0 fun _ _ _ _ _ _ _ q => iand_int q
theorem iop_or : OpR X (inplaceOp .BitOr) (rI0 fun i j => .int (Builtin.bitOr i j)) := opI0 fun _ _ _ _ _ _ _ q => ior_int q
theorem iop_xor : OpR X (inplaceOp .BitXor) (rI0 fun i j => .int (Builtin.bitXor i j)) := opI0 fun _ _ _ _ _ _ _ q => ixor_int q
theorem unI {f : Value → Sem Value} {g : Int → Int}
    (rule : ∀ (i : Int) (t : Tok) (s : Shared) (Q : Value → Shared → Prop) (E : Value → Shared → Prop), Q (.int (g i) s.toks) { s with toks := s.toks + 1 } → wpAny (model X.prog X.w) X.A (f (.int i t)) Q E s) :
    UnR X f (rU fun i => .int (g i)) := by
  intro pins s σ H x v Q I rx h
  obtain ⟨i, rfl, q⟩ := h
  obtain ⟨t, rfl⟩ := rx
  exact rule i t s _ _ ⟨.int (g i), H, I.tok _, ⟨_, rfl⟩, q⟩
theorem un_neg : UnR X (unaryOp .USub) (rU fun i => .int (-i)) := unI fun _ _ _ _ _ q => neg_int q
theorem un_inv : UnR X (unaryOp .Invert) (rU fun i => .int (Builtin.bitNot i)) := unI fun _ _ _ _ _ q => invert_int q
/-! ### bools among ints: n += (a < b) -/
theorem op_add_ib : OpR X (binaryOp .Add) (fun x y H Q => ∃ i k, x = .int i ∧ y = .bl k ∧ Q (.int (i + b2i k)) H) := by
  intro pins s σ H x y v u Q I rx ry h
  obtain ⟨i, k, rfl, rfl, q⟩ := h
  obtain ⟨t, rfl⟩ := rx
  cases ry
  exact add_int_bool ⟨.int (i + b2i k), H, I.tok _, ⟨_, rfl⟩, q⟩
end
/-! ### comparisons -/
/-- the scalars that == tells apart as data does -/
def scal : V → V → Bool
  | .non, .non => true | .non, .int _ => true | .int _, .non => true | .non, .bl _ => true | .bl _, .non => true | .non, .str _ => true | .str _, .non => true
  | .int _, .int _ => true | .bl _, .bl _ => true | .str _, .str _ => true | .byt _, .byt _ => true
  | .int _, .str _ => true | .str _, .int _ => true | .bl _, .str _ => true | .str _, .bl _ => true
  | _, _ => false
def rEq : R2 := fun x y H Q => scal x y = true ∧ Q (.bl (decide (x = y))) H
def rNe : R2 := fun x y H Q => scal x y = true ∧ Q (.bl (!decide (x = y))) H
theorem dec_int {i j : Int} : decide (V.int i = V.int j) = (i == j) := by
  rw [Bool.eq_iff_iff]
  simp
theorem dec_bl {i j : Bool} : decide (V.bl i = V.bl j) = (i == j) := by
  rw [Bool.eq_iff_iff]
  simp
theorem dec_str {i j : Str} : decide (V.str i = V.str j) = (i == j) := by
  rw [Bool.eq_iff_iff]
  simp
theorem dec_byt {i j : Array UInt8} : decide (V.byt i = V.byt j) = (i.toList == j.toList) := by
  rw [Bool.eq_iff_iff]
  cases i
  cases j
  simp
section
variable {X : Cx} {a b c : Expr} {ta tb tc : TE} {pos : Pos}
theorem fin_bl {pins : List (Addr × Obj)} {σ : St} {H : Hp} {s : Shared} {Q : VK} {k k' : Bool} (I : Inv X pins σ H s) (q : Q (.bl k) H) (e : k = k') : EP X pins σ Q (.bool k') s := by
  subst e
  exact ⟨.bl k, H, I, rfl, q⟩
theorem op_eq : OpR X (compareOp .Eq) rEq := by
  intro pins s σ H x y v u Q I rx ry h
  obtain ⟨hs, q⟩ := h
  cases x with
  | non =>
    cases rx
    cases y with
    | non => cases ry; exact PySem.EqNone.eq_none_none (fin_bl I q (by simp))
    | bl j => cases ry; exact PySem.EqNone.eq_none_bool (fin_bl I q (by simp))
    | int j => obtain ⟨t', rfl⟩ := ry; exact PySem.EqNone.eq_none_int (fin_bl I q (by simp))
    | str j => obtain ⟨t', rfl⟩ := ry; exact PySem.EqNone.eq_none_str (fin_bl I q (by simp))
    | _ => exact absurd (show false = true from hs) Bool.false_ne_true
  | bl i =>
    cases rx
    cases y with
    | non => cases ry; exact PySem.EqNone.eq_bool_none (fin_bl I q (by simp))
    | bl j => cases ry; exact eq_bool (fin_bl I q dec_bl)
    | str j => obtain ⟨t', rfl⟩ := ry; exact PySem.EqMixed.eq_bool_str (fin_bl I q (by simp))
    | _ => exact absurd (show false = true from hs) Bool.false_ne_true
  | int i =>
    obtain ⟨t, rfl⟩ := rx
    cases y with
    | non => cases ry; exact PySem.EqNone.eq_int_none (fin_bl I q (by simp))
    | int j => obtain ⟨t', rfl⟩ := ry; exact eq_int (fin_bl I q dec_int)
    | str j => obtain ⟨t', rfl⟩ := ry; exact PySem.EqMixed.eq_int_str (fin_bl I q (by simp))
    | _ => exact absurd (show false = true from hs) Bool.false_ne_true
  | str i =>
    obtain ⟨t, rfl⟩ := rx
    cases y with
    | non => cases ry; exact PySem.EqNone.eq_str_none (fin_bl I q (by simp))
    | bl j => cases ry; exact PySem.EqMixed.eq_str_bool (fin_bl I q (by simp))
    | int j => obtain ⟨t', rfl⟩ := ry; exact PySem.EqMixed.eq_str_int (fin_bl I q (by simp))
    | str j => obtain ⟨t', rfl⟩ := ry; exact eq_str (fin_bl I q dec_str)
    | _ => exact absurd (show false = true from hs) Bool.false_ne_true
  | byt i =>
    obtain ⟨t, rfl⟩ := rx
    cases y with
    | byt j => obtain ⟨t', rfl⟩ := ry; exact PySem.W.eq_bytes (fin_bl I q dec_byt)
    | _ => exact absurd (show false = true from hs) Bool.false_ne_true
  | _ => cases y <;> exact absurd (show false = true from hs) Bool.false_ne_true
theorem op_ne : OpR X (compareOp .NotEq) rNe := by
  intro pins s σ H x y v u Q I rx ry h
  obtain ⟨hs, q⟩ := h
  cases x with
  | non =>
    cases rx
    cases y with
    | non => cases ry; exact PySem.EqNone.ne_none_none (fin_bl I q (by simp))
    | bl j => cases ry; exact PySem.EqNone.ne_none_bool (fin_bl I q (by simp))
    | int j => obtain ⟨t', rfl⟩ := ry; exact PySem.EqNone.ne_none_int (fin_bl I q (by simp))
    | str j => obtain ⟨t', rfl⟩ := ry; exact PySem.EqNone.ne_none_str (fin_bl I q (by simp))
    | _ => exact absurd (show false = true from hs) Bool.false_ne_true
  | bl i =>
    cases rx
    cases y with
    | non => cases ry; exact PySem.EqNone.ne_bool_none (fin_bl I q (by simp))
    | bl j => cases ry; exact ne_bool (fin_bl I q (congrArg not dec_bl))
    | str j => obtain ⟨t', rfl⟩ := ry; exact PySem.EqMixed.ne_bool_str (fin_bl I q (by simp))
    | _ => exact absurd (show false = true from hs) Bool.false_ne_true
  | int i =>
    obtain ⟨t, rfl⟩ := rx
    cases y with
    | non => cases ry; exact PySem.EqNone.ne_int_none (fin_bl I q (by simp))
    | int j => obtain ⟨t', rfl⟩ := ry; exact ne_int (fin_bl I q (congrArg not dec_int))
    | str j => obtain ⟨t', rfl⟩ := ry; exact PySem.EqMixed.ne_int_str (fin_bl I q (by simp))
    | _ => exact absurd (show false = true from hs) Bool.false_ne_true
  | str i =>
    obtain ⟨t, rfl⟩ := rx
    cases y with
    | non => cases ry; exact PySem.EqNone.ne_str_none (fin_bl I q (by simp))
    | bl j => cases ry; exact PySem.EqMixed.ne_str_bool (fin_bl I q (by simp))
    | int j => obtain ⟨t', rfl⟩ := ry; exact PySem.EqMixed.ne_str_int (fin_bl I q (by simp))
    | str j => obtain ⟨t', rfl⟩ := ry; exact ne_str (fin_bl I q (congrArg not dec_str))
    | _ => exact absurd (show false = true from hs) Bool.false_ne_true
  | byt i =>
    obtain ⟨t, rfl⟩ := rx
    cases y with
    | byt j => obtain ⟨t', rfl⟩ := ry; exact PySem.W.ne_bytes (fin_bl I q (congrArg not dec_byt))
    | _ => exact absurd (show false = true from hs) Bool.false_ne_true
  | _ => cases y <;> exact absurd (show false = true from hs) Bool.false_ne_true
theorem op_lt : OpR X (compareOp .Lt) (rI0 fun i j => .bl (decide (i < j))) := opB0 fun _ _ _ _ _ _ _ q => lt_int q
theorem op_le : OpR X (compareOp .LtE) (rI0 fun i j => .bl (decide (i ≤ j))) := opB0 fun _ _ _ _ _ _ _ q => le_int q
theorem op_gt : OpR X (compareOp .Gt) (rI0 fun i j => .bl (decide (j < i))) := opB0 fun _ _ _ _ _ _ _ q => gt_int q
theorem op_ge : OpR X (compareOp .GtE) (rI0 fun i j => .bl (decide (j ≤ i))) := opB0 fun _ _ _ _ _ _ _ q => ge_int q
theorem op_lt_str : OpR X (compareOp .Lt) (fun x y H Q => ∃ i j, x = .str i ∧ y = .str j ∧ Q (.bl (decide (i.cps.toList < j.cps.toList))) H) := by
  intro pins s σ H x y v u Q I rx ry h
  obtain ⟨i, j, rfl, rfl, q⟩ := h
  obtain ⟨t, rfl⟩ := rx
  obtain ⟨t', rfl⟩ := ry
  exact lt_str (fin_bl I q rfl)
/-- the one string within the other -/
theorem op_in_str : OpR X (compareOp .In) (fun x y H Q => ∃ i j, x = .str i ∧ y = .str j ∧ Q (.bl (!(Builtin.Str.occurrences j i 0 j.length 1).isEmpty)) H) := by
  intro pins s σ H x y v u Q I rx ry h
  obtain ⟨i, j, rfl, rfl, q⟩ := h
  obtain ⟨t, rfl⟩ := rx
  obtain ⟨t', rfl⟩ := ry
  exact in_str (fin_bl I q rfl)
/-- is None, is not None: the right side a value none -/
theorem op_isN : OpR X (compareOp .Is) (fun x y H Q => y = .non ∧ Q (.bl (decide (x = .non))) H) := by
  intro pins s σ H x y v u Q I rx ry h
  obtain ⟨rfl, q⟩ := h
  cases ry
  refine is_none_gen (fin_bl I q ?_)
  cases x <;> first
    | (cases rx; rfl)
    | (obtain ⟨t, rfl⟩ := rx; rfl)
theorem op_notN : OpR X (compareOp .IsNot) (fun x y H Q => y = .non ∧ Q (.bl (!decide (x = .non))) H) := by
  intro pins s σ H x y v u Q I rx ry h
  obtain ⟨rfl, q⟩ := h
  cases ry
  refine isnot_none_gen (fin_bl I q ?_)
  cases x <;> first
    | (cases rx; rfl)
    | (obtain ⟨t, rfl⟩ := rx; rfl)
theorem op_notin_str : OpR X (compareOp .NotIn) (fun x y H Q => ∃ i j, x = .str i ∧ y = .str j ∧ Q (.bl (!(!(Builtin.Str.occurrences j i 0 j.length 1).isEmpty))) H) := by
  intro pins s σ H x y v u Q I rx ry h
  obtain ⟨i, j, rfl, rfl, q⟩ := h
  obtain ⟨t, rfl⟩ := rx
  obtain ⟨t', rfl⟩ := ry
  exact notIn_str (fin_bl I q rfl)
/-- is, is not of two objects that are tracked lists or instances -/
def isObj : HO → Bool
  | .lst _ => true
  | .ins _ _ _ => true
  | _ => false
theorem obj_there {pins : List (Addr × Obj)} {s : Shared} {σ : St} {H : Hp} {a : Addr} {o : HO} (I : Inv X pins σ H s) (h : H a = some o) (p : isObj o = true) : ∃ ob, s.heap.get? a = some ob ∧ ob.cls ≠ .type "tuple" := by
  cases o with
  | lst xs =>
    obtain ⟨_, its, n, _, e⟩ : xs.length ≤ sizeLine ∧ ∃ (its : List Value) (n : Nat), Vals xs its ∧ s.heap.get? a = some { cls := .type "list", data := .seq its.toArray n } := I.hok a _ h
    exact ⟨_, e, (by show Value.type "list" ≠ .type "tuple"; decide +kernel)⟩
  | ins C dx fs =>
    have x := I.hok a _ h
    obtain ⟨_, _, _, e, _⟩ := x
    exact ⟨_, e, (by show Value.ref C ≠ .type "tuple"; exact fun z => by cases z)⟩
  | _ => exact absurd (show false = true from p) Bool.false_ne_true
theorem op_is_ref : OpR X (compareOp .Is) (fun x y H Q => ∃ a b oa ob, x = .ref a ∧ y = .ref b ∧ H a = some oa ∧ isObj oa = true ∧ H b = some ob ∧ isObj ob = true ∧ Q (.bl (decide (a = b))) H) := by
  intro pins s σ H x y v u Q I rx ry h
  obtain ⟨a, b, oa, ob, rfl, rfl, ha, pa, hb, pb, q⟩ := h
  cases rx
  cases ry
  obtain ⟨o1, e1, n1⟩ := obj_there I ha pa
  obtain ⟨o2, e2, _⟩ := obj_there I hb pb
  by_cases z : a = b
  · subst z
    exact wpAny_is_ref_self (fin_bl I q (by simp))
  · exact wpAny_is_ref_other z e1 e2 n1 (fin_bl I q (by simp [z]))
theorem op_isnot_ref : OpR X (compareOp .IsNot) (fun x y H Q => ∃ a b oa ob, x = .ref a ∧ y = .ref b ∧ H a = some oa ∧ isObj oa = true ∧ H b = some ob ∧ isObj ob = true ∧ Q (.bl (!decide (a = b))) H) := by
  intro pins s σ H x y v u Q I rx ry h
  obtain ⟨a, b, oa, ob, rfl, rfl, ha, pa, hb, pb, q⟩ := h
  cases rx
  cases ry
  obtain ⟨o1, e1, n1⟩ := obj_there I ha pa
  obtain ⟨o2, e2, _⟩ := obj_there I hb pb
  by_cases z : a = b
  · subst z
    exact wpAny_isNot_ref_self (fin_bl I q (by simp))
  · exact wpAny_isNot_ref_other z e1 e2 n1 (fin_bl I q (by simp [z]))
/-- two rules for one operation: by cases -/
theorem OpR.or {f : Value → Value → Sem Value} {r r' : R2} (h : OpR X f r) (h' : OpR X f r') : OpR X f (fun x y H Q => r x y H Q ∨ r' x y H Q) := by
  intro pins s σ H x y v u Q I rx ry q
  rcases q with q | q
  · exact h pins s σ H x y v u Q I rx ry q
  · exact h' pins s σ H x y v u Q I rx ry q
theorem nomark (b : Expr) {op : CmpOp} (h : op ≠ .In := by decide) (h2 : op ≠ .NotIn := by decide) : behindInMarks op b = false := by
  have e1 : (op == CmpOp.In) = false := by cases op <;> first | rfl | exact absurd rfl h
  have e2 : (op == CmpOp.NotIn) = false := by cases op <;> first | rfl | exact absurd rfl h2
  cases b <;> simp [behindInMarks, e1, e2]
/-- a comparison as a value; hm: nomark b, or (for in, not in) by with_unfolding_all rfl -/
theorem pe_cmpR {op : CmpOp} {r : R2} (ho : OpR X (compareOp op) r) (ha : PE X a ta) (hb : PE X b tb) (hm : behindInMarks op b = false) : PE X (.Compare a [op] [b] pos) (tOp r ta tb) := by
  intro pins s σ H Q I h
  exact wpAny_Compare1 (binT ha hb I h fun v u s2 x y H2 I2 rx ry q => ho pins s2 σ H2 x y v u Q I2 rx ry q) hm
/-- a reading of a value as a test -/
def tTest (t : TE) : TT := fun σ H Q => t σ H fun x H' => ∃ k, x = .bl k ∧ Q k H'
theorem pt_cmpR {op : CmpOp} {r : R2} (ho : OpR X (compareOp op) r) (ha : PE X a ta) (hb : PE X b tb) (hm : behindInMarks op b = false) : PT X (.Compare a [op] [b] pos) (tTest (tOp r ta tb)) := by
  intro pins s σ H Q I h
  refine wpAny_isTrue_Compare1 (thn (ha pins s σ H _ I h) fun v s1 ⟨x, H1, I1, r1, q1⟩ => thn (hb pins s1 σ H1 _ I1 q1) fun u s2 ⟨y, H2, I2, r2, q2⟩ =>
    thn (ho pins s2 σ H2 x y v u _ I2 r1 r2 q2) fun c s3 ⟨z, H3, I3, r3, k, e, q3⟩ => ?_) hm
  subst e
  cases r3
  exact wpAny_truthy_bool ⟨H3, I3, q3⟩
/-- a op1 b op2 c -/
def tChain (r r' : R2) (ta tb tc : TE) : TE := fun σ H Q => ta σ H fun x H1 => tb σ H1 fun y H2 => r x y H2 fun z H3 => ∃ k, z = .bl k ∧
  (if k = true then tc σ H3 fun w' H4 => r' y w' H4 Q else Q (.bl false) H3)
theorem pe_chain {op op' : CmpOp} {r r' : R2} (ho : OpR X (compareOp op) r) (ho' : OpR X (compareOp op') r') (ha : PE X a ta) (hb : PE X b tb) (hc : PE X c tc)
    (hm : lastMarks [op, op'] [b, c] = false := by with_unfolding_all rfl) : PE X (.Compare a [op, op'] [b, c] pos) (tChain r r' ta tb tc) := by
  intro pins s σ H Q I h
  refine Compare_chain (thn (ha pins s σ H _ I h) fun v s1 ⟨x, H1, I1, r1, q1⟩ => chain_link (thn (hb pins s1 σ H1 _ I1 q1) fun u s2 ⟨y, H2, I2, r2, q2⟩ =>
    thn (ho pins s2 σ H2 x y v u _ I2 r1 r2 q2) fun d s3 ⟨z, H3, I3, r3, k, e, q3⟩ => ?_)) hm
  subst e
  cases r3
  refine wpAny_truthy_bool ?_
  cases k with
  | false => exact ite_ff ⟨.bl false, H3, I3, rfl, q3⟩
  | true => exact ite_tt (chain_last (thn (hc pins s3 σ H3 _ I3 q3) fun w' s4 ⟨z', H4, I4, r4, q4⟩ => ho' pins s4 σ H4 y z' u w' Q I4 r2 r4 q4))
theorem pt_chain {op op' : CmpOp} {r r' : R2} (ho : OpR X (compareOp op) r) (ho' : OpR X (compareOp op') r') (ha : PE X a ta) (hb : PE X b tb) (hc : PE X c tc)
    (hm : lastMarks [op, op'] [b, c] = false := by with_unfolding_all rfl) : PT X (.Compare a [op, op'] [b, c] pos) (tTest (tChain r r' ta tb tc)) := by
  intro pins s σ H Q I h
  refine isTrue_chain (thn (ha pins s σ H _ I h) fun v s1 ⟨x, H1, I1, r1, q1⟩ => test_link (thn (hb pins s1 σ H1 _ I1 q1) fun u s2 ⟨y, H2, I2, r2, q2⟩ =>
    thn (ho pins s2 σ H2 x y v u _ I2 r1 r2 q2) fun d s3 ⟨z, H3, I3, r3, k, e, q3⟩ => ?_)) hm
  subst e
  cases r3
  refine wpAny_truthy_bool ?_
  cases k with
  | false =>
    obtain ⟨k', e', q'⟩ := q3
    cases e'
    exact ite_ff ⟨H3, I3, q'⟩
  | true =>
    refine ite_tt (test_last (thn (hc pins s3 σ H3 _ I3 q3) fun w' s4 ⟨z', H4, I4, r4, q4⟩ => thn (ho' pins s4 σ H4 y z' u w' _ I4 r2 r4 q4) fun d' s5 ⟨z2, H5, I5, r5, k2, e2, q5⟩ => ?_))
    subst e2
    cases r5
    exact wpAny_truthy_bool ⟨H5, I5, q5⟩
/-! ### truth -/
/-- a value's truth by the abstract heap -/
def TruV (K : PySem.W.Frag) (x : V) (H : Hp) (k : Bool) : Prop :=
  match x with
  | .non => k = false
  | .bl b => k = b
  | .int i => k = (i != 0)
  | .str y => y.length ≤ sizeLine ∧ k = ((y.length : Int) != 0)
  | .byt y => y.size ≤ sizeLine ∧ k = ((y.size : Int) != 0)
  | .ref p => (∃ xs, SqL K H p xs ∧ k = !xs.isEmpty) ∨ (∃ xs, SqT K H p xs ∧ k = !xs.isEmpty) ∨ ∃ kvs, H p = some (.dK kvs) ∧ k = !kvs.isEmpty
  | _ => False
theorem isEmpty_kv {κ : Type} {kvs : List (κ × V)} {vs : List (κ × Value)} (r : KV kvs vs) : (!vs.isEmpty) = !kvs.isEmpty := by
  cases r <;> rfl
theorem isEmpty_of {xs : List V} {its : List Value} (r : Vals xs its) : (!its.toArray.isEmpty) = !xs.isEmpty := by
  cases r <;> simp
theorem line63 : (sizeLine : Nat) < 2 ^ 63 := by rw [sizeLine_eq]; decide
theorem tru_ok : TruR X (fun x H Q => ∃ k, TruV X.K x H k ∧ Q k H) := by
  intro pins s σ H x v Q I rx h
  obtain ⟨k, e, q⟩ := h
  have hl := line63
  have hs : sizeLine = 16777216 := sizeLine_eq
  cases x with
  | non =>
    cases rx
    have e' : k = false := e
    subst e'
    exact truthy_none ⟨H, I, q⟩
  | bl b =>
    cases rx
    have e' : k = b := e
    subst e'
    exact wpAny_truthy_bool ⟨H, I, q⟩
  | int i =>
    obtain ⟨t, rfl⟩ := rx
    have e' : k = (i != 0) := e
    subst e'
    exact PySem.P.truthy_int ⟨H, I, q⟩
  | str y =>
    obtain ⟨t, rfl⟩ := rx
    obtain ⟨hy, e'⟩ : y.length ≤ sizeLine ∧ k = ((y.length : Int) != 0) := e
    subst e'
    exact PySem.P.truthy_str (by omega) ⟨H, I.tok _, q⟩
  | byt y =>
    obtain ⟨t, rfl⟩ := rx
    obtain ⟨hy, e'⟩ : y.size ≤ sizeLine ∧ k = ((y.size : Int) != 0) := e
    subst e'
    exact PySem.W.truthy_bytes (by omega) ⟨H, I.tok _, q⟩
  | ref p =>
    cases rx
    have e' : (∃ xs, SqL X.K H p xs ∧ k = !xs.isEmpty) ∨ (∃ xs, SqT X.K H p xs ∧ k = !xs.isEmpty) ∨ ∃ kvs, H p = some (.dK kvs) ∧ k = !kvs.isEmpty := e
    rcases e' with ⟨xs, hx, e'⟩ | ⟨xs, hx, e'⟩ | ⟨kvs, hx, e'⟩
    · subst e'
      obtain ⟨its, r, pl, hz⟩ := I.list hx
      have hlen := r.length
      exact wpAny_truthy_list pl.isList (by simp only [List.size_toArray]; omega) ⟨H, I.tok _, by rw [isEmpty_of r]; exact q⟩
    · subst e'
      obtain ⟨its, r, pl, hz⟩ := I.tuple hx
      have hlen := r.length
      exact truthy_tuple pl (by simp only [List.size_toArray]; omega) ⟨H, I.tok _, by rw [isEmpty_of r]; exact q⟩
    · subst e'
      obtain ⟨hz, hS, vs, r, m⟩ : kvs.length ≤ sizeLine ∧ (p == sysModules) = false ∧ ∃ vs, KV kvs vs ∧ s.heap.DictOf (mixKind X.prog X.w) p vs := I.hok p _ hx
      have hlen : kvs.length = vs.length := Paired.length r
      exact wpAny_truthy_dict hS m (by omega) ⟨H, I.tok _, by rw [isEmpty_kv r]; exact q⟩
  | _ => exact (show False from e).elim
/-- any expression whose test is its value's truth (a name, a call, a subscript, a field ..: he by fun _ => rfl) -/
theorem pt_truth (ha : PE X a ta) (he : ∀ whole, isTrue a X.env whole = (do let v ← whole; standAt a.pos; holding [v] (truthy v))) :
    PT X a (fun σ H Q => ta σ H fun x H' => ∃ k, TruV X.K x H' k ∧ Q k H') := by
  intro pins s σ H Q I h
  exact isTrue_plain (thn (ha pins s σ H _ I h) fun v s1 ⟨x, H1, I1, r1, q1⟩ => tru_ok pins s1 σ H1 x v Q I1 r1 q1) (he _)
/-! ### strs and bytes -/
theorem pe_byt {x : List UInt8} {k : Nat} : PE X (.Constant (.bytes x) k pos) (fun _ H Q => Q (.byt x.toArray) H) := fun _ _ _ H _ I h => PySem.W.Constant_bytes ⟨.byt x.toArray, H, I.tok _, ⟨_, rfl⟩, h⟩
theorem op_add_str : OpR X (binaryOp .Add) (fun x y H Q => ∃ i j, x = .str i ∧ y = .str j ∧ i.length + j.length ≤ sizeLine ∧ Q (.str (i ++ j)) H) := by
  intro pins s σ H x y v u Q I rx ry h
  obtain ⟨i, j, rfl, rfl, hz, q⟩ := h
  obtain ⟨t, rfl⟩ := rx
  obtain ⟨t', rfl⟩ := ry
  exact add_str (fun t' tk => ⟨.str (i ++ j), H, I.tok _, ⟨_, rfl⟩, q⟩) hz
theorem iop_add_str : OpR X (inplaceOp .Add) (fun x y H Q => ∃ i j, x = .str i ∧ y = .str j ∧ i.length + j.length ≤ sizeLine ∧ Q (.str (i ++ j)) H) := by
  intro pins s σ H x y v u Q I rx ry h
  obtain ⟨i, j, rfl, rfl, hz, q⟩ := h
  obtain ⟨t, rfl⟩ := rx
  obtain ⟨t', rfl⟩ := ry
  exact iadd_str (fun t' tk => ⟨.str (i ++ j), H, I.tok _, ⟨_, rfl⟩, q⟩) hz
theorem op_add_byt : OpR X (binaryOp .Add) (fun x y H Q => ∃ i j, x = .byt i ∧ y = .byt j ∧ i.size + j.size ≤ 16777216 ∧ Q (.byt (i ++ j)) H) := by
  intro pins s σ H x y v u Q I rx ry h
  obtain ⟨i, j, rfl, rfl, hz, q⟩ := h
  obtain ⟨t, rfl⟩ := rx
  obtain ⟨t', rfl⟩ := ry
  exact PySem.W.KBy.add_bytes hz (fun t' tk => ⟨.byt (i ++ j), H, I.tok _, ⟨_, rfl⟩, q⟩)
def PlainIxT (b : Expr) : Prop := ∀ o i, subscripted b false o i = operate [o, i] (getItem o i)
/-- s[i], 0 ≤ i < len -/
theorem pe_item_str (ha : PE X a ta) (hb : PE X b tb) (hs : PlainIxT b) :
    PE X (.Subscript a b pos) (tOp (fun x y H Q => ∃ z i c, x = .str z ∧ y = .int i ∧ 0 ≤ i ∧ i < 2 ^ 63 ∧ i < z.length ∧ z.cps[i.toNat]? = some c ∧ Q (.str ⟨#[c]⟩) H) ta tb) := by
  intro pins s σ H Q I h
  refine Subscript_ (binT ha hb I h fun v u s2 x y H2 I2 rx ry q => ?_)
  obtain ⟨z, i, c, rfl, rfl, h0, h63, h1, hc, q⟩ := q
  obtain ⟨t, rfl⟩ := rx
  obtain ⟨t', rfl⟩ := ry
  have e : seqIndex? i z.length = some i.toNat := PySem.StrLaws.seqIndex_nonneg h0 h1
  exact tail_any (typeIs_str s2 z t) slot_str_getitem.lookup (getItem_str (c := c) (by
    have e1 : decide (i < -(2 ^ 63 : Int)) = false := decide_eq_false (by omega)
    have e2 : decide (i ≥ 2 ^ 63) = false := decide_eq_false (by omega)
    rw [e1, e2] <;> rfl) (by rw [e]; exact hc) ⟨.str ⟨#[c]⟩, H2, I2.tok _, ⟨_, rfl⟩, q⟩) (hs _ _)
/-- b[i], 0 ≤ i < len -/
theorem pe_item_byt (ha : PE X a ta) (hb : PE X b tb) (hs : PlainIxT b) :
    PE X (.Subscript a b pos) (tOp (fun x y H Q => ∃ (z : List UInt8) (i : Int), x = .byt z.toArray ∧ y = .int i ∧ z.length ≤ sizeLine ∧ 0 ≤ i ∧ i < z.length ∧ Q (.int ((z.getD i.toNat 0).toNat : Nat)) H) ta tb) := by
  intro pins s σ H Q I h
  refine Subscript_ (binT ha hb I h fun v u s2 x y H2 I2 rx ry q => ?_)
  obtain ⟨z, i, rfl, rfl, hz, h0, h1, q⟩ := q
  obtain ⟨t, rfl⟩ := rx
  obtain ⟨t', rfl⟩ := ry
  have hl : sizeLine = 16777216 := sizeLine_eq
  exact tail_any (PySem.W.typeIs_bytes s2 z.toArray t) PySem.W.FB.slot_bytes_getitem.lookup (PySem.W.getItem_bytes (by omega) h0 h1 ⟨.int ((z.getD i.toNat 0).toNat : Nat), H2, I2.tok _, ⟨_, rfl⟩, q⟩) (hs _ _)
/-! ### scalar builtins, by CallR -/
theorem vals1 {x : V} {us : List Value} (r : Vals [x] us) : ∃ u, us = [u] ∧ RelV x u := by
  cases r with
  | cons r1 r2 => cases r2; exact ⟨_, rfl, r1⟩
theorem vals2 {x y : V} {us : List Value} (r : Vals [x, y] us) : ∃ u w', us = [u, w'] ∧ RelV x u ∧ RelV y w' := by
  cases r with
  | cons r1 r2 =>
    cases r2 with
    | cons r3 r4 => cases r4; exact ⟨_, _, rfl, r1, r3⟩
theorem call_abs : CallR X (.builtin "abs") (fun xs H Q => ∃ i, xs = [.int i] ∧ Q (.int (if i < 0 then -i else i)) H) := by
  intro pins s σ H xs us Q I r h
  obtain ⟨i, rfl, q⟩ := h
  obtain ⟨u, rfl, t, rfl⟩ := vals1 r
  exact call_abs_int fun u tk => ⟨.int (if i < 0 then -i else i), H, I.tok _, ⟨_, rfl⟩, q⟩
theorem call_max2 (hc : X.calm = true) : CallR X (.builtin "max") (fun xs H Q => ∃ i j, xs = [.int i, .int j] ∧ Q (.int (if j > i then j else i)) H) := by
  intro pins s σ H xs us Q I r h
  obtain ⟨i, j, rfl, q⟩ := h
  obtain ⟨u, w', rfl, ⟨t, rfl⟩, ⟨t', rfl⟩⟩ := vals2 r
  refine max_two_ints (I.ok.hd hc) fun h' tk k => ⟨_, H, I.kept k, ?_, q⟩
  by_cases hj : j > i
  · rw [if_pos hj, if_pos hj]; exact ⟨_, rfl⟩
  · rw [if_neg hj, if_neg hj]; exact ⟨_, rfl⟩
theorem call_min2 (hc : X.calm = true) : CallR X (.builtin "min") (fun xs H Q => ∃ i j, xs = [.int i, .int j] ∧ Q (.int (if j < i then j else i)) H) := by
  intro pins s σ H xs us Q I r h
  obtain ⟨i, j, rfl, q⟩ := h
  obtain ⟨u, w', rfl, ⟨t, rfl⟩, ⟨t', rfl⟩⟩ := vals2 r
  refine min_two_ints (I.ok.hd hc) fun h' tk k => ⟨_, H, I.kept k, ?_, q⟩
  by_cases hj : j < i
  · rw [if_pos hj, if_pos hj]; exact ⟨_, rfl⟩
  · rw [if_neg hj, if_neg hj]; exact ⟨_, rfl⟩
theorem call_int1 : CallR X (.type "int") (fun xs H Q => (∃ i, xs = [.int i] ∧ Q (.int i) H) ∨ ∃ k, xs = [.bl k] ∧ Q (.int (if k then 1 else 0)) H) := by
  intro pins s σ H xs us Q I r h
  rcases h with ⟨i, rfl, q⟩ | ⟨k, rfl, q⟩
  · obtain ⟨u, rfl, t, rfl⟩ := vals1 r
    exact call_int_int ⟨.int i, H, I, ⟨_, rfl⟩, q⟩
  · obtain ⟨u, rfl, r1⟩ := vals1 r
    cases r1
    exact call_int_bool ⟨.int (if k then 1 else 0), H, I.tok _, ⟨_, rfl⟩, q⟩
theorem call_bool1 : CallR X (.type "bool") (fun xs H Q => (∃ i, xs = [.int i] ∧ Q (.bl (i != 0)) H) ∨ ∃ k, xs = [.bl k] ∧ Q (.bl k) H) := by
  intro pins s σ H xs us Q I r h
  rcases h with ⟨i, rfl, q⟩ | ⟨k, rfl, q⟩
  · obtain ⟨u, rfl, t, rfl⟩ := vals1 r
    exact call_bool_int ⟨.bl (i != 0), H, I, rfl, q⟩
  · obtain ⟨u, rfl, r1⟩ := vals1 r
    cases r1
    exact call_bool_bool ⟨.bl k, H, I, rfl, q⟩
theorem call_str_int : CallR X (.type "str") (fun xs H Q => ∃ i, xs = [.int i] ∧ i.natAbs.log2 < 1920 ∧ Q (.str (toString i)) H) := by
  intro pins s σ H xs us Q I r h
  obtain ⟨i, rfl, hz, q⟩ := h
  obtain ⟨u, rfl, t, rfl⟩ := vals1 r
  exact PySem.P.str_of_int hz ⟨.str _, H, I.tok _, ⟨_, rfl⟩, q⟩
theorem call_ord : CallR X (.builtin "ord") (fun xs H Q => ∃ x, xs = [.str x] ∧ x.length = 1 ∧ Q (.int (x.cps.getD 0 0 : Nat)) H) := by
  intro pins s σ H xs us Q I r h
  obtain ⟨x, rfl, hz, q⟩ := h
  obtain ⟨u, rfl, t, rfl⟩ := vals1 r
  exact ord_of_one hz ⟨.int _, H, I.tok _, ⟨_, rfl⟩, q⟩
theorem call_chr : CallR X (.builtin "chr") (fun xs H Q => ∃ i, xs = [.int i] ∧ 0 ≤ i ∧ i ≤ 1114111 ∧ Q (.str ⟨#[i.toNat]⟩) H) := by
  intro pins s σ H xs us Q I r h
  obtain ⟨i, rfl, h0, h1, q⟩ := h
  obtain ⟨u, rfl, t, rfl⟩ := vals1 r
  exact chr_of_range h0 h1 ⟨.str _, H, I.tok _, ⟨_, rfl⟩, q⟩
/-- len of a str, a bytes, a list, a tuple -/
def LenV (K : PySem.W.Frag) (x : V) (H : Hp) (n : Nat) : Prop :=
  match x with
  | .str y => y.length ≤ sizeLine ∧ n = y.length
  | .byt y => y.size ≤ sizeLine ∧ n = y.size
  | .ref p => (∃ xs, SqL K H p xs ∧ n = xs.length) ∨ ∃ xs, SqT K H p xs ∧ n = xs.length
  | _ => False
theorem call_len : CallR X (.builtin "len") (fun xs H Q => ∃ x n, xs = [x] ∧ LenV X.K x H n ∧ Q (.int n) H) := by
  intro pins s σ H xs us Q I r h
  obtain ⟨x, n, rfl, e, q⟩ := h
  obtain ⟨u, rfl, rx⟩ := vals1 r
  have hl := line63
  have hs : sizeLine = 16777216 := sizeLine_eq
  cases x with
  | str y =>
    obtain ⟨t, rfl⟩ := rx
    obtain ⟨hy, e'⟩ : y.length ≤ sizeLine ∧ n = y.length := e
    subst e'
    exact len_str (by omega) ⟨.int _, H, I.tok _, ⟨_, rfl⟩, q⟩
  | byt y =>
    obtain ⟨t, rfl⟩ := rx
    obtain ⟨hy, e'⟩ : y.size ≤ sizeLine ∧ n = y.size := e
    subst e'
    exact PySem.W.len_bytes (by omega) ⟨.int _, H, I.tok _, ⟨_, rfl⟩, q⟩
  | ref p =>
    cases rx
    have e' : (∃ xs, SqL X.K H p xs ∧ n = xs.length) ∨ ∃ xs, SqT X.K H p xs ∧ n = xs.length := e
    rcases e' with ⟨xs, hx, e'⟩ | ⟨xs, hx, e'⟩
    · subst e'
      obtain ⟨its, r', pl, hz⟩ := I.list hx
      have hlen := r'.length
      exact Calls.call_len_list pl.isList (by simp only [List.size_toArray]; omega) ⟨.int xs.length, H, I.tok _, ⟨_, by simp only [List.size_toArray]; rw [hlen]⟩, q⟩
    · subst e'
      obtain ⟨its, r', pl, hz⟩ := I.tuple hx
      have hlen := r'.length
      exact len_tuple pl (by simp only [List.size_toArray]; omega) ⟨.int xs.length, H, I.tok _, ⟨_, by simp only [List.size_toArray]; rw [hlen]⟩, q⟩
  | _ => exact (show False from e).elim
/-- divmod: a new tuple -/
theorem call_divmod : CallR X (.builtin "divmod") (fun xs H Q => ∃ i j, xs = [.int i, .int j] ∧ CDiv i j ∧ ∀ p, H p = none → Q (.ref p) (upd H p (.tup [.int (i / j), .int (i % j)]))) := by
  intro pins s σ H xs us Q I r h
  obtain ⟨i, j, rfl, ⟨h1, h2⟩, q⟩ := h
  obtain ⟨u, w', rfl, ⟨t, rfl⟩, ⟨t', rfl⟩⟩ := vals2 r
  refine divmod_int (by omega) ?_ (.inl (PyProof.noPylong_small (by omega)))
  rw [Int.fdiv_eq_ediv_of_nonneg i (by omega), Int.fmod_eq_emod_of_nonneg i (by omega)]
  have hn : H s.heap.objs.size = none := I.hok.fresh (Nat.le_refl _)
  refine ⟨.ref s.heap.objs.size, _, ?_, rfl, q _ hn⟩
  refine I.laid (fun b o e => Heap.get?_push_of_some _ e) (Nat.le_refl _) ⟨by simp only [List.length_cons, List.length_nil]; rw [sizeLine_eq]; decide, [.int (i / j) s.toks, .int (i % j) (s.toks + 1)], .cons ⟨_, rfl⟩ (.cons ⟨_, rfl⟩ .nil), ?_⟩
  exact ⟨_, Heap.get?_push_size s.heap rfl, rfl, 0, rfl⟩
end
end L2
namespace L2
open PySem PySem.Spec PyProof.Rows
/-! ### an instance, its attributes a map -/
structure ObjM (h : Heap) (x dx C : Addr) (mA : Str → Option Value) : Prop where
  obj : h.get? x = some (PySem.W.instObj C dx)
  ns : h.Ns1 dx mA
  ne : dx ≠ x
theorem lookIn_ns {h : Heap} {dx : Addr} {mA : Str → Option Value} (n : h.Ns1 dx mA) : ∃ od, h.get? dx = some od ∧ ∀ name, PySem.W.lookIn name od = some (mA name) := by
  obtain ⟨o, es, ep, ho, hd, hk, _, hm⟩ := n
  refine ⟨o, ho, fun name => ?_⟩
  have e := hm name
  unfold nsFind findBy at e
  rw [← Array.find?_toList] at e
  unfold PySem.W.lookIn
  rw [hd]
  dsimp only
  split
  · rename_i y q
    rw [q] at e
    exact congrArg some e
  · rename_i q
    rw [q] at e
    have a : es.toList.any (·.refKey) = false := by
      rw [List.any_eq_false]
      intro y hy
      obtain ⟨z, t, hkey⟩ := hk y (Array.mem_toList_iff.mp hy)
      simp [DictEntry.refKey, hkey]
    have a' : ¬ es.toList.any (·.refKey) = true := by rw [a]; exact Bool.false_ne_true
    rw [if_neg a']
    exact congrArg some e
theorem ObjM.look {h : Heap} {x dx C : Addr} {mA : Str → Option Value} (I : ObjM h x dx C mA) : ∃ od, PySem.W.InstAt h x (PySem.W.instObj C dx) C (some od) ∧ ∀ name, PySem.W.lookIn name od = some (mA name) :=
  let ⟨od, ho, hl⟩ := lookIn_ns I.ns
  ⟨od, ⟨I.obj, rfl, rfl, ho⟩, hl⟩
section
variable {prog : Program} {w : World} {A : Around} {E : Value → Shared → Prop} {s : Shared} {K : PySem.W.Frag} {x dx C f : Addr} {mA : Str → Option Value} {name : Str} {v : Value}
theorem get_map {expr : Bool} {Q : Value → Shared → Prop} (X : K.In s.heap) (I : ObjM s.heap x dx C mA) (hg : PySem.W.plainGet K C name = true) (hh : PySem.W.hasDictIn K C = true)
    (ha : PySem.W.findIn K (.ref C) name = some none) (hv : mA name = some v) (hv' : PySem.W.handedIn v = true) (h : Q v { s with toks := s.toks + 1 }) :
    wpAny (model prog w) A (getAttr (.ref x) name expr) Q E s := by
  obtain ⟨od, J, hl⟩ := I.look
  exact PySem.W.get_value X J (PySem.W.plainGet_of hg).1 (PySem.W.findObj_own hh ha rfl (by rw [hl, hv])) hv' h
theorem get_const {expr : Bool} {a : Value} {Q : Value → Shared → Prop} (X : K.In s.heap) (I : ObjM s.heap x dx C mA) (hg : PySem.W.plainGet K C name = true) (hh : PySem.W.hasDictIn K C = true)
    (ha : PySem.W.findIn K (.ref C) name = some (some a)) (hn : PySem.W.specialIn K a "__get__" = some none) (hc : PySem.W.copiedNames.contains name = false) (hv : mA name = none) (hv' : PySem.W.handedIn a = true)
    (h : Q a { s with toks := s.toks + 1 }) : wpAny (model prog w) A (getAttr (.ref x) name expr) Q E s := by
  obtain ⟨od, J, hl⟩ := I.look
  exact PySem.W.get_value X J (PySem.W.plainGet_of hg).1 (PySem.W.findObj_cls hh ha hn hv' hc (by rw [hl, hv])) hv' h
theorem get_meth {pl : Sem Bool} {Q : Value × List Value → Shared → Prop} (X : K.In s.heap) (I : ObjM s.heap x dx C mA) (hg : PySem.W.plainGet K C name = true)
    (hf : PySem.W.findIn K (.ref C) name = some (some (.ref f))) (ht : PySem.W.isFn K (.ref f) = true) (hv : mA name = none) (h : Q (.ref f, [.ref x]) s) :
    wpAny (model prog w) A (getMethod (.ref x) name pl) Q E s := by
  obtain ⟨od, J, hl⟩ := I.look
  exact PySem.W.method_fn X J (PySem.W.plainGet_of hg).1 (PySem.W.plainGet_of hg).2 hf (beq_iff_eq.mp ht) (by show (PySem.W.lookIn name od).map (·.isSome) = some false; rw [hl, hv]; rfl) h
theorem set_map {ns : List Str} {Q : Unit → Shared → Prop} (X : K.In s.heap) (I : ObjM s.heap x dx C mA)
    (hs : PySem.W.findIn K (.ref C) "__setattr__" = some (some (.builtin "object.__setattr__"))) (hp : PySem.W.plainOver K C = true) (ht : PySem.W.takerIn K C name = some none) (hh : PySem.W.hasDictIn K C = true)
    (hw : PySem.Within mA ns) (hsz : ns.length ≤ sizeLine)
    (h : ∀ h', ObjM h' x dx C (fun y => if y = name then some v else mA y) → Heap.SameBut dx s.heap h' → Q () { s with heap := h', toks := s.toks + 2 }) :
    wpAny (model prog w) A (setAttr (.ref x) name v) Q E s := by
  obtain ⟨od, J, hl⟩ := I.look
  refine PySem.W.set_plain X J hs (PySem.W.osa_open (s := { s with toks := s.toks + 1 }) (r := none) X J hp ht fun b => ?_)
  obtain ⟨cd, hc, hd'⟩ := PySem.W.any_some hh
  have hx : s.heap.get? x = some ⟨.ref C, some dx, .plain, #[]⟩ := I.obj
  refine wpAny_bind (wpAny_pure (wpAny_bind (wpAny_bind (wpAny_loadPart hx (wpAny_bind (PySem.W.Looks.here (s := { s with toks := s.toks + 1 }) (PySem.W.looks_clsIn X hc) ?_))))))
  rw [hd']
  refine wpAny_pure (a := some dx) (wpAny_bind (wpAny_pure (wpAny_bind ?_)))
  refine wpAny_nsSet1 (s := { s with toks := s.toks + 1 }) I.ns fun h' hn2 hs2 => ?_
  obtain ⟨oD, esD, epD, hoD, hdD, hcD⟩ := hn2.count (PySem.Within.cons name v hw)
  refine wpAny_bind (wpAny_lookBehind hoD (by rw [hdD]; exact pastItsLine_dict (Nat.le_trans hcD (by rw [List.length_cons]; omega))) ?_)
  exact wpAny_pure (h _ ⟨(hs2.2 _ (Ne.symm I.ne)).trans I.obj, hn2, I.ne⟩ hs2)
/-- C(..): the dict at the heap's end, the instance behind it; then its __init__ -/
theorem make_map {R : Result → Shared → Prop} {vs : List Value} {kw : List (Str × Value)} (X : K.In s.heap) (hm : PySem.W.makesIn K C = true)
    (hi : PySem.W.findIn K (.ref C) "__init__" = some (some (.ref f))) (hf : PySem.W.typeIn K (.ref f) = some (.type "function"))
    (h : codeAny (model prog w) (A.under (.builtin "type.__call__" ⟨.ref C :: vs, kw⟩)) (.call (.ref f) ⟨.ref (s.heap.objs.size + 1) :: vs, kw⟩) (PySem.W.InitBack (s.heap.objs.size + 1) R)
      { s with heap := (s.heap.push PySem.W.emptyDict).push (PySem.W.instObj C s.heap.objs.size) }) :
    codeAny (model prog w) A (.call (.ref C) ⟨vs, kw⟩) R s := by
  obtain ⟨hh, g, d, t, os⟩ := s
  exact PySem.W.make_core (PySem.W.makes_of X hm) (PySem.W.looks_findIn X hi) (fun self => PySem.W.bind_fn X self hf) (.inl rfl) h
/-- C() where there is no __init__ but object's -/
theorem make_map0 {R : Result → Shared → Prop} (X : K.In s.heap) (hm : PySem.W.makesIn K C = true)
    (hi : PySem.W.findIn K (.ref C) "__init__" = some (some (.builtin "object.__init__")))
    (hb : ∀ self, PySem.W.Looks (model prog w) s.heap (bindSpecial (.builtin "object.__init__") self) (.builtin "object.__init__", [self]))
    (h : codeAny (model prog w) (A.under (.builtin "type.__call__" ⟨[.ref C], []⟩)) (.call (.builtin "object.__init__") ⟨[.ref (s.heap.objs.size + 1)], []⟩) (PySem.W.InitBack (s.heap.objs.size + 1) R)
      { s with heap := (s.heap.push PySem.W.emptyDict).push (PySem.W.instObj C s.heap.objs.size) }) :
    codeAny (model prog w) A (.call (.ref C) ⟨[], []⟩) R s := by
  obtain ⟨hh, g, d, t, os⟩ := s
  exact PySem.W.make_core (PySem.W.makes_of X hm) (PySem.W.looks_findIn X hi) hb (.inr ⟨rfl, rfl⟩) h
end
/-! ### the attributes as a list of pairs -/
def putF (f : Str) (v : V) : List (Str × V) → List (Str × V)
  | [] => [(f, v)]
  | (g, x) :: r => if g = f then (g, v) :: r else (g, x) :: putF f v r
theorem lookup_putF (f g : Str) (v : V) : ∀ fs : List (Str × V), (putF f v fs).lookup g = if g = f then some v else fs.lookup g
  | [] => by
    show List.lookup g [(f, v)] = _
    by_cases h : g = f
    · have hb : (g == f) = true := beq_iff_eq.mpr h
      simp only [List.lookup, hb, if_pos h]
    · have hb : (g == f) = false := beq_eq_false_iff_ne.mpr h
      simp only [List.lookup, hb, if_neg h]
  | (k, x) :: r => by
    have ih := lookup_putF f g v r
    rw [show putF f v ((k, x) :: r) = (if k = f then (k, v) :: r else (k, x) :: putF f v r) from rfl]
    by_cases hk : k = f
    · rw [if_pos hk]
      by_cases h : g = k
      · have hb : (g == k) = true := beq_iff_eq.mpr h
        simp only [List.lookup, hb, if_pos (h.trans hk)]
      · have hb : (g == k) = false := beq_eq_false_iff_ne.mpr h
        simp only [List.lookup, hb, if_neg (fun e : g = f => h (e.trans hk.symm))]
    · rw [if_neg hk]
      by_cases h : g = k
      · have hb : (g == k) = true := beq_iff_eq.mpr h
        simp only [List.lookup, hb, if_neg (fun e : g = f => hk (h.symm.trans e))]
      · have hb : (g == k) = false := beq_eq_false_iff_ne.mpr h
        simp only [List.lookup, hb]
        exact ih
theorem keys_putF (f : Str) (v : V) : ∀ fs : List (Str × V), f ∈ (putF f v fs).map (·.1) ∧ ∀ g, g ∈ fs.map (·.1) → g ∈ (putF f v fs).map (·.1)
  | [] => ⟨by simp [putF], fun g h => by simp at h⟩
  | (k, x) :: r => by
    obtain ⟨i1, i2⟩ := keys_putF f v r
    rw [show putF f v ((k, x) :: r) = (if k = f then (k, v) :: r else (k, x) :: putF f v r) from rfl]
    by_cases hk : k = f
    · rw [if_pos hk]
      subst hk
      exact ⟨by simp, fun g h => by simpa using h⟩
    · rw [if_neg hk]
      refine ⟨?_, fun g h => ?_⟩
      · rw [List.map_cons]
        exact List.mem_cons_of_mem _ i1
      · rw [List.map_cons] at h ⊢
        rcases List.mem_cons.mp h with e | e
        · exact List.mem_cons.mpr (.inl e)
        · exact List.mem_cons_of_mem _ (i2 g e)
theorem length_putF (f : Str) (v : V) : ∀ fs : List (Str × V), (putF f v fs).length ≤ fs.length + 1
  | [] => by simp [putF]
  | (k, x) :: r => by
    have ih := length_putF f v r
    rw [show putF f v ((k, x) :: r) = (if k = f then (k, v) :: r else (k, x) :: putF f v r) from rfl]
    by_cases hk : k = f
    · rw [if_pos hk, List.length_cons, List.length_cons]; omega
    · rw [if_neg hk, List.length_cons, List.length_cons]; omega
theorem RelO.some_of {v : V} {o : Option Value} (r : RelO (some v) o) : ∃ u, o = some u ∧ RelV v u := by
  cases o with
  | none => exact (show False from r).elim
  | some u => exact ⟨u, rfl, r⟩
theorem RelO.none_of {o : Option Value} (r : RelO none o) : o = none := by
  cases o with
  | none => rfl
  | some u => exact (show False from r).elim
theorem handed_of {v : V} {u : Value} (r : RelV v u) : PySem.W.handedIn u = true := by
  cases v with
  | non => cases (show u = Value.none from r); rfl
  | bl b => cases (show u = Value.bool b from r); rfl
  | int i => obtain ⟨t, e⟩ := (show ∃ t, u = Value.int i t from r); cases e; rfl
  | str x => obtain ⟨t, e⟩ := (show ∃ t, u = Value.str x t from r); cases e; rfl
  | byt b => obtain ⟨t, e⟩ := (show ∃ t, u = Value.bytes b t from r); cases e; rfl
  | flt b => obtain ⟨t, e⟩ := (show ∃ t, u = Value.float b t from r); cases e; rfl
  | ref a => cases (show u = Value.ref a from r); rfl
  | ty n => cases (show u = Value.type n from r); rfl
section
variable {P : Program} {w : World} {H H' : Hp} {h h' : Heap} {a C dx : Addr} {fs fs' : List (Str × V)}
theorem ins_get (hok : HOk P w H h) (e : H a = some (.ins C dx fs)) : ∃ mA, ObjM h a dx C mA ∧ (∀ f, RelO (fs.lookup f) (mA f)) ∧ PySem.Within mA (fs.map (·.1)) ∧ fs.length ≤ 1000 ∧ H dx = some (.own a) := by
  obtain ⟨d, z, ne, ob, mA, n, r, q⟩ := (show ObjOk P w H h a (.ins C dx fs) from hok a _ e)
  exact ⟨mA, ⟨ob, n, ne⟩, r, q, z, d⟩
end
/-! ### what of the text a class must have -/
structure Cls (K : PySem.W.Frag) (C : Addr) : Prop where
  pg : PySem.W.plainGet K C Str.empty = true
  hd : PySem.W.hasDictIn K C = true
  po : PySem.W.plainOver K C = true
  sa : PySem.W.findIn K (.ref C) "__setattr__" = some (some (.builtin "object.__setattr__"))
theorem Cls.get {K : PySem.W.Frag} {C : Addr} (c : Cls K C) (f : Str) : PySem.W.plainGet K C f = true := c.pg
/-- no class of it has the name -/
def NoAttr (K : PySem.W.Frag) (C : Addr) (f : Str) : Prop := PySem.W.findIn K (.ref C) f = some none
theorem NoAttr.taker {K : PySem.W.Frag} {C : Addr} {f : Str} (n : NoAttr K C f) : PySem.W.takerIn K C f = some none := by
  unfold PySem.W.takerIn
  rw [show PySem.W.findIn K (.ref C) f = some none from n]
  rfl
/-- a constant of the class -/
structure Con (K : PySem.W.Frag) (C : Addr) (f : Str) (v : V) (u : Value) : Prop where
  at_ : PySem.W.findIn K (.ref C) f = some (some u)
  rel : RelV v u
  get : PySem.W.specialIn K u "__get__" = some none
  cp : PySem.W.copiedNames.contains f = false
/-- a method: a plain def of the class or of one above it -/
structure Meth (K : PySem.W.Frag) (C : Addr) (m : Str) (f : Addr) : Prop where
  at_ : PySem.W.findIn K (.ref C) m = some (some (.ref f))
  fn : PySem.W.isFn K (.ref f) = true
  kp : PySem.W.keepIn K (.ref f) = true
section
variable {X : Cx} {pins : List (Addr × Obj)} {σ : St} {H : Hp} {s : Shared} {a C dx : Addr} {fs : List (Str × V)} {f : Str} {v : V} {A : Around} {E : Value → Shared → Prop}
theorem getattr_ok {b : Bool} {Q : Value → Shared → Prop} (I : Inv X pins σ H s) (e : H a = some (.ins C dx fs)) (c : Cls X.K C) (n : NoAttr X.K C f) (l : fs.lookup f = some v)
    (h : ∀ u s', Inv X pins σ H s' → RelV v u → Q u s') : wpAny (model X.prog X.w) A (getAttr (.ref a) f b) Q E s := by
  obtain ⟨mA, O, r, _, _, _⟩ := ins_get I.hok e
  obtain ⟨u, hu, ru⟩ := RelO.some_of (v := v) (o := mA f) (by rw [← l]; exact r f)
  exact get_map I.kIn O (c.get f) c.hd n hu (handed_of ru) (h u _ (I.tok _) ru)
theorem getcon_ok {b : Bool} {u : Value} {Q : Value → Shared → Prop} (I : Inv X pins σ H s) (e : H a = some (.ins C dx fs)) (c : Cls X.K C) (k : Con X.K C f v u) (l : fs.lookup f = none)
    (h : ∀ s', Inv X pins σ H s' → Q u s') : wpAny (model X.prog X.w) A (getAttr (.ref a) f b) Q E s := by
  obtain ⟨mA, O, r, _, _, _⟩ := ins_get I.hok e
  have hn : mA f = none := RelO.none_of (by rw [← l]; exact r f)
  exact get_const I.kIn O (c.get f) c.hd k.at_ k.get k.cp hn (handed_of k.rel) (h _ (I.tok _))
theorem getmeth_ok {m : Str} {g : Addr} {pl : Sem Bool} {Q : Value × List Value → Shared → Prop} (I : Inv X pins σ H s) (e : H a = some (.ins C dx fs)) (c : Cls X.K C) (k : Meth X.K C m g) (l : fs.lookup m = none)
    (h : Q (.ref g, [.ref a]) s) : wpAny (model X.prog X.w) A (getMethod (.ref a) m pl) Q E s := by
  obtain ⟨mA, O, r, _, _, _⟩ := ins_get I.hok e
  have hn : mA m = none := RelO.none_of (by rw [← l]; exact r m)
  exact get_meth I.kIn O (c.get m) k.at_ k.fn hn h
theorem setattr_ok {y : V} {u : Value} {Q : Unit → Shared → Prop} (I : Inv X pins σ H s) (e : H a = some (.ins C dx fs)) (c : Cls X.K C) (n : NoAttr X.K C f) (hl : fs.length < 1000) (ry : RelV y u)
    (h : ∀ s', Inv X pins σ (upd H a (.ins C dx (putF f y fs))) s' → Q () s') : wpAny (model X.prog X.w) A (setAttr (.ref a) f u) Q E s := by
  obtain ⟨mA, O, r, wi, _, ho⟩ := ins_get I.hok e
  have hz : (fs.map (·.1)).length ≤ sizeLine := by rw [List.length_map, sizeLine_eq]; omega
  refine set_map I.kIn O c.sa c.po n.taker c.hd wi hz fun h' O' sb => h _ ?_
  have hd : ∃ o, h'.get? dx = some o := let ⟨o, _, _, e', _⟩ := O'.ns; ⟨o, e'⟩
  refine I.write (x := a) (e := dx) (by rw [e]; exact True.intro) (.inr ho) (fun b q hb z => (sb.2 b hb).trans z) hd ?_
  refine ⟨by rw [upd_ne O.ne]; exact ho, ?_, O.ne, O'.obj, _, O'.ns, fun g => ?_, fun g hg => ?_⟩
  · have := length_putF f y fs; omega
  · show RelO ((putF f y fs).lookup g) (if g = f then some u else mA g)
    rw [lookup_putF]
    by_cases q : g = f
    · rw [if_pos q, if_pos q]; exact ry
    · rw [if_neg q, if_neg q]; exact r g
  · by_cases q : g = f
    · rw [q]; exact (keys_putF f y fs).1
    · refine (keys_putF f y fs).2 g (wi g fun z => hg ?_)
      show (if g = f then some u else mA g) = none
      rw [if_neg q]; exact z
/-- a new instance, tracked, without attributes -/
theorem Inv.made (I : Inv X pins σ H s) : Inv X pins σ (upd (upd H s.heap.objs.size (.own (s.heap.objs.size + 1))) (s.heap.objs.size + 1) (.ins C s.heap.objs.size []))
    { s with heap := (s.heap.push PySem.W.emptyDict).push (PySem.W.instObj C s.heap.objs.size) } := by
  have e1 : (s.heap.push PySem.W.emptyDict).get? s.heap.objs.size = some PySem.W.emptyDict := Heap.get?_push_size s.heap rfl
  have e2 : ((s.heap.push PySem.W.emptyDict).push (PySem.W.instObj C s.heap.objs.size)).get? (s.heap.objs.size + 1) = some (PySem.W.instObj C s.heap.objs.size) := by
    have := Heap.get?_push_size (s.heap.push PySem.W.emptyDict) (o := PySem.W.instObj C s.heap.objs.size) rfl
    rwa [Heap.size_push] at this
  have e3 : (s.heap.push PySem.W.emptyDict).Ns s.heap.objs.size (fun _ => none) := ⟨PySem.W.emptyDict, #[], _, e1, rfl, (fun e he => absurd he (by simp)), fun _ => rfl⟩
  have I1 := I.laid (a := s.heap.objs.size) (o := .own (s.heap.objs.size + 1)) (h' := s.heap.push PySem.W.emptyDict) (t' := s.toks) (fun b u q => Heap.get?_push_of_some _ q) (Nat.le_refl _) ⟨_, e1⟩
  refine I1.laid (a := s.heap.objs.size + 1) (o := .ins C s.heap.objs.size []) (t' := s.toks) (fun b u q => Heap.get?_push_of_some _ q) (Nat.le_of_eq (Heap.size_push _ _)) ?_
  have ne : s.heap.objs.size ≠ s.heap.objs.size + 1 := Nat.ne_of_lt (Nat.lt_succ_self _)
  refine ⟨by rw [upd_ne ne, upd_same], Nat.zero_le _, ne, e2, fun _ => none, (Heap.Ns1.of_empty e3).at fun o q => Heap.get?_push_of_some _ q, fun _ => True.intro, fun y hy => absurd rfl hy⟩
/-- e.f where nothing but the object is asked: through attributeBase (super) and the last hold -/
theorem attr_of {prog : Program} {w : World} {env : Env} {e : Expr} {f : Str} {pos : Pos} {s : Shared} {Q : Value → Shared → Prop} (hb : attributeBase e f env (eval e env) = eval e env)
    (h : wpAny (model prog w) A (eval e env) (fun o s₁ => wpAny (model prog w) A (getAttr o f true) Q E s₁) E s) : wpAny (model prog w) A (eval (.Attribute e f pos) env) Q E s :=
  Attribute_any_ h (by rw [arm_eval_Attribute, hb])
end
/-! ### readings and rules -/
/-- e.f, an attribute of the instance -/
def tFld (K : PySem.W.Frag) (ta : TE) (f : Str) : TE := fun σ H Q => ta σ H fun x H1 => ∃ a C dx fs v, x = .ref a ∧ H1 a = some (.ins C dx fs) ∧ Cls K C ∧ NoAttr K C f ∧ fs.lookup f = some v ∧ Q v H1
/-- e.f, a constant of the class -/
def tCon (K : PySem.W.Frag) (ta : TE) (f : Str) : TE := fun σ H Q => ta σ H fun x H1 => ∃ a C dx fs v u, x = .ref a ∧ H1 a = some (.ins C dx fs) ∧ Cls K C ∧ Con K C f v u ∧ fs.lookup f = none ∧ Q v H1
/-- e.f = value -/
def sFld (K : PySem.W.Frag) (ta tv : TE) (f : Str) : TS := fun D σ H => tv σ H fun y H1 => ta σ H1 fun x H2 => ∃ a C dx fs, x = .ref a ∧ H2 a = some (.ins C dx fs) ∧ Cls K C ∧ NoAttr K C f ∧ fs.length < 1000 ∧
  D.nx σ (upd H2 a (.ins C dx (putF f y fs)))
/-- an augmented operator on two values -/
def InOp (X : Cx) (op : Operator) (rd : V → V → Hp → VK → Prop) : Prop :=
  ∀ (pins : List (Addr × Obj)) (s : Shared) (σ : St) (H : Hp) (x y : V) (u v : Value) (Q : VK), Inv X pins σ H s → RelV x u → RelV y v → rd x y H Q → wpAny (model X.prog X.w) X.A (inplaceOp op u v) (EP X pins σ Q) X.xe s
/-- e.f op= value -/
def sFldAug (K : PySem.W.Frag) (ta tv : TE) (rd : V → V → Hp → VK → Prop) (f : Str) : TS := fun D σ H => ta σ H fun x H1 => ∃ a C dx fs v, x = .ref a ∧ H1 a = some (.ins C dx fs) ∧ Cls K C ∧ NoAttr K C f ∧ fs.lookup f = some v ∧
  tv σ H1 fun y H2 => rd v y H2 fun z H3 => ∃ dx' fs', H3 a = some (.ins C dx' fs') ∧ fs'.length < 1000 ∧ D.nx σ (upd H3 a (.ins C dx' (putF f z fs')))
section
variable {X : Cx} {o e value : Expr} {f : Str} {pos pos' tpos : Pos} {ta tv : TE}
theorem pe_fld (he : PE X e ta) (hb : attributeBase e f X.env (eval e X.env) = eval e X.env) : PE X (.Attribute e f pos) (tFld X.K ta f) := by
  intro pins s σ H Q I h
  refine attr_of hb (thn (he pins s σ H _ I h) fun u s1 ⟨x, H1, I1, rx, a, C, dx, fs, v, ex, ea, c, n, l, q⟩ => ?_)
  subst ex
  obtain rfl : u = Value.ref a := rx
  exact getattr_ok I1 ea c n l fun u' s2 I2 ru => ⟨v, H1, I2, ru, q⟩
theorem pe_con (he : PE X e ta) (hb : attributeBase e f X.env (eval e X.env) = eval e X.env) : PE X (.Attribute e f pos) (tCon X.K ta f) := by
  intro pins s σ H Q I h
  refine attr_of hb (thn (he pins s σ H _ I h) fun u s1 ⟨x, H1, I1, rx, a, C, dx, fs, v, u0, ex, ea, c, k, l, q⟩ => ?_)
  subst ex
  obtain rfl : u = Value.ref a := rx
  exact getcon_ok I1 ea c k l fun s2 I2 => ⟨v, H1, I2, k.rel, q⟩
theorem ps_fld (ha : PE X o ta) (hv : PE X value tv) (hs : swapsWith value (some (.Attribute o f pos')) pos.line X.env = pure false) : PS X (.Assign [.Attribute o f pos'] value pos) (sFld X.K ta tv f) := by
  intro pins s σ H D I h
  refine plainObj_wpAny_Assign_Attribute (thn (hv pins s σ H _ I h) fun u s1 ⟨y, H1, I1, ry, q⟩ => thn (ha pins s1 σ H1 _ I1 q) fun ov s2 ⟨x, H2, I2, rx, a, C, dx, fs, ex, ea, c, n, l, q2⟩ => ?_) hs
  subst ex
  obtain rfl : ov = Value.ref a := rx
  exact setattr_ok I2 ea c n l ry fun s3 I3 => ⟨σ, _, I3, q2⟩
theorem ps_fldaug {op : Operator} {rd : V → V → Hp → VK → Prop} (ha : PE X o ta) (hv : PE X value tv) (hop : InOp X op rd) : PS X (.AugAssign (.Attribute o f tpos) op value pos) (sFldAug X.K ta tv rd f) := by
  intro pins s σ H D I h
  refine wpAny_AugAssign_AttributeAny (thn (ha pins s σ H _ I h) fun ov s1 ⟨x, H1, I1, rx, a, C, dx, fs, v, ex, ea, c, n, l, q⟩ => ?_)
  subst ex
  obtain rfl : ov = Value.ref a := rx
  refine getattr_ok I1 ea c n l fun u s2 I2 ru => thn (hv pins s2 σ H1 _ I2 q) fun w3 s3 ⟨y, H2, I3, ry, q3⟩ => thn (hop pins s3 σ H2 v y u w3 _ I3 ru ry q3) fun w4 s4 ⟨z, H3, I4, rz, dx', fs', ea', l', q4⟩ => ?_
  exact setattr_ok I4 ea' c n l' rz fun s5 I5 => ⟨σ, _, I5, q4⟩
def rAdd : V → V → Hp → VK → Prop := fun x y H Q => ∃ i j, x = .int i ∧ y = .int j ∧ Q (.int (i + j)) H
def rSub : V → V → Hp → VK → Prop := fun x y H Q => ∃ i j, x = .int i ∧ y = .int j ∧ Q (.int (i - j)) H
theorem in_add : InOp X .Add rAdd := by
  rintro pins s σ H x y u v Q I rx ry ⟨i, j, rfl, rfl, q⟩
  obtain ⟨t, rfl⟩ := (show ∃ t, u = Value.int i t from rx)
  obtain ⟨t', rfl⟩ := (show ∃ t', v = Value.int j t' from ry)
  exact PyProof.Rows.iadd_int ⟨.int (i + j), H, I.tok _, ⟨_, rfl⟩, q⟩
theorem in_sub : InOp X .Sub rSub := by
  rintro pins s σ H x y u v Q I rx ry ⟨i, j, rfl, rfl, q⟩
  obtain ⟨t, rfl⟩ := (show ∃ t, u = Value.int i t from rx)
  obtain ⟨t', rfl⟩ := (show ∃ t', v = Value.int j t' from ry)
  exact PyProof.Rows.isub_int ⟨.int (i - j), H, I.tok _, ⟨_, rfl⟩, q⟩
/-- what is between an instance and its method: the tree of a method call -/
theorem methcall_of {pl : Sem Bool} {m : Str} {apos : Pos} {args : List Expr} {pins : List (Addr × Obj)} {s : Shared} {σ : St} {H : Hp} {Q : Value → Shared → Prop} {te : TE} (he : PE X e te) (I : Inv X pins σ H s)
    (h : te σ H fun x H1 => ∃ a C dx fs g, x = .ref a ∧ H1 a = some (.ins C dx fs) ∧ Cls X.K C ∧ Meth X.K C m g ∧ fs.lookup m = none ∧
      ∀ s1, Inv X pins σ H1 s1 → wpAny (model X.prog X.w) X.A (callWith pos (.ref g) [.ref a] (backTo pos (starEach args X.env)) (backToKw pos (keywordEach [] X.env))) Q X.xe s1)
    (ht : eval (.Call (.Attribute e m apos) args [] pos) X.env = (do
      let ov ← eval e X.env
      standAt apos.atName
      let (f, first) ← holding [ov] (getMethod ov m pl)
      callWith pos f first (backTo pos (starEach args X.env)) (backToKw pos (keywordEach [] X.env)))) :
    wpAny (model X.prog X.w) X.A (eval (.Call (.Attribute e m apos) args [] pos) X.env) Q X.xe s := by
  refine PySem.W.methodCall_KW (pl := pl) (thn (he pins s σ H _ I h) fun u s1 ⟨x, H1, I1, rx, a, C, dx, fs, g, ex, ea, c, k, l, q⟩ => ?_) ht
  subst ex
  obtain rfl : u = Value.ref a := rx
  exact getmeth_ok I1 ea c k l (q s1 I1)
end
/-! ### isinstance -/
section
variable {X : Cx} {pins : List (Addr × Obj)} {σ : St} {H : Hp} {s : Shared} {A : Around} {E : Value → Shared → Prop} {Q : Value → Shared → Prop} {c : Value} {b : Bool}
/-- the type of a value, as the fragment's deciders take it; for an instance its class -/
inductive TyOf (K : PySem.W.Frag) (H : Hp) : V → Value → Prop where
  | non : TyOf K H .non (.type "NoneType")
  | bl (x : Bool) : TyOf K H (.bl x) (.type "bool")
  | int (i : Int) : TyOf K H (.int i) (.type "int")
  | str (x : Str) : TyOf K H (.str x) (.type "str")
  | flt (x : UInt64) : TyOf K H (.flt x) (.type "float")
  | lst {a : Addr} {xs : List V} (e : H a = some (.lst xs)) : TyOf K H (.ref a) (.type "list")
  | frz {a : Addr} {o : Obj} {xs : List V} (e : H a = some (.frz o (.lst xs))) : TyOf K H (.ref a) (.type "list")
  | tup {a : Addr} {xs : List V} (e : H a = some (.tup xs)) : TyOf K H (.ref a) (.type "tuple")
  | dK {a : Addr} {kvs : List (Key × V)} (e : H a = some (.dK kvs)) : TyOf K H (.ref a) (.type "dict")
  | dT {a : Addr} {kvs : List (List Key × V)} (e : H a = some (.dT kvs)) : TyOf K H (.ref a) (.type "dict")
  | ins {a C dx : Addr} {fs : List (Str × V)} (e : H a = some (.ins C dx fs)) (cl : Cls K C) (ha : PySem.W.findIn K (.ref C) "__class__" = some (some (.builtin "object.__class__")))
      (hn : PySem.W.specialIn K (.builtin "object.__class__") "__get__" = some (some (.builtin "getset_descriptor.__get__"))) (htk : PySem.W.takesIn K (.builtin "object.__class__") = some true)
      (hm : PySem.W.mroIn K C (.type "object") = some true) : TyOf K H (.ref a) (.ref C)
/-- isinstance(x, c) for one class c, a built-in or an own one: kitOne's answer -/
theorem isinst_ok {x : V} {u t : Value} (I : Inv X pins σ H s) (rx : RelV x u) (ty : TyOf X.K H x t) (e : PySem.W.kitOne X.K t c = some b) (h : ∀ tk, Q (.bool b) { s with toks := tk }) :
    wpAny (model X.prog X.w) A (call (.builtin "isinstance") [u, c]) Q E s := by
  cases ty with
  | non => cases (show u = Value.none from rx); exact PySem.W.kia_one PySem.W.kitx_none I.kIn True.intro e (fun z => nomatch z) h
  | bl y => cases (show u = Value.bool y from rx); exact PySem.W.kia_one PySem.W.kitx_bool I.kIn True.intro e (fun z => nomatch z) h
  | int i => obtain ⟨t, q⟩ := (show ∃ t, u = Value.int i t from rx); cases q; exact PySem.W.kia_one PySem.W.kitx_int I.kIn True.intro e (fun z => nomatch z) h
  | str y => obtain ⟨t, q⟩ := (show ∃ t, u = Value.str y t from rx); cases q; exact PySem.W.kia_one PySem.W.kitx_str I.kIn True.intro e (fun z => nomatch z) h
  | flt y => obtain ⟨t, q⟩ := (show ∃ t, u = Value.float y t from rx); cases q; exact PySem.W.kia_one PySem.W.kitx_float I.kIn True.intro e (fun z => nomatch z) h
  | @lst a xs ea =>
    cases (show u = Value.ref a from rx)
    obtain ⟨_, _, n, _, h1⟩ := (show ObjOk X.prog X.w H s.heap a (.lst xs) from I.hok a _ ea)
    exact PySem.W.kia_one PySem.W.kitx_list I.kIn ⟨_, h1, rfl⟩ e (fun z => nomatch z) h
  | @frz a ob xs ea =>
    cases (show u = Value.ref a from rx)
    obtain ⟨_, _, _, n, _, h1⟩ := (show ObjOk X.prog X.w H s.heap a (.frz ob (.lst xs)) from I.hok a _ ea)
    exact PySem.W.kia_one PySem.W.kitx_list I.kIn ⟨_, h1, rfl⟩ e (fun z => nomatch z) h
  | @tup a xs ea =>
    cases (show u = Value.ref a from rx)
    obtain ⟨_, _, _, p⟩ := (show ObjOk X.prog X.w H s.heap a (.tup xs) from I.hok a _ ea)
    obtain ⟨o, h1, h2, _⟩ := p
    exact PySem.W.kia_one PySem.W.kitx_tuple I.kIn ⟨o, h1, h2⟩ e (fun z => nomatch z) h
  | @dK a kvs ea =>
    cases (show u = Value.ref a from rx)
    obtain ⟨_, _, vs, _, p⟩ := (show ObjOk X.prog X.w H s.heap a (.dK kvs) from I.hok a _ ea)
    obtain ⟨o, es, ep, h1, h2, _⟩ := p
    exact PySem.W.kia_one PySem.W.kitx_dict I.kIn ⟨o, h1, h2.1⟩ e (fun z => nomatch z) h
  | @dT a kvs ea =>
    cases (show u = Value.ref a from rx)
    obtain ⟨_, _, xs, _, o, es, ep, h1, h2, _⟩ := (show ObjOk X.prog X.w H s.heap a (.dT kvs) from I.hok a _ ea)
    exact PySem.W.kia_one PySem.W.kitx_dict I.kIn ⟨o, h1, h2.1⟩ e (fun z => nomatch z) h
  | @ins a C dx fs ea cl ha hn htk hm =>
    cases (show u = Value.ref a from rx)
    obtain ⟨mA, O, _⟩ := ins_get I.hok ea
    obtain ⟨od, J, _⟩ := O.look
    exact PySem.W.kia_one (PySem.W.kitx_own (cl.get _) cl.hd ha hn htk hm) I.kIn J e (fun z => nomatch z) h
end
end L2
namespace L2
open PySem PySem.Spec PyProof.Rows
/-! ### room -/
structure Room (k : Nat) (A : Around) : Prop where
  hd : A.handled = none
  dp : A.depth + 3 * k + 5 < recursionLimit
  un : A.units + 16 * k + 200 < cLine
theorem Room.mono {j k : Nat} {A : Around} (r : Room k A) (h : j ≤ k) : Room j A := ⟨r.hd, by have := r.dp; omega, by have := r.un; omega⟩
theorem Room.deeper {k : Nat} {A : Around} (r : Room (k + 1) A) (env : Env) : Room k (A.deeper env) :=
  ⟨r.hd, by have := r.dp; show A.depth + 1 + 3 * k + 5 < _; omega, by have := r.un; show A.units + 3 + 16 * k + 200 < _; omega⟩
theorem Room.in1 {k : Nat} {A : Around} (r : Room (k + 1) A) : Room k A.in1 :=
  ⟨r.hd, by have := r.dp; show A.depth + 3 * k + 5 < _; omega, by have := r.un; show A.units + 1 + 16 * k + 200 < _; omega⟩
theorem make_depth {A : Around} {C : Addr} {us : List Value} {kw : List (Str × Value)} : (A.under (.builtin "type.__call__" ⟨.ref C :: us, kw⟩)).depth = A.depth + 1 := by
  first | rfl | simp [Around.under, Code.weight, Code.isCreation, Code.isGuard, Code.isCaller, Code.frames, Code.isFrame, guardIds]
theorem make_units {A : Around} {C : Addr} {us : List Value} {kw : List (Str × Value)} : (A.under (.builtin "type.__call__" ⟨.ref C :: us, kw⟩)).units = A.units + 1 := by
  first | rfl | simp [Around.under, Code.cUnits, Code.frames, Code.isFrame]
theorem Room.make {k : Nat} {A : Around} (r : Room (k + 1) A) (C : Addr) (us : List Value) (kw : List (Str × Value)) : Room k (A.under (.builtin "type.__call__" ⟨.ref C :: us, kw⟩)) :=
  ⟨r.hd, by have := r.dp; rw [make_depth]; omega, by have := r.un; rw [make_units]; omega⟩
theorem Room.depth {k : Nat} {A : Around} (r : Room k A) : A.depth < recursionLimit := by have := r.dp; omega
theorem Room.units {k : Nat} {A : Around} (r : Room k A) : A.units + 64 < cLine := by have := r.un; omega
theorem Room.units0 {k : Nat} {A : Around} (r : Room k A) : A.units < cLine := by have := r.un; omega
/-! ### argument lists and displays -/
def tNil : TA := fun _ H Q => Q [] H
def tCons (ta : TE) (tr : TA) : TA := fun σ H Q => ta σ H fun x H1 => tr σ H1 fun xs H2 => Q (x :: xs) H2
section
variable {X : Cx} {e : Expr} {es : List Expr} {te : TE} {t : TA} {pos : Pos}
theorem pa_nil : PA X [] tNil := fun _ _ _ _ H Q I h => Calls.spliced_nil ⟨[], H, I, .nil, h⟩
theorem pa_cons (ha : PE X e te) (hr : PA X es t) (hs : starEach (e :: es) X.env = (false, eval e X.env) :: starEach es X.env := by rfl) : PA X (e :: es) (tCons te t) := by
  intro pos pins s σ H Q I h
  rw [hs]
  show wpAny _ _ (spliced ((false, eval e X.env) :: backTo pos (starEach es X.env))) _ _ s
  refine Calls.spliced_cons (thn (ha pins s σ H _ I h) fun u s1 ⟨x, H1, I1, r1, q1⟩ => ?_)
  exact thn (hr pos pins s1 σ H1 _ I1 q1) fun us s2 ⟨xs, H2, I2, r2, q2⟩ => ⟨x :: xs, H2, I2, .cons r1 r2, q2⟩
/-- a tuple, a list of written items -/
def tTup (t : TA) : TE := fun σ H Q => t σ H fun xs H1 => xs.length ≤ sizeLine ∧ ∀ p, H1 p = none → Q (.ref p) (upd H1 p (.tup xs))
def tLst (t : TA) : TE := fun σ H Q => t σ H fun xs H1 => xs.length ≤ sizeLine ∧ ∀ p, H1 p = none → Q (.ref p) (upd H1 p (.lst xs))
theorem pe_tup {x1} (h : PA X es t) : PE X (.Tuple es x1 pos) (tTup t) := by
  intro pins s σ H Q I hq
  refine wpAny_Tuple_spliced (thn (h pos pins s σ H _ I hq) fun us s1 ⟨xs, H1, I1, r, z, q⟩ => ⟨by rw [← r.length]; exact z, ?_⟩)
  have hf : H1 s1.heap.objs.size = none := I1.hok.fresh (Nat.le_refl _)
  refine ⟨.ref s1.heap.objs.size, upd H1 s1.heap.objs.size (.tup xs), I1.laid (t' := s1.toks) (fun b u e => Heap.get?_push_of_some _ e) (Nat.le_refl _) ?_, rfl, q _ hf⟩
  exact ⟨z, us, r, ⟨_, Heap.get?_push_size _ rfl, rfl, _, rfl⟩⟩
theorem pe_lst (h : PA X es t) : PE X (.List es pos) (tLst t) := by
  intro pins s σ H Q I hq
  refine wpAny_List_spliced (thn (h pos pins s σ H _ I hq) fun us s1 ⟨xs, H1, I1, r, z, q⟩ => ⟨by rw [← r.length]; exact z, ?_⟩)
  have hf : H1 s1.heap.objs.size = none := I1.hok.fresh (Nat.le_refl _)
  refine ⟨.ref s1.heap.objs.size, upd H1 s1.heap.objs.size (.lst xs), I1.laid (t' := s1.toks) (fun b u e => Heap.get?_push_of_some _ e) (Nat.le_refl _) ?_, rfl, q _ hf⟩
  exact ⟨z, us, 0, r, Heap.get?_push_size _ rfl⟩
end
/-! ### what a def promises -/
/-- a def's promise: the bound arguments in the parameters' order, the heap, the wanted end, the wanted exception -/
abbrev Sp := List V → Hp → VK → XK → Prop
/-- how an exception lies behind a call (file 08 gives it): the callers' frames, abstract heap and state ahead of the call, the wish, the exception, the state -/
abbrev CXT := List Env → Hp → Shared → XK → Value → Shared → Prop
/-- the state at a call -/
structure Env0 (P : Program) (w : World) (K : PySem.W.Frag) (mg : Str → Option Value) (base : Heap) (A : Around) (outer : List Env) (s : Shared) (H : Hp) : Prop where
  frames : A.frames = some outer
  mod : Mod K mg base
  bs : ∀ b o, base.get? b = some o → s.heap.get? b = some o ∧ H b = none
  bsz : base.objs.size ≤ s.heap.objs.size
  funs : s.heap.FunFrames base outer
  frf : ∀ b ∈ frs outer, H b = none
  hok : HOk P w H s.heap
  bare : AllBare s.gens
/-- a call's end -/
def CE (outer : List Env) (P : Program) (w : World) (H : Hp) (s : Shared) (Q : VK) (u : Value) (s' : Shared) : Prop :=
  ∃ v H', s'.os = s.os ∧ AllBare s'.gens ∧ Un (frs outer) [] H H' s.heap s'.heap ∧ HOk P w H' s'.heap ∧ RelV v u ∧ Q v H'
def CR (CX : CXT) (outer : List Env) (P : Program) (w : World) (H : Hp) (s : Shared) (Q : VK) (E : XK) (r : Result) (s' : Shared) : Prop :=
  match r with
  | .ok (.ret u) => CE outer P w H s Q u s'
  | .ok _ => False
  | .error e => CX outer H s E e s'
structure FnOk (P : Program) (w : World) (K : PySem.W.Frag) (mg : Str → Option Value) (base : Heap) (CX : CXT) (k : Nat) (f : Addr) (fd : FuncData) (ps : List Str) (sp : Sp) : Prop where
  len : ∀ vs H Q E, sp vs H Q E → vs.length = ps.length
  run : ∀ (A : Around) (outer : List Env) (s : Shared) (H : Hp) (args : Args) (us : List Value) (vs : List V) (Q : VK) (E : XK), Room k A → Env0 P w K mg base A outer s H → BindsTo s fd args (ps.zip us) → Vals vs us → sp vs H Q E →
    codeAny (model P w) A (.call (.ref f) args) (CR CX outer P w H s Q E) s
theorem FnOk.mono {P : Program} {w : World} {K : PySem.W.Frag} {mg : Str → Option Value} {base : Heap} {CX : CXT} {j k : Nat} {f : Addr} {fd : FuncData} {ps : List Str} {sp : Sp} (F : FnOk P w K mg base CX j f fd ps sp) (h : j ≤ k) :
    FnOk P w K mg base CX k f fd ps sp := ⟨F.len, fun A outer s H args us vs Q E hr => F.run A outer s H args us vs Q E (hr.mono h)⟩
/-- a weaker promise -/
theorem FnOk.imp {P : Program} {w : World} {K : PySem.W.Frag} {mg : Str → Option Value} {base : Heap} {CX : CXT} {k : Nat} {f : Addr} {fd : FuncData} {ps : List Str} {sp sp' : Sp} (F : FnOk P w K mg base CX k f fd ps sp)
    (h : ∀ vs H Q E, sp' vs H Q E → sp vs H Q E) : FnOk P w K mg base CX k f fd ps sp' :=
  ⟨fun vs H Q E q => F.len vs H Q E (h _ _ _ _ q), fun A outer s H args us vs Q E hr he hb hv hs => F.run A outer s H args us vs Q E hr he hb hv (h _ _ _ _ hs)⟩
theorem Env0.make {P : Program} {w : World} {K : PySem.W.Frag} {mg : Str → Option Value} {base : Heap} {A : Around} {outer : List Env} {s : Shared} {H : Hp} (e : Env0 P w K mg base A outer s H) (C : Addr) (us : List Value) (kw : List (Str × Value)) :
    Env0 P w K mg base (A.under (.builtin "type.__call__" ⟨.ref C :: us, kw⟩)) outer s H := ⟨by first | exact e.frames | (simpa [Around.under, Code.envs, Code.isFrame, pushEnvs] using e.frames), e.mod, e.bs, e.bsz, e.funs, e.frf, e.hok, e.bare⟩
theorem Env0.in1 {P : Program} {w : World} {K : PySem.W.Frag} {mg : Str → Option Value} {base : Heap} {A : Around} {outer : List Env} {s : Shared} {H : Hp} (e : Env0 P w K mg base A outer s H) :
    Env0 P w K mg base A.in1 outer s H := ⟨e.frames, e.mod, e.bs, e.bsz, e.funs, e.frf, e.hok, e.bare⟩
section
variable {X : Cx} {pins : List (Addr × Obj)} {σ : St} {H : Hp} {s s' : Shared}
/-- from a body: what a callee wants -/
theorem Inv.env0 (I : Inv X pins σ H s) : Env0 X.prog X.w X.K X.mg X.base X.A X.stack s H :=
  ⟨I.ok.frames, I.ok.mod, I.bs, Nat.le_trans I.ok.bsz I.sz, I.stack, I.stkFree, I.hok, I.bare⟩
/-- behind a call -/
theorem Inv.after {Q : VK} {u : Value} (I : Inv X pins σ H s) (h : CE X.stack X.prog X.w H s Q u s') : EP X pins σ Q u s' := by
  obtain ⟨v, H', os, bare, un, hok, r, q⟩ := h
  obtain ⟨hh, g, d, t, os'⟩ := s'
  obtain rfl : os' = s.os := os
  exact ⟨v, H', I.call (h' := hh) (g' := g) (d' := d) (t' := t) (ch := []) un hok bare (fun b z => absurd z (by simp)), r, q⟩
end
/-! ### calls -/
/-- f(..): the written arguments, then the defaults dvs; E: what is wanted of an exception -/
def tCall (sp : Sp) (dvs : List V) (E : XK) (t : TA) : TE := fun σ H Q => t σ H fun vs H1 => sp (vs ++ dvs) H1 Q E
/-- o.m(..) of an instance of the class at C -/
def tMeth (C : Addr) (m : Str) (sp : Sp) (dvs : List V) (E : XK) (ta : TE) (t : TA) : TE := fun σ H Q => ta σ H fun x H1 => ∃ a dx fs, x = .ref a ∧ H1 a = some (.ins C dx fs) ∧ fs.lookup m = none ∧
  t σ H1 fun vs H2 => sp (x :: (vs ++ dvs)) H2 Q E
/-- C(..): a new instance and its dict, then __init__ -/
def tMake (C : Addr) (sp : Sp) (dvs : List V) (E : XK) (t : TA) : TE := fun σ H Q => t σ H fun vs H1 => ∀ x dx, H1 x = none → H1 dx = none → dx ≠ x →
  sp (.ref x :: (vs ++ dvs)) (upd (upd H1 dx (.own x)) x (.ins C dx [])) (fun v H2 => v = .non ∧ Q (.ref x) H2) E
/-- how the parameters are bound: us the positional arguments, kw the keywords' values by name, ds the defaults that fill up -/
def Binds (K : PySem.W.Frag) (fd : FuncData) (ps : List Str) (ds : List Value) : Prop :=
  ∀ (s : Shared) (us : List Value), K.In s.heap → (us ++ ds).length = ps.length → BindsTo s fd ⟨us, []⟩ (ps.zip (us ++ ds))
/-- every parameter is given -/
theorem Binds.all {K : PySem.W.Frag} {fd : FuncData} {ps : List Str} (h : ∀ us : List Value, us.length = ps.length → bindArgs fd ⟨us, []⟩ = pure (ps.zip us)) : Binds K fd ps [] := fun s us _ hl => by
  rw [List.append_nil] at hl ⊢
  exact .of_eq (h us hl)
/-- an exception of a callee reaches what this body wants of exceptions -/
def Passes (CX : CXT) (X : Cx) (E : XK) : Prop := ∀ (pins : List (Addr × Obj)) (σ : St) (H : Hp) (s : Shared) (e : Value) (s' : Shared), Inv X pins σ H s → CX X.stack H s E e s' → X.xe e s'
section
variable {X : Cx} {CX : CXT} {k : Nat} {f C : Addr} {fd : FuncData} {ps : List Str} {sp : Sp} {dvs : List V} {ds : List Value} {E : XK} {x m : Str} {p pos apos : Pos} {e o : Expr} {es : List Expr} {ta : TE} {t : TA}
/-- the callee runs -/
theorem run_fn {pins : List (Addr × Obj)} {σ : St} {H : Hp} {s : Shared} {Q : VK} {us : List Value} {vs : List V} (F : FnOk X.prog X.w X.K X.mg X.base CX k f fd ps sp) (hr : Room k X.A) (hb : Binds X.K fd ps ds) (hd : Vals dvs ds) (hx : Passes CX X E)
    (I : Inv X pins σ H s) (r : Vals vs us) (h : sp (vs ++ dvs) H Q E) : wpAny (model X.prog X.w) X.A (call (.ref f) us) (EP X pins σ Q) X.xe s := by
  have r2 : Vals (vs ++ dvs) (us ++ ds) := r.append hd
  have hl : (us ++ ds).length = ps.length := by rw [← r2.length]; exact F.len _ _ _ _ h
  refine wpAny_call (codeAny_mono (F.run X.A X.stack s H ⟨us, []⟩ (us ++ ds) (vs ++ dvs) Q E hr I.env0 (hb s us I.kIn hl) r2 h) fun r s' hq => ?_)
  cases r with
  | error e => exact hx pins σ H s e s' I hq
  | ok fl =>
    cases fl with
    | ret u => exact I.after hq
    | next => exact False.elim hq
    | brk => exact False.elim hq
    | cont => exact False.elim hq
theorem pe_call (F : FnOk X.prog X.w X.K X.mg X.base CX k f fd ps sp) (hr : Room k X.A) (hg : Gl X x) (hm : X.mg x = some (.ref f)) (hk : PySem.W.keepIn X.K (.ref f) = true) (hb : Binds X.K fd ps ds) (hd : Vals dvs ds) (hx : Passes CX X E)
    (ha : PA X (e :: es) t) (hdb : (x == ("__debug__" : Str)) = false := by decide) (he : starEach (e :: es) X.env = (false, eval e X.env) :: starEach es X.env := by rfl) (hpl : (backTo pos (starEach es X.env)).any (·.1) = false := by rfl) :
    PE X (.Call (.Name x p) (e :: es) [] pos) (tCall sp dvs E t) := by
  intro pins s σ H Q I h
  refine wpAny_Call_Name_kw (ld_glob I hg hm ?_ hdb)
  refine PySem.W.callWith_K (h₀ := X.base) I.ok.mod.kin hk (thn (ha pos pins s σ H _ I h) fun us s1 ⟨vs, H1, I1, r, q⟩ => ⟨I1.kIn, ?_⟩) he hpl
  exact run_fn F hr hb hd hx I1 r q
theorem pe_call0 (F : FnOk X.prog X.w X.K X.mg X.base CX k f fd ps sp) (hr : Room k X.A) (hg : Gl X x) (hm : X.mg x = some (.ref f)) (hk : PySem.W.keepIn X.K (.ref f) = true) (hb : Binds X.K fd ps ds) (hd : Vals dvs ds) (hx : Passes CX X E)
    (hdb : (x == ("__debug__" : Str)) = false := by decide) : PE X (.Call (.Name x p) [] [] pos) (tCall sp dvs E tNil) := by
  intro pins s σ H Q I h
  refine wpAny_Call_Name_kw (ld_glob I hg hm ?_ hdb)
  exact PySem.W.callWith_K0 I.kIn hk (run_fn (us := []) F hr hb hd hx I .nil h)
/-- o.m(e, ..) -/
theorem pe_meth {pl : Sem Bool} (he : PE X o ta) (c : Cls X.K C) (hm : Meth X.K C m f) (F : FnOk X.prog X.w X.K X.mg X.base CX k f fd ps sp) (hr : Room k X.A) (hb : Binds X.K fd ps ds) (hd : Vals dvs ds) (hx : Passes CX X E) (ha : PA X (e :: es) t)
    (hst : starEach (e :: es) X.env = (false, eval e X.env) :: starEach es X.env := by rfl) (hpl : (backTo pos (starEach es X.env)).any (·.1) = false := by rfl)
    (ht : eval (.Call (.Attribute o m apos) (e :: es) [] pos) X.env = (do
      let ov ← eval o X.env
      standAt apos.atName
      let (f, first) ← holding [ov] (getMethod ov m pl)
      callWith pos f first (backTo pos (starEach (e :: es) X.env)) (backToKw pos (keywordEach [] X.env))) := by rfl) :
    PE X (.Call (.Attribute o m apos) (e :: es) [] pos) (tMeth C m sp dvs E ta t) := by
  intro pins s σ H Q I h
  refine PySem.W.methodCall_KW (pl := pl) (thn (he pins s σ H _ I h) fun u s1 ⟨x, H1, I1, rx, a, dx, fs, ex, ea, l, q⟩ => ?_) ht
  subst ex
  obtain rfl : u = Value.ref a := rx
  refine getmeth_ok I1 ea c hm l ?_
  refine PySem.W.callWith_K (first := [.ref a]) (h₀ := X.base) I.ok.mod.kin hm.kp (thn (ha pos pins s1 σ H1 _ I1 q) fun us s2 ⟨vs, H2, I2, r, q2⟩ => ⟨I2.kIn, ?_⟩) hst hpl
  exact run_fn (us := .ref a :: us) (vs := .ref a :: vs) F hr hb hd hx I2 (.cons rfl r) q2
/-- o.m() -/
theorem pe_meth0 {pl : Sem Bool} (he : PE X o ta) (c : Cls X.K C) (hm : Meth X.K C m f) (F : FnOk X.prog X.w X.K X.mg X.base CX k f fd ps sp) (hr : Room k X.A) (hb : Binds X.K fd ps ds) (hd : Vals dvs ds) (hx : Passes CX X E)
    (ht : eval (.Call (.Attribute o m apos) [] [] pos) X.env = (do
      let ov ← eval o X.env
      standAt apos.atName
      let (f, first) ← holding [ov] (getMethod ov m pl)
      callWith pos f first (backTo pos (starEach [] X.env)) (backToKw pos (keywordEach [] X.env))) := by rfl) :
    PE X (.Call (.Attribute o m apos) [] [] pos) (tMeth C m sp dvs E ta tNil) := by
  intro pins s σ H Q I h
  refine PySem.W.methodCall_KW (pl := pl) (thn (he pins s σ H _ I h) fun u s1 ⟨x, H1, I1, rx, a, dx, fs, ex, ea, l, q⟩ => ?_) ht
  subst ex
  obtain rfl : u = Value.ref a := rx
  refine getmeth_ok I1 ea c hm l ?_
  exact PySem.W.callWith_K0 (first := [.ref a]) I1.kIn hm.kp (run_fn (us := [.ref a]) (vs := [.ref a]) F hr hb hd hx I1 (.cons rfl .nil) q)
/-- what a class must have to be made -/
structure Mk (K : PySem.W.Frag) (C f : Addr) : Prop where
  makes : PySem.W.makesIn K C = true
  init : PySem.W.findIn K (.ref C) "__init__" = some (some (.ref f))
  fn : PySem.W.isFn K (.ref f) = true
  kp : PySem.W.keepIn K (.ref C) = true
theorem run_make {pins : List (Addr × Obj)} {σ : St} {H : Hp} {s : Shared} {Q : VK} {us : List Value} {vs : List V} (M : Mk X.K C f) (F : FnOk X.prog X.w X.K X.mg X.base CX k f fd ps sp) (hr : Room (k + 1) X.A) (hb : Binds X.K fd ps ds) (hd : Vals dvs ds)
    (hx : Passes CX X E) (I : Inv X pins σ H s) (r : Vals vs us)
    (h : ∀ x dx, H x = none → H dx = none → dx ≠ x → sp (.ref x :: (vs ++ dvs)) (upd (upd H dx (.own x)) x (.ins C dx [])) (fun v H2 => v = .non ∧ Q (.ref x) H2) E) :
    wpAny (model X.prog X.w) X.A (call (.ref C) us) (EP X pins σ Q) X.xe s := by
  have hq := h (s.heap.objs.size + 1) s.heap.objs.size (I.hok.fresh (Nat.le_succ _)) (I.hok.fresh (Nat.le_refl _)) (Nat.ne_of_lt (Nat.lt_succ_self _))
  have I2 := Inv.made (C := C) I
  have r2 : Vals (V.ref (s.heap.objs.size + 1) :: (vs ++ dvs)) (Value.ref (s.heap.objs.size + 1) :: (us ++ ds)) := .cons rfl (r.append hd)
  have hl : (Value.ref (s.heap.objs.size + 1) :: us ++ ds).length = ps.length := by
    have e := r2.length
    rw [F.len _ _ _ _ hq] at e
    exact e.symm
  refine wpAny_call (make_map (f := f) I.kIn M.makes M.init (beq_iff_eq.mp M.fn) (codeAny_mono (F.run _ X.stack _ _ ⟨Value.ref (s.heap.objs.size + 1) :: us, []⟩ (Value.ref (s.heap.objs.size + 1) :: (us ++ ds)) _ _ E (hr.make C us [])
    (I2.env0.make C us []) (hb _ (Value.ref (s.heap.objs.size + 1) :: us) I2.kIn hl) r2 hq) fun r s' hq' => ?_))
  cases r with
  | error e => exact hx pins σ _ _ e s' I2 hq'
  | ok fl =>
    cases fl with
    | ret u =>
      obtain ⟨v, H', I3, rv, ev, q3⟩ := I2.after hq'
      subst ev
      exact ⟨rv, ⟨V.ref (s.heap.objs.size + 1), H', I3, rfl, q3⟩⟩
    | next => exact False.elim hq'
    | brk => exact False.elim hq'
    | cont => exact False.elim hq'
theorem pe_make (M : Mk X.K C f) (F : FnOk X.prog X.w X.K X.mg X.base CX k f fd ps sp) (hr : Room (k + 1) X.A) (hg : Gl X x) (hm : X.mg x = some (.ref C)) (hb : Binds X.K fd ps ds) (hd : Vals dvs ds) (hx : Passes CX X E)
    (ha : PA X (e :: es) t) (hdb : (x == ("__debug__" : Str)) = false := by decide) (he : starEach (e :: es) X.env = (false, eval e X.env) :: starEach es X.env := by rfl) (hpl : (backTo pos (starEach es X.env)).any (·.1) = false := by rfl) :
    PE X (.Call (.Name x p) (e :: es) [] pos) (tMake C sp dvs E t) := by
  intro pins s σ H Q I h
  refine wpAny_Call_Name_kw (ld_glob I hg hm ?_ hdb)
  refine PySem.W.callWith_K (h₀ := X.base) I.ok.mod.kin M.kp (thn (ha pos pins s σ H _ I h) fun us s1 ⟨vs, H1, I1, r, q⟩ => ⟨I1.kIn, ?_⟩) he hpl
  exact run_make M F hr hb hd hx I1 r q
theorem pe_make0 (M : Mk X.K C f) (F : FnOk X.prog X.w X.K X.mg X.base CX k f fd ps sp) (hr : Room (k + 1) X.A) (hg : Gl X x) (hm : X.mg x = some (.ref C)) (hb : Binds X.K fd ps ds) (hd : Vals dvs ds) (hx : Passes CX X E)
    (hdb : (x == ("__debug__" : Str)) = false := by decide) : PE X (.Call (.Name x p) [] [] pos) (tMake C sp dvs E tNil) := by
  intro pins s σ H Q I h
  refine wpAny_Call_Name_kw (ld_glob I hg hm ?_ hdb)
  exact PySem.W.callWith_K0 I.kIn M.kp (run_make (us := []) M F hr hb hd hx I .nil h)
end
/-! ### keywords -/
/-- the values of the keywords, from the left -/
def PK (X : Cx) (kws : List Keyword) (t : TA) : Prop :=
  ∀ (pos : Pos) (pins : List (Addr × Obj)) (s : Shared) (σ : St) (H : Hp) (Q : List V → Hp → Prop), Inv X pins σ H s → t σ H Q → wpAny (model X.prog X.w) X.A (evalAll ((backToKw pos (keywordEach kws X.env)).map (·.2))) (AP X pins σ Q) X.xe s
section
variable {X : Cx} {CX : CXT} {k : Nat} {f C : Addr} {fd : FuncData} {ps ks : List Str} {sp : Sp} {E : XK} {x m : Str} {p pos apos kpos : Pos} {e o : Expr} {es : List Expr} {kws : List Keyword} {te ta : TE} {t tk : TA} {nm : Option Str}
theorem pk_nil : PK X [] tNil := fun _ _ _ _ H Q I h => wpAny_evalAll_nil ⟨[], H, I, .nil, h⟩
theorem pk_cons (ha : PE X e te) (hr : PK X kws t) : PK X (⟨nm, e, kpos⟩ :: kws) (tCons te t) := by
  intro pos pins s σ H Q I h
  show wpAny _ _ (evalAll ((do let v ← eval e X.env; standAt pos; pure v) :: (backToKw pos (keywordEach kws X.env)).map (·.2))) _ _ s
  refine wpAny_evalAll_cons (wpAny_bind (thn (ha pins s σ H _ I h) fun u s1 ⟨x, H1, I1, r1, q1⟩ => wpAny_bind (wpAny_standAt (wpAny_pure ?_))))
  exact thn (hr pos pins s1 σ H1 _ I1 q1) fun us s2 ⟨xs, H2, I2, r2, q2⟩ => ⟨x :: xs, H2, I2, .cons r1 r2, q2⟩
/-- how a call with keywords binds: g puts the positional values us and the keywords' values ws (names ks) in the parameters' order, defaults among them -/
structure KBinds (K : PySem.W.Frag) (fd : FuncData) (ps ks : List Str) (g : List Value → List Value → List Value) (gV : List V → List V → List V) : Prop where
  to : ∀ (s : Shared) (us ws : List Value), K.In s.heap → (g us ws).length = ps.length → BindsTo s fd ⟨us, ks.zip ws⟩ (ps.zip (g us ws))
  rel : ∀ {vs : List V} {us : List Value} {zs : List V} {ws : List Value}, Vals vs us → Vals zs ws → Vals (gV vs zs) (g us ws)
def tCallK (sp : Sp) (gV : List V → List V → List V) (E : XK) (t tk : TA) : TE := fun σ H Q => t σ H fun vs H1 => tk σ H1 fun zs H2 => sp (gV vs zs) H2 Q E
variable {g : List Value → List Value → List Value} {gV : List V → List V → List V}
theorem run_fnk {pins : List (Addr × Obj)} {σ : St} {H : Hp} {s : Shared} {Q : VK} {us ws : List Value} {vs zs : List V} (F : FnOk X.prog X.w X.K X.mg X.base CX k f fd ps sp) (hr : Room k X.A) (hb : KBinds X.K fd ps ks g gV) (hx : Passes CX X E)
    (I : Inv X pins σ H s) (r : Vals vs us) (rz : Vals zs ws) (h : sp (gV vs zs) H Q E) : wpAny (model X.prog X.w) X.A (call (.ref f) us (ks.zip ws)) (EP X pins σ Q) X.xe s := by
  have r2 := hb.rel r rz
  have hl : (g us ws).length = ps.length := by rw [← r2.length]; exact F.len _ _ _ _ h
  refine wpAny_call (codeAny_mono (F.run X.A X.stack s H ⟨us, ks.zip ws⟩ (g us ws) (gV vs zs) Q E hr I.env0 (hb.to s us ws I.kIn hl) r2 h) fun r s' hq => ?_)
  cases r with
  | error e => exact hx pins σ H s e s' I hq
  | ok fl =>
    cases fl with
    | ret u => exact I.after hq
    | next => exact False.elim hq
    | brk => exact False.elim hq
    | cont => exact False.elim hq
/-- f(e, .., k = v, ..) -/
theorem pe_callK (F : FnOk X.prog X.w X.K X.mg X.base CX k f fd ps sp) (hr : Room k X.A) (hg : Gl X x) (hm : X.mg x = some (.ref f)) (hk : PySem.W.keepIn X.K (.ref f) = true) (hb : KBinds X.K fd ps ks g gV) (hx : Passes CX X E)
    (ha : PA X (e :: es) t) (hkw : PK X kws tk) (hall : (backToKw pos (keywordEach kws X.env)).all (·.1.isSome) = true := by rfl) (hks : (backToKw pos (keywordEach kws X.env)).filterMap (·.1) = ks := by rfl)
    (hdb : (x == ("__debug__" : Str)) = false := by decide) (he : starEach (e :: es) X.env = (false, eval e X.env) :: starEach es X.env := by rfl)
    (hpl : ((backTo pos (starEach (e :: es) X.env)).any (·.1) || (backToKw pos (keywordEach kws X.env)).any (·.1.isNone)) = false := by rfl) :
    PE X (.Call (.Name x p) (e :: es) kws pos) (tCallK sp gV E t tk) := by
  intro pins s σ H Q I h
  refine wpAny_Call_Name_kw (ld_glob I hg hm ?_ hdb)
  refine PySem.W.callWith_KW (h₀ := X.base) I.ok.mod.kin hk hall (thn (ha pos pins s σ H _ I h) fun us s1 ⟨vs, H1, I1, r, q⟩ => ?_) hpl he
  refine thn (hkw pos pins s1 σ H1 _ I1 q) fun ws s2 ⟨zs, H2, I2, rz, q2⟩ => ⟨I2.kIn, ?_⟩
  rw [hks]
  exact run_fnk F hr hb hx I2 r rz q2
end
/-! ### a def's body keeps its promise -/
/-- names: the parameters first -/
structure FnScope (N P : List Str) (sc : Scope) : Prop where
  kind : sc.kind = .function
  co : sc.isCoroutine = false
  gen : sc.isGenerator = false
  nd : N.Nodup
  pre : N.take P.length = P
  par : ∀ x ∈ P, sc.names.lookup x = some .local ∨ sc.names.lookup x = some .cell
  nofree : ∀ y ∈ sc.names, y.2 ≠ .free
theorem bindL_out {kindOf : Str → Option NameKind} {x : Str} : ∀ {binds : List (Str × Value)} {m : Str → Option Value}, (∀ v, (x, v) ∉ binds) → bindL kindOf binds m x = m x
  | [], _, _ => rfl
  | (n, v) :: r, m, h => by
    unfold bindL
    rw [bindL_out fun w hw => h w (List.mem_cons_of_mem _ hw)]
    split
    · have : x ≠ n := by rintro rfl; exact h v List.mem_cons_self
      simp [this]
    · rfl
theorem bindC_out {kindOf : Str → Option NameKind} {x : Str} : ∀ {binds : List (Str × Value)} {m : Str → Option Value}, (∀ v, (x, v) ∉ binds) → bindC kindOf binds m x = m x
  | [], _, _ => rfl
  | (n, v) :: r, m, h => by
    unfold bindC
    rw [bindC_out fun w hw => h w (List.mem_cons_of_mem _ hw)]
    split
    · rfl
    · have : x ≠ n := by rintro rfl; exact h v List.mem_cons_self
      simp [this]
theorem bindL_get {kindOf : Str → Option NameKind} {x : Str} {v : Value} : ∀ {P : List Str} {vs : List Value} {i : Nat} {m : Str → Option Value}, P.Nodup → P[i]? = some x → vs[i]? = some v → kindOf x = some .local →
    bindL kindOf (P.zip vs) m x = some v
  | [], _, _, _, _, h, _, _ => by simp at h
  | _ :: _, [], _, _, _, _, h, _ => by simp at h
  | p :: P, w :: vs, 0, m, nd, h1, h2, hk => by
    simp at h1 h2; subst h1; subst h2
    show bindL kindOf ((p, w) :: P.zip vs) m p = _
    unfold bindL
    rw [bindL_out fun v hv => (List.nodup_cons.mp nd).1 (List.of_mem_zip hv).1, if_pos hk]
    simp
  | p :: P, w :: vs, i + 1, m, nd, h1, h2, hk => by
    show bindL kindOf ((p, w) :: P.zip vs) m x = _
    unfold bindL
    exact bindL_get (i := i) (List.nodup_cons.mp nd).2 (by simpa using h1) (by simpa using h2) hk
theorem bindC_get {kindOf : Str → Option NameKind} {x : Str} {v : Value} : ∀ {P : List Str} {vs : List Value} {i : Nat} {m : Str → Option Value}, P.Nodup → P[i]? = some x → vs[i]? = some v → kindOf x ≠ some .local →
    bindC kindOf (P.zip vs) m x = some v
  | [], _, _, _, _, h, _, _ => by simp at h
  | _ :: _, [], _, _, _, _, h, _ => by simp at h
  | p :: P, w :: vs, 0, m, nd, h1, h2, hk => by
    simp at h1 h2; subst h1; subst h2
    show bindC kindOf ((p, w) :: P.zip vs) m p = _
    unfold bindC
    rw [bindC_out fun v hv => (List.nodup_cons.mp nd).1 (List.of_mem_zip hv).1, if_neg hk]
    simp
  | p :: P, w :: vs, i + 1, m, nd, h1, h2, hk => by
    show bindC kindOf ((p, w) :: P.zip vs) m x = _
    unfold bindC
    exact bindC_get (i := i) (List.nodup_cons.mp nd).2 (by simpa using h1) (by simpa using h2) hk
/-- the names' values at the entry -/
def start (N : List Str) (vs : List V) : St := vs.map some ++ List.replicate (N.length - vs.length) none
/-- the context of a def's body, at its entry; an exception leaves the frame, then lies as CX says -/
def cxOf (CX : CXT) (P : Program) (w : World) (K : PySem.W.Frag) (mg : Str → Option Value) (base : Heap) (N : List Str) (qual : Str) (scope : Scope) (f : Addr) (cd : Value) (A : Around) (outer : List Env) (s : Shared) (H : Hp) (E : XK) : Cx where
  prog := P
  w := w
  K := K
  mg := mg
  base := base
  A := A.deeper (envOfC qual scope s.heap.objs.size f cd)
  N := N
  s₀ := s
  H₀ := H
  env := envOfC qual scope s.heap.objs.size f cd
  outer := outer
  stack := envOfC qual scope s.heap.objs.size f cd :: outer
  ex := []
  calm := true
  fn := fun _ => true
  pn := []
  xe := fun e s' => wpAny (model P w) (A.deeper (envOfC qual scope s.heap.objs.size f cd)) (leaving (envOfC qual scope s.heap.objs.size f cd) e) (fun _ s'' => CX outer H s E e s'') (fun e' s'' => CX outer H s E e' s'') s'
theorem cell_has {sc : Scope} {n : Nat} {x : Str} (h : sc.names.lookup x = some .cell) : ∃ c, (cellsFrom n sc.names []).lookup x = some c := by
  have q := PySem.W.cellsFrom_some sc.names n [] (.inl h)
  exact Option.isSome_iff_exists.mp q
theorem inv_start {CX : CXT} {P : Program} {w : World} {K : PySem.W.Frag} {mg : Str → Option Value} {base : Heap} {N ps : List Str} {qual : Str} {scope : Scope} {f : Addr} {cd : Value} {A : Around} {outer : List Env} {s s1 : Shared} {H : Hp} {E : XK} {us : List Value} {vs : List V}
    (S : FnScope N ps scope) (hd : A.handled = none) (e0 : Env0 P w K mg base A outer s H) (hl : vs.length = ps.length) (r : Vals vs us)
    (x : InCallC s s.heap.objs.size (bindL (envOfC qual scope s.heap.objs.size f cd).kindOf (ps.zip us) fun _ => none) (cellsFrom (s.heap.objs.size + 1) scope.names []) (bindC (envOfC qual scope s.heap.objs.size f cd).kindOf (ps.zip us) fun _ => none) s1) :
    Inv (cxOf CX P w K mg base N qual scope f cd A outer s H E) [] (start N vs) H s1 := by
  have hpl : ps.length ≤ N.length := by have := congrArg List.length S.pre; rw [List.length_take] at this; omega
  obtain ⟨h1, tk, rfl, hk⟩ := x.done
  have noA : ∀ b : Addr, b ∉ (cxOf CX P w K mg base N qual scope f cd A outer s H E).ex := fun b z => absurd (show b ∈ ([] : List Addr) from z) (by simp)
  refine ⟨⟨e0.mod, S.kind, rfl, rfl, Nat.le_refl _, fun y z c h1 h2 => ?_, fun y hy => ?_, fun y c _ h => ?_, fun _ => hd, Around.frames_deeper e0.frames, .inr ⟨rfl, rfl⟩, fun b z => absurd z (noA b), e0.bs, e0.bsz, fun b _ _ => noA b, fun b z => absurd z (noA b), e0.funs, e0.frf⟩,
    rfl, e0.bare, Un.kept hk, ⟨_, x.toInCall.ns, fun i y v h1 h2 h3 => ?_⟩, fun y c h => ⟨_, x.cell y c h⟩, e0.hok.fresh (Nat.le_refl _), fun y c h => ?_, fun p hp => absurd (show p ∈ ([] : List (Addr × Obj)) from hp) (by simp), e0.hok.kept hk, ?_⟩
  · exact name_of_addr x.apart (PySem.mem_of_lookup h1) (PySem.mem_of_lookup h2)
  · have hy : scope.names.lookup y = some .cell ∨ scope.names.lookup y = some .free := hy
    rcases hy with hy | hy
    · exact cell_has hy
    · exact absurd rfl (S.nofree _ (PySem.mem_of_lookup hy))
  · exact Nat.le_of_lt (x.above y c (PySem.mem_of_lookup h))
  · have hi : i < vs.length := by
      unfold start at h2
      by_cases hi : i < vs.length
      · exact hi
      · rw [List.getElem?_append_right (by simpa using hi)] at h2
        rw [List.getElem?_replicate] at h2
        split at h2 <;> cases h2
    have ha : vs[i]? = some v := by
      unfold start at h2
      rw [List.getElem?_append_left (by simpa using hi), List.getElem?_map] at h2
      cases e : vs[i]? with
      | none => rw [e] at h2; cases h2
      | some a => rw [e] at h2; cases h2; rfl
    obtain ⟨u, hu, rv⟩ := r.get ha
    have hp : ps[i]? = some y := by
      rw [← S.pre, List.getElem?_take_of_lt (by omega)]; exact h1
    have ndP : ps.Nodup := by rw [← S.pre]; exact S.nd.sublist (List.take_sublist _ _)
    refine ⟨u, rv, ?_⟩
    rcases S.par y (List.mem_of_getElem? hp) with k | k
    · exact .inl ⟨k, bindL_get ndP hp hu k⟩
    · obtain ⟨c, e⟩ := cell_has (n := s.heap.objs.size + 1) k
      refine .inr ⟨.inl k, c, e, ?_⟩
      have q := x.cell y c e
      rw [bindC_get ndP hp hu (by show scope.names.lookup y ≠ _; rw [k]; decide)] at q
      exact q
  · exact e0.hok.fresh (Nat.le_of_lt (x.above y c (PySem.mem_of_lookup h)))
  · unfold start
    show _ = N.length
    rw [List.length_append, List.length_map, List.length_replicate]
    omega
/-- THE RULE: a def (or a method) of the text, by its body. The body's reading t is chosen for each entry; it is run at the parameters' values -/
theorem fn_of {CX : CXT} {P : Program} {w : World} {K : PySem.W.Frag} {mg : Str → Option Value} {base : Heap} {k : Nat} {f : Addr} {name qual : Str} {params : Arguments} {body : List Stmt} {scope : Scope} {dV kV doc pm cdv ct oc : Value} {an od : Option Addr}
    {osl : Array (Option Value)} {N ps : List Str} {sp : Sp} (lk : K.lookup f = some ⟨oc, od, .func (PySem.W.fnOf name qual params body scope dV kV doc pm an cdv ct), osl⟩) (hcd : PySem.W.codeIn K cdv qual = true) (S : FnScope N ps scope)
    (len : ∀ vs H Q E, sp vs H Q E → vs.length = ps.length)
    (hbody : ∀ (A : Around) (outer : List Env) (s : Shared) (H : Hp) (vs : List V) (Q : VK) (E : XK), Room k (A.deeper (envOfC qual scope s.heap.objs.size f cdv)) → sp vs H Q E →
      ∃ t, PSs (cxOf CX P w K mg base N qual scope f cdv A outer s H E) body t ∧ t { nx := fun _ H' => Q .non H', rt := Q } (start N vs) H) :
    FnOk P w K mg base CX (k + 1) f (PySem.W.fnOf name qual params body scope dV kV doc pm an cdv ct) ps sp := by
  refine ⟨len, fun A outer s H args us vs Q E hr e0 hb r hsp => ?_⟩
  have hl := len _ _ _ _ hsp
  have KX : K.In s.heap := e0.mod.kin.keeps fun b o e => (e0.bs b o e).1
  have lim : s.heap.NoLimit := e0.mod.nolimit.keeps fun b o e => (e0.bs b o e).1
  have hkind : ∀ y ∈ ps.zip us, scope.names.lookup y.1 = some .local ∨ (scope.names.lookup y.1 = some .cell ∧ ((cellsFrom (s.heap.objs.size + 1) scope.names []).lookup y.1).isSome = true) := fun ⟨n, v⟩ hy => by
    rcases S.par n (List.of_mem_zip hy).1 with q | q
    · exact .inl q
    · exact .inr ⟨q, PySem.W.cellsFrom_some _ _ _ (.inl q)⟩
  refine codeAny_call_function hr.depth (KX _ _ lk) rfl S.co S.gen rfl (PySem.W.codeRec_of KX hcd) (hb _ _ _ _ ?_)
  refine wpAny_newFunctionEnv_cells S.kind hkind fun env he s1 x => ?_
  subst he
  refine ⟨lim.keeps x.toInCall.keep, codeAny_func ?_⟩
  obtain ⟨t, ht, hq⟩ := hbody A outer s H vs Q E (hr.deeper _) hsp
  have I : Inv (cxOf CX P w K mg base N qual scope f cdv A outer s H E) [] (start N vs) H s1 := inv_start S hr.hd e0 hl r x
  refine wpAny_mono (ht [] s1 (start N vs) H _ I hq) (fun fl s' hs => ?_) fun e s' hs => hs
  have fin : ∀ {σ' : St} {H' : Hp} {v : V} {u : Value}, Inv (cxOf CX P w K mg base N qual scope f cdv A outer s H E) [] σ' H' s' → RelV v u → Q v H' → CE outer P w H s Q u s' :=
    fun {σ' H' v u} J rv q => ⟨v, H', J.os, J.bare, J.base, J.hok, rv, q⟩
  cases fl with
  | ret u =>
    obtain ⟨v, σ', H', J, rv, q⟩ := hs
    exact fin J rv q
  | next =>
    obtain ⟨σ', H', J, q⟩ := hs
    exact fin (v := V.non) (u := Value.none) J rfl q
  | brk =>
    obtain ⟨_, _, _, q⟩ := hs
    exact False.elim q
  | cont =>
    obtain ⟨_, _, _, q⟩ := hs
    exact False.elim q
end L2
namespace L2
open PySem PySem.Spec PyProof.Rows
section
variable {X : Cx} {x : Str} {p pos : Pos} {e : Expr} {es : List Expr} {t : TA} {id T : String} {r : List V → Hp → VK → Prop}
def tCB (r : List V → Hp → VK → Prop) (t : TA) : TE := fun σ H Q => t σ H fun vs H1 => r vs H1 Q
/-- f(e, ..), f a built-in function -/
theorem pe_callB (hc : CallR X (.builtin id) r) (hg : Gl X x) (hm : X.mg x = none) (hv : bootBuiltins x = some (.builtin id)) (ha : PA X (e :: es) t) (hn : x ≠ "__name__" := by decide) (hdb : (x == ("__debug__" : Str)) = false := by decide)
    (he : starEach (e :: es) X.env = (false, eval e X.env) :: starEach es X.env := by rfl) (hpl : (backTo pos (starEach es X.env)).any (·.1) = false := by rfl) : PE X (.Call (.Name x p) (e :: es) [] pos) (tCB r t) := by
  intro pins s σ H Q I h
  refine wpAny_Call_Name_kw (ld_blt I hg hm hv ?_ hn hdb)
  exact PyProof.Rows.callWith_builtin1 (thn (ha pos pins s σ H _ I h) fun us s1 ⟨vs, H1, I1, r1, q1⟩ => hc pins s1 σ H1 vs us Q I1 r1 q1) he hpl
/-- T(e, ..), T a built-in type -/
theorem pe_callTy (hc : CallR X (.type T) r) (hg : Gl X x) (hm : X.mg x = none) (hv : bootBuiltins x = some (.type T)) (ha : PA X (e :: es) t) (hn : x ≠ "__name__" := by decide) (hdb : (x == ("__debug__" : Str)) = false := by decide)
    (he : starEach (e :: es) X.env = (false, eval e X.env) :: starEach es X.env := by rfl) (hpl : (backTo pos (starEach es X.env)).any (·.1) = false := by rfl) : PE X (.Call (.Name x p) (e :: es) [] pos) (tCB r t) := by
  intro pins s σ H Q I h
  refine wpAny_Call_Name_kw (ld_blt I hg hm hv ?_ hn hdb)
  exact PyProof.Rows.callWith_type1 (thn (ha pos pins s σ H _ I h) fun us s1 ⟨vs, H1, I1, r1, q1⟩ => hc pins s1 σ H1 vs us Q I1 r1 q1) he hpl
/-- T() -/
theorem pe_callTy0 (hc : CallR X (.type T) r) (hg : Gl X x) (hm : X.mg x = none) (hv : bootBuiltins x = some (.type T)) (hn : x ≠ "__name__" := by decide) (hdb : (x == ("__debug__" : Str)) = false := by decide) :
    PE X (.Call (.Name x p) [] [] pos) (tCB r tNil) := by
  intro pins s σ H Q I h
  refine wpAny_Call_Name_kw (ld_blt I hg hm hv ?_ hn hdb)
  exact PyProof.Rows.callWith_type0 (hc pins s σ H [] [] Q I .nil h)
end
end L2
namespace HT
open PySem PyProof.Rows
/-- t < u of tuples of ints -/
def lexLt : List Int → List Int → Bool
  | [], [] => false
  | [], _ :: _ => true
  | _ :: _, [] => false
  | x :: xs, y :: ys => if x = y then lexLt xs ys else decide (x < y)
theorem lexLt_cons (x y : Int) (xs ys : List Int) : lexLt (x :: xs) (y :: ys) = if x = y then lexLt xs ys else decide (x < y) := rfl
theorem lexLt_nil_nil : lexLt [] [] = false := rfl
theorem lexLt_nil_cons (y : Int) (ys : List Int) : lexLt [] (y :: ys) = true := rfl
theorem lexLt_cons_nil (x : Int) (xs : List Int) : lexLt (x :: xs) [] = false := rfl
theorem eqAt_int (A : Around) (s : Shared) (a : Int) (t : Tok) (c : Int) (u : Tok) : ∃ e, SeqAt.EqAt A s (.int a t) (.int c u) e ∧ (e = true ↔ a = c) :=
  ⟨(a == c), SeqAt.EqAt.int_int a t c u, by simp⟩
theorem rcLt_int (A : Around) (s : Shared) (a : Int) (t : Tok) (c : Int) (u : Tok) (prog : Program) (w : World) (E : Value → Shared → Prop) (Q : Value → Shared → Prop) (h : Q (.bool (decide (a < c))) s) :
    wpAny (model prog w) A (richCompare .Lt (.int a t) (.int c u)) Q E s :=
  (PyProof.Rows.lt_int h : wpAny (model prog w) A (compareOp .Lt (.int a t) (.int c u)) Q E s)
section
open PySem.SeqAt
open PySem.AutoSeq1 (wpAny_loadPart')
open PySem.MeetsSeq PySem.MeetsSeq2 PySem.MeetsSeq3
theorem tuple_lt_ints (l b : Addr) (items items2 : Array Value) (n n2 : Nat) (dd dd2 : Option Addr) (sl sl2 : Array (Option Value)) (ns ms : List Int) (hi : IntsAre items.toList ns) (hj : IntsAre items2.toList ms) :
    Meets (Builtin.«tuple.__lt__» ⟨[.ref l, .ref b], []⟩)
      (fun _ R s => s.heap.get? l = some { cls := .type "tuple", dict := dd, data := .seq items n, slots := sl } ∧ s.heap.get? b = some { cls := .type "tuple", dict := dd2, data := .seq items2 n2, slots := sl2 } ∧
        R (.ok (.ret (.bool (lexLt ns ms)))) s) :=
  .of_wp fun prog w A R s h => by
    obtain ⟨hp, g, d, tk, os⟩ := s; obtain ⟨hl, hb, h⟩ := h
    have f2 := AutoSeq1.sub_tuple_tuple
    have z1 : items.size = ns.length := by rw [← hi.length]; simp
    have z2 : items2.size = ms.length := by rw [← hj.length]; simp
    wp_walk using wpAny_loadPart' hl, wpAny_loadPart' hb, wpAny_forIn_list _ (fun rest b s' => b.1 = none ∧ s' = ⟨hp, g, d, tk, os⟩ ∧ ∃ (vs ws : List Value) (ns' ms' : List Int), rest = vs.zip ws ∧
      IntsAre vs ns' ∧ IntsAre ws ms' ∧ ns'.length + items2.size = ms'.length + items.size ∧ R (.ok (.ret (.bool (lexLt ns' ms')))) ⟨hp, g, d, tk, os⟩) _
    case turn =>
      rintro ⟨y, x⟩ rest b s' ⟨hb', rfl, vs, ws, ns', ms', hz, hvi, hwi, hlen, hR⟩
      cases hvi with
      | nil => rw [List.zip_nil_left] at hz; cases hz
      | cons a t hvi' =>
        cases hwi with
        | nil => rw [List.zip_nil_right] at hz; cases hz
        | cons c u hwi' =>
          rw [List.zip_cons_cons] at hz
          injection hz with hyx hrest
          injection hyx with hy hx
          subst hy hx
          rw [lexLt_cons] at hR
          simp only [List.length_cons] at hlen
          obtain ⟨e, he, hiff⟩ := eqAt_int A.in1 ⟨hp, g, d, tk, os⟩ a t c u
          refine wpAny_bind (he prog w _ _ ?_)
          cases e with
          | true =>
            rw [if_pos (hiff.mp rfl)] at hR
            wp_walk
            exact ⟨rfl, rfl, _, _, _, _, hrest, hvi', hwi', by omega, hR⟩
          | false =>
            rw [if_neg (fun q => absurd (hiff.mpr q) Bool.false_ne_true)] at hR
            have hri := rcLt_int A.in1 ⟨hp, g, d, tk, os⟩ a t c u prog w
            wp_walk using hri
            exact ⟨_, rfl, by simpa using hR⟩
    case fin =>
      rintro ⟨b1, b2⟩ s' ⟨hb', rfl, vs, ws, ns', ms', hz, hvi, hwi, hlen, hR⟩
      simp only at hb'
      subst hb'
      have hv : lexLt ns' ms' = decide (items.size < items2.size) := by
        cases hvi with
        | nil =>
          cases hwi with
          | nil =>
            simp only [List.length_nil] at hlen
            rw [lexLt_nil_nil]
            exact (decide_eq_false (by omega)).symm
          | cons c u hw =>
            simp only [List.length_nil, List.length_cons] at hlen
            rw [lexLt_nil_cons]
            exact (decide_eq_true (by omega)).symm
        | cons a t hv =>
          cases hwi with
          | nil =>
            simp only [List.length_nil, List.length_cons] at hlen
            rw [lexLt_cons_nil]
            exact (decide_eq_false (by omega)).symm
          | cons c u hw =>
            rw [List.zip_cons_cons] at hz
            cases hz
      rw [hv] at hR
      wp_walk
      exact ⟨_, rfl, by simpa [Builtin.Tuple.tupleCompareSizes] using hR⟩
    case h =>
      exact ⟨rfl, rfl, items.toList, items2.toList, ns, ms, rfl, hi, hj, by omega, h⟩
end
section
variable {prog : Program} {w : World} {A : Around} {E : Value → Shared → Prop} {s : Shared}
theorem lt_tupInts {l b : Addr} {items items2 : Array Value} {ns ms : List Int} {Q : Value → Shared → Prop} (hl : IsTup s.heap l items) (hb : IsTup s.heap b items2) (hi : IntsAre items.toList ns) (hj : IntsAre items2.toList ms)
    (hu : A.units < cLine) (h : Q (.bool (lexLt ns ms)) s) : wpAny (model prog w) A (compareOp .Lt (.ref l) (.ref b)) Q E s := by
  obtain ⟨⟨cls, dd, data, sl⟩, ho, hc, n, hd⟩ := id hl
  obtain ⟨⟨cls2, dd2, data2, sl2⟩, ho2, hc2, n2, hd2⟩ := id hb
  simp only at hc hd hc2 hd2
  subst hc hd hc2 hd2
  exact richCompare_meets_room (op := .Lt) ⟨_, ho, rfl⟩ ⟨_, ho2, rfl⟩ PySem.F.slot_tuple_lt PySem.F.entry_tuple_lt (PySem.F.args_tuple_lt_2 _ _) (tuple_lt_ints l b items items2 n n2 dd dd2 sl sl2 ns ms hi hj)
    ⟨ho, ho2, show Value.bool (lexLt ns ms) ≠ Value.notImplemented ∧ Q (.bool (lexLt ns ms)) s from ⟨(fun x => nomatch x), h⟩⟩ hu
/-- t + u, t not empty -/
theorem cat_tup {t b : Addr} {vs ws : List Value} {Q : Value → Shared → Prop} (ht : IsTup s.heap t vs.toArray) (hb : IsTup s.heap b ws.toArray) (hv : vs ≠ [])
    (h1 : ws = [] → Q (.ref t) s) (h2 : ws ≠ [] → Q (.ref s.heap.objs.size) { s with heap := s.heap.push { cls := .type "tuple", data := .seq (vs ++ ws).toArray } })
    (hsz : vs.length + ws.length ≤ sizeLine) : wpAny (model prog w) A (binaryOp .Add (.ref t) (.ref b)) Q E s := by
  obtain ⟨⟨cls, dd, data, sl⟩, ho, hc, n, hd⟩ := id ht
  obtain ⟨⟨cls2, dd2, data2, sl2⟩, ho2, hc2, n2, hd2⟩ := id hb
  simp only at hc hd hc2 hd2
  subst hc hd hc2 hd2
  have e : vs.toArray ++ ws.toArray = (vs ++ ws).toArray := by simp
  by_cases hw : ws = []
  · exact concat_meets ⟨_, ho, rfl⟩ ⟨_, ho2, rfl⟩ noFill_tuple_add seq_tuple_add PySem.F.slot_tuple_add PySem.F.entry_tuple_add (PySem.F.args_tuple_add_2 _ _)
      (tuple_addW1 t b vs.toArray ws.toArray n n2 dd dd2 sl sl2 (by simpa using hv) (by simp [hw])) ⟨ho, ho2, h1 hw⟩
  · refine concat_meets ⟨_, ho, rfl⟩ ⟨_, ho2, rfl⟩ noFill_tuple_add seq_tuple_add PySem.F.slot_tuple_add PySem.F.entry_tuple_add (PySem.F.args_tuple_add_2 _ _)
      (tuple_addW2 t b vs.toArray ws.toArray n n2 dd dd2 sl sl2 (by simpa using hv) (by simpa using hw) (by rw [List.size_toArray, List.size_toArray]; exact hsz)) ⟨ho, ho2, ?_⟩
    rw [e]
    exact h2 hw
/-! ### t[a:b], not the whole -/
/-- a slice's bound as a place among n (d where it is left out) -/
def sIx (n d : Nat) : Option Int → Nat
  | none => d
  | some v => if v < 0 then (v + (n : Int)).toNat else min v.toNat n
theorem sIx_none (n d : Nat) : sIx n d none = d := rfl
theorem sIx_nat (n d k : Nat) : sIx n d (some (k : Int)) = min k n := by
  show (if (k : Int) < 0 then ((k : Int) + (n : Int)).toNat else min (k : Int).toNat n) = min k n
  rw [if_neg (by omega), Int.toNat_natCast]
theorem sIx_le (n d : Nat) (hd : d ≤ n) (o : Option Int) : sIx n d o ≤ n := by
  cases o with
  | none => exact hd
  | some v =>
    show (if v < 0 then (v + (n : Int)).toNat else min v.toNat n) ≤ n
    by_cases hv : v < 0
    · rw [if_pos hv]; omega
    · rw [if_neg hv]; exact Nat.min_le_right _ _
theorem clip_eq (v : Int) (n d : Nat) : (if v < 0 then max (v + (n : Int)) 0 else min v (n : Int)) = ((sIx n d (some v) : Nat) : Int) := by
  show (if v < 0 then max (v + (n : Int)) 0 else min v (n : Int)) = (((if v < 0 then (v + (n : Int)).toNat else min v.toNat n) : Nat) : Int)
  by_cases hv : v < 0
  · simp only [if_pos hv]; omega
  · simp only [if_neg hv]; omega
theorem adjust_gen (lo hi : Option Int) (n : Nat) : Builtin.Slice.sliceAdjust lo hi 1 (n : Int) = (((sIx n 0 lo : Nat) : Int), ((sIx n n hi : Nat) : Int)) := by
  have h1 : ¬ ((1 : Int) < 0) := by omega
  unfold Builtin.Slice.sliceAdjust
  simp only [h1, if_false]
  refine Prod.ext ?_ ?_
  · cases lo with
    | none => rfl
    | some v => exact clip_eq v n 0
  · cases hi with
    | none => rfl
    | some v => exact clip_eq v n n
theorem places_gen (i j : Nat) : Builtin.Slice.slicePlaces (i : Int) (j : Int) 1 = j - i := by
  unfold Builtin.Slice.slicePlaces
  have h1 : (1 : Int) > 0 := by omega
  simp only [h1, if_true, Int.ediv_one]
  split <;> omega
theorem slicePart_ {v : Value} {o : Option Int} {Q : Option Int → Shared → Prop} (p : IsPart v o) (h : Q o s) : wpAny (model prog w) A (Builtin.Slice.slicePartIndex v) Q E s := by
  cases p with
  | none => exact slicePart_none h
  | int i t => exact slicePart_int h
theorem sliceApplied_gen {sl : Addr} {vl vu : Value} {lo hi : Option Int} {n : Nat} {Q : Int × Int × Nat → Shared → Prop} (hs : s.heap.IsSliceOf sl vl vu .none) (pl : IsPart vl lo) (pu : IsPart vu hi)
    (h : Q (((sIx n 0 lo : Nat) : Int), 1, sIx n n hi - sIx n 0 lo) s) : wpAny (model prog w) A (Builtin.Slice.sliceApplied (.ref sl) (pure (n : Int))) Q E s := by
  obtain ⟨os, hos, hcs, hds⟩ := id hs
  unfold Builtin.Slice.sliceApplied Builtin.Slice.sliceFields
  refine wpAny_bind (wpAny_bind (wpAny_field hos hds (x := vl) rfl (wpAny_bind (wpAny_field hos hds (x := vu) rfl (wpAny_bind (wpAny_field hos hds (x := .none) rfl (wpAny_pure ?_)))))))
  refine wpAny_bind (slicePart_none ?_)
  show wpAny _ _ (if ((1 : Int) == 0) = true then _ else _) _ _ s
  rw [if_neg (by decide)]
  refine wpAny_bind (slicePart_ pl (wpAny_bind (slicePart_ pu (wpAny_bind (wpAny_pure ?_)))))
  show wpAny _ _ (match Builtin.Slice.sliceAdjust lo hi 1 (n : Int) with | (lo, hi) => pure (lo, (1 : Int), Builtin.Slice.slicePlaces lo hi 1)) _ _ s
  rw [adjust_gen lo hi n]
  show wpAny _ _ (pure (((sIx n 0 lo : Nat) : Int), (1 : Int), Builtin.Slice.slicePlaces ((sIx n 0 lo : Nat) : Int) ((sIx n n hi : Nat) : Int) 1)) _ _ s
  rw [places_gen]
  exact wpAny_pure h
theorem pick_gen (xs : Array Value) (i k : Nat) : ((List.range k).filterMap fun (m : Nat) => xs[((i : Int) + (m : Int) * 1).toNat]?).toArray = ((xs.toList.drop i).take k).toArray := by
  have e : (fun (m : Nat) => xs[((i : Int) + (m : Int) * 1).toNat]?) = fun m => xs[i + m]? := by
    funext m
    have : ((i : Int) + (m : Int) * 1).toNat = i + m := by omega
    rw [this]
  rw [e]
  have := pick_run xs i k
  rw [List.filterMap_map] at this
  have e2 : ((fun x => xs[x]?) ∘ fun x => i + x) = fun m => xs[i + m]? := rfl
  rw [e2] at this
  rw [this]
theorem getItem_tuple_cut {t sl : Addr} {items : Array Value} {vl vu : Value} {lo hi : Option Int} {Q : Value → Shared → Prop} (ht : IsTup s.heap t items) (hs : s.heap.IsSliceOf sl vl vu .none) (pl : IsPart vl lo) (pu : IsPart vu hi)
    (hw : ¬ (sIx items.size 0 lo = 0 ∧ sIx items.size items.size hi = items.size))
    (h : Q (.ref s.heap.objs.size) { s with heap := s.heap.push { cls := .type "tuple", data := .seq ((items.toList.drop (sIx items.size 0 lo)).take (sIx items.size items.size hi - sIx items.size 0 lo)).toArray } })
    (hsz : items.size ≤ sizeLine) : wpAny (model prog w) A (getItem (.ref t) (.ref sl)) Q E s := by
  have htake : sizeOk (.seq ((items.toList.drop (sIx items.size 0 lo)).take (sIx items.size items.size hi - sIx items.size 0 lo)).toArray) := by
    show ((items.toList.drop (sIx items.size 0 lo)).take (sIx items.size items.size hi - sIx items.size 0 lo)).toArray.size ≤ sizeLine
    rw [List.size_toArray, List.length_take, List.length_drop, Array.length_toList]
    omega
  have hj : sIx items.size items.size hi ≤ items.size := sIx_le _ _ (Nat.le_refl _) hi
  obtain ⟨os, hos, hcs, hds⟩ := id hs
  have hTs : s.TypeIs (.ref sl) "slice" := ⟨os, hos, hcs⟩
  unfold getItem
  try with_reducible refine wpAny_holding ?_
  first | refine wpAny_bind (wpAny_pure ?_) | skip
  refine wpAny_bind (wpAny_sequenceKey ht.typeIs (by decide) ?_)
  refine wpAny_bind (wpAny_callSpecial?_slot (name := Str.ofString "__getitem__") ht.typeIs PyProof.Rows.slot_tuple_getitem
    (wpAny_call_entry PyProof.Rows.slot_tuple_getitem ht.typeIs entry_tuple_getitem ?_ (args_tuple_getitem _ _)))
  show wpAny _ _ (Builtin.Tuple.tupleItemsOf (.ref t) >>= _) _ _ s
  refine wpAny_bind (tupleItemsOf_ ht ?_)
  refine wpAny_bind (wpAny_typeOf hTs ?_)
  rw [if_pos (by decide)]
  refine wpAny_bind (sliceApplied_gen hs pl pu ?_)
  have hno : ¬ ((((sIx items.size 0 lo : Nat) : Int) == 0 && (1 : Int) == 1 && (sIx items.size items.size hi - sIx items.size 0 lo) == items.size) = true) := by
    intro q
    rw [Bool.and_eq_true, Bool.and_eq_true] at q
    have q1 : ((sIx items.size 0 lo : Nat) : Int) = 0 := eq_of_beq q.1.1
    have q2 : sIx items.size items.size hi - sIx items.size 0 lo = items.size := eq_of_beq q.2
    exact hw ⟨by omega, by omega⟩
  show wpAny _ _ (if (((sIx items.size 0 lo : Nat) : Int) == 0 && (1 : Int) == 1 && (sIx items.size items.size hi - sIx items.size 0 lo) == items.size) = true then _ else _) _ _ s
  rw [if_neg hno, pick_gen]
  first
    | exact wpAny_bind (m := Builtin.Tuple.tupleExact _) (wpAny_newObj_type (wpAny_pure ⟨_, rfl, wpAny_pure h⟩) htake)
    | exact wpAny_bind (m := Builtin.Tuple.tupleExact _) (wpAny_newObj_type (wpAny_bind (wpAny_pure (wpAny_pure ⟨_, rfl, wpAny_pure h⟩))) htake)
    | exact wpAny_bind (wpAny_bind (m := Builtin.Tuple.tupleExact _) (wpAny_newObj_type (wpAny_pure (wpAny_pure ⟨_, rfl, wpAny_pure h⟩)) htake))
    | exact wpAny_bind (wpAny_bind (m := Builtin.Tuple.tupleExact _) (wpAny_newObj_type (wpAny_pure ⟨_, rfl, wpAny_pure h⟩) htake))
end
end HT
namespace L2
open PySem PySem.Spec PyProof.Rows
/-! ### the parts of a slice -/
abbrev TO := St → Hp → (Option Int → Hp → Prop) → Prop
/-- a slice's part (left out, or an int) -/
def PO (X : Cx) (e : Option Expr) (t : TO) : Prop :=
  ∀ (pins : List (Addr × Obj)) (s : Shared) (σ : St) (H : Hp) (Q : Option Int → Hp → Prop), Inv X pins σ H s → t σ H Q →
    wpAny (model X.prog X.w) X.A (evalPart e X.env) (fun u s' => ∃ o H', Inv X pins σ H' s' ∧ IsPart u o ∧ Q o H') X.xe s
def tNoPart : TO := fun _ H Q => Q none H
def tPart (t : TE) : TO := fun σ H Q => t σ H fun x H1 => ∃ i, x = .int i ∧ Q (some i) H1
theorem intsAre_of {ns : List Int} : ∀ {us : List Value}, Vals (ns.map V.int) us → IntsAre us ns := by
  induction ns with
  | nil => intro us r; rw [List.map_nil] at r; cases r; exact .nil
  | cons n ns ih =>
    intro us r
    rw [List.map_cons] at r
    cases r with
    | cons r1 r2 =>
      obtain ⟨t, e⟩ := r1
      subst e
      exact .cons n t (ih r2)
section
variable {X : Cx} {e : Expr} {te : TE} {lo hi : Option Expr} {tl th : TO} {pos p2 : Pos}
theorem po_none : PO X none tNoPart := by
  intro pins s σ H Q I h
  rw [evalPart_none]
  exact wpAny_pure ⟨none, H, I, .none, h⟩
theorem po_some (h : PE X e te) : PO X (some e) (tPart te) := by
  intro pins s σ H Q I hw
  rw [evalPart_some]
  refine thn (h pins s σ H _ I hw) fun u s1 ⟨x, H1, I1, r1, q1⟩ => ?_
  obtain ⟨i, rfl, q⟩ := q1
  obtain ⟨t, rfl⟩ := r1
  exact ⟨some i, H1, I1, .int i t, q⟩
/-- what a slice of a value is, by values: the slice object stands at sl -/
def SlR (X : Cx) (r : V → Option Int → Option Int → Hp → VK → Prop) : Prop :=
  ∀ (pins : List (Addr × Obj)) (s : Shared) (σ : St) (H : Hp) (x : V) (v vl vu : Value) (lo hi : Option Int) (sl : Addr) (Q : VK), Inv X pins σ H s → RelV x v → s.heap.IsSliceOf sl vl vu .none → IsPart vl lo → IsPart vu hi → r x lo hi H Q →
    ∃ T id, typeLookup (.type T) "__getitem__" = pure (some (.builtin id)) ∧ s.TypeIs v T ∧ wpAny (model X.prog X.w) X.A (getItem v (.ref sl)) (EP X pins σ Q) X.xe s
theorem SlR.or {r r' : V → Option Int → Option Int → Hp → VK → Prop} (h : SlR X r) (h' : SlR X r') : SlR X (fun x lo hi H Q => r x lo hi H Q ∨ r' x lo hi H Q) := by
  intro pins s σ H x v vl vu lo hi sl Q I rx hs pl pu q
  rcases q with q | q
  · exact h pins s σ H x v vl vu lo hi sl Q I rx hs pl pu q
  · exact h' pins s σ H x v vl vu lo hi sl Q I rx hs pl pu q
def tSl (r : V → Option Int → Option Int → Hp → VK → Prop) (te : TE) (tl th : TO) : TE := fun σ H Q => te σ H fun x H1 => tl σ H1 fun l H2 => th σ H2 fun u H3 => r x l u H3 Q
/-- a[lo:hi], any a -/
theorem pe_slice {r : V → Option Int → Option Int → Hp → VK → Prop} (hr : SlR X r) (he : PE X e te) (hl : PO X lo tl) (hu : PO X hi th) : PE X (.Subscript e (.Slice lo hi none p2) pos) (tSl r te tl th) := by
  intro pins s σ H Q I h
  refine Subscript_ (thn (he pins s σ H _ I h) fun v s1 ⟨x, H1, I1, r1, q1⟩ => ?_)
  refine wpAny_Slice (thn (hl pins s1 σ H1 _ I1 q1) fun vl s2 ⟨l, H2, I2, pl, q2⟩ => thn (hu pins s2 σ H2 _ I2 q2) fun vu s3 ⟨u, H3, I3, pu, q3⟩ => ?_)
  rw [evalPart_none]
  refine wpAny_pure ?_
  have I4 : Inv X pins σ H3 { s3 with heap := s3.heap.push { cls := .type "slice", data := .fields #[vl, vu, .none] } } := I3.kept (t' := s3.toks) fun b ob q => Heap.get?_push_of_some _ q
  obtain ⟨T, id, hT, ht, hg⟩ := hr pins { s3 with heap := s3.heap.push { cls := .type "slice", data := .fields #[vl, vu, .none] } } σ H3 x v vl vu l u s3.heap.objs.size Q I4 r1 (Heap.IsSliceOf.new ..) pl pu q3
  show wpAny (model X.prog X.w) X.A (subscriptTail e (.Slice lo hi none p2) v (.ref s3.heap.objs.size)) (EP X pins σ Q) X.xe { s3 with heap := s3.heap.push { cls := .type "slice", data := .fields #[vl, vu, .none] } }
  exact tail_any (ops := [.ref s3.heap.objs.size, v]) ht hT hg (by with_unfolding_all rfl)
/-- the items of xs[lo:hi] -/
def cutV (xs : List V) (lo hi : Option Int) : List V := (xs.drop (HT.sIx xs.length 0 lo)).take (HT.sIx xs.length xs.length hi - HT.sIx xs.length 0 lo)
theorem cutV_length (xs : List V) (lo hi : Option Int) : (cutV xs lo hi).length ≤ xs.length := by
  unfold cutV
  rw [List.length_take, List.length_drop]
  omega
/-- t[lo:hi], not the whole of it (the whole would be t itself) -/
def rSlT (K : PySem.W.Frag) : V → Option Int → Option Int → Hp → VK → Prop := fun x lo hi H Q => ∃ a xs, x = .ref a ∧ SqT K H a xs ∧
  ¬ (HT.sIx xs.length 0 lo = 0 ∧ HT.sIx xs.length xs.length hi = xs.length) ∧ ∀ p, H p = none → Q (.ref p) (upd H p (.tup (cutV xs lo hi)))
theorem sl_tup : SlR X (rSlT X.K) := by
  intro pins s σ H x v vl vu lo hi sl Q I rx hs pl pu h
  obtain ⟨a, xs, rfl, hx, hw, q⟩ := h
  cases rx
  obtain ⟨its, r, ht, hz⟩ := I.tuple hx
  have hlen : its.toArray.size = xs.length := by rw [List.size_toArray]; exact r.length.symm
  refine ⟨"tuple", _, PyProof.Rows.slot_tuple_getitem.lookup, ht.typeIs, ?_⟩
  refine HT.getItem_tuple_cut ht hs pl pu (by rw [hlen]; exact hw) ?_ (by rw [hlen]; exact hz)
  rw [hlen]
  refine ⟨.ref s.heap.objs.size, _, I.laid (t' := s.toks) (o := .tup (cutV xs lo hi)) (fun b ob q => Heap.get?_push_of_some _ q) (Nat.le_refl _) ?_, rfl, q _ (I.hok.fresh (Nat.le_refl _))⟩
  exact ⟨Nat.le_trans (cutV_length xs lo hi) hz, _, (r.drop (HT.sIx xs.length 0 lo)).take (HT.sIx xs.length xs.length hi - HT.sIx xs.length 0 lo), IsTup.new _ _⟩
/-! ### t < u, t + u -/
def rLtT (K : PySem.W.Frag) : R2 := fun x y H Q => ∃ a b ns ms, x = .ref a ∧ y = .ref b ∧ SqT K H a (ns.map V.int) ∧ SqT K H b (ms.map V.int) ∧ Q (.bl (HT.lexLt ns ms)) H
theorem op_ltT (hu : X.A.units < cLine) : OpR X (compareOp .Lt) (rLtT X.K) := by
  intro pins s σ H x y v u Q I rx ry h
  obtain ⟨a, b, ns, ms, rfl, rfl, ha, hb, q⟩ := h
  cases rx
  cases ry
  obtain ⟨its, r1, p1, _⟩ := I.tuple ha
  obtain ⟨its2, r2, p2, _⟩ := I.tuple hb
  have i1 : IntsAre its.toArray.toList ns := intsAre_of r1
  have i2 : IntsAre its2.toArray.toList ms := intsAre_of r2
  exact HT.lt_tupInts p1 p2 i1 i2 hu ⟨.bl (HT.lexLt ns ms), H, I, rfl, q⟩
/-- t + u, t not empty: u empty gives t itself -/
def rCatT (K : PySem.W.Frag) : R2 := fun x y H Q => ∃ a b xs ys, x = .ref a ∧ y = .ref b ∧ SqT K H a xs ∧ SqT K H b ys ∧ xs ≠ [] ∧ xs.length + ys.length ≤ sizeLine ∧
  (ys = [] → Q (.ref a) H) ∧ (ys ≠ [] → ∀ p, H p = none → Q (.ref p) (upd H p (.tup (xs ++ ys))))
theorem Vals.nil_iff {xs : List V} {us : List Value} (r : Vals xs us) : us = [] ↔ xs = [] := by
  cases r with
  | nil => simp
  | cons _ _ => simp
theorem op_catT : OpR X (binaryOp .Add) (rCatT X.K) := by
  intro pins s σ H x y v u Q I rx ry h
  obtain ⟨a, b, xs, ys, rfl, rfl, ha, hb, hx, hz, q1, q2⟩ := h
  cases rx
  cases ry
  obtain ⟨its, r1, p1, _⟩ := I.tuple ha
  obtain ⟨its2, r2, p2, _⟩ := I.tuple hb
  refine HT.cat_tup p1 p2 (fun z => hx (r1.nil_iff.mp z)) (fun z => ⟨.ref a, H, I, rfl, q1 (r2.nil_iff.mp z)⟩) (fun z => ?_) (by rw [← r1.length, ← r2.length]; exact hz)
  refine ⟨.ref s.heap.objs.size, _, I.laid (t' := s.toks) (o := .tup (xs ++ ys)) (fun b ob q => Heap.get?_push_of_some _ q) (Nat.le_refl _) ?_, rfl, q2 (fun w => z (r2.nil_iff.mpr w)) _ (I.hok.fresh (Nat.le_refl _))⟩
  exact ⟨by rw [List.length_append]; exact hz, _, r1.append r2, IsTup.new _ _⟩
/-- tuple(t) -/
theorem call_tupleT : CallR X (.type "tuple") (fun xs H Q => ∃ a ys, xs = [.ref a] ∧ SqT X.K H a ys ∧ Q (.ref a) H) := by
  intro pins s σ H xs us Q I r h
  obtain ⟨a, ys, rfl, ha, q⟩ := h
  obtain ⟨u, rfl, ru⟩ := vals1 r
  cases ru
  obtain ⟨its, _, p1, _⟩ := I.tuple ha
  exact call_tuple_same (items := its.toArray) p1 ⟨.ref a, H, I, rfl, q⟩
end
end L2
namespace L2
open PySem PySem.Spec PyProof.Rows
/-! ### places -/
/-- the place that an index of any sign means -/
def ixN (n : Nat) (i : Int) : Option Nat := if 0 ≤ i then (if i < n then some i.toNat else none) else if -(n : Int) ≤ i then some (i + n).toNat else none
def atI {α : Type} (xs : List α) (i : Int) : Option α := (ixN xs.length i).bind fun j => xs[j]?
theorem ixN_seq {n : Nat} {i : Int} {j : Nat} (h : ixN n i = some j) : seqIndex? i n = some j ∧ j < n ∧ -(n : Int) ≤ i ∧ i < n := by
  unfold ixN at h
  by_cases h0 : 0 ≤ i
  · rw [if_pos h0] at h
    by_cases h1 : i < n
    · rw [if_pos h1] at h
      have e : i.toNat = j := Option.some.inj h
      exact ⟨by rw [seqIndex_of h0 h1, e], by omega, by omega, h1⟩
    · rw [if_neg h1] at h; cases h
  · rw [if_neg h0] at h
    by_cases h1 : -(n : Int) ≤ i
    · rw [if_pos h1] at h
      have e : (i + n).toNat = j := Option.some.inj h
      exact ⟨by rw [seqIndex_neg (by omega) h1, e], by omega, h1, by omega⟩
    · rw [if_neg h1] at h; cases h
theorem atI_get {α : Type} {xs : List α} {i : Int} {v : α} (h : atI xs i = some v) : ∃ j, seqIndex? i xs.length = some j ∧ xs[j]? = some v ∧ j < xs.length ∧ -(xs.length : Int) ≤ i ∧ i < xs.length := by
  unfold atI at h
  cases e : ixN xs.length i with
  | none => rw [e] at h; cases h
  | some j =>
    rw [e] at h
    obtain ⟨h1, h2, h3, h4⟩ := ixN_seq e
    exact ⟨j, h1, h, h2, h3, h4⟩
theorem atI_nat {α : Type} {xs : List α} {j : Nat} {v : α} (h : xs[j]? = some v) : atI xs (j : Int) = some v := by
  have hj : j < xs.length := (List.getElem?_eq_some_iff.mp h).1
  have e : ixN xs.length (j : Int) = some j := by
    unfold ixN
    rw [if_pos (by omega), if_pos (by omega)]; simp
  unfold atI; rw [e]; exact h
theorem atI_last {α : Type} (xs : List α) (v : α) : atI (xs ++ [v]) (-1) = some v := by
  have hl : (xs ++ [v]).length = xs.length + 1 := by simp
  have e : ixN (xs ++ [v]).length (-1) = some xs.length := by
    unfold ixN
    rw [hl, if_neg (by decide), if_pos (by omega)]
    congr 1
    omega
  unfold atI
  rw [e]
  show (xs ++ [v])[xs.length]? = some v
  simp
/-! ### what may be subscripted -/
/-- what stands as an index of a plain subscript -/
def PlainIx (b : Expr) : Prop := ∀ o i, subscripted b false o i = operate [o, i] (getItem o i)
/-- a subscript by values -/
def IxR (X : Cx) (r : R2) : Prop :=
  ∀ (value slice : Expr) (pins : List (Addr × Obj)) (s : Shared) (σ : St) (H : Hp) (x y : V) (v u : Value) (Q : VK), Inv X pins σ H s → RelV x v → RelV y u → r x y H Q →
    subscripted slice false v u = operate [v, u] (getItem v u) → wpAny (model X.prog X.w) X.A (subscriptTail value slice v u) (EP X pins σ Q) X.xe s
/-- a call of a builtin's method by values: the receiver, the arguments -/
def MtR (X : Cx) (id : String) (r : V → List V → Hp → VK → Prop) : Prop :=
  ∀ (pins : List (Addr × Obj)) (s : Shared) (σ : St) (H : Hp) (x : V) (xs : List V) (v : Value) (us : List Value) (Q : VK), Inv X pins σ H s → RelV x v → Vals xs us → r x xs H Q →
    wpAny (model X.prog X.w) X.A (call (.builtin id) (v :: us)) (EP X pins σ Q) X.xe s
section
variable {X : Cx} {a b : Expr} {ta tb : TE} {pos : Pos}
theorem IxR.or {r r' : R2} (h : IxR X r) (h' : IxR X r') : IxR X (fun x y H Q => r x y H Q ∨ r' x y H Q) := by
  intro value slice pins s σ H x y v u Q I rx ry q hs
  rcases q with q | q
  · exact h value slice pins s σ H x y v u Q I rx ry q hs
  · exact h' value slice pins s σ H x y v u Q I rx ry q hs
theorem MtR.or {id : String} {r r' : V → List V → Hp → VK → Prop} (h : MtR X id r) (h' : MtR X id r') : MtR X id (fun x xs H Q => r x xs H Q ∨ r' x xs H Q) := by
  intro pins s σ H x xs v us Q I rx rs q
  rcases q with q | q
  · exact h pins s σ H x xs v us Q I rx rs q
  · exact h' pins s σ H x xs v us Q I rx rs q
/-- a[b] -/
theorem pe_ix {r : R2} (hr : IxR X r) (ha : PE X a ta) (hb : PE X b tb) (hs : PlainIx b) : PE X (.Subscript a b pos) (tOp r ta tb) := by
  intro pins s σ H Q I h
  exact Subscript_ (binT ha hb I h fun v u s2 x y H2 I2 rx ry q => hr a b pins s2 σ H2 x y v u Q I2 rx ry q (hs _ _))
def rIxL (K : PySem.W.Frag) : R2 := fun x y H Q => ∃ p xs i v, x = .ref p ∧ y = .int i ∧ SqL K H p xs ∧ atI xs i = some v ∧ Q v H
def rIxT (K : PySem.W.Frag) : R2 := fun x y H Q => ∃ p xs i v, x = .ref p ∧ y = .int i ∧ SqT K H p xs ∧ atI xs i = some v ∧ Q v H
def rIxS : R2 := fun x y H Q => ∃ z i c, x = .str z ∧ y = .int i ∧ z.length ≤ sizeLine ∧ atI z.cps.toList i = some c ∧ Q (.str ⟨#[c]⟩) H
theorem ix_list : IxR X (rIxL X.K) := by
  intro value slice pins s σ H x y v u Q I rx ry h hs
  obtain ⟨p, xs, i, z, rfl, rfl, hq, he, q⟩ := h
  cases rx
  obtain ⟨t, rfl⟩ := ry
  obtain ⟨its, r, pl, hz⟩ := I.list hq
  obtain ⟨j, h1, h2, h3, h4, h5⟩ := atI_get he
  obtain ⟨w, ew, rw'⟩ := r.get h2
  have hl := r.length
  have hn := line63
  have fin : EP X pins σ Q w s := ⟨z, H, I, rw', q⟩
  by_cases h0 : 0 ≤ i
  · have hj : i.toNat = j := by
      rw [seqIndex_of h0 h5] at h1
      exact Option.some.inj h1
    exact item_listR pl.isList h0 (by omega) (by rw [hj]; simpa using ew) fin hs
  · have hj : (i + (its.toArray.size : Int)).toNat = j := by
      rw [seqIndex_neg (by omega) h4] at h1
      rw [List.size_toArray, ← hl]
      exact Option.some.inj h1
    exact subscriptTail_builtinR (x := w) pl.isList.typeIs slot_list_getitem.lookup
      (wpAny_getItem_list_neg (Q := fun r s' => r = w ∧ EP X pins σ Q r s') pl.isList (by omega) (by rw [List.size_toArray] <;> omega) (by omega) (by rw [hj]; simpa using ew) ⟨rfl, fin⟩) hs
theorem ix_tup : IxR X (rIxT X.K) := by
  intro value slice pins s σ H x y v u Q I rx ry h hs
  obtain ⟨p, xs, i, z, rfl, rfl, hq, he, q⟩ := h
  cases rx
  obtain ⟨t, rfl⟩ := ry
  obtain ⟨its, r, pl, hz⟩ := I.tuple hq
  obtain ⟨j, h1, h2, h3, h4, h5⟩ := atI_get he
  obtain ⟨w, ew, rw'⟩ := r.get h2
  have hl := r.length
  have hn := line63
  have fin : EP X pins σ Q w s := ⟨z, H, I, rw', q⟩
  exact subscriptTail_builtinR (x := w) pl.typeIs slot_tuple_getitem.lookup
    (getItem_tuple (j := j) (Q := fun r s' => r = w ∧ EP X pins σ Q r s') pl (by omega) (by omega) (by rw [List.size_toArray, ← hl]; exact h1) (by simpa using ew) ⟨rfl, fin⟩) hs
theorem ix_str : IxR X rIxS := by
  intro value slice pins s σ H x y v u Q I rx ry h hs
  obtain ⟨z, i, c, rfl, rfl, hz, he, q⟩ := h
  obtain ⟨t, rfl⟩ := rx
  obtain ⟨t', rfl⟩ := ry
  obtain ⟨j, h1, h2, h3, h4, h5⟩ := atI_get he
  have hl : z.cps.toList.length = z.length := by simp [Str.length]
  rw [hl] at h1 h4 h5
  have hn := line63
  exact tail_any (typeIs_str s z t) slot_str_getitem.lookup (getItem_str (c := c) (by
    have e1 : decide (i < -(2 ^ 63 : Int)) = false := decide_eq_false (by omega)
    have e2 : decide (i ≥ 2 ^ 63) = false := decide_eq_false (by omega)
    rw [e1, e2, Bool.or_false]) (by rw [h1]; simpa using h2) ⟨.str ⟨#[c]⟩, H, I.tok _, ⟨_, rfl⟩, q⟩) hs
/-- list, tuple or str -/
def rIx (K : PySem.W.Frag) : R2 := fun x y H Q => rIxL K x y H Q ∨ rIxT K x y H Q ∨ rIxS x y H Q
theorem ix_seq : IxR X (rIx X.K) := ix_list.or (ix_tup.or ix_str)
/-! ### xs[i] = v, any sign -/
/-- the list's object behind a store -/
theorem mapSeq_set (its : List Value) (n j : Nat) (u : Value) : Obj.mapSeq (·.setIfInBounds j u) { cls := .type "list", data := .seq its.toArray n } = { cls := .type "list", data := .seq (its.set j u).toArray n } := by
  simp [Obj.mapSeq]
theorem Inv.lst {pins : List (Addr × Obj)} {σ : St} {H : Hp} {s : Shared} {p : Addr} {xs : List V} (I : Inv X pins σ H s) (h : H p = some (.lst xs)) :
    ∃ (its : List Value) (n : Nat), Vals xs its ∧ s.heap.get? p = some { cls := .type "list", data := .seq its.toArray n } ∧ xs.length ≤ sizeLine := by
  obtain ⟨z, its, n, r, e⟩ := I.hok p _ h
  exact ⟨its, n, r, e, z⟩
/-- the list at p is written by an update of its object -/
theorem Inv.lstUpd {pins : List (Addr × Obj)} {σ : St} {H : Hp} {s : Shared} {p : Addr} {xs ys : List V} {its its' : List Value} {n n' : Nat} {f : Obj → Obj} (I : Inv X pins σ H s) (h : H p = some (.lst xs))
    (ho : s.heap.get? p = some { cls := .type "list", data := .seq its.toArray n }) (hf : f { cls := .type "list", data := .seq its.toArray n } = { cls := .type "list", data := .seq its'.toArray n' }) (r : Vals ys its') (hz : ys.length ≤ sizeLine) (t : Nat) :
    Inv X pins σ (upd H p (.lst ys)) { s with heap := s.heap.update p f, toks := t } := by
  have e : (s.heap.update p f).get? p = some { cls := .type "list", data := .seq its'.toArray n' } := by
    rw [Heap.get?_update_self f ho (by rw [hf] <;> rfl), hf]
  refine I.write (x := p) (e := p) (by rw [h]; trivial) (.inl rfl) (fun b u hb q => (Heap.get?_update_other _ _ (Ne.symm hb)).trans q) ⟨_, e⟩ ?_
  exact ⟨hz, its', n', r, e⟩
def rSetL : V → V → V → Hp → (Hp → Prop) → Prop := fun o i v H Q => ∃ p xs k j, o = .ref p ∧ i = .int k ∧ H p = some (.lst xs) ∧ ixN xs.length k = some j ∧ Q (upd H p (.lst (xs.set j v)))
theorem set_list : PSet X rSetL := by
  intro pins s σ H o i v ov iv u Q I ro ri rv h
  obtain ⟨p, xs, k, j, rfl, rfl, hp, hj, q⟩ := h
  cases ro
  obtain ⟨t, rfl⟩ := ri
  obtain ⟨its, n, r, ho, hz⟩ := I.lst hp
  obtain ⟨h1, h2, h3, h4⟩ := ixN_seq hj
  have hl := r.length
  have hn := line63
  have I' : Inv X pins σ (upd H p (.lst (xs.set j v))) { s with heap := s.heap.update p (Obj.mapSeq (·.setIfInBounds j u)) } :=
    I.lstUpd hp ho (mapSeq_set its n j u) (r.set rv j) (by rw [List.length_set]; exact hz) s.toks
  by_cases h0 : 0 ≤ k
  · have hk : k.toNat = j := by
      rw [seqIndex_of h0 h4] at h1
      exact Option.some.inj h1
    exact PySem.W.ki_setAt ho h0 (by omega) (by rw [List.size_toArray, ← hl]; exact h4) (by rw [hk]; exact ⟨_, I', q⟩)
  · have hk : (k + (its.toArray.size : Int)).toNat = j := by
      rw [seqIndex_neg (by omega) h3] at h1
      rw [List.size_toArray, ← hl]
      exact Option.some.inj h1
    exact PySem.W.ki_setBack ho (by omega) (by rw [List.size_toArray, ← hl]; exact h3) (by omega) (by rw [hk]; exact ⟨_, I', q⟩)
/-! ### slices -/
theorem slice_bounds (lo hi : Option Int) (n : Nat) : (sliceBounds lo hi none n).1 = ((HT.sIx n 0 lo : Nat) : Int) ∧ (sliceBounds lo hi none n).2.1 = ((HT.sIx n n hi : Nat) : Int) ∧ (sliceBounds lo hi none n).2.2 = 1 := by
  refine ⟨?_, ?_, rfl⟩
  · cases lo with
    | none => simp [sliceBounds, HT.sIx]
    | some i =>
      simp only [sliceBounds, HT.sIx, Option.getD_none, show (1 : Int) > 0 by decide, if_true]
      by_cases h : i < 0
      · simp only [h, if_true] <;> omega
      · simp only [h, if_false] <;> omega
  · cases hi with
    | none => simp [sliceBounds, HT.sIx]
    | some i =>
      simp only [sliceBounds, HT.sIx, Option.getD_none, show (1 : Int) > 0 by decide, if_true]
      by_cases h : i < 0
      · simp only [h, if_true] <;> omega
      · simp only [h, if_false] <;> omega
theorem slicePick_cut (its : List Value) (lo hi : Option Int) : slicePick its.toArray lo hi none = ((its.drop (HT.sIx its.length 0 lo)).take (HT.sIx its.length its.length hi - HT.sIx its.length 0 lo)).toArray := by
  obtain ⟨h1, h2, h3⟩ := slice_bounds lo hi its.toArray.size
  unfold slicePick
  rw [h1, h2, h3]
  simp only [sliceRange_one, pick_run, List.size_toArray] <;> rfl
/-- xs[lo:hi] of a list: a new list -/
def rSlL (K : PySem.W.Frag) : V → Option Int → Option Int → Hp → VK → Prop := fun x lo hi H Q => ∃ a xs, x = .ref a ∧ SqL K H a xs ∧ ∀ p, H p = none → Q (.ref p) (upd H p (.lst (cutV xs lo hi)))
theorem sl_list : SlR X (rSlL X.K) := by
  intro pins s σ H x v vl vu lo hi sl Q I rx hs pl pu h
  obtain ⟨a, xs, rfl, hx, q⟩ := h
  cases rx
  obtain ⟨its, r, ht, hz⟩ := I.list hx
  have hlen := r.length
  refine ⟨"list", _, slot_list_getitem.lookup, ht.isList.typeIs, ?_⟩
  refine wpAny_getItem_list_slice ht.isList hs pl pu .none (by simp) ?_ (by rw [List.size_toArray] <;> omega)
  rw [slicePick_cut, ← hlen]
  refine ⟨.ref s.heap.objs.size, _, I.laid (t' := s.toks) (o := .lst (cutV xs lo hi)) (fun b ob q => Heap.get?_push_of_some _ q) (Nat.le_refl _) ?_, rfl, q _ (I.hok.fresh (Nat.le_refl _))⟩
  exact ⟨Nat.le_trans (cutV_length xs lo hi) hz, _, 0, (r.drop (HT.sIx xs.length 0 lo)).take (HT.sIx xs.length xs.length hi - HT.sIx xs.length 0 lo), Heap.get?_push_size _ rfl⟩
/-! ### in, not in: flat items -/
def flatV : V → Bool
  | .non => true
  | .bl _ => true
  | .int _ => true
  | .str _ => true
  | _ => false
/-- == of flat values -/
def eqV : V → V → Bool
  | .non, .non => true
  | .bl a, .bl b => a == b
  | .bl a, .int b => (if a then 1 else 0) == b
  | .int a, .bl b => a == (if b then 1 else 0)
  | .int a, .int b => a == b
  | .str a, .str b => a == b
  | _, _ => false
theorem eqAt_V {A : Around} {s : Shared} {y x : V} {u v : Value} (ry : RelV y u) (rx : RelV x v) (fy : flatV y = true) (fx : flatV x = true) : SeqAt.EqAt A s u v (eqV y x) := by
  cases y with
  | non =>
    cases ry
    cases x with
    | non => cases rx; exact SeqAt.EqAt.same _
    | bl b => cases rx; exact SeqAt.EqAt.none_bool b
    | int b => obtain ⟨t, rfl⟩ := rx; exact SeqAt.EqAt.none_int b t
    | str b => obtain ⟨t, rfl⟩ := rx; exact SeqAt.EqAt.none_str b t
    | _ => exact absurd (show false = true from fx) Bool.false_ne_true
  | bl a =>
    cases ry
    cases x with
    | non => cases rx; exact SeqAt.EqAt.bool_none a
    | bl b => cases rx; exact SeqAt.EqAt.bool_bool a b
    | int b => obtain ⟨t, rfl⟩ := rx; exact SeqAt.EqAt.bool_int a b t
    | str b => obtain ⟨t, rfl⟩ := rx; exact SeqAt.EqAt.bool_str a b t
    | _ => exact absurd (show false = true from fx) Bool.false_ne_true
  | int a =>
    obtain ⟨t', rfl⟩ := ry
    cases x with
    | non => cases rx; exact SeqAt.EqAt.int_none a t'
    | bl b => cases rx; exact SeqAt.EqAt.int_bool a t' b
    | int b => obtain ⟨t, rfl⟩ := rx; exact SeqAt.EqAt.int_int a t' b t
    | str b => obtain ⟨t, rfl⟩ := rx; exact SeqAt.EqAt.int_str a t' b t
    | _ => exact absurd (show false = true from fx) Bool.false_ne_true
  | str a =>
    obtain ⟨t', rfl⟩ := ry
    cases x with
    | non => cases rx; exact SeqAt.EqAt.str_none a t'
    | bl b => cases rx; exact SeqAt.EqAt.str_bool a t' b
    | int b => obtain ⟨t, rfl⟩ := rx; exact SeqAt.EqAt.str_int a t' b t
    | str b => obtain ⟨t, rfl⟩ := rx; exact SeqAt.EqAt.str_str a t' b t
    | _ => exact absurd (show false = true from fx) Bool.false_ne_true
  | _ => exact absurd (show false = true from fy) Bool.false_ne_true
/-- the items' answers, read off the values (a value's own answer does not lean on its token) -/
def eqU (x : V) (u : Value) : Bool := match u with
  | .none => eqV .non x
  | .bool b => eqV (.bl b) x
  | .int i _ => eqV (.int i) x
  | .str z _ => eqV (.str z) x
  | _ => false
theorem eqU_of {x y : V} {u : Value} (r : RelV y u) (f : flatV y = true) : eqU x u = eqV y x := by
  cases y with
  | non => cases r; rfl
  | bl b => cases r; rfl
  | int i => obtain ⟨t, rfl⟩ := r; rfl
  | str z => obtain ⟨t, rfl⟩ := r; rfl
  | _ => exact absurd (show false = true from f) Bool.false_ne_true
theorem any_eqU {x : V} : ∀ {xs : List V} {us : List Value}, Vals xs us → xs.all flatV = true → us.any (eqU x) = xs.any fun y => eqV y x
  | _, _, .nil, _ => rfl
  | y :: xs, u :: us, .cons r t, f => by
    rw [List.all_cons, Bool.and_eq_true] at f
    rw [List.any_cons, List.any_cons, eqU_of r f.1, any_eqU t f.2]
theorem mem_eqAt {A : Around} {s : Shared} {x : V} {v : Value} (rx : RelV x v) (fx : flatV x = true) : ∀ {xs : List V} {us : List Value}, Vals xs us → xs.all flatV = true → ∀ u ∈ us, SeqAt.EqAt A s u v (eqU x u)
  | _, _, .nil, _ => fun u hu => by cases hu
  | y :: xs, u :: us, .cons r t, f => fun u' hu => by
    rw [List.all_cons, Bool.and_eq_true] at f
    rcases List.mem_cons.mp hu with rfl | hu
    · rw [eqU_of r f.1]; exact eqAt_V r rx f.1 fx
    · exact mem_eqAt rx fx t f.2 u' hu
def inV (x : V) (xs : List V) : Bool := xs.any fun y => eqV y x
/-- x in a list or tuple of flat items -/
def rIn (K : PySem.W.Frag) (neg : Bool) : R2 := fun x y H Q => ∃ p xs, y = .ref p ∧ (SqL K H p xs ∨ SqT K H p xs) ∧ flatV x = true ∧ xs.all flatV = true ∧ Q (.bl (if neg then !inV x xs else inV x xs)) H
theorem op_in_seq : OpR X (compareOp .In) (rIn X.K false) := by
  intro pins s σ H x y v u Q I rx ry h
  obtain ⟨p, xs, rfl, hq, fx, fs, q⟩ := h
  cases ry
  rcases hq with hq | hq
  · obtain ⟨its, r, pl, hz⟩ := I.list hq
    refine SeqAt.in_listAt (eqU x) pl.isList (fun w hw => mem_eqAt rx fx r fs w (by simpa using hw)) ⟨.bl _, H, I, rfl, ?_⟩
    rw [show its.toArray.any (eqU x) = its.any (eqU x) by simp, any_eqU r fs]
    exact q
  · obtain ⟨its, r, pl, hz⟩ := I.tuple hq
    refine SeqAt.in_tupleAt (eqU x) pl (fun w hw => mem_eqAt rx fx r fs w (by simpa using hw)) ⟨.bl _, H, I, rfl, ?_⟩
    rw [show its.toArray.any (eqU x) = its.any (eqU x) by simp, any_eqU r fs]
    exact q
theorem op_notIn_seq : OpR X (compareOp .NotIn) (rIn X.K true) := by
  intro pins s σ H x y v u Q I rx ry h
  obtain ⟨p, xs, rfl, hq, fx, fs, q⟩ := h
  cases ry
  rcases hq with hq | hq
  · obtain ⟨its, r, pl, hz⟩ := I.list hq
    refine SeqAt.notIn_listAt (eqU x) pl.isList (fun w hw => mem_eqAt rx fx r fs w (by simpa using hw)) ⟨.bl _, H, I, rfl, ?_⟩
    rw [show its.toArray.any (eqU x) = its.any (eqU x) by simp, any_eqU r fs]
    exact q
  · obtain ⟨its, r, pl, hz⟩ := I.tuple hq
    refine SeqAt.notIn_tupleAt (eqU x) pl (fun w hw => mem_eqAt rx fx r fs w (by simpa using hw)) ⟨.bl _, H, I, rfl, ?_⟩
    rw [show its.toArray.any (eqU x) = its.any (eqU x) by simp, any_eqU r fs]
    exact q
theorem op_notIn_str : OpR X (compareOp .NotIn) (fun x y H Q => ∃ i j, x = .str i ∧ y = .str j ∧ Q (.bl (!(!(Builtin.Str.occurrences j i 0 j.length 1).isEmpty))) H) := by
  intro pins s σ H x y v u Q I rx ry h
  obtain ⟨i, j, rfl, rfl, q⟩ := h
  obtain ⟨t, rfl⟩ := rx
  obtain ⟨t', rfl⟩ := ry
  exact notIn_str ⟨.bl _, H, I, rfl, q⟩
/-! ### len, list(x), tuple(x) of any list or tuple that is read -/
theorem call_len_seq : CallR X (.builtin "len") (fun xs H Q => ∃ p ys, xs = [.ref p] ∧ (SqL X.K H p ys ∨ SqT X.K H p ys) ∧ Q (.int ys.length) H) := by
  intro pins s σ H xs us Q I r h
  obtain ⟨p, ys, rfl, hq, q⟩ := h
  obtain ⟨u, rfl, rx⟩ := vals1 r
  cases rx
  have hn := line63
  rcases hq with hq | hq
  · obtain ⟨its, r', pl, hz⟩ := I.list hq
    have hlen := r'.length
    exact Calls.call_len_list pl.isList (by simp only [List.size_toArray] <;> omega) ⟨.int ys.length, H, I.tok _, ⟨s.toks + 1, by rw [List.size_toArray, hlen]⟩, q⟩
  · obtain ⟨its, r', pl, hz⟩ := I.tuple hq
    have hlen := r'.length
    exact len_tuple pl (by simp only [List.size_toArray] <;> omega) ⟨.int ys.length, H, I.tok _, ⟨s.toks + 1, by rw [List.size_toArray, hlen]⟩, q⟩
theorem call_len_str : CallR X (.builtin "len") (fun xs H Q => ∃ z, xs = [.str z] ∧ z.length ≤ sizeLine ∧ Q (.int z.length) H) := by
  intro pins s σ H xs us Q I r h
  obtain ⟨z, rfl, hz, q⟩ := h
  obtain ⟨u, rfl, t, rfl⟩ := vals1 r
  have hn := line63
  exact len_str (by omega) ⟨.int z.length, H, I.tok _, ⟨_, rfl⟩, q⟩
theorem CallR.or {f : Value} {r r' : List V → Hp → VK → Prop} (h : CallR X f r) (h' : CallR X f r') : CallR X f (fun xs H Q => r xs H Q ∨ r' xs H Q) := by
  intro pins s σ H xs us Q I rs q
  rcases q with q | q
  · exact h pins s σ H xs us Q I rs q
  · exact h' pins s σ H xs us Q I rs q
theorem call_list_of : CallR X (.type "list") (fun xs H Q => ∃ p ys, xs = [.ref p] ∧ (SqL X.K H p ys ∨ SqT X.K H p ys) ∧ ∀ l, H l = none → Q (.ref l) (upd H l (.lst ys))) := by
  intro pins s σ H xs us Q I r h
  obtain ⟨p, ys, rfl, hq, q⟩ := h
  obtain ⟨u, rfl, rx⟩ := vals1 r
  cases rx
  have fin : ∀ (its : List Value), Vals ys its → ys.length ≤ sizeLine → ∀ (h' : Heap) (c' : Nat), (∀ b o', s.heap.get? b = some o' → h'.get? b = some o') →
      h'.get? s.heap.objs.size = some { cls := .type "list", dict := none, data := .seq its.toArray c', slots := #[] } → EP X pins σ Q (.ref s.heap.objs.size) { s with heap := h' } := fun its r' hz h' c' kp e =>
    ⟨.ref s.heap.objs.size, _, I.laid (t' := s.toks) kp (Nat.le_refl _) (show ObjOk X.prog X.w _ h' _ (.lst ys) from ⟨hz, its, c', r', e⟩), rfl, q _ (I.hok.fresh (Nat.le_refl _))⟩
  rcases hq with hq | hq
  · obtain ⟨its, r', pl, hz⟩ := I.list hq
    have hlen := r'.length
    obtain ⟨o, ho, hc, n, hd⟩ := pl.isList
    exact call_list_seq p (.inl rfl) ho hc hd (fun h' c' kp e => fin its r' hz h' c' kp e) (by simp only [List.size_toArray] <;> omega)
  · obtain ⟨its, r', pl, hz⟩ := I.tuple hq
    have hlen := r'.length
    obtain ⟨o, ho, hc, n, hd⟩ := pl
    exact call_list_seq p (.inr rfl) ho hc hd (fun h' c' kp e => fin its r' hz h' c' kp e) (by simp only [List.size_toArray] <;> omega)
theorem call_tuple_of : CallR X (.type "tuple") (fun xs H Q => ∃ p ys, xs = [.ref p] ∧ ((SqL X.K H p ys ∧ ∀ l, H l = none → Q (.ref l) (upd H l (.tup ys))) ∨ (SqT X.K H p ys ∧ Q (.ref p) H))) := by
  intro pins s σ H xs us Q I r h
  obtain ⟨p, ys, rfl, h⟩ := h
  obtain ⟨u, rfl, rx⟩ := vals1 r
  cases rx
  rcases h with ⟨hq, q⟩ | ⟨hq, q⟩
  · obtain ⟨its, r', pl, hz⟩ := I.list hq
    have hlen := r'.length
    refine call_tuple_list pl.isList (fun h' kp => ?_) (by simp only [List.size_toArray] <;> omega)
    have I1 : Inv X pins σ H { s with heap := h' } := I.kept (t' := s.toks) kp
    have I2 : Inv X pins σ (upd H h'.objs.size (.tup ys)) { s with heap := h'.push { cls := .type "tuple", data := .seq its.toArray } } :=
      I1.laid (t' := s.toks) (fun b o e => Heap.get?_push_of_some _ e) (Nat.le_refl _) (show ObjOk X.prog X.w _ _ _ (.tup ys) from ⟨hz, its, r', IsTup.new _ _⟩)
    exact ⟨.ref h'.objs.size, _, I2, rfl, q _ (I1.hok.fresh (Nat.le_refl _))⟩
  · obtain ⟨its, r', pl, hz⟩ := I.tuple hq
    exact call_tuple_same pl ⟨.ref p, H, I, rfl, q⟩
/-! ### the call of a builtin's method: o.m(..) -/
/-- the value is of that builtin type -/
def tyV (K : PySem.W.Frag) (T : String) (x : V) (H : Hp) : Prop := match x with
  | .str _ => T = "str"
  | .int _ => T = "int"
  | .ref p => (T = "list" ∧ ∃ xs, SqL K H p xs) ∨ (T = "tuple" ∧ ∃ o, K.lookup p = some o ∧ o.cls = .type "tuple" ∧ o.dict = none) ∨
      (T = "dict" ∧ ((∃ kvs, H p = some (.dK kvs)) ∨ ∃ kvs, H p = some (.dT kvs))) ∨ (T = "set" ∧ ∃ S n, H p = some (.set S n))
  | _ => False
theorem tyV_is {pins : List (Addr × Obj)} {σ : St} {H : Hp} {s : Shared} {T : String} {x : V} {v : Value} (I : Inv X pins σ H s) (r : RelV x v) (ty : tyV X.K T x H) :
    s.TypeIs v T ∧ ∀ a, v = .ref a → ∃ ob, s.heap.get? a = some ob ∧ ob.dict = none := by
  cases x with
  | str z =>
    obtain ⟨t, rfl⟩ := r
    cases (show T = "str" from ty)
    exact ⟨typeIs_str s z t, fun _ e => nomatch e⟩
  | int i =>
    obtain ⟨t, rfl⟩ := r
    cases (show T = "int" from ty)
    exact ⟨typeIs_int s i t, fun _ e => nomatch e⟩
  | ref p =>
    cases r
    rcases ty with ⟨rfl, xs, hq⟩ | ⟨rfl, o, hk, hc, hd⟩ | ⟨rfl, hk⟩ | ⟨rfl, S, n, hk⟩
    · obtain ⟨its, _, pl, _⟩ := I.list hq
      refine ⟨pl.isList.typeIs, fun a e => ?_⟩
      cases e
      obtain ⟨o, n, e, c, hd, _⟩ := pl
      exact ⟨o, e, hd⟩
    · refine ⟨⟨o, I.kIn p o hk, hc⟩, fun a e => ?_⟩
      cases e
      exact ⟨o, I.kIn _ o hk, hd⟩
    · have z : ∃ o, s.heap.get? p = some o ∧ o.ExactDict := by
        rcases hk with ⟨kvs, hk⟩ | ⟨kvs, hk⟩
        · obtain ⟨_, _, _, _, o, _, _, e, ex, _⟩ := I.hok p _ hk
          exact ⟨o, e, ex⟩
        · obtain ⟨_, _, _, _, o, _, _, e, ex, _⟩ := I.hok p _ hk
          exact ⟨o, e, ex⟩
      obtain ⟨o, e, ex⟩ := z
      refine ⟨⟨o, e, ex.1⟩, fun a e2 => ?_⟩
      cases e2
      exact ⟨o, e, ex.2.1⟩
    · obtain ⟨o, _, _, _, e, ex, _⟩ := I.hok p _ hk
      refine ⟨⟨o, e, ex.1⟩, fun a e2 => ?_⟩
      cases e2
      exact ⟨o, e, ex.2.1⟩
  | _ => exact False.elim ty
def tBM0 (K : PySem.W.Frag) (T : String) (r : V → List V → Hp → VK → Prop) (to : TE) : TE := fun σ H Q => to σ H fun x H1 => tyV K T x H1 ∧ r x [] H1 Q
def tBM (K : PySem.W.Frag) (T : String) (r : V → List V → Hp → VK → Prop) (to : TE) (t : TA) : TE := fun σ H Q => to σ H fun x H1 => tyV K T x H1 ∧ t σ H1 fun xs H2 => r x xs H2 Q
variable {o e : Expr} {es : List Expr} {to : TE} {t : TA} {name : Str} {apos cpos : Pos} {T id : String} {r : V → List V → Hp → VK → Prop}
theorem pe_bm0 (pa : PlainAttrs T) (slot : Slot T name id) (hty : typeOf (.builtin id) = pure (.type "method_descriptor")) (hm : MtR X id r) (ho : PE X o to)
    (hbase : attributeBase o name X.env (eval o X.env) = eval o X.env := by rfl) (hline : (apos.endLine == cpos.line) = true := by rfl) : PE X (.Call (.Attribute o name apos) [] [] cpos) (tBM0 X.K T r to) := by
  intro pins s σ H Q I h
  refine wpAny_Call_method0_late hbase hline (thn (ho pins s σ H _ I h) fun v s1 ⟨x, H1, I1, r1, ty, q1⟩ => ?_)
  obtain ⟨h1, h2⟩ := tyV_is I1 r1 ty
  exact ⟨T, id, pa, slot, hty, h1, h2, Calls.callWith_builtin rfl (PySem.evalArgs_none (hm pins s1 σ H1 x [] v [] Q I1 r1 .nil q1))⟩
theorem pe_bm (pa : PlainAttrs T) (slot : Slot T name id) (hty : typeOf (.builtin id) = pure (.type "method_descriptor")) (hm : MtR X id r) (ho : PE X o to) (ha : PA X (e :: es) t)
    (hbase : attributeBase o name X.env (eval o X.env) = eval o X.env := by rfl)
    (hfew : ((backTo cpos (starEach (e :: es) X.env)).all (fun x => !x.1) && (backToKw cpos (keywordEach [] X.env)).all (fun x => x.1.isSome)
      && decide ((e :: es).length + ([] : List Keyword).length + (if ([] : List Keyword).isEmpty then 0 else 1) < 30)) = true := by rfl)
    (hline : (apos.endLine == cpos.line) = true := by rfl) (hs : starEach (e :: es) X.env = (false, eval e X.env) :: starEach es X.env := by rfl) (hplain : (backTo cpos (starEach es X.env)).any (·.1) = false := by rfl) :
    PE X (.Call (.Attribute o name apos) (e :: es) [] cpos) (tBM X.K T r to t) := by
  intro pins s σ H Q I h
  refine wpAny_Call_method_late hbase hfew hline rfl (thn (ho pins s σ H _ I h) fun v s1 ⟨x, H1, I1, r1, ty, q1⟩ => ?_)
  obtain ⟨h1, h2⟩ := tyV_is I1 r1 ty
  refine ⟨T, id, pa, slot, hty, h1, h2, ?_⟩
  have hA := ha cpos pins s1 σ H1 _ I1 q1
  rw [hs] at hA ⊢
  refine Calls.callWith_builtin (by show (false || (backTo cpos (starEach es X.env)).any (·.1)) = false; rw [hplain] <;> rfl) (Calls.evalArgs_plain ?_)
  exact thn hA fun us s2 ⟨vs, H2, I2, r2, q2⟩ => hm pins s2 σ H2 x vs v us Q I2 r1 r2 q2
/- xs.append(e), list.index on a module's tuple .. are MtR facts of 06m -/
end
end L2
namespace L2
open PySem PySem.Spec PyProof.Rows
def MtM (X : Cx) (id : String) (r : V → List V → Hp → VK → Prop) : Prop :=
  ∀ (pins : List (Addr × Obj)) (s : Shared) (σ : St) (H : Hp) (x : V) (xs : List V) (v : Value) (us : List Value) (Q : VK), Inv X pins σ H s → RelV x v → Vals xs us → r x xs H Q →
    wpAny (model X.prog X.w) X.A (call (.builtin id) (v :: us)) (EP X pins σ Q) X.xe s
/-! ### lists of values -/
theorem Vals.one : ∀ {x : V} {us : List Value}, Vals [x] us → ∃ u, us = [u] ∧ RelV x u
  | _, _, .cons r .nil => ⟨_, rfl, r⟩
theorem Vals.two : ∀ {x y : V} {us : List Value}, Vals [x, y] us → ∃ u v, us = [u, v] ∧ RelV x u ∧ RelV y v
  | _, _, _, .cons r (.cons q .nil) => ⟨_, _, rfl, r, q⟩
theorem Vals.zero : ∀ {us : List Value}, Vals [] us → us = []
  | _, .nil => rfl
theorem Vals.dropLast {xs : List V} {us : List Value} (h : Vals xs us) : Vals xs.dropLast us.dropLast := by
  induction h with
  | nil => exact .nil
  | cons r t ih =>
    cases t with
    | nil => exact .nil
    | cons q t' => exact .cons r ih
theorem Vals.eraseIdx : ∀ {xs : List V} {us : List Value} (i : Nat), Vals xs us → Vals (xs.eraseIdx i) (us.eraseIdx i)
  | _, _, _, .nil => .nil
  | _, _, 0, .cons _ t => t
  | _, _, i + 1, .cons r t => .cons r (Vals.eraseIdx i t)
theorem Vals.reverse {xs : List V} {us : List Value} (h : Vals xs us) : Vals xs.reverse us.reverse := by
  induction h with
  | nil => exact .nil
  | cons r t ih => rw [List.reverse_cons, List.reverse_cons]; exact Vals.append ih (.cons r .nil)
theorem Vals.rep {xs : List V} {us : List Value} (h : Vals xs us) : ∀ k : Nat, Vals (List.replicate k xs).flatten (List.replicate k us).flatten
  | 0 => .nil
  | k + 1 => by
    rw [List.replicate_succ, List.replicate_succ, List.flatten_cons, List.flatten_cons]
    exact Vals.append h (Vals.rep h k)
theorem erase_last {α : Type} (l : List α) : l.eraseIdx (l.length - 1) = l.dropLast := by
  induction l with
  | nil => rfl
  | cons a r ih =>
    cases r with
    | nil => rfl
    | cons b r =>
      have e : (a :: b :: r).length - 1 = ((b :: r).length - 1) + 1 := by
        have h1 : (a :: b :: r).length = r.length + 2 := rfl
        have h2 : (b :: r).length = r.length + 1 := rfl
        omega
      rw [e, List.eraseIdx_cons_succ, ih]
      all_goals rfl
theorem len_erase {α : Type} : ∀ (l : List α) (i : Nat), (l.eraseIdx i).length ≤ l.length
  | [], _ => Nat.le_refl _
  | _ :: _, 0 => Nat.le_succ _
  | _ :: r, i + 1 => Nat.succ_le_succ (len_erase r i)
theorem foldl_rep (its : List Value) : ∀ (k : Nat) (acc : List Value),
    List.foldl (fun x1 x2 => x1 ++ x2) acc.toArray (List.replicate k its.toArray) = (acc ++ (List.replicate k its).flatten).toArray
  | 0, acc => by simp
  | k + 1, acc => by
    have e : acc.toArray ++ its.toArray = (acc ++ its).toArray := by simp
    have e2 : (acc ++ its) ++ (List.replicate k its).flatten = acc ++ (List.replicate (k + 1) its).flatten := by
      rw [List.replicate_succ, List.flatten_cons, List.append_assoc]
    rw [← e2, ← foldl_rep its k (acc ++ its), ← e, List.replicate_succ, List.foldl_cons]
section
variable {X : Cx} {pins : List (Addr × Obj)} {σ : St} {H : Hp} {s : Shared} {l b : Addr} {xs ys zs : List V}
/-! ### the two steps: a tracked list is rewritten, a new list is laid -/
theorem Inv.lset {its its' : List Value} {n : Nat} {f : Array Value → Array Value} {t' : Nat} (I : Inv X pins σ H s) (hH : H l = some (.lst xs))
    (e : s.heap.get? l = some { cls := .type "list", data := .seq its.toArray n }) (hf : f its.toArray = its'.toArray) (hv : Vals ys its') (hz : ys.length ≤ sizeLine) :
    Inv X pins σ (upd H l (.lst ys)) { s with heap := s.heap.update l (Obj.mapSeq f), toks := t' } := by
  have q := PySem.IsL.update e f
  rw [hf] at q
  refine I.write (x := l) (e := l) (by rw [hH]; exact trivial) (.inl rfl) (fun b' u hb hu => (Heap.get?_update_other s.heap (Obj.mapSeq f) (Ne.symm hb)).trans hu) ⟨_, q⟩ ?_
  exact ⟨hz, its', _, hv, q⟩
theorem Inv.lnew {its : List Value} {t' : Nat} (I : Inv X pins σ H s) (hv : Vals ys its) (hz : ys.length ≤ sizeLine) :
    Inv X pins σ (upd H s.heap.objs.size (.lst ys)) { s with heap := s.heap.push { cls := .type "list", data := .seq its.toArray }, toks := t' } :=
  I.laid (fun _ _ q => Heap.get?_push_of_some _ q) (Nat.le_refl _) ⟨hz, its, 0, hv, Heap.get?_push_size _ rfl⟩
theorem Inv.fresh (I : Inv X pins σ H s) : H s.heap.objs.size = none := I.hok.fresh (Nat.le_refl _)
theorem Inv.lstM (I : Inv X pins σ H s) (hH : H l = some (.lst xs)) : xs.length ≤ sizeLine ∧ ∃ (its : List Value) (n : Nat), Vals xs its ∧ xs.length = its.length ∧ s.heap.get? l = some { cls := .type "list", data := .seq its.toArray n } := by
  obtain ⟨z, its, n, r, e⟩ := I.hok l _ hH
  exact ⟨z, its, n, r, r.length, e⟩
theorem notLongL {n : Nat} (h : n ≤ sizeLine) : Builtin.List.listTooLong n = false := by
  unfold Builtin.List.listTooLong
  exact decide_eq_false (by omega)
end
section
variable {X : Cx}
/-! ### methods -/
def rAppend : V → List V → Hp → VK → Prop := fun x vs H Q => ∃ l xs y, x = .ref l ∧ vs = [y] ∧ H l = some (.lst xs) ∧ xs.length < sizeLine ∧ Q .non (upd H l (.lst (xs ++ [y])))
theorem mt_append : MtM X "list.append" rAppend := by
  intro pins s σ H x vs v us Q I rx rv h
  obtain ⟨l, xs, y, rfl, rfl, hH, hz, q⟩ := h
  cases rx
  obtain ⟨u, rfl, ru⟩ := rv.one
  obtain ⟨z, its, n, r, hl, e⟩ := I.lstM hH
  refine call_meets F.slot_list_append ⟨_, e, rfl⟩ F.entry_list_append (F.args_list_append_2 _ _) (PySem.list_append l its.toArray n u (by rw [List.size_toArray]; omega)) ⟨e, ?_⟩
  refine ⟨.non, _, I.lset (its' := its ++ [u]) hH e (by simp) (r.append (.cons ru .nil)) ?_, rfl, q⟩
  rw [List.length_append, List.length_singleton]
  omega
def rExtend : V → List V → Hp → VK → Prop := fun x vs H Q => ∃ l b xs zs, x = .ref l ∧ vs = [.ref b] ∧ H l = some (.lst xs) ∧ H b = some (.lst zs) ∧ xs.length + zs.length ≤ sizeLine ∧ Q .non (upd H l (.lst (xs ++ zs)))
theorem mt_extend : MtM X "list.extend" rExtend := by
  intro pins s σ H x vs v us Q I rx rv h
  obtain ⟨l, b, xs, zs, rfl, rfl, hH, hB, hz, q⟩ := h
  cases rx
  obtain ⟨u, rfl, ru⟩ := rv.one
  cases ru
  obtain ⟨z, its, n, r, hl, e⟩ := I.lstM hH
  obtain ⟨z2, its2, n2, r2, hl2, e2⟩ := I.lstM hB
  have hsz : its.toArray.size + its2.toArray.size ≤ sizeLine := by rw [List.size_toArray, List.size_toArray]; omega
  have hlong : ¬ (!its.toArray.isEmpty && Builtin.List.listTooLong (its.toArray.size + its2.toArray.size)) = true := by
    rw [notLongL hsz, Bool.and_false]
    exact Bool.false_ne_true
  refine call_meets F.slot_list_extend ⟨_, e, rfl⟩ F.entry_list_extend (F.args_list_extend_2 _ _)
    (AutoSeq1.list_extend_list_list_0 l its.toArray n b its2.toArray n2 hlong (by rw [List.size_toArray]; omega) (by omega)) ⟨e, e2, ?_⟩
  refine ⟨.non, _, I.lset (its' := its ++ its2) hH e (by simp) (r.append r2) ?_, rfl, q⟩
  rw [List.length_append]
  omega
def rPop : V → List V → Hp → VK → Prop := fun x vs H Q => ∃ l xs y, x = .ref l ∧ vs = [] ∧ H l = some (.lst xs) ∧ xs[xs.length - 1]? = some y ∧ Q y (upd H l (.lst xs.dropLast))
theorem mt_pop : MtM X "list.pop" rPop := by
  intro pins s σ H x vs v us Q I rx rv h
  obtain ⟨l, xs, y, rfl, rfl, hH, hy, q⟩ := h
  cases rx
  have hus := rv.zero
  subst hus
  obtain ⟨z, its, n, r, hl, e⟩ := I.lstM hH
  obtain ⟨u, hu, ru⟩ := r.get hy
  have hy' : its.toArray[its.toArray.size - 1]? = some u := by
    show its.toArray[its.length - 1]? = some u
    rw [← Array.getElem?_toList, ← hl]
    exact hu
  refine call_meets F.slot_list_pop ⟨_, e, rfl⟩ F.entry_list_pop (F.args_list_pop_1 _) (MeetsSeq.list_pop_last l its.toArray n u hy' (by rw [List.size_toArray]; omega)) ⟨e, ?_⟩
  refine ⟨y, _, I.lset (its' := its.dropLast) hH e ?_ r.dropLast ?_, ru, q⟩
  · show its.toArray.eraseIdxIfInBounds (its.toArray.size - 1) = its.dropLast.toArray
    rw [List.size_toArray, List.eraseIdxIfInBounds_toArray, erase_last]
  · rw [List.length_dropLast]
    omega
def rPopAt : V → List V → Hp → VK → Prop := fun x vs H Q => ∃ l xs i k y, x = .ref l ∧ vs = [.int i] ∧ H l = some (.lst xs) ∧ -(2 ^ 63) ≤ i ∧ i < 2 ^ 63 ∧ seqIndex? i xs.length = some k ∧ xs[k]? = some y ∧ Q y (upd H l (.lst (xs.eraseIdx k)))
theorem mt_popAt : MtM X "list.pop" rPopAt := by
  intro pins s σ H x vs v us Q I rx rv h
  obtain ⟨l, xs, i, k, y, rfl, rfl, hH, h1, h2, hk, hy, q⟩ := h
  cases rx
  obtain ⟨u, rfl, ru⟩ := rv.one
  obtain ⟨t, rfl⟩ := ru
  obtain ⟨z, its, n, r, hl, e⟩ := I.lstM hH
  obtain ⟨w, hw, rw'⟩ := r.get hy
  refine call_meets F.slot_list_pop ⟨_, e, rfl⟩ F.entry_list_pop (F.args_list_pop_2 _ _)
    (MeetsSeq.list_pop_at l its.toArray n i t k w (fitsIndex_both h1 h2) (by rw [List.size_toArray, ← hl]; exact hk) (by rw [← Array.getElem?_toList]; exact hw) (by rw [List.size_toArray]; omega)) ⟨e, ?_⟩
  refine ⟨y, _, I.lset (its' := its.eraseIdx k) hH e ?_ (r.eraseIdx k) ?_, rw', q⟩
  · show its.toArray.eraseIdxIfInBounds k = (its.eraseIdx k).toArray
    rw [List.eraseIdxIfInBounds_toArray]
  · have := len_erase xs k
    omega
def rReverse : V → List V → Hp → VK → Prop := fun x vs H Q => ∃ l xs, x = .ref l ∧ vs = [] ∧ H l = some (.lst xs) ∧ Q .non (upd H l (.lst xs.reverse))
theorem mt_reverse : MtM X "list.reverse" rReverse := by
  intro pins s σ H x vs v us Q I rx rv h
  obtain ⟨l, xs, rfl, rfl, hH, q⟩ := h
  cases rx
  have hus := rv.zero
  subst hus
  obtain ⟨z, its, n, r, hl, e⟩ := I.lstM hH
  refine call_meets F.slot_list_reverse ⟨_, e, rfl⟩ F.entry_list_reverse (F.args_list_reverse_1 _) (AutoSeq1.list_reverse_list_0 l its.toArray n (by rw [List.size_toArray]; omega)) ⟨e, ?_⟩
  refine ⟨.non, _, I.lset (its' := its.reverse) hH e (by simp) r.reverse ?_, rfl, q⟩
  rw [List.length_reverse]
  omega
def rClear : V → List V → Hp → VK → Prop := fun x vs H Q => ∃ l xs, x = .ref l ∧ vs = [] ∧ H l = some (.lst xs) ∧ Q .non (upd H l (.lst []))
theorem mt_clear : MtM X "list.clear" rClear := by
  intro pins s σ H x vs v us Q I rx rv h
  obtain ⟨l, xs, rfl, rfl, hH, q⟩ := h
  cases rx
  have hus := rv.zero
  subst hus
  obtain ⟨z, its, n, r, hl, e⟩ := I.lstM hH
  refine call_meets F.slot_list_clear ⟨_, e, rfl⟩ F.entry_list_clear (F.args_list_clear_1 _) (AutoSeq1.list_clear_list_0 l its.toArray n (by rw [List.size_toArray]; omega)) ⟨e, ?_⟩
  exact ⟨.non, _, I.lset (its' := []) (ys := []) hH e rfl .nil (Nat.zero_le _), rfl, q⟩
/-! ### list + list, list += list, list * int -/
def rCat : R2 := fun x y H Q => ∃ l b xs zs, x = .ref l ∧ y = .ref b ∧ H l = some (.lst xs) ∧ H b = some (.lst zs) ∧ xs.length + zs.length ≤ sizeLine ∧ ∀ p, H p = none → Q (.ref p) (upd H p (.lst (xs ++ zs)))
theorem op_cat : OpR X (binaryOp .Add) rCat := by
  intro pins s σ H x y v u Q I rx ry h
  obtain ⟨l, b, xs, zs, rfl, rfl, hH, hB, hz, q⟩ := h
  cases rx
  cases ry
  obtain ⟨z, its, n, r, hl, e⟩ := I.lstM hH
  obtain ⟨z2, its2, n2, r2, hl2, e2⟩ := I.lstM hB
  refine PySem.P.add_list e e2 ?_ (by rw [List.size_toArray, List.size_toArray]; omega)
  have ea : its.toArray ++ its2.toArray = (its ++ its2).toArray := by simp
  rw [ea]
  exact ⟨.ref _, _, I.lnew (t' := s.toks) (r.append r2) (by rw [List.length_append]; omega), rfl, q _ I.fresh⟩
/-- a list times an int (a negative one is nothing) -/
def rRep : R2 := fun x y H Q => ∃ l k xs, x = .ref l ∧ y = .int k ∧ H l = some (.lst xs) ∧ -(2 ^ 63) ≤ k ∧ k < 2 ^ 63 ∧ xs.length * k.toNat ≤ sizeLine ∧
  ∀ p, H p = none → Q (.ref p) (upd H p (.lst (List.replicate k.toNat xs).flatten))
theorem len_rep {α : Type} (xs : List α) (k : Nat) : (List.replicate k xs).flatten.length = k * xs.length := by
  induction k with
  | zero => simp
  | succ k ih => rw [List.replicate_succ, List.flatten_cons, List.length_append, ih, Nat.succ_mul, Nat.add_comm]
theorem op_rep : OpR X (binaryOp .Mult) rRep := by
  intro pins s σ H x y v u Q I rx ry h
  obtain ⟨l, k, xs, rfl, rfl, hH, h1, h2, hz, q⟩ := h
  cases rx
  obtain ⟨t, rfl⟩ := ry
  obtain ⟨z, its, n, r, hl, e⟩ := I.lstM hH
  have hlen : its.toArray.size * k.toNat ≤ sizeLine := by rw [List.size_toArray, ← hl]; exact hz
  have hcap : ¬ its.toArray.size * k.toNat > (2 ^ 63 - 1) / 8 := by
    have : (sizeLine : Nat) ≤ (2 ^ 63 - 1) / 8 := by decide
    omega
  have hfit : ¬ (!Builtin.List.listFitsIndex k) = true := by
    rw [fitsIndex_both h1 h2]
    exact Bool.false_ne_true
  have hlong : ¬ Builtin.List.listTooLong (its.toArray.size * k.toNat) = true := by
    rw [notLongL hlen]
    exact Bool.false_ne_true
  have hnew : List.foldl (fun x1 x2 => x1 ++ x2) #[] (List.replicate (if its.toArray.isEmpty = true then 0 else k.toNat) its.toArray) = (List.replicate k.toNat its).flatten.toArray := by
    have f0 : ∀ m : Nat, List.foldl (fun x1 x2 => x1 ++ x2) #[] (List.replicate m its.toArray) = (List.replicate m its).flatten.toArray := fun m => by
      have := foldl_rep its m []
      rw [List.nil_append] at this
      exact this
    rw [f0]
    cases its with
    | nil => simp
    | cons a r' => rw [if_neg (by simp)]
  refine wpAny_binaryOp_repeat_ref (T := "list") (U := "int") (by decide) ⟨_, e, rfl⟩ (fun s' => typeIs_int s' k t) noFill_list_mul F.fills_int_mul F.slot_int_rmul repeat_list F.slot_int_index.lookup
    (call_meets F.slot_int_rmul (typeIs_int s k t) F.entry_int_rmul (F.args_int_rmul_2 _ _) (int___rmul___int_list k t l its.toArray n)
      ⟨e, rfl, ⟨_, e, rfl⟩, call_meets F.slot_list_mul ⟨_, e, rfl⟩ F.entry_list_mul (F.args_list_mul_2 _ _) (AutoListH.list___mul___list_int_3 l its.toArray n k t hfit hcap hlong) ⟨e, ?_⟩⟩)
  rw [hnew]
  exact ⟨.ref _, _, I.lnew (t' := s.toks) (r.rep k.toNat) (by rw [len_rep, Nat.mul_comm]; exact hz), rfl, q _ I.fresh⟩
/-! ### del xs[i] -/
theorem del_list {pins : List (Addr × Obj)} {s : Shared} {σ : St} {H : Hp} {l : Addr} {xs : List V} {i : Int} {t : Tok} {k : Nat} {Q : Unit → Shared → Prop} (I : Inv X pins σ H s) (hH : H l = some (.lst xs))
    (h1 : -(2 ^ 63) ≤ i) (h2 : i < 2 ^ 63) (hk : seqIndex? i xs.length = some k) (h : ∀ s', Inv X pins σ (upd H l (.lst (xs.eraseIdx k))) s' → Q () s') :
    wpAny (model X.prog X.w) X.A (delItem (.ref l) (.int i t)) Q X.xe s := by
  obtain ⟨z, its, n, r, hl, e⟩ := I.lstM hH
  refine PySem.P.delItem_list (k := k) e (fitsIndex_both h1 h2) (by rw [List.size_toArray, ← hl]; exact hk) (h _ ?_) (by rw [List.size_toArray]; omega)
  refine I.lset (its' := its.eraseIdx k) (t' := s.toks) hH e ?_ (r.eraseIdx k) ?_
  · show its.toArray.eraseIdxIfInBounds k = (its.eraseIdx k).toArray
    rw [List.eraseIdxIfInBounds_toArray]
  · have := len_erase xs k
    omega
end
/-! ### xs[a:b] = ys -/
section
variable {prog : Program} {w : World} {A : Around} {E : Value → Shared → Prop} {s : Shared}
theorem splice_eq (its its2 : List Value) (a c : Nat) : its.toArray.extract 0 a ++ its2.toArray ++ its.toArray.extract c its.toArray.size = (its.take a ++ its2 ++ its.drop c).toArray := by
  apply Array.toList_inj.mp
  first
    | (simp
       exact List.take_of_length_le (by simp))
    | simp [List.take_of_length_le]
    | simp
theorem bounds_run {a c n : Nat} (hac : a ≤ c) (hc : c ≤ n) : sliceBounds (some (a : Int)) (some (c : Int)) none n = ((a : Int), (c : Int), 1) := by
  simp only [sliceBounds, Option.getD_none]
  have h1 : ¬ ((a : Int) < 0) := by omega
  have h2 : ¬ ((c : Int) < 0) := by omega
  simp only [h1, h2, if_false, show (1 : Int) > 0 by decide, if_true]
  congr 1
  · omega
  · congr 1; omega
set_option maxRecDepth 100000 in
/-- list.__setitem__ with a slice of step one and another list -/
theorem setItem_slice {l b sl : Addr} {items new : Array Value} {n n2 : Nat} {vl vu : Value} {a c : Nat} {Q : Unit → Shared → Prop}
    (e : s.heap.get? l = some { cls := .type "list", data := .seq items n }) (e2 : s.heap.get? b = some { cls := .type "list", data := .seq new n2 }) (hne : l ≠ b)
    (hs : s.heap.IsSliceOf sl vl vu .none) (pl : IsPart vl (some (a : Int))) (pu : IsPart vu (some (c : Int))) (hac : a ≤ c) (hc : c ≤ items.size)
    (hsz : items.size + new.size ≤ sizeLine) (h : Q () { s with heap := s.heap.update l (Obj.mapSeq fun xs => xs.extract 0 a ++ new ++ xs.extract c xs.size) }) :
    wpAny (model prog w) A (setItem (.ref l) (.ref sl) (.ref b)) Q E s := by
  have hl : s.heap.IsList l items := PySem.IsL.isList e
  have hb : s.heap.IsList b new := PySem.IsL.isList e2
  obtain ⟨os, hos, hcs, hds⟩ := id hs
  have hTs : s.TypeIs (.ref sl) "slice" := ⟨os, hos, hcs⟩
  have hstep : ¬ ((rawPart none == rawInt 0) = true) := Bool.false_ne_true
  have hsame : Builtin.List.listSameRef (.ref l) (.ref b) = false := by
    unfold Builtin.List.listSameRef
    exact beq_eq_false_iff_ne.mpr hne
  have hmax : (max (a : Int) (c : Int)).toNat = c := by omega
  have hz' : ((fun xs : Array Value => xs.extract 0 a ++ new ++ xs.extract c xs.size) items).size ≤ sizeLine + 1 := by
    simp only [Array.size_append, Array.size_extract]
    omega
  unfold setItem
  try with_reducible refine wpAny_holding ?_
  first | refine wpAny_bind (wpAny_pure ?_) | skip
  refine wpAny_bind (wpAny_sequenceKey hl.typeIs (by decide) ?_)
  refine wpAny_bind (wpAny_callSpecial?_slot (name := Str.ofString "__setitem__") hl.typeIs slot_list_setitem
    (wpAny_call_entry slot_list_setitem hl.typeIs entry_list_setitem ?_ (args_list_setitem _ _ _)))
  show wpAny _ _ (Builtin.List.listSubscript? (.ref sl) >>= _) _ _ s
  refine wpAny_bind ?_
  unfold Builtin.List.listSubscript?
  refine wpAny_bind (wpAny_specialOf hTs slice_no_index ?_)
  simp only [Option.isNone_none, if_true]
  refine wpAny_pure ?_
  show wpAny _ _ (typeOf (.ref sl) >>= _) _ _ s
  refine wpAny_bind (wpAny_typeOf hTs ?_)
  first
    | rw [if_neg (by decide)]
    | refine PySem.W.KFB.if_not (by decide) ?_
  rw [listSliceParts_eq]
  refine wpAny_bind (wpAny_bind (wpAny_field hos hds (x := .none) rfl (wpAny_bind (wpAny_listPart .none ?_))))
  rw [if_neg hstep]
  refine wpAny_bind (wpAny_field hos hds (x := vl) rfl (wpAny_bind (wpAny_listPart pl ?_)))
  refine wpAny_bind (wpAny_field hos hds (x := vu) rfl (wpAny_bind (wpAny_listPart pu (wpAny_pure ?_))))
  first
    | simp only [hsame, Bool.false_eq_true, if_false]
    | refine PySem.W.KFB.if_not hsame ?_
    | (dsimp only
       rw [if_neg (by rw [hsame]; exact Bool.false_ne_true)])
  refine wpAny_bind (m := Builtin.List.listAllItems (.ref b) "must assign iterable to extended slice") ?_
  unfold Builtin.List.listAllItems
  refine wpAny_bind (wpAny_typeOf hb.typeIs ?_)
  first
    | refine PySem.W.KFB.if_so (by decide) ?_
    | rw [if_pos (by decide)]
    | simp only [beq_self_eq_true, Bool.true_or, if_true]
  unfold Builtin.List.listItems
  refine wpAny_bind (wpAny_seqItems e2 rfl (wpAny_pure ?_))
  refine wpAny_bind (wpAny_bind (wpAny_seqItems e rfl (wpAny_pure ?_)))
  refine wpAny_bind (wpAny_of_eq ((sliceIndices_raw (some (a : Int)) (some (c : Int)) none items.size (by simp)).trans (congrArg (pure : Int × Int × Int → Sem (Int × Int × Int)) (bounds_run hac hc))) ?_)
  show wpAny _ _ (if ((1 : Int) == 1) = true then _ else _) _ _ s
  rw [if_pos (by decide)]
  refine wpAny_bind (wpAny_rule ?_)
  first
    | simp only [notLongL hsz, Bool.false_eq_true, if_false]
    | refine PySem.W.KFB.if_not (notLongL hsz) ?_
  first | refine wpAny_bind (wpAny_pure ?_) | skip
  show wpAny _ _ (updateSeq l (fun xs => xs.extract 0 ((a : Int)).toNat ++ new ++ xs.extract (max (a : Int) (c : Int)).toNat xs.size) >>= _) _ _ s
  rw [hmax, Int.toNat_natCast]
  refine wpAny_bind (wpAny_updateSeq (hz := Nat.le_trans (Nat.le_add_right _ _) hsz) (_hz' := hz') e rfl ?_)
  refine wpAny_bind (wpAny_letGo ?_)
  first
    | exact wpAny_bind (wpAny_pure (wpAny_pure ⟨.none, rfl, wpAny_pure h⟩))
    | exact wpAny_pure ⟨.none, rfl, wpAny_pure h⟩
end
section
variable {X : Cx}
/-- xs[a:c] = ys of another list, at the value level: sl is the slice object that was just made -/
theorem set_slice {pins : List (Addr × Obj)} {s : Shared} {σ : St} {H : Hp} {l b sl : Addr} {xs ys : List V} {a c : Int} {vl vu : Value} {Q : Unit → Shared → Prop} (I : Inv X pins σ H s)
    (hH : H l = some (.lst xs)) (hB : H b = some (.lst ys)) (hne : l ≠ b) (hs : s.heap.IsSliceOf sl vl vu .none) (ra : RelV (.int a) vl) (rc : RelV (.int c) vu) (h0 : 0 ≤ a) (hac : a ≤ c) (hc : c ≤ xs.length)
    (hz : xs.length + ys.length ≤ sizeLine) (h : ∀ s', Inv X pins σ (upd H l (.lst (xs.take a.toNat ++ ys ++ xs.drop c.toNat))) s' → Q () s') :
    wpAny (model X.prog X.w) X.A (setItem (.ref l) (.ref sl) (.ref b)) Q X.xe s := by
  obtain ⟨ta, rfl⟩ := ra
  obtain ⟨tc, rfl⟩ := rc
  obtain ⟨z, its, n, r, hl, e⟩ := I.lstM hH
  obtain ⟨z2, its2, n2, r2, hl2, e2⟩ := I.lstM hB
  obtain ⟨a', rfl⟩ := Int.eq_ofNat_of_zero_le h0
  obtain ⟨c', rfl⟩ := Int.eq_ofNat_of_zero_le (Int.le_trans h0 hac)
  simp only [Int.toNat_natCast] at h
  refine setItem_slice (a := a') (c := c') e e2 hne hs (.int _ _) (.int _ _) (by omega) (by rw [List.size_toArray]; omega) (by rw [List.size_toArray, List.size_toArray]; omega) (h _ ?_)
  refine I.lset (its' := its.take a' ++ its2 ++ its.drop c') (t' := s.toks) hH e ?_ (Vals.append (Vals.append (r.take _) r2) (r.drop _)) ?_
  · exact splice_eq its its2 a' c'
  · rw [List.length_append, List.length_append, List.length_take, List.length_drop]
    omega
end
end L2
namespace Att
open PySem PySem.W PySem.Calls PyProof.Rows
/-! ### the script -/
theorem ints_of_wellAll {P : Params} {h : Heap} : ∀ (ns : List Int) (vs : List Value), WellAll P h vs (ns.map WData.int) → IntsAre vs ns := by
  intro ns
  induction ns with
  | nil =>
    intro vs w
    rw [List.map_nil] at w
    cases w
    exact .nil
  | cons n ns ih =>
    intro vs w
    rw [List.map_cons] at w
    cases w with
    | cons a b =>
      cases a
      exact .cons _ _ (ih _ b)
theorem script_of {l : OpenLaw} {n : Nat} (hn : l.most = some n) {P : Params} {h : Heap} {args : List WData} {vals : List Value}
    (hpre : l.row.toRowW.claim.pre args = true) (hwl : WellAll P h vals args) :
    ∃ a vs ns, vals = [Value.ref a] ∧ args = [WData.list (ns.map WData.int)] ∧ h.get? a = some { cls := .type "list", data := .seq vs.toArray } ∧ IntsAre vs ns ∧ ns.length ≤ n := by
  have hsh : WShape.hasAll [] args [.list .int] = true := (pre_splitW hpre).1
  have hc : l.pre.holds [] { args := args } = true := (pre_splitW hpre).2
  obtain ⟨d, r, rfl, h1, h2⟩ := hasAllW_cons hsh
  obtain rfl := hasAllW_nil h2
  obtain ⟨xs, rfl, h3⟩ := hasW_list h1
  obtain ⟨ns, rfl⟩ := items_int h3
  have hlen : ns.length ≤ n := by
    unfold OpenLaw.pre at hc
    have h4 : (WTm.not (.lt (.lit (.int (n : Int))) (.len (.arg 0)))).holds [] { args := [.list (ns.map .int)] } = true := by
      have h4 := (holds_andW hc).1
      rw [hn] at h4
      exact h4
    have h5 := condW_of h4 (w_not (w_lt w_lit (w_len_list (w_arg rfl))))
    rw [List.length_map] at h5
    refine Nat.le_of_not_lt fun q => ?_
    have q' : (n : Int) < ((ns.length : Nat) : Int) := by omega
    first
      | (rw [decide_eq_true q'] at h5; exact absurd h5 (by decide))
      | (simp at h5; omega)
  cases hwl with
  | cons w1 w2 =>
    cases w2
    cases w1 with
    | list ho hall => exact ⟨_, _, ns, rfl, rfl, ho, ints_of_wellAll ns _ hall, hlen⟩
theorem post_true (l : OpenLaw) (args : List WData) : l.row.toRowW.claim.post args (.bool true) args = true :=
  postW_of (r := l.row.toRowW) (X := (true == true))
    (show WShape.has [] (.bool true) .bool = true by first | rfl | decide | simp [WShape.has, WShape.arms, WShape.armsAll])
    (show (WTm.eq .res (.lit (.bool true))).value [] { args := args, res := some (.bool true), after := args } = some (.bool (true == true)) from w_eq_bool (w_res rfl) w_lit) rfl
/-! ### the attachment: holds_open's last premise (the goal 'hc' behind k_head) from a wpAny of the law's body -/
theorem attach {l : OpenLaw} {n : Nat} {q : Program} {loose : List Str} {XP : (Str → Option Value) → Heap → Prop} {YP : World → Heap → Prop} {d : DefRec} {x : Str}
    (hn : l.most = some n) (hdf : d.params.defaults = [])
    (hbind : ∀ pm cd doc v : Value, bindArgs (docDef d.name d.params d.body d.scope pm cd doc) ⟨[v], []⟩ = pure [(x, v)])
    (hx : d.scope.names.lookup x = some .local ∨ d.scope.names.lookup x = some .cell)
    (hk : d.scope.kind = .function) (hco : d.scope.isCoroutine = false) (hgen : d.scope.isGenerator = false)
    (body : ∀ (w : World) (s₀ s₁ s : Shared) (mg mb : Str → Option Value) (fa : Addr) (o : Obj) (pm cd doc : Value) (a : Addr) (vs : List Value) (ns : List Int),
      Ground q loose [] XP w s₀ mg mb s₁.heap → YP w s₁.heap →
      s₁.heap.get? fa = some o → o.data = .func (docDef d.name d.params d.body d.scope pm cd doc) → s₁.heap.CodeRec cd d.name → mg d.name = some (.ref fa) →
      s₁.heap.get? a = some { cls := .type "list", data := .seq vs.toArray } → IntsAre vs ns → ns.length ≤ n →
      s.gens = #[] → s.os = s₁.os →
      Fr s₁.heap s₁.heap.objs.size s.heap (bindL (envOfC d.name d.scope s₁.heap.objs.size fa cd).kindOf [(x, .ref a)] fun _ => none) →
      Cl s₁.heap.objs.size (cellsFrom (s₁.heap.objs.size + 1) d.scope.names []) s.heap (bindC (envOfC d.name d.scope s₁.heap.objs.size fa cd).kindOf [(x, .ref a)] fun _ => none) →
      wpAny (model l.prog w) (callerA.deeper (envOfC d.name d.scope s₁.heap.objs.size fa cd)) (execs d.body (envOfC d.name d.scope s₁.heap.objs.size fa cd))
        (fun f s' => f = .ret (.bool true) ∧ OldK s₁.heap s'.heap ∧ s'.os = s₁.os ∧ AllBare s'.gens) (fun _ _ => False) s) :
    WalkO q loose XP YP l.row.toRowW d [] (fun f vs => PySem.call f vs) := by
  intro w s₀ s₁ mg mb G Y fa o pm cd doc dV kV ho hd hcd hD hmg hg args vals as hpre hlay hrd hwl hlo
  obtain rfl : dV = .none := Dflts.none hD hdf
  obtain rfl : kV = .none := Dflts.noKw hD
  obtain ⟨a, vs, ns, rfl, rfl, hobj, hints, hlen⟩ := script_of hn hpre hwl
  refine enter_call ?_
  refine call_cells_ret (o := o) (by rw [depth_caller]; decide) ho (fd_plain hd) G.T.nolimit hcd (hbind pm cd doc (.ref a)) (fun y hy => ?_) (fun h₁ tk F X => ?_) hco hgen hk
  · obtain rfl : y = (x, Value.ref a) := List.mem_singleton.mp hy
    rcases hx with e | e
    · exact .inl e
    · exact .inr ⟨e, cellsFrom_some _ _ _ (.inl e)⟩
  · refine wpAny_mono (body w s₀ s₁ { s₁ with heap := h₁, toks := tk } mg mb fa o pm cd doc a vs ns G Y ho (fd_plain hd) hcd hmg hobj hints hlen hg rfl F X) (fun f s' hq => ?_) (fun _ _ hq => hq)
    obtain ⟨rfl, h2, h3, h4⟩ := hq
    exact ⟨.inl ⟨.bool true, .bool true, [], rfl, fun _ => rfl, .bool true, post_true l _, fun _ => ⟨List.Pairwise.nil, fun _ hm => (nomatch hm)⟩⟩, h2, h3, h4⟩
/-- the same from a codeAny of the CALL (for a layer whose function contracts speak of calls) -/
theorem attach_call {l : OpenLaw} {n : Nat} {q : Program} {loose : List Str} {XP : (Str → Option Value) → Heap → Prop} {YP : World → Heap → Prop} {d : DefRec}
    (hn : l.most = some n) (hdf : d.params.defaults = [])
    (call : ∀ (w : World) (s₀ s₁ : Shared) (mg mb : Str → Option Value) (fa : Addr) (o : Obj) (pm cd doc : Value) (a : Addr) (vs : List Value) (ns : List Int),
      Ground q loose [] XP w s₀ mg mb s₁.heap → YP w s₁.heap →
      s₁.heap.get? fa = some o → o.data = .func (docDef d.name d.params d.body d.scope pm cd doc) → s₁.heap.CodeRec cd d.name → mg d.name = some (.ref fa) →
      s₁.heap.get? a = some { cls := .type "list", data := .seq vs.toArray } → IntsAre vs ns → ns.length ≤ n → s₁.gens = #[] →
      codeAny (model l.prog w) callerA (.call (.ref fa) ⟨[.ref a], []⟩) (fun r s' => r = .ok (.ret (.bool true)) ∧ OldK s₁.heap s'.heap ∧ s'.os = s₁.os ∧ AllBare s'.gens) s₁) :
    WalkO q loose XP YP l.row.toRowW d [] (fun f vs => PySem.call f vs) := by
  intro w s₀ s₁ mg mb G Y fa o pm cd doc dV kV ho hd hcd hD hmg hg args vals as hpre hlay hrd hwl hlo
  obtain rfl : dV = .none := Dflts.none hD hdf
  obtain rfl : kV = .none := Dflts.noKw hD
  obtain ⟨a, vs, ns, rfl, rfl, hobj, hints, hlen⟩ := script_of hn hpre hwl
  refine enter_call (codeAny_mono (call w s₀ s₁ mg mb fa o pm cd doc a vs ns G Y ho (fd_plain hd) hcd hmg hobj hints hlen hg) fun r s' hq => ?_)
  obtain ⟨rfl, h2, h3, h4⟩ := hq
  exact ⟨.inl ⟨.bool true, .bool true, [], rfl, fun _ => rfl, .bool true, post_true l _, fun _ => ⟨List.Pairwise.nil, fun _ hm => (nomatch hm)⟩⟩, h2, h3, h4⟩
/-- the same where the top left finished generators (o_head chose holds_openN): nothing may have changed at all and no generator may be left -/
theorem attachN {l : OpenLaw} {n : Nat} {q : Program} {loose : List Str} {XP : (Str → Option Value) → Heap → Prop} {YP : World → Heap → Prop} {d : DefRec} {x : Str}
    (hn : l.most = some n) (hdf : d.params.defaults = [])
    (hbind : ∀ pm cd doc v : Value, bindArgs (docDef d.name d.params d.body d.scope pm cd doc) ⟨[v], []⟩ = pure [(x, v)])
    (hx : d.scope.names.lookup x = some .local ∨ d.scope.names.lookup x = some .cell)
    (hk : d.scope.kind = .function) (hco : d.scope.isCoroutine = false) (hgen : d.scope.isGenerator = false)
    (body : ∀ (w : World) (s₀ s₁ s : Shared) (mg mb : Str → Option Value) (fa : Addr) (o : Obj) (pm cd doc : Value) (a : Addr) (vs : List Value) (ns : List Int),
      Ground q loose [] XP w s₀ mg mb s₁.heap → YP w s₁.heap →
      s₁.heap.get? fa = some o → o.data = .func (docDef d.name d.params d.body d.scope pm cd doc) → s₁.heap.CodeRec cd d.name → mg d.name = some (.ref fa) →
      s₁.heap.get? a = some { cls := .type "list", data := .seq vs.toArray } → IntsAre vs ns → ns.length ≤ n →
      s.gens = #[] → s.os = s₁.os →
      Fr s₁.heap s₁.heap.objs.size s.heap (bindL (envOfC d.name d.scope s₁.heap.objs.size fa cd).kindOf [(x, .ref a)] fun _ => none) →
      Cl s₁.heap.objs.size (cellsFrom (s₁.heap.objs.size + 1) d.scope.names []) s.heap (bindC (envOfC d.name d.scope s₁.heap.objs.size fa cd).kindOf [(x, .ref a)] fun _ => none) →
      wpAny (model l.prog w) (callerA.deeper (envOfC d.name d.scope s₁.heap.objs.size fa cd)) (execs d.body (envOfC d.name d.scope s₁.heap.objs.size fa cd))
        (fun f s' => f = .ret (.bool true) ∧ (∀ b o, s₁.heap.get? b = some o → s'.heap.get? b = some o) ∧ s'.os = s₁.os ∧ s'.gens = #[]) (fun _ _ => False) s) :
    WalkN q loose XP YP l.row.toRowW d [] (fun f vs => PySem.call f vs) := by
  intro w s₀ s₁ mg mb G Y fa o pm cd doc dV kV ho hd hcd hD hmg hg args vals as hpre hlay hrd hwl hlo
  obtain rfl : dV = .none := Dflts.none hD hdf
  obtain rfl : kV = .none := Dflts.noKw hD
  obtain ⟨a, vs, ns, rfl, rfl, hobj, hints, hlen⟩ := script_of hn hpre hwl
  refine enter_callW ?_
  refine call_cells_ret (o := o) (by rw [depth_caller]; decide) ho (fd_plain hd) G.T.nolimit hcd (hbind pm cd doc (.ref a)) (fun y hy => ?_) (fun h₁ tk F X => ?_) hco hgen hk
  · obtain rfl : y = (x, Value.ref a) := List.mem_singleton.mp hy
    rcases hx with e | e
    · exact .inl e
    · exact .inr ⟨e, cellsFrom_some _ _ _ (.inl e)⟩
  · refine wpAny_mono (body w s₀ s₁ { s₁ with heap := h₁, toks := tk } mg mb fa o pm cd doc a vs ns G Y ho (fd_plain hd) hcd hmg hobj hints hlen hg rfl F X) (fun f s' hq => ?_) (fun _ _ hq => hq)
    obtain ⟨rfl, h2, h3, h4⟩ := hq
    exact ⟨.inl ⟨.bool true, .bool true, [], rfl, fun _ => rfl, .bool true, post_true l _, fun _ => ⟨List.Pairwise.nil, fun _ hm => (nomatch hm)⟩⟩, h2, h3, h4⟩
/-! ### rules over ANY heap (no ledger) from facts about the written part K: the library's own take a ledger (News) for what they write -/
section
variable {prog : Program} {w : World} {A : Around} {E : Value → Shared → Prop} {s : Shared} {K : Frag}
/-- a def of the module, or a method (qual 'C.m'), entered: the frame is the next address; cells behind it -/
theorem call_fn {R : Result → Shared → Prop} {name qual : Str} {params : Arguments} {body : List Stmt} {scope : Scope} {dV kV doc pm cdv ct oc : Value} {an od : Option Addr} {osl : Array (Option Value)} {f : Addr} {args : Args} {binds : List (Str × Value)}
    (X : K.In s.heap) (hlim : s.heap.NoLimit) (ho : K.lookup f = some ⟨oc, od, .func (fnOf name qual params body scope dV kV doc pm an cdv ct), osl⟩) (hcd : codeIn K cdv qual = true) (hroom : A.depth < recursionLimit)
    (hbind : BindsTo s (fnOf name qual params body scope dV kV doc pm an cdv ct) args binds)
    (hkind : (binds.all fun y => scope.names.lookup y.1 == some .local || scope.names.lookup y.1 == some .cell) = true)
    (h : ∀ s₁, InCallC s s.heap.objs.size (bindL (envOfC qual scope s.heap.objs.size f cdv).kindOf binds fun _ => none) (cellsFrom (s.heap.objs.size + 1) scope.names [])
        (bindC (envOfC qual scope s.heap.objs.size f cdv).kindOf binds fun _ => none) s₁ →
      wpAny (model prog w) (A.deeper (envOfC qual scope s.heap.objs.size f cdv)) (execs body (envOfC qual scope s.heap.objs.size f cdv))
        (fun fl s' => R (.ok (.ret (match fl with | .ret v => v | _ => .none))) s')
        (fun e s' => wpAny (model prog w) (A.deeper (envOfC qual scope s.heap.objs.size f cdv)) (leaving (envOfC qual scope s.heap.objs.size f cdv) e) (fun _ s'' => R (.error e) s'') (fun e' s'' => R (.error e') s'') s') s₁)
    (hco : scope.isCoroutine = false) (hgen : scope.isGenerator = false) (hk : scope.kind = .function) : codeAny (model prog w) A (.call (.ref f) args) R s := by
  refine codeAny_call_function hroom (X _ _ ho) rfl hco hgen rfl (codeRec_of X hcd) (hbind _ _ _ _ ?_)
  refine wpAny_newFunctionEnv_cells hk (kindsX hkind _) fun env he s₁ x => ?_
  subst he
  exact ⟨hlim.keeps x.toInCall.keep, codeAny_func (h s₁ x)⟩
/-- C(..): dict at size, instance at size + 1, then __init__ -/
theorem make_obj {R : Result → Shared → Prop} {C fI : Addr} {rest : List Value} {kw : List (Str × Value)}
    (X : K.In s.heap) (hm : makesIn K C = true) (hi : findIn K (.ref C) "__init__" = some (some (.ref fI))) (hf : isFn K (.ref fI) = true)
    (h : codeAny (model prog w) (A.under (.builtin "type.__call__" ⟨.ref C :: rest, kw⟩)) (.call (.ref fI) ⟨.ref (s.heap.objs.size + 1) :: rest, kw⟩) (InitBack (s.heap.objs.size + 1) R)
      { s with heap := (s.heap.push emptyDict).push (instObj C s.heap.objs.size) }) : codeAny (model prog w) A (.call (.ref C) ⟨rest, kw⟩) R s := by
  obtain ⟨hh, g, d, t, os⟩ := s
  exact make_core (makes_of X hm) (looks_findIn X hi) (fun self => bind_fn X self (beq_iff_eq.mp hf)) (.inl rfl) h
/-- x.name where the instance's dict holds the name and the class does not -/
theorem get_field {x C : Addr} {ox : Obj} {es : List DictEntry} {n : Nat} {name : Str} {expr : Bool} {v : Value} {Q : Value → Shared → Prop}
    (X : K.In s.heap) (I : PySem.W.InstAt s.heap x ox C (some (dictOf es n))) (hg : plainGet K C name = true) (hh : hasDictIn K C = true) (ha : findIn K (.ref C) name = some none)
    (hl : getL name es = some (some v)) (hv : handedIn v = true) (h : Q v { s with toks := s.toks + 1 }) : wpAny (model prog w) A (getAttr (.ref x) name expr) Q E s :=
  get_value X I (plainGet_of hg).1 (findObj_own hh ha rfl hl) hv h
/-- x.m(..): the method found in the class -/
theorem get_method {x C f : Addr} {ox : Obj} {es : List DictEntry} {n : Nat} {name : Str} {pl : Sem Bool} {Q : Value × List Value → Shared → Prop}
    (X : K.In s.heap) (I : PySem.W.InstAt s.heap x ox C (some (dictOf es n))) (hg : plainGet K C name = true) (hf : findIn K (.ref C) name = some (some (.ref f))) (ht : isFn K (.ref f) = true)
    (hl : getL name es = some none) (h : Q (.ref f, [.ref x]) s) : wpAny (model prog w) A (getMethod (.ref x) name pl) Q E s :=
  method_fn X I (plainGet_of hg).1 (plainGet_of hg).2 hf (beq_iff_eq.mp ht) (by show (lookIn name (dictOf es n)).map _ = _; rw [lookIn_dict, hl]; rfl) h
/-! the whole heap as the ledger: makes every rule that writes through a ledger a rule over any heap -/
def noObjs (h : Heap) : Heap := { h with objs := #[] }
theorem noObjs_get (h : Heap) (b : Addr) : (noObjs h).get? b = none := by
  cases e : (noObjs h).get? b with
  | none => rfl
  | some o => exact absurd (Heap.lt_size e) (Nat.not_lt_zero _)
def ledger (h : Heap) (L d : Addr) : List (Addr × Obj) := (List.range h.objs.size).filterMap fun a => if a = L ∨ a = d then none else (h.get? a).map fun o => (a, o)
theorem mem_ledger {h : Heap} {L d a : Addr} {o : Obj} : (a, o) ∈ ledger h L d ↔ a ≠ L ∧ a ≠ d ∧ h.get? a = some o := by
  unfold ledger
  rw [List.mem_filterMap]
  constructor
  · rintro ⟨b, _, e⟩
    split at e
    · cases e
    · rename_i hb
      obtain ⟨o', ho, e'⟩ := Option.map_eq_some_iff.mp e
      cases e'
      exact ⟨fun q => hb (.inl q), fun q => hb (.inr q), ho⟩
  · rintro ⟨n1, n2, ho⟩
    refine ⟨a, List.mem_range.mpr (Heap.lt_size ho), ?_⟩
    rw [if_neg (show ¬ (a = L ∨ a = d) from fun q => q.elim n1 n2), ho] <;> rfl
theorem news_ledger {h : Heap} {L d : Addr} {od : Obj} (hne : d ≠ L) (ho : h.get? d = some od) : News (noObjs h) L h ([] ++ (d, od) :: ledger h L d) := by
  rintro ⟨a, o⟩ hp
  rcases List.mem_cons.mp hp with e | hp
  · cases e
    exact ⟨ho, hne, noObjs_get _ _⟩
  · obtain ⟨n1, n2, e⟩ := mem_ledger.mp hp
    exact ⟨e, n1, noObjs_get _ _⟩
theorem fr_all {h : Heap} {L : Addr} {m : Str → Option Value} (n : h.Ns L m) : Fr (noObjs h) L h m :=
  ⟨n, fun b o e => (by rw [noObjs_get] at e; cases e), Nat.zero_le _⟩
/-- Upd of the head entry (for append_K, setItem_K ..) -/
theorem upd_ledger {h : Heap} {L d : Addr} {o o' : Obj} : Upd d o o' ((d, o) :: ledger h L d) ((d, o') :: ledger h L d) :=
  .head fun ⟨_, _⟩ hp => (mem_ledger.mp hp).2.1
/-- x.name = v over any heap: L is any namespace of the heap (the frame's, say): its map stays, its object is not told; all else but the dict stays -/
theorem set_field {x C dx L : Addr} {ox : Obj} {m : Str → Option Value} {es es' : List DictEntry} {n n' : Nat} {name : Str} {v : Value} {Q : Unit → Shared → Prop}
    (X : K.In s.heap) (I : PySem.W.InstAt s.heap x ox C (some (dictOf es n))) (hd : ox.dict = some dx) (hL : s.heap.Ns L m) (hne : dx ≠ L)
    (hs : findIn K (.ref C) "__setattr__" = some (some (.builtin "object.__setattr__"))) (hp : plainOver K C = true) (ht : takerIn K C name = some none) (hh : hasDictIn K C = true) (hl : (getL name es).isSome = true)
    (e : (putL name (PyData.keyHash w.params name) (.str name (s.toks + 1)) v es, putN name es n) = (es', n')) (hz : es'.length ≤ 1000)
    (h : ∀ h' : Heap, h'.Ns L m → h'.get? dx = some (dictOf es' n') → (∀ b o, b ≠ dx → b ≠ L → s.heap.get? b = some o → h'.get? b = some o) → Q () { s with heap := h', toks := s.toks + 2 }) :
    wpAny (model prog w) A (setAttr (.ref x) name v) Q E s := by
  obtain ⟨e1, e2⟩ := Prod.mk.inj e
  have hdx : s.heap.get? dx = some (dictOf es n) := by
    have := I.dict
    rw [hd] at this
    exact this
  refine set_plain X I hs (osa_dict (s := { s with toks := s.toks + 1 }) (h₀ := noObjs s.heap) (L := L) (m := m) (od := dictOf es n) (od' := dictOf es' n') (es := es') (n := n') (pre := []) (post := ledger s.heap L dx)
    (fr_all hL) (news_ledger hne hdx) X I hd hp ht hh hl (fun _ q => nomatch q) (fun ⟨_, _⟩ q => (mem_ledger.mp q).2.1) (by rw [putName_dict, e1, e2]) rfl hz fun h' F' N' => ?_)
  exact h h' F'.ns (N'.get (List.Mem.head _)) fun b o n1 n2 ho => N'.get (List.Mem.tail _ (mem_ledger.mpr ⟨n2, n1, ho⟩))
end
end Att
namespace L2
open PySem PySem.Spec PyProof.Rows
theorem vals_ints : ∀ {vs : List Value} {ns : List Int}, IntsAre vs ns → Vals (ns.map V.int) vs
  | _, _, .nil => .nil
  | _, _, .cons n t h => .cons ⟨t, rfl⟩ (vals_ints h)
/-- nothing is tracked but the script, known to the object (or it is an object of the module) -/
def Only (H : Hp) : Prop := ∀ b, H b = none ∨ ∃ o xs, H b = some (.frz o (.lst xs))
/-- THE HEAD: the law's promise, at the heap behind the top. F, the promise of the law's def, may use that base is part of the heap (so K.In base, base.Ns mainGlobals mg stand in Mod) -/
theorem law_call {P : Program} {w : World} {K : PySem.W.Frag} {mg mb : Str → Option Value} {CX : CXT} {k : Nat} {fa a : Addr} {fd : FuncData} {x : Str} {sp : Sp} {s₁ : Shared} {vs : List Value} {ns : List Int}
    (KX : K.In s₁.heap) (hns : s₁.heap.Ns mainGlobals mg) (hb : s₁.heap.Ns builtinsNs mb) (hbb : ∀ x : Str, x ≠ "__name__" → mb x = bootBuiltins x) (hlim : s₁.heap.NoLimit) (hg : s₁.gens = #[])
    (ha : s₁.heap.get? a = some { cls := .type "list", data := .seq vs.toArray }) (hi : IntsAre vs ns) (hl : ns.length ≤ sizeLine) (hr : Room k callerA)
    (F : ∀ base : Heap, K.In base → base.Ns mainGlobals mg → FnOk P w K mg base CX k fa fd [x] sp) (hbind : ∀ (s : Shared) (u : Value), BindsTo s fd ⟨[u], []⟩ [(x, u)])
    (hsp : ∀ H : Hp, Only H → SqL K H a (ns.map V.int) → sp [.ref a] H (fun v _ => v = .bl true) fun _ _ _ => False)
    (hCX : ∀ H e s', CX [] H s₁ (fun _ _ _ => False) e s' → False) :
    codeAny (model P w) callerA (.call (.ref fa) ⟨[.ref a], []⟩) (fun r s' => r = .ok (.ret (.bool true)) ∧ OldK s₁.heap s'.heap ∧ s'.os = s₁.os ∧ AllBare s'.gens) s₁ := by
  have rv := vals_ints hi
  have lenV := hi.length
  -- from an abstract heap in which nothing but the script may be tracked
  have core : ∀ H : Hp, Only H → SqL K H a (ns.map V.int) → HOk P w H s₁.heap → (∀ b, H b ≠ none → b = a) → (H a ≠ none → K.lookup a = none) →
      codeAny (model P w) callerA (.call (.ref fa) ⟨[.ref a], []⟩) (fun r s' => r = .ok (.ret (.bool true)) ∧ OldK s₁.heap s'.heap ∧ s'.os = s₁.os ∧ AllBare s'.gens) s₁ := by
    intro H hO hS hok hA hK
    have base_of : ∀ {b : Addr} {o : Obj}, s₁.heap.get? b = some o → H b = none → (hidT s₁.heap H).get? b = some o := fun e n => hidT_get e n
    have noA : ∀ {b : Addr} {o : Obj} {es : Array DictEntry} {ep : Nat}, s₁.heap.get? b = some o → o.data = .dict es ep → H b = none := fun {b o es ep} e d => by
      cases q : H b with
      | none => rfl
      | some u =>
        have e' : b = a := hA b (by rw [q]; simp)
        subst e'
        rw [ha] at e; cases e
        have d' : Data.seq vs.toArray _ = Data.dict es ep := d
        cases d'
    have nsK : ∀ {b : Addr} {m : Str → Option Value}, s₁.heap.Ns b m → (hidT s₁.heap H).Ns b m := fun {b m} ⟨o, es, ep, e, d, r⟩ => ⟨o, es, ep, base_of e (noA e d), d, r⟩
    have hKb : K.In (hidT s₁.heap H) := fun b o e => base_of (KX b o e) (by
      cases q : H b with
      | none => rfl
      | some u =>
        have e' : b = a := hA b (by rw [q]; simp)
        subst e'
        rw [hK (by rw [q]; simp)] at e; cases e)
    have hM : Mod K mg (hidT s₁.heap H) := ⟨hKb, nsK hns, ⟨mb, nsK hb, hbb⟩, let ⟨mc, h1, h2⟩ := hlim; ⟨mc, nsK h1, h2⟩⟩
    have e0 : Env0 P w K mg (hidT s₁.heap H) callerA [] s₁ H := ⟨rfl, hM, fun b o e => of_hidT e, Nat.le_of_eq (hidT_size _ _), trivial, fun b hb => absurd (show b ∈ ([] : List Addr) from hb) (by simp), hok, .of_eq hg⟩
    refine codeAny_mono ((F _ hKb (nsK hns)).run callerA [] s₁ H ⟨[.ref a], []⟩ [.ref a] [.ref a] _ _ hr e0 (hbind s₁ (.ref a)) (.cons rfl .nil) (hsp H hO hS)) fun r s' h => ?_
    cases r with
    | error e => exact (hCX H e s' h).elim
    | ok fl =>
      cases fl with
      | next => exact False.elim h
      | brk => exact False.elim h
      | cont => exact False.elim h
      | ret u =>
        obtain ⟨v, H', os, bare, un, hok', r', q⟩ := h
        have q' : v = .bl true := q
        subst q'
        obtain rfl : u = Value.bool true := r'
        refine ⟨rfl, OldK.of_keep fun b o e => ?_, os, bare⟩
        cases q : H b with
        | none => exact un.keep b o e q (by intro z; exact absurd (show b ∈ ([] : List Addr) from z) (by simp)) (by simp)
        | some u =>
          rcases hO b with z | ⟨ob, xs, z⟩
          · rw [q] at z; cases z
          · have z2 := un.frzs b ob _ z
            obtain ⟨e1, _⟩ := hok b _ z
            obtain ⟨e2, _⟩ := hok' b _ z2
            rw [e] at e1; cases e1
            exact e2
  cases hk : K.lookup a with
  | some o =>
    -- the script is one of the module's own objects
    have e := KX a o hk
    rw [ha] at e
    cases e
    refine core (fun _ => none) (fun _ => .inl rfl) (.inr ⟨_, vs.toArray, _, hk, rfl, rfl, rfl, by rw [List.size_toArray, lenV]; exact hl, by simpa using rv⟩) (fun b u z => by have z' : (none : Option HO) = some u := z; cases z') (fun b z => absurd rfl z) fun z => absurd rfl z
  | none =>
    refine core (fun b => if b = a then some (.frz { cls := .type "list", data := .seq vs.toArray } (.lst (ns.map V.int))) else none) (fun b => ?_) (.inl (.inr ⟨{ cls := .type "list", data := .seq vs.toArray }, if_pos rfl⟩)) (fun b u z => ?_) (fun b z => ?_) fun _ => hk
    · by_cases hb : b = a
      · exact .inr ⟨_, _, if_pos hb⟩
      · exact .inl (if_neg hb)
    · by_cases hb : b = a
      · have z' := (if_pos hb).symm.trans z
        cases z'
        subst hb
        exact ⟨ha, by rw [List.length_map]; exact hl, vs, _, rv, ha⟩
      · have z' := (if_neg hb).symm.trans z
        cases z'
    · by_cases hb : b = a
      · exact hb
      · exact absurd (if_neg hb) z
end L2
namespace L2
open PySem PySem.Spec PyProof.Rows
abbrev KOf {K : PySem.W.Frag} {h : Heap} (_ : K.In h) : PySem.W.Frag := K
/-- the goal that k_head leaves (case hc), from the law's promise. F gives the function object fd (K's own) once, then the promise over every base -/
theorem walk_of {l : PySem.W.OpenLaw} {n k : Nat} {q : Program} {loose : List Str} {XP : (Str → Option Value) → Heap → Prop} {YP : World → Heap → Prop} {d : DefRec} {K : Params → PySem.W.Frag} {CX : World → CXT} {sp : World → Sp} {x : Str}
    (hn : l.most = some n) (hn2 : n ≤ sizeLine) (hdf : d.params.defaults = []) (hr : Room k callerA)
    (hY : ∀ (w : World) (h : Heap), YP w h → (K w.params).In h)
    (F : ∀ (w : World) (mg : Str → Option Value) (fa : Addr) (h : Heap), (K w.params).In h → h.Ns mainGlobals mg → mg d.name = some (.ref fa) →
      ∃ fd : FuncData, (∀ (s : Shared) (u : Value), BindsTo s fd ⟨[u], []⟩ [(x, u)]) ∧
        ∀ base : Heap, (K w.params).In base → base.Ns mainGlobals mg → FnOk l.prog w (K w.params) mg base (CX w) k fa fd [x] (sp w))
    (hsp : ∀ (w : World) (H : Hp) (a : Addr) (ns : List Int), ns.length ≤ n → Only H → SqL (K w.params) H a (ns.map V.int) → sp w [.ref a] H (fun v _ => v = .bl true) fun _ _ _ => False)
    (hCX : ∀ (w : World) (H : Hp) (s : Shared) (e : Value) (s' : Shared), CX w [] H s (fun _ _ _ => False) e s' → False) :
    PySem.W.WalkO q loose XP YP l.row.toRowW d [] (fun f vs => PySem.call f vs) := by
  refine Att.attach_call hn hdf fun w s₀ s₁ mg mb fa o pm cd doc a vs ns G Y ho hd hcd hmg hobj hints hlen hg => ?_
  have KX := hY w _ Y
  obtain ⟨fd, hb, hF⟩ := F w mg fa _ KX G.T.g hmg
  exact law_call KX G.T.g G.T.b G.T.builtins G.T.nolimit hg hobj hints (Nat.le_trans hlen hn2) hr hF hb (fun H hO hS => hsp w H a ns hlen hO hS) fun H e s' => hCX w H s₁ e s'
/-- the same where the promise hangs on the written part alone: (sp := My.sp_law), no hole under a binder -/
theorem walk_ofK {l : PySem.W.OpenLaw} {n k : Nat} {q : Program} {loose : List Str} {XP : (Str → Option Value) → Heap → Prop} {YP : World → Heap → Prop} {d : DefRec} {K : Params → PySem.W.Frag} {CX : CXT} {sp : PySem.W.Frag → Sp} {x : Str}
    (hn : l.most = some n) (hn2 : n ≤ sizeLine) (hdf : d.params.defaults = []) (hr : Room k callerA)
    (hY : ∀ (w : World) (h : Heap), YP w h → (K w.params).In h)
    (F : ∀ (w : World) (mg : Str → Option Value) (fa : Addr) (h : Heap), (K w.params).In h → h.Ns mainGlobals mg → mg d.name = some (.ref fa) →
      ∃ fd : FuncData, (∀ (s : Shared) (u : Value), BindsTo s fd ⟨[u], []⟩ [(x, u)]) ∧
        ∀ base : Heap, (K w.params).In base → base.Ns mainGlobals mg → FnOk l.prog w (K w.params) mg base CX k fa fd [x] (sp (K w.params)))
    (hsp : ∀ (K : PySem.W.Frag) (H : Hp) (a : Addr) (ns : List Int), ns.length ≤ n → Only H → SqL K H a (ns.map V.int) → sp K [.ref a] H (fun v _ => v = .bl true) fun _ _ _ => False)
    (hCX : ∀ (H : Hp) (s : Shared) (e : Value) (s' : Shared), CX [] H s (fun _ _ _ => False) e s' → False) :
    PySem.W.WalkO q loose XP YP l.row.toRowW d [] (fun f vs => PySem.call f vs) :=
  walk_of (K := K) (CX := fun _ => CX) (sp := fun w => sp (K w.params)) hn hn2 hdf hr hY F (fun w H a ns h1 h2 h3 => hsp (K w.params) H a ns h1 h2 h3) fun _ H s e s' => hCX H s e s'
end L2
/- THE LAST THEOREM (shape; LID, My.* are yours):
   My.Adr: a structure of the addresses that your layer names (classes, functions); My.Txt K t: a structure (Prop) of the equations over K;
   My.txt_mk : {K} {implicit addresses ..} (e1 : nsIn K mainGlobals "law" = some (some (.ref f))) (e2 : K.lookup f = some ⟨oc, od, .func (fnOf "law" "law" params body scope dV kV doc pm an cdv ct), sl⟩) (e3 : codeIn K cdv "law" = true) .. : ∃ t, My.Txt K t
set_option maxRecDepth 100000 in
set_option maxHeartbeats 0 in
theorem PySem.Challenge.cw_LID_holds : PySem.Challenge.rw_LID.Holds := by
  w_on; o_law; k_head; (case hw => w_witness2)
  k_fill
  refine L2.walk_of (l := PySem.Challenge.rw_LID) (n := 63) (k := 40) (x := "script") (CX := fun w => ..) (sp := fun _ => My.sp_law) rfl (by decide) rfl ⟨rfl, by decide, by decide⟩ (fun w h Y => PySem.W.kIn_of Y) ?F ?S ?C
  case F =>
    intro w mg fa h KX G hmg
    have T : ∃ t, My.Txt (L2.KOf KX) t := by
      dsimp only [L2.KOf]                          -- K must stand as «<heap const> w.params» for k_is
      refine' My.txt_mk ?e1 ?e2 ?e3 ..
      (case e1 => PySem.W.k_is)                    -- in the order: a name -> its address -> its object -> its parts
      (case e2 => PySem.W.k_is)
      ..
    obtain ⟨t, T⟩ := T
    have e0 := hmg.symm.trans (PySem.W.mg_of KX G T.law)
    cases e0                                       -- fa is the law's own address
    exact ⟨_, fun s u => .of_eq rfl, fun base kb nb => My.law_fn T kb nb⟩     -- if «.of_eq rfl» comes too early: refine' ⟨_, ?b, fun base kb nb => My.law_fn T kb nb⟩; exact fun s u => .of_eq rfl
  case S => exact fun w H a ns hl hO hS => ..
  case C => exact ..
(the tactic k_is has no namespace: write k_is) -/
/-! SHORT WORDS over the layer: a def of the text, its body, what a loop and a test want. -/
namespace L2
open PySem PySem.Spec PyProof.Rows
/-! ### the text by places -/
/-- the j-th statement of a class's body -/
def inClass (s : Stmt) (j : Nat) : Stmt := match s with
  | .ClassDef _ _ _ body _ _ _ _ _ _ _ => body.getD j (.Pass ⟨0, 0, 0, 0⟩)
  | _ => .Pass ⟨0, 0, 0, 0⟩
def defArgs (s : Stmt) : Arguments := match s with
  | .FunctionDef _ a _ _ _ _ _ _ _ _ => a
  | _ => { posonlyargs := [], args := [], vararg := none, kwonlyargs := [], kw_defaults := [], kwarg := none, defaults := [] }
def defBody (s : Stmt) : List Stmt := match s with
  | .FunctionDef _ _ b _ _ _ _ _ _ _ => b
  | _ => []
def defScope (s : Stmt) : Scope := match s with
  | .FunctionDef _ _ _ _ _ _ sc _ _ _ => sc
  | _ => { kind := .function, names := [], isGenerator := false, isCoroutine := false }
/-! ### no exception leaves a def -/
abbrev CX0 : CXT := fun _ _ _ _ _ _ => False
abbrev E0 : XK := fun _ _ _ => False
theorem pass0 {X : Cx} : Passes CX0 X E0 := fun _ _ _ _ _ _ _ h => h.elim
/-! ### a def (or method) of the text as it stands behind the top -/
structure Fun (K : PySem.W.Frag) (x qual : Str) (st : Stmt) (f : Addr) (fd : FuncData) : Prop where
  ex : ∃ (oc : Value) (od : Option Addr) (kV doc pm : Value) (an : Option Addr) (cdv ct : Value) (osl : Array (Option Value)),
    fd = PySem.W.fnOf x qual (defArgs st) (defBody st) (defScope st) .none kV doc pm an cdv ct ∧ K.lookup f = some ⟨oc, od, .func fd, osl⟩ ∧ PySem.W.codeIn K cdv qual = true
  kp : PySem.W.keepIn K (.ref f) = true
section
variable {P : Program} {w : World} {K : PySem.W.Frag} {mg : Str → Option Value} {base : Heap}
/-- THE RULE for a def: its body as a term of rules, and the reading of that term -/
theorem Fun.ok {x qual : Str} {st : Stmt} {f : Addr} {fd : FuncData} {N ps : List Str} {k : Nat} {sp : Sp} (F : Fun K x qual st f fd) (S : FnScope N ps (defScope st)) (len : ∀ vs H Q E, sp vs H Q E → vs.length = ps.length)
    (hbody : ∀ (cdv : Value) (A : Around) (outer : List Env) (s : Shared) (H : Hp) (vs : List V) (Q : VK) (E : XK), Room k (A.deeper (envOfC qual (defScope st) s.heap.objs.size f cdv)) → sp vs H Q E →
      ∃ t, PSs (cxOf CX0 P w K mg base N qual (defScope st) f cdv A outer s H E).nox (defBody st) t ∧ t { nx := fun _ H' => Q .non H', rt := Q } (start N vs) H) : FnOk P w K mg base CX0 (k + 1) f fd ps sp := by
  obtain ⟨oc, od, kV, doc, pm, an, cdv, ct, osl, rfl, lk, hcd⟩ := F.ex
  refine fn_of lk hcd S len fun A outer s H vs Q E hr hsp => ?_
  obtain ⟨t, h, q⟩ := hbody cdv A outer s H vs Q E hr hsp
  exact ⟨t, h.nox, q⟩
/-- how its arguments bind (no defaults): h is «fun _ _ _ _ _ _ us hl => match us, hl with | [_, _], _ => rfl», one _ a parameter -/
theorem Fun.binds {x qual : Str} {st : Stmt} {f : Addr} {fd : FuncData} {ps : List Str} (F : Fun K x qual st f fd)
    (h : ∀ (kV doc pm : Value) (an : Option Addr) (cdv ct : Value) (us : List Value), us.length = ps.length → bindArgs (PySem.W.fnOf x qual (defArgs st) (defBody st) (defScope st) .none kV doc pm an cdv ct) ⟨us, []⟩ = pure (ps.zip us)) : Binds K fd ps [] := by
  obtain ⟨oc, od, kV, doc, pm, an, cdv, ct, osl, rfl, lk, hcd⟩ := F.ex
  exact .all (h kV doc pm an cdv ct)
theorem fun_mk {x qual : Str} {st : Stmt} {f : Addr} {oc : Value} {od an : Option Addr} {osl : Array (Option Value)} {kV doc pm cdv ct : Value} (l : K.lookup f = some ⟨oc, od, .func (PySem.W.fnOf x qual (defArgs st) (defBody st) (defScope st) .none kV doc pm an cdv ct), osl⟩)
    (c : PySem.W.codeIn K cdv qual = true) (k : PySem.W.keepIn K (.ref f) = true) : Fun K x qual st f (PySem.W.fnOf x qual (defArgs st) (defBody st) (defScope st) .none kV doc pm an cdv ct) := ⟨⟨oc, od, kV, doc, pm, an, cdv, ct, osl, rfl, l, c⟩, k⟩
end
theorem hu_of {A : Around} {k : Nat} (hr : Room k A) : A.units + 1 < cLine := Nat.lt_of_le_of_lt (Nat.add_le_add_left (by decide : 1 ≤ 64) _) hr.units
theorem small1000 {n : Nat} (h : n ≤ 1000) : n < sizeLine := Nat.lt_of_le_of_lt h (by decide)
/-! ### expressions in short: the name that stands in the i-th slot -/
section
variable {X : Cx}
theorem pv (i : Nat) {x : Str} {pos : Pos} (hN : X.N[i]? = some x := by rfl) (hv : Vis X.env.scope x := by first | exact Or.inl rfl | exact Or.inr (Or.inl rfl) | exact Or.inr (Or.inr rfl)) (hd : (x == ("__debug__" : Str)) = false := by decide)
    (hcd : (x == ("__classdict__" : Str)) = false := by decide) : PE X (.Name x pos) (tVar i) := pe_var hN hv hd hcd
end
/-! ### tests -/
theorem iteF {A B : Prop} (h : B) : if false = true then A else B := by
  rw [if_neg Bool.false_ne_true]
  exact h
theorem iteT {A B : Prop} (h : A) : if true = true then A else B := by
  rw [if_pos rfl]
  exact h
theorem ite2 {c A B : Prop} [Decidable c] (h1 : c → A) (h2 : ¬ c → B) : if c then A else B := by
  by_cases h : c
  · rw [if_pos h]
    exact h1 h
  · rw [if_neg h]
    exact h2 h
theorem iteNS {c A B : Prop} [Decidable c] (hc : c) (h : B) : if (!decide c) = true then A else B := by
  rw [decide_eq_true hc]
  exact iteF h
/-! ### heaps -/
/-- all that was tracked is as it was -/
def Same (H H' : Hp) : Prop := ∀ b o, H b = some o → H' b = some o
theorem Same.refl (H : Hp) : Same H H := fun _ _ h => h
theorem Same.trans {H H1 H2 : Hp} (a : Same H H1) (b : Same H1 H2) : Same H H2 := fun c o h => b c o (a c o h)
theorem Same.free {H H' : Hp} (e : Same H H') {l : Addr} (h : H' l = Option.none) : H l = Option.none := by
  cases q : H l with
  | none => rfl
  | some o =>
    rw [e l o q] at h
    cases h
theorem Same.seq {K : PySem.W.Frag} {H H' : Hp} {a : Addr} {xs : List V} (e : Same H H') (h : SqL K H a xs) : SqL K H' a xs := by
  rcases h with (h | ⟨o, h⟩) | h
  · exact .inl (.inl (e _ _ h))
  · exact .inl (.inr ⟨o, e _ _ h⟩)
  · exact .inr h
end L2
set_option Elab.async false
set_option linter.all false
set_option maxRecDepth 100000
set_option maxHeartbeats 4000000
/-! list comprehensions over the layer -/
namespace L2
open PySem PySem.Spec PyProof.Rows
section
variable {X : Cx}
/-- the block's slots: those that stand in the frame around, by their places there -/
def capS (cap : List (Option Nat)) (σ : St) : St := cap.map fun o => o.bind fun i => (σ[i]?).join
/-- the block's context -/
def cxComp (X : Cx) (cN : List Str) (scope : Scope) (cl : List (Str × Addr)) (fp : List Addr) (s : Shared) (H : Hp) : Cx :=
  { X with N := cN, s₀ := s, H₀ := H, env := compEnvC scope cl s.heap.objs.size X.env, outer := X.stack, ex := fp, fn := fun _ => false, pn := [], xe := fun _ _ => False }
/-- the tests of a clause -/
def PIfs (X : Cx) (ifs : List Expr) (c : TT) : Prop :=
  ∀ (pins : List (Addr × Obj)) (s : Shared) (σ : St) (H : Hp) (Q : Bool → Hp → Prop), Inv X pins σ H s → c σ H Q →
    wpAny (model X.prog X.w) X.A (forIn ifs true fun c r => if r = true then do let ok ← isTrue c X.env (eval c X.env); pure (ForInStep.yield ok) else pure (ForInStep.yield r)) (TP X pins σ Q) X.xe s
def tNoIf : TT := fun _ H Q => Q true H
theorem pif_nil : PIfs X [] tNoIf := fun _ _ _ H _ I h => wpAny_tests_nil ⟨H, I, h⟩
theorem pif_one {e : Expr} {t : TT} (h : PT X e t) : PIfs X [e] t := fun pins s σ H Q I q => wpAny_tests_one (h pins s σ H Q I q)
/-- a target stores nowhere but at js -/
def GKeep (js : List Nat) (g : TG) : Prop := ∀ x σ H Q, g x σ H Q → g x σ H fun σ' H' => Q σ' H' ∧ σ'.length = σ.length ∧ ∀ i, i ∉ js → σ'[i]? = σ[i]?
def GsKeep (js : List Nat) (g : TGs) : Prop := ∀ x σ H Q, g x σ H Q → g x σ H fun σ' H' => Q σ' H' ∧ σ'.length = σ.length ∧ ∀ i, i ∉ js → σ'[i]? = σ[i]?
theorem gk_name {i : Nat} : GKeep [i] (gName i) := fun x σ H Q h => ⟨h, by simp, fun j hj => by
  rw [List.getElem?_set_ne]
  intro e; exact hj (by simp [e])⟩
theorem gk_nil : GsKeep [] gNil := fun x σ H Q h => ⟨h.1, h.2, rfl, fun _ _ => rfl⟩
def TGmono (g : TG) : Prop := ∀ x σ H (Q Q' : St → Hp → Prop), (∀ σ' H', Q σ' H' → Q' σ' H') → g x σ H Q → g x σ H Q'
def TGsmono (g : TGs) : Prop := ∀ x σ H (Q Q' : St → Hp → Prop), (∀ σ' H', Q σ' H' → Q' σ' H') → g x σ H Q → g x σ H Q'
theorem gm_name {i : Nat} : TGmono (gName i) := fun x σ H Q Q' h q => h _ _ q
theorem gm_nil : TGsmono gNil := fun x σ H Q Q' h q => ⟨q.1, h _ _ q.2⟩
theorem gm_cons {g : TG} {u : TGs} (a : TGmono g) (b : TGsmono u) : TGsmono (gCons g u) := fun x σ H Q Q' h q => by
  obtain ⟨v, r, e, q⟩ := q
  exact ⟨v, r, e, a _ _ _ _ _ (fun σ' H' z => b _ _ _ _ _ h z) q⟩
theorem gk_cons {g : TG} {u : TGs} {js ks : List Nat} (a : GKeep js g) (am : TGmono g) (b : GsKeep ks u) (bm : TGsmono u) : GsKeep (js ++ ks) (gCons g u) := fun x σ H Q q => by
  obtain ⟨v, r, e, q⟩ := q
  refine ⟨v, r, e, am _ _ _ _ _ (fun σ' H' z => ?_) (a _ _ _ _ q)⟩
  obtain ⟨z, l1, k1⟩ := z
  refine bm _ _ _ _ _ (fun σ2 H2 z2 => ?_) (b _ _ _ _ z)
  obtain ⟨z2, l2, k2⟩ := z2
  exact ⟨z2, l2.trans l1, fun i hi => (k2 i fun z => hi (List.mem_append_right _ z)).trans (k1 i fun z => hi (List.mem_append_left _ z))⟩
theorem gk_tup {K : PySem.W.Frag} {n : Nat} {u : TGs} {js : List Nat} (b : GsKeep js u) : GKeep js (gTup K n u) := fun x σ H Q q => by
  obtain ⟨a, xs, e, hq, hl, q⟩ := q
  exact ⟨a, xs, e, hq, hl, b _ _ _ _ q⟩
/-- a comprehension's turns: p is the new list -/
def tGo (cap : List (Option Nat)) (g : TG) (c : TT) (te : TE) (σ : St) (Q : Addr → Hp → Prop) (J : It) (H1 : Hp) : Prop := ∀ p, H1 p = none → ∃ W : Nat → Nat → Hp → Prop, (∃ m, W 0 m (upd H1 p (.lst []))) ∧ ∀ i m H, W i m H →
  (J.stop i H ∧ Q p H) ∨ (J.go i H ∧ ∃ N : Hp → Prop, (∀ H', N H' → ∃ m', m' < m ∧ W (i + 1) m' H') ∧ ∀ x H', J.yld i H x H' → g x (capS cap σ) H' fun σ2 H2 => c σ2 H2 fun b H3 =>
    if b = true then te σ2 H3 fun v H4 => ∃ xs, H4 p = some (.lst xs) ∧ xs.length < sizeLine ∧ N (upd H4 p (.lst (xs ++ [v]))) else N H3)
/-- a comprehension's reading -/
def tCompL (cap : List (Option Nat)) (wi : TI) (g : TG) (c : TT) (te : TE) : St → Hp → (Addr → Hp → Prop) → Prop := fun σ H Q => wi σ H fun J H1 => tGo cap g c te σ Q J H1
structure CompOk (X : Cx) (cN : List Str) (cap : List (Option Nat)) (scope : Scope) (cl : List (Str × Addr)) : Prop where
  clos : closureFor scope X.env = pure cl
  sub : ∀ n a, cl.lookup n = some a → X.env.cells.lookup n = some a
  cell : ∀ y ∈ scope.names, y.2 ≠ .cell
  kind : scope.kind = .function
  names : ∀ x ∈ scope.names, x.2 = .local → scope.names.lookup x.1 = some .local
  len : cap.length = cN.length
  has : ∀ x, ((relabel scope X.env).names.lookup x = some .cell ∨ (relabel scope X.env).names.lookup x = some .free) → ∃ a, cl.lookup x = some a
  capd : ∀ (i j : Nat) (x : Str), cap[i]? = some (some j) → cN[i]? = some x → X.N[j]? = some x ∧ Vis X.env.scope x ∧ X.env.scope.names.lookup x ≠ some .local ∧ ((relabel scope X.env).names.lookup x = some .cell ∨ (relabel scope X.env).names.lookup x = some .free)
theorem capS_len {cap : List (Option Nat)} {σ : St} : (capS cap σ).length = cap.length := List.length_map _
theorem capS_get {cap : List (Option Nat)} {σ : St} {i : Nat} {v : V} (h : (capS cap σ)[i]? = some (some v)) : ∃ j, cap[i]? = some (some j) ∧ σ[j]? = some (some v) := by
  unfold capS at h
  rw [List.getElem?_map] at h
  cases e : cap[i]? with
  | none => rw [e] at h; cases h
  | some o =>
    rw [e] at h
    cases o with
    | none => cases h
    | some j =>
      refine ⟨j, rfl, ?_⟩
      simp only [Option.map_some, Option.bind_some, Option.some.injEq] at h
      cases q : σ[j]? with
      | none => rw [q] at h; cases h
      | some u => rw [q] at h; simp only [Option.join_some] at h; rw [h]
/-- the block begins -/
theorem comp_start {cN : List Str} {cap : List (Option Nat)} {scope : Scope} {cl : List (Str × Addr)} {fp : List Addr} {pins : List (Addr × Obj)} {σ : St} {H : Hp} {s : Shared} {h' : Heap} {m : Str → Option Value} {tk : Nat}
    (C : CompOk X cN cap scope cl) (I : Inv X pins σ H s) (f : ∀ b ∈ fp, FpOk X pins H b) (fl : ∀ b ∈ fp, b < s.heap.objs.size) (hn : h'.Ns s.heap.objs.size m) (k : ∀ b o, s.heap.get? b = some o → h'.get? b = some o) :
    Inv (cxComp X cN scope cl fp s H) [] (capS cap σ) H { s with heap := h', toks := tk } := by
  have hfs : ∀ b ∈ fp, b ∉ frs X.stack := fun b hb z => by
    rcases List.mem_cons.mp (I.stkSub b z) with e | z
    · exact (f b hb).2.1 e
    · exact (f b hb).2.2.1 z
  have hcl : ∀ x c, cl.lookup x = some c → ∃ v, s.heap.IsCell c v := fun x c e => I.cell x c (C.sub x c e)
  refine ⟨⟨I.ok.mod, ?_, I.ok.glob, I.ok.blt, Nat.le_refl _, fun x y c e1 e2 => I.ok.inj x y c (C.sub x c e1) (C.sub y c e2), C.has, fun _ _ z => (nomatch z), I.ok.hd, I.ok.frames, .inl rfl, fun b hb => ⟨Nat.ne_of_lt (fl b hb), fun x c e => (f b hb).2.2.2.2.1 x c (C.sub x c e)⟩,
      I.bs, Nat.le_trans I.ok.bsz I.sz, fun b o e z => ?_, hfs, I.stack, I.stkFree⟩, rfl, I.bare, Un.kept k, ⟨m, hn, fun i x v h1 h2 h3 => ?_⟩, fun x c e => ?_, I.fresh, fun x c e => I.freeC x c (C.sub x c e), fun p hp => absurd hp (by simp [cxComp]), I.hok.kept k, ?_⟩
  · exact C.kind
  · rcases (f b z).2.2.2.1 with q | q
    · exact I.ok.noex b o e q
    · exact absurd (Nat.lt_of_lt_of_le (Heap.lt_size (I.ok.bs b o e).1) q) (Nat.lt_irrefl _)
  · obtain ⟨j, hj, hσ⟩ := capS_get h2
    obtain ⟨n1, n2, n3, n4⟩ := C.capd i j x hj h1
    obtain ⟨mo, hno, hlo⟩ := I.loc
    obtain ⟨u, ru, lk⟩ := hlo j x v n1 hσ n2
    refine ⟨u, ru, ?_⟩
    rcases lk with ⟨k1, _⟩ | ⟨_, c, e, z⟩
    · exact absurd k1 n3
    · obtain ⟨a, ha⟩ := C.has x n4
      have ea := C.sub x a ha
      rw [e] at ea; cases ea
      obtain ⟨o, ho, hd⟩ := z
      exact .inr ⟨n4, c, ha, ⟨o, k _ _ ho, hd⟩⟩
  · obtain ⟨v, o, ho, hd⟩ := hcl x c e
    exact ⟨v, o, k _ _ ho, hd⟩
  · show (capS cap σ).length = cN.length
    rw [capS_len, C.len]
/-- the block is left -/
theorem comp_end {cN : List Str} {scope : Scope} {cl : List (Str × Addr)} {fp : List Addr} {pins pins' : List (Addr × Obj)} {σ σ' : St} {H H' : Hp} {s s' : Shared} {h' : Heap}
    (I : Inv X pins σ H s) (f : ∀ b ∈ fp, FpOk X pins H b) (J : Inv (cxComp X cN scope cl fp s H) pins' σ' H' s') (sb : Heap.SameBut s.heap.objs.size s'.heap h') : Inv X pins σ H' { s' with heap := h' } := by
  have ne : ∀ b o, s.heap.get? b = some o → b ≠ s.heap.objs.size := fun b o e => Nat.ne_of_lt (Heap.lt_size e)
  have B : Un (frs X.stack) fp H H' s.heap s'.heap := J.base
  refine I.call' (s' := { s' with heap := h' }) (ch := fp) J.os ⟨fun b o e n hb hx => ?_, fun b o e n hb hx => ?_, B.free, fun b o e hx => ?_, B.tups, B.frzs, B.tbls⟩ (fun b o e => ?_) J.bare fun b hb => ?_
  · exact (sb.2 b (ne b o e)).trans (B.keep b o e n hb hx)
  · obtain ⟨sl, q⟩ := B.slot b o e n hb hx
    exact ⟨sl, (sb.2 b (ne b o e)).trans q⟩
  · obtain ⟨o', q⟩ := B.there b o e hx
    exact ⟨o', (sb.2 b (ne b o e)).trans q⟩
  · have hf : H' s.heap.objs.size = none := J.free
    refine (J.hok b o e).stay (fun c w' hc q => (sb.2 c ?_).trans q) (fun _ q => q) fun _ _ q => q
    rintro rfl
    rcases hc with rfl | hc
    · rw [hf] at e; cases e
    · rw [hf] at hc; cases hc
  · obtain ⟨f0, f1, f2, f3, f4, f5⟩ := f b hb
    exact ⟨f3, f1, f4, f5⟩
theorem wpAny_falseE {α : Type} {t : Sem α} {Q : α → Shared → Prop} {M : Model} {A : Around} {E : Value → Shared → Prop} {s : Shared} (h : wpAny M A t Q (fun _ _ => False) s) : wpAny M A t Q E s := wpAny_mono h (fun _ _ q => q) fun _ _ f => f.elim
/-- the loop of the block -/
theorem comp_loop {tg iter elt : Expr} {ifs : List Expr} {scope : Scope} {pos : Pos} {cN : List Str} {cap : List (Option Nat)} {cl : List (Str × Addr)} {js : List Nat} {g : TG} {c : TT} {te : TE} {fp : List Addr} {it D : Addr} {tn : Nat → Heap → Prop} {J : It}
    {σ : St} {H : Hp} {s s' : Shared} {Q : Addr → Hp → Prop} {R : Result → Shared → Prop} {H₀ : Hp} (X : Cx)
    (hc : X.calm = true) (hg : PG (cxComp X cN scope cl fp s H₀) tg g) (gm : TGmono g) (gk : GKeep js g) (hjs : ∀ j ∈ js, (cap[j]?).join = none) (ht : PIfs (cxComp X cN scope cl fp s H₀) ifs c) (tm : ∀ σ H (Q Q' : Bool → Hp → Prop), (∀ b H', Q b H' → Q' b H') → c σ H Q → c σ H Q') (he : PE (cxComp X cN scope cl fp s H₀) elt te)
    (T : Turn X.prog X.w X.K tg J fp it tn) (W : Nat → Nat → Hp → Prop)
    (turn : ∀ i m H, W i m H → (J.stop i H ∧ Q D H) ∨ (J.go i H ∧ ∃ N : Hp → Prop, (∀ H', N H' → ∃ m', m' < m ∧ W (i + 1) m' H') ∧ ∀ x H', J.yld i H x H' → g x (capS cap σ) H' fun σ2 H2 => c σ2 H2 fun b H3 =>
      if b = true then te σ2 H3 fun v H4 => ∃ xs, H4 D = some (.lst xs) ∧ xs.length < sizeLine ∧ N (upd H4 D (.lst (xs ++ [v]))) else N H3))
    (m : Nat) (w0 : W 0 m H) (I : Inv (cxComp X cN scope cl fp s H₀) [] (capS cap σ) H s') (st : tn 0 s'.heap) (f : ∀ b ∈ fp, FpOk (cxComp X cN scope cl fp s H₀) [] H b)
    (hR : ∀ σ' H' s', Inv (cxComp X cN scope cl fp s H₀) [] σ' H' s' → Q D H' → R (.ok .next) s') :
    codeAny (model X.prog X.w) X.A (.compLoop (.ListComp elt [⟨tg, iter, ifs, 0⟩] scope pos) 0 (.ref it) (.ref D) (cxComp X cN scope cl fp s H₀).env) R s' := by
  have stat : ∀ {H' : Hp}, (∀ b ∈ fp, H' b = none) → ∀ b ∈ fp, FpOk (cxComp X cN scope cl fp s H₀) [] H' b := fun hn b hb => ⟨hn b hb, (f b hb).2⟩
  refine codeAny_loop rfl (fun n s' => ∃ i H', Inv (cxComp X cN scope cl fp s H₀) [] (capS cap σ) H' s' ∧ tn i s'.heap ∧ (∀ b ∈ fp, H' b = none) ∧ W i n H') ?_ m ⟨0, H, I, st, fun b hb => (f b hb).1, w0⟩
  rintro n s3 ⟨i, H3, I3, st3, fr3, w3⟩
  show wpAny _ X.A ((compTurn (.ListComp elt [⟨tg, iter, ifs, 0⟩] scope pos) 0 (.ref it) (.ref D) (cxComp X cN scope cl fp s H₀).env).onRaise (fun x => do noteFrame x (cxComp X cN scope cl fp s H₀).env; theTreesLotGoes x)) _ _ s3
  refine wpAny_noted (wpAny_falseE ?_)
  rw [compTurn_list]
  refine wpAny_bind (wpAny_standAt (wpAny_bind ?_))
  rcases turn i n H3 w3 with ⟨stop, qn⟩ | ⟨go, N, hN, step⟩
  · refine thn (T.done (cxComp X cN scope cl fp s H₀) rfl rfl rfl hc i [] s3 _ H3 _ I3 (stat fr3) st3 stop) fun r s4 ⟨hr, I4⟩ => ?_
    subst hr
    exact wpAny_pure (hR _ _ _ I4 qn)
  · refine thn (T.item (cxComp X cN scope cl fp s H₀) rfl rfl rfl hc i [] s3 _ H3 _ I3 (stat fr3) st3 go) fun r s4 ⟨u, hr, h4⟩ => ?_
    subst hr
    refine wpAny_bind (thn h4 fun _ s5 ⟨x, H5, I5, r5, y5, st5, fr5⟩ => ?_)
    have I5' := I5.pinned (stat fr5) (T.obj _ _ st5)
    refine wpAny_bind (thn (hg _ s5 _ H5 x u _ I5' r5 (gk _ _ _ _ (step x H5 y5))) fun _ s6 ⟨σ6, H6, I6, q6, l6, k6⟩ => ?_)
    have back : ∀ {H7 : Hp} {s7 : Shared}, Inv (cxComp X cN scope cl fp s H₀) ([] ++ pinsAt fp s5.heap) σ6 H7 s7 → N H7 → ∃ m, m < n ∧ ∃ i H', Inv (cxComp X cN scope cl fp s H₀) [] (capS cap σ) H' s7 ∧ tn i s7.heap ∧ (∀ b ∈ fp, H' b = none) ∧ W i m H' := fun {H7 s7} I7 n7 => by
      obtain ⟨m', hm, w7⟩ := hN H7 n7
      refine ⟨m', hm, i + 1, H7, I7.unpinned.weak l6.symm fun j v hj => ?_, T.keep _ _ _ st5 fun b hb o e => (I7.pin (b, o) (List.mem_append_right _ (List.mem_append_right _ (mem_pinsAt hb e)))).1, fun b hb => ?_, w7⟩
      · by_cases hjj : j ∈ js
        · obtain ⟨z, hz, _⟩ := capS_get hj
          have := hjs j hjj
          rw [hz] at this; cases this
        · rw [k6 j hjj]; exact hj
      · obtain ⟨o, e, d⟩ := T.obj _ _ st5 b hb
        exact (I7.pin (b, o) (List.mem_append_right _ (List.mem_append_right _ (mem_pinsAt hb e)))).2.1
    refine wpAny_bind (thn (ht _ s6 σ6 H6 _ I6 q6) fun b s7 ⟨H7, I7, q7⟩ => ?_)
    cases b with
    | false =>
      rw [if_neg Bool.false_ne_true] at q7
      exact wpAny_pure ⟨rfl, back I7 q7⟩
    | true =>
      rw [if_pos rfl] at q7
      refine wpAny_bind (wpAny_bind (thn (he _ s7 σ6 H7 _ I7 q7) fun y s8 ⟨v, H8, I8, r8, xs, e8, z8, n8⟩ => ?_))
      refine wpAny_bind (thn (mt_append _ s8 σ6 H8 (.ref D) [v] (.ref D) [y] (fun _ H9 => N H9) I8 rfl (.cons r8 .nil) ⟨D, xs, v, rfl, rfl, e8, z8, n8⟩) fun _ s9 ⟨_, H9, I9, _, q9⟩ => ?_)
      exact wpAny_pure (wpAny_pure ⟨rfl, back I9 q9⟩)
section
variable {X : Cx} {tg iter elt : Expr} {ifs : List Expr} {scope : Scope} {pos : Pos} {cN : List Str} {cap : List (Option Nat)} {cl : List (Str × Addr)} {js : List Nat} {wi : TI} {g : TG} {c : TT} {te : TE}
/-- what a comprehension's parts must be -/
structure CompP (X : Cx) (tg iter elt : Expr) (ifs : List Expr) (scope : Scope) (cN : List Str) (cap : List (Option Nat)) (cl : List (Str × Addr)) (js : List Nat) (wi : TI) (g : TG) (c : TT) (te : TE) : Prop where
  calm : X.calm = true
  ok : X.Ok → CompOk X cN cap scope cl
  it : PI X tg iter wi
  tgt : ∀ fp s H, PG (cxComp X cN scope cl fp s H) tg g
  gm : TGmono g
  gk : GKeep js g
  js0 : ∀ j ∈ js, (cap[j]?).join = none
  ts : ∀ fp s H, PIfs (cxComp X cN scope cl fp s H) ifs c
  tm : ∀ σ H (Q Q' : Bool → Hp → Prop), (∀ b H', Q b H' → Q' b H') → c σ H Q → c σ H Q'
  el : ∀ fp s H, PE (cxComp X cN scope cl fp s H) elt te
  fold : ∀ x, foldedSetIterable iter X.env x = pure x
theorem comp_block {pins : List (Addr × Obj)} {σ : St} {H : Hp} {s : Shared} {Q : Addr → Hp → Prop} {RR : Value → Addr → Result → Shared → Prop} (C : CompP X tg iter elt ifs scope cN cap cl js wi g c te) (I : Inv X pins σ H s) (h : tCompL cap wi g c te σ H Q)
    (hRR : ∀ (D : Addr) (fp : List Addr) (s3 : Shared) (H3 : Hp) (σ' : St) (H' : Hp) (s' : Shared), Inv X pins σ H3 s3 → (∀ b ∈ fp, FpOk X pins H3 b) → Inv (cxComp X cN scope cl fp s3 H3) [] σ' H' s' → Q D H' → RR (.ref D) s3.heap.objs.size (.ok .next) s') :
    wpAny (model X.prog X.w) X.A (eval iter X.env) (fun x s₁ => wpAny (model X.prog X.w) X.A (pyIter x) (fun it s₂ => wpAny (model X.prog X.w) X.A (newList []) (fun acc s₃ =>
      wpAny (model X.prog X.w) X.A (newFunctionEnv scope X.env.globals cl [] X.env.qual none .none (some X.env)) (fun cenv s₄ =>
        codeAny (model X.prog X.w) X.A (.compStart (.ListComp elt [⟨tg, iter, ifs, 0⟩] scope pos) 0 it acc { cenv with scope := relabel scope X.env }) (RR acc cenv.locals) s₄) X.xe s₃) X.xe s₂) X.xe s₁) X.xe s := by
  refine thn (C.it pins s σ H _ I h) fun v s1 h1 => thn h1 fun itv s2 h2 => ?_
  obtain ⟨it, fp, tn, J, H2, e, I2, T, st2, f2, R2⟩ := h2
  subst e
  obtain ⟨W, ⟨m, w0⟩, turn⟩ := R2 s2.heap.objs.size I2.fresh
  have I3 : Inv X pins σ (upd H2 s2.heap.objs.size (.lst [])) { s2 with heap := s2.heap.push { cls := .type "list", data := .seq ([] : List Value).toArray }, toks := s2.toks } := I2.lnew (ys := []) (its := []) .nil (Nat.zero_le _)
  have fl : ∀ b ∈ fp, b < s2.heap.objs.size := fun b hb => by
    obtain ⟨o, e, _⟩ := T.obj _ _ st2 b hb
    exact Heap.lt_size e
  have f3 : ∀ b ∈ fp, FpOk X pins (upd H2 s2.heap.objs.size (.lst [])) b := fun b hb => ⟨by rw [upd_ne (Nat.ne_of_lt (fl b hb))]; exact (f2 b hb).1, (f2 b hb).2⟩
  refine wpAny_newObj_type (wpAny_newFunctionEnv (C.ok I.ok).cell (by intro y hy; simp at hy) (fun h₁ hns₁ hsb₁ => ?_) (C.ok I.ok).kind)
  dsimp only at hns₁ hsb₁ ⊢
  generalize hs3 : ({ s2 with heap := s2.heap.push { cls := .type "list", data := .seq ([] : List Value).toArray }, toks := s2.toks } : Shared) = s3 at I3
  have hh3 : s3.heap = s2.heap.push { cls := .type "list", data := .seq ([] : List Value).toArray } := by rw [← hs3]
  rw [← hh3] at hns₁ hsb₁ ⊢
  have fl3 : ∀ b ∈ fp, b < s3.heap.objs.size := fun b hb => by rw [hh3, Heap.size_push]; exact Nat.lt_succ_of_lt (fl b hb)
  have k1 : ∀ b o, s3.heap.get? b = some o → h₁.get? b = some o := fun b o e => (hsb₁.2 b (Nat.ne_of_lt (Heap.lt_size e))).trans (Heap.get?_push_of_some _ e)
  have I4 := comp_start (tk := s2.toks + ([] : List (Str × Value)).length) (C.ok I.ok) I3 f3 fl3 hns₁ k1
  have e4 : ({ s3 with heap := h₁, toks := s2.toks + ([] : List (Str × Value)).length } : Shared) = { s2 with heap := h₁, toks := s2.toks + ([] : List (Str × Value)).length } := by rw [← hs3]
  rw [e4] at I4
  have st4 : tn 0 h₁ := T.keep _ _ _ st2 fun b hb o e => k1 b o (by rw [hh3]; exact Heap.get?_push_of_some _ e)
  have f4 : ∀ b ∈ fp, FpOk (cxComp X cN scope cl fp s3 (upd H2 s2.heap.objs.size (.lst []))) [] (upd H2 s2.heap.objs.size (.lst [])) b := fun b hb => by
    obtain ⟨g0, g1, g2, g3, g4, g5⟩ := f3 b hb
    refine ⟨g0, Nat.ne_of_lt (fl3 b hb), fun z => ?_, .inl hb, fun x c e => g4 x c ((C.ok I.ok).sub x c e), fun p hp => absurd hp (by simp [cxComp])⟩
    rcases List.mem_cons.mp (I3.stkSub b z) with e | z
    · exact g1 e
    · exact g2 z
  have loop : codeAny (model X.prog X.w) X.A (.compLoop (.ListComp elt [⟨tg, iter, ifs, 0⟩] scope pos) 0 (.ref it) (.ref s2.heap.objs.size) (cxComp X cN scope cl fp s3 (upd H2 s2.heap.objs.size (.lst []))).env) (RR (.ref s2.heap.objs.size) s3.heap.objs.size)
      { s2 with heap := h₁, toks := s2.toks + ([] : List (Str × Value)).length } :=
    comp_loop X C.calm (C.tgt _ _ _) C.gm C.gk C.js0 (C.ts _ _ _) C.tm (C.el _ _ _) T W turn m w0 I4 st4 f4 fun σ' H' s' I' q => hRR _ fp s3 _ σ' H' s' I3 f3 I' q
  exact codeAny_compStart_list loop (T.self _ 0 _ _ _ st4 loop)
def tComp (cap : List (Option Nat)) (wi : TI) (g : TG) (c : TT) (te : TE) : TE := fun σ H Q => tCompL cap wi g c te σ H fun p H' => Q (.ref p) H'
theorem pe_comp (C : CompP X tg iter elt ifs scope cN cap cl js wi g c te) : PE X (.ListComp elt [⟨tg, iter, ifs, 0⟩] scope pos) (tComp cap wi g c te) := by
  intro pins s σ H Q I h
  rw [eval_ListComp]
  refine wpAny_comprehension_free (use := none) rfl C.fold (C.ok I.ok).clos (C.ok I.ok).kind (C.ok I.ok).names (comp_block (RR := fun acc C' => compPost (model X.prog X.w) X.A X.xe none (EP X pins σ Q) acc C') C I h ?_)
  intro D fp s3 H3 σ' H' s' I3 f3 J q
  obtain ⟨m, hn, _⟩ := J.loc
  exact ⟨m, hn, fun h' sb => ⟨.ref D, H', comp_end I3 f3 J sb, rfl, q⟩⟩
/-- x = [.. for ..], x a plain local: stored ahead of the block's end -/
def tSetComp (i : Nat) (cap : List (Option Nat)) (wi : TI) (g : TG) (c : TT) (te : TE) : TS := fun D σ H => tCompL cap wi g c te σ H fun p H' => D.nx (σ.set i (some (.ref p))) H'
theorem ps_setComp {i : Nat} {y : Str} {py spos : Pos} (hN : X.N.Nodup) (hi : X.N[i]? = some y) (hy : X.env.scope.names.lookup y = some .local)
    (hsw : swapsWith (.ListComp elt [⟨tg, iter, ifs, 0⟩] scope pos) (some (.Name y py)) spos.line X.env = pure true)
    (C : CompP X tg iter elt ifs scope cN cap cl js wi g c te) : PS X (.Assign [.Name y py] (.ListComp elt [⟨tg, iter, ifs, 0⟩] scope pos) spos) (tSetComp i cap wi g c te) := by
  intro pins s σ H D I h
  rw [exec_Assign_Name_used _ _ _ _ hsw]
  refine wpAny_bind (wpAny_standAt (wpAny_bind ?_))
  show wpAny _ X.A (do let _ ← comprehension (.ListComp elt [⟨tg, iter, ifs, 0⟩] scope pos) scope X.env _ (newList []) false (eval iter X.env) (some (assign (.Name y py) X.env))) _ _ s
  refine wpAny_bind (wpAny_mono (wpAny_comprehension_free (use := some (assign (.Name y py) X.env)) (Q := fun _ s' => SP X pins D .next s') rfl C.fold (C.ok I.ok).clos (C.ok I.ok).kind (C.ok I.ok).names
    (comp_block (RR := fun acc C' => compPost (model X.prog X.w) X.A X.xe (some (assign (.Name y py) X.env)) (fun _ s' => SP X pins D .next s') acc C') C I h ?_)) (fun _ s' hq => wpAny_pure (wpAny_pure hq)) fun _ _ e => e)
  intro D' fp s3 H3 σ' H' s' I3 f3 J q
  obtain ⟨m, hn, _⟩ := id J.loc
  have I4 : Inv X pins σ H' s' := comp_end I3 f3 J (Heap.SameBut.refl ..)
  show wpAny _ X.A (assign (.Name y py) X.env (.ref D')) _ _ _
  refine wpAny_assign_Name (store_ok2 (v := .ref D') I4 hN hi (.inl hy) rfl (fun s5 I5 hch => ?_) (.inr hy))
  obtain ⟨a, sb, ha⟩ := hch
  have hf : H' s3.heap.objs.size = none := J.free
  have hCL : s3.heap.objs.size ≠ X.env.locals := Nat.ne_of_gt I3.lt
  have hcells : ∀ x c, X.env.cells.lookup x = some c → c ≠ s3.heap.objs.size := fun x c e => by
    obtain ⟨v, o, ho, _⟩ := I3.cell x c e
    exact Nat.ne_of_lt (Heap.lt_size ho)
  have haC : s3.heap.objs.size ≠ a := by
    rcases ha with z | z
    · rw [z]; exact hCL
    · exact Ne.symm (hcells _ _ z)
  refine ⟨m, hn.sameBut sb haC, fun h6 sb6 => ⟨_, H', ?_, q⟩⟩
  exact I5.turned (h' := h6) (t' := s5.toks) (fun b o hb e => (sb6.2 b hb).trans e) hf hCL (.inr I3.sz) (fun x c e => hcells x c e) fun p hp z => by
    have := Heap.lt_size (I3.pin p hp).1
    rw [z] at this; exact Nat.lt_irrefl _ this
end
end
end L2
set_option Elab.async false
set_option linter.all false
set_option maxRecDepth 100000
set_option maxHeartbeats 4000000
/-! more rules over the layer: texts walked, enumerate, all, isinstance, lists compared, slices of texts, () + t -/
namespace L2
open PySem PySem.Spec PyProof.Rows
/-! ### for c in a text -/
def Its (z : Str) : It := ⟨fun i _ => i < z.cps.size, fun i H x H' => H' = H ∧ ∃ c, z.cps[i]? = some c ∧ x = .str ⟨#[c]⟩, fun i _ => i = z.cps.size⟩
theorem turn_walks {P : Program} {w : World} {K : PySem.W.Frag} {tg : Expr} {ty : String} {it : Addr} {z : Str} {t : Tok} (hty : ["enumerate", "zip", "dict_itemiterator", "dict_reverseitemiterator", "odict_iterator", "itertools.zip_longest", "itertools.pairwise"].contains ty = false)
    (W : ∀ A : Around, A.handled = none → Walks P w A it [it] [it] z.cps.size (SignAt z) (fun i h => h.IsStrIter it ty z t i))
    (self : ∀ (A : Around) (i : Nat) (s : Shared) (Q : Value → Shared → Prop) (E : Value → Shared → Prop), s.heap.IsStrIter it ty z t i → Q (.ref it) s → wpAny (model P w) A (pyIter (.ref it)) Q E s) :
    Turn P w K tg (Its z) [it] it (fun i h => h.IsStrIter it ty z t i) where
  mem := by simp
  obj := fun i h st b hb => by
    have e : b = it := by simpa using hb
    subst e
    obtain ⟨o, e, c, d⟩ := st
    exact ⟨o, e, fun v z => by rw [d] at z; cases z⟩
  keep := fun i h h' st k => let ⟨o, e, r⟩ := st; ⟨o, k it (by simp) o e, r⟩
  item := by
    intro X hP hw hK hc i pins s σ H E I hf st hg
    subst hP hw hK
    obtain ⟨f0, f1, f2, f3, f4, f5⟩ := hf it (by simp)
    refine (W X.A (I.ok.hd hc)).item i s _ _ hg st fun v h' tk hv st' kk => ?_
    obtain ⟨c, u, hcp, rfl⟩ := hv
    have I1 : Inv X pins σ H { s with heap := h', toks := tk } := I.turned (fun b o hb e => kk b o (by simpa using hb) e) f0 f1 f3 f4 f5
    obtain ⟨o, e, c', d⟩ := id st'
    exact ⟨_, rfl, go_of (s := { s with heap := h', toks := tk }) e c' d hty ⟨.str ⟨#[c]⟩, H, I1, ⟨u, rfl⟩, ⟨rfl, c, hcp, rfl⟩, st', fun b hb => (hf b hb).1⟩⟩
  done := by
    intro X hP hw hK hc i pins s σ H E I hf st hg
    subst hP hw hK
    obtain ⟨f0, f1, f2, f3, f4, f5⟩ := hf it (by simp)
    have e : i = z.cps.size := hg
    subst e
    exact (W X.A (I.ok.hd hc)).done s _ _ st fun h' tk kk => ⟨rfl, I.turned (fun b o hb e => kk b o (by simpa using hb) e) f0 f1 f3 f4 f5⟩
  self := self
section
variable {X : Cx} {tg : Expr}
def iStr (tl : TE) : TI := fun σ H R => tl σ H fun x H1 => ∃ z, x = .str z ∧ R (Its z) H1
theorem pi_str {l : Expr} {tl : TE} (hl : PE X l tl) : PI X tg l (iStr tl) := by
  intro pins s σ H R I h
  refine thn (hl pins s σ H _ I h) fun v s1 ⟨x, H1, I1, r1, q1⟩ => ?_
  obtain ⟨z, e, q⟩ := q1
  subst e
  obtain ⟨t, rfl⟩ := r1
  have fin : ∀ b ∈ [s1.heap.objs.size], FpOk X pins H1 b := fun b hb => by
    have e : b = s1.heap.objs.size := by simpa using hb
    subst e
    exact I1.fpOk (Nat.le_refl _) I1.fresh
  cases ha : z.cps.all (· < 128)
  · refine wpAny_pyIter_wide ha ⟨s1.heap.objs.size, [s1.heap.objs.size], _, _, H1, rfl, I1.kept (t' := s1.toks) fun b o e => Heap.get?_push_of_some _ e, turn_walks (ty := "str_iterator") (by decide) (fun A hA => Walks.strWide hA _ z t) fun _ _ _ _ _ st h => wpAny_pyIter_striter_wide st h, ⟨_, Heap.get?_push_size _ rfl, rfl, rfl⟩, fin, q⟩
  · refine wpAny_pyIter_ascii ha ⟨s1.heap.objs.size, [s1.heap.objs.size], _, _, H1, rfl, I1.kept (t' := s1.toks) fun b o e => Heap.get?_push_of_some _ e, turn_walks (ty := "str_ascii_iterator") (by decide) (fun A hA => Walks.strAscii hA _ z t) fun _ _ _ _ _ st h => wpAny_pyIter_striter_ascii st h, ⟨_, Heap.get?_push_size _ rfl, rfl, rfl⟩, fin, q⟩
end
theorem for_str {z : Str} {g : TG} {tb : TS} {D : Ends} {σ : St} {H : Hp} (Pv : Nat → St → Hp → Prop) (h0 : Pv 0 σ H)
    (hs : ∀ i c σ H, z.cps[i]? = some c → Pv i σ H → g (.str ⟨#[c]⟩) σ H fun σ2 H2 => tb { D with nx := Pv (i + 1), ct := Pv (i + 1), bk := D.nx } σ2 H2) (hd : ∀ σ H, Pv z.cps.size σ H → D.nx σ H) :
    ∃ W : Nat → Nat → St → Hp → Prop, (∃ m, W 0 m σ H) ∧ ∀ i m σ H, W i m σ H →
      ((Its z).stop i H ∧ D.nx σ H) ∨ ((Its z).go i H ∧ ∃ N : St → Hp → Prop, (∀ σ' H', N σ' H' → ∃ m', m' < m ∧ W (i + 1) m' σ' H') ∧ ∀ x H', (Its z).yld i H x H' → g x σ H' fun σ2 H2 => tb { D with nx := N, ct := N, bk := D.nx } σ2 H2) := by
  refine ⟨fun i m σ H => m = z.cps.size - i ∧ i ≤ z.cps.size ∧ Pv i σ H, ⟨z.cps.size, by simp, Nat.zero_le _, h0⟩, ?_⟩
  rintro i m σ H ⟨rfl, hi, p⟩
  by_cases hlt : i < z.cps.size
  · refine .inr ⟨hlt, Pv (i + 1), fun σ' H' p' => ⟨z.cps.size - (i + 1), by omega, rfl, hlt, p'⟩, fun x H' y => ?_⟩
    obtain ⟨e, c, hc, e2⟩ := y
    subst e e2
    exact hs i c σ _ hc p
  · have e : i = z.cps.size := by omega
    subst e
    exact .inl ⟨rfl, hd σ H p⟩
/-! ### for k, c in enumerate(a text) -/
def Ite (z : Str) : It := ⟨fun i _ => i < z.cps.size, fun i H x H' => ∃ c T, z.cps[i]? = some c ∧ x = .ref T ∧ H T = none ∧ H' = upd H T (.tup [.int i, .str ⟨#[c]⟩]), fun i _ => i = z.cps.size⟩
theorem turn_enum {P : Program} {w : World} {K : PySem.W.Frag} {elts : List Expr} {ek : Nat} {epos : Pos} {e it : Addr} {z : Str} {St : Nat → Heap → Prop} (hei : e ≠ it)
    (D : ∀ A : Around, A.handled = none → Draws P w A.in1 it [it] z.cps.size (fun i v => ∃ c u, z.cps[i]? = some c ∧ v = .str ⟨#[c]⟩ u) St)
    (hob : ∀ i h, St i h → ∃ o, h.get? it = some o ∧ ∀ v, o.data ≠ .cell v) (hfr : ∀ i h h', St i h → (∀ b ∈ [it], ∀ o, h.get? b = some o → h'.get? b = some o) → St i h') :
    Turn P w K (.Tuple elts ek epos) (Ite z) [e, it] e (fun i h => (∃ old, IsEnum h e it i old) ∧ St i h) where
  mem := by simp
  obj := fun i h st b hb => by
    obtain ⟨⟨old, he⟩, hs⟩ := st
    rcases List.mem_cons.mp hb with rfl | hb
    · exact ⟨_, he, fun v z => by
        have z' : Data.fields _ = Data.cell v := z
        cases z'⟩
    · have e : b = it := by simpa using hb
      subst e
      exact hob i h hs
  keep := fun i h h' st k => by
    obtain ⟨⟨old, he⟩, hs⟩ := st
    exact ⟨⟨old, k e (by simp) _ he⟩, hfr i h h' hs fun b hb o q => k b (List.mem_cons_of_mem _ hb) o q⟩
  item := by
    intro X hP hw hK hc i pins s σ H E I hf st hg
    subst hP hw hK
    have W := WalksT.enumerateD (D X.A (I.ok.hd hc)) e hei (by simpa using hei) (by simp)
    refine W.item i s _ _ hg st fun T vals h' tk hv hT htup hm kk => ?_
    obtain ⟨t, x, ⟨c, u, hcp, rfl⟩, rfl⟩ := hv
    refine ⟨_, rfl, W.go elts ek epos i T { s with heap := h', toks := tk } _ _ hm fun h2 st2 kk2 => ?_⟩
    have hTn : H T = none := I.hok.fresh hT
    have hTw : T ∉ [e, it] := W.apart i T h' hm
    have k2 : ∀ b o, b ∉ [e, it] → s.heap.get? b = some o → h2.get? b = some o := fun b o hb q => kk2 b o hb (kk b o hb q)
    have htup2 : IsTup h2 T #[.int i t, .str ⟨#[c]⟩ u] := by
      obtain ⟨o, ho, r⟩ := htup
      exact ⟨o, kk2 T o hTw ho, r⟩
    have hfp : ∀ b ∈ [e, it], H b = none := fun b hb => (hf b hb).1
    have hne : ∀ b, b < s.heap.objs.size → b ≠ T := fun b hb => Nat.ne_of_lt (Nat.lt_of_lt_of_le hb hT)
    have tracked : ∀ b u, H b = some u → b ≠ T ∧ b ∉ [e, it] := fun b u q => ⟨hne b (I.hok.lt q), fun z => by rw [hfp b z] at q; cases q⟩
    have I1 : Inv X pins σ (upd H T (.tup [.int i, .str ⟨#[c]⟩])) { s with heap := h2, gens := s.gens, drawn := s.drawn, toks := tk } := by
      refine I.step (ch := [e, it]) (fun b hb => ?_) (fun b o _ _ hc q _ => k2 b o hc q) (fun b o _ _ hc q _ => ⟨o.slots, k2 b o hc q⟩) (fun b o hc q n => by rw [upd_ne (hne b (Heap.lt_size q))]; exact n) (fun b o hc q => ⟨o, k2 b o hc q⟩)
        (fun b xs q => by rw [upd_ne (tracked b _ q).1]; exact q) (fun b o u q => by rw [upd_ne (tracked b _ q).1]; exact q) (fun b ps q => ⟨#[], by rw [upd_ne (tracked b _ q).1, q]; simp⟩) (fun m hm => ?_) (fun b u q => ?_) I.bare
      · obtain ⟨f0, f1, f2, f3, f4, f5⟩ := hf b hb
        exact ⟨f3, f1, f4, f5⟩
      · obtain ⟨o, es, ep, ho, r⟩ := hm
        exact ⟨o, es, ep, k2 _ o (fun z => (hf _ z).2.1 rfl) ho, r⟩
      · by_cases hb : b = T
        · subst hb
          rw [upd_same] at q; cases q
          exact ⟨Nat.le_trans (by decide : 2 ≤ 1000) (Nat.le_of_lt (small1000 (Nat.le_refl _))), [.int i t, .str ⟨#[c]⟩ u], .cons ⟨t, rfl⟩ (.cons ⟨u, rfl⟩ .nil), htup2⟩
        · rw [upd_ne hb] at q
          refine (I.hok b u q).stay (fun d v hd r => k2 d v ?_ r) (fun d r => by rw [upd_ne (tracked d _ r).1]; exact r) fun d xs r => by rw [upd_ne (tracked d _ r).1]; exact r
          rcases hd with rfl | hd
          · exact (tracked d _ q).2
          · exact (tracked d _ hd).2
    refine ⟨.ref T, _, I1, rfl, ⟨c, T, hcp, rfl, hTn, rfl⟩, ?_, fun b hb => ?_⟩
    · simpa using st2
    · have hbT : b ≠ T := fun z => hTw (by rw [← z]; exact hb)
      rw [upd_ne hbT]; exact hfp b hb
  done := by
    intro X hP hw hK hc i pins s σ H E I hf st hg
    subst hP hw hK
    have W := WalksT.enumerateD (D X.A (I.ok.hd hc)) e hei (by simpa using hei) (by simp)
    have e0 : i = z.cps.size := hg
    subst e0
    refine W.done s _ _ st fun h' tk kk => ⟨rfl, ?_⟩
    exact I.step (g' := s.gens) (d' := s.drawn) (ch := [e, it]) (fun b hb => let ⟨f0, f1, f2, f3, f4, f5⟩ := hf b hb; ⟨f3, f1, f4, f5⟩) (fun b o _ _ hc q _ => kk b o hc q) (fun b o _ _ hc q _ => ⟨o.slots, kk b o hc q⟩) (fun b o _ _ n => n) (fun b o hc q => ⟨o, kk b o hc q⟩)
        (fun _ _ q => q) (fun _ _ _ q => q) (fun b ps q => ⟨#[], by rw [q]; simp⟩) (fun m hm => let ⟨o, es, ep, ho, r⟩ := hm; ⟨o, es, ep, kk _ o (fun z => (hf _ z).2.1 rfl) ho, r⟩)
        (fun b u q => (I.hok b u q).stay (fun d v hd r => kk d v (fun z => by
          rcases hd with rfl | hd
          · rw [(hf _ z).1] at q; cases q
          · rw [(hf _ z).1] at hd; cases hd) r) (fun _ r => r) fun _ _ r => r) I.bare
  self := fun A i s Q E st h => by
    obtain ⟨⟨old, he⟩, _⟩ := st
    exact wpAny_pyIter_enum he h
section
variable {X : Cx} {elts : List Expr} {ek : Nat} {epos : Pos}
def iEnum (ta : TA) : TI := fun σ H R => ta σ H fun vs H1 => ∃ z, vs = [.str z] ∧ R (Ite z) H1
theorem pi_enum {a : Expr} {ta : TA} {p pos : Pos} (hg : Gl X "enumerate") (hm : X.mg "enumerate" = none) (ha : PA X [a] ta) (hc : X.calm = true) (hs : starEach [a] X.env = [(false, eval a X.env)] := by rfl) (hb : bootBuiltins "enumerate" = some (.type "enumerate") := by decide +kernel) :
    PI X (.Tuple elts ek epos) (.Call (.Name "enumerate" p) [a] [] pos) (iEnum ta) := by
  intro pins s σ H R I h
  refine Call_ (ld_blt I hg hm hb (PyProof.Rows.callWith_type1 (thn (ha pos pins s σ H _ I h) fun us s1 ⟨vs, H1, I1, r1, q1⟩ => ?_) hs rfl))
  obtain ⟨z, e, q⟩ := q1
  subst e
  obtain ⟨u, rfl, t, rfl⟩ := vals1 r1
  refine call_enumerate_str fun h' he hit hsz kk => ?_
  have I2 : Inv X pins σ H1 { s1 with heap := h', toks := s1.toks } := I1.kept kk
  refine wpAny_pyIter_enum (s := { s1 with heap := h' }) he ?_
  have fin : ∀ b ∈ [s1.heap.objs.size + 1, s1.heap.objs.size], FpOk X pins H1 b := fun b hb => by
    have e : s1.heap.objs.size ≤ b := by
      rcases List.mem_cons.mp hb with e | hb
      · omega
      · have e : b = s1.heap.objs.size := by simpa using hb
        omega
    exact I1.fpOk e (I1.hok.fresh e)
  cases ha : z.cps.all (· < 128)
  · have hit' : h'.IsStrIter s1.heap.objs.size "str_iterator" z t 0 := by simpa [strIterType, ha] using hit
    exact ⟨_, _, _, _, H1, rfl, I2, turn_enum (Nat.succ_ne_self _) (fun A hA => Draws.strWide (A := A.in1) hA s1.heap.objs.size z t) (fun i h st => let ⟨o, e, c, d⟩ := st; ⟨o, e, fun v z => by rw [d] at z; cases z⟩) (fun i h h' st k => let ⟨o, e, r⟩ := st; ⟨o, k _ (by simp) o e, r⟩), ⟨⟨_, he⟩, hit'⟩, fin, q⟩
  · have hit' : h'.IsStrIter s1.heap.objs.size "str_ascii_iterator" z t 0 := by simpa [strIterType, ha] using hit
    exact ⟨_, _, _, _, H1, rfl, I2, turn_enum (Nat.succ_ne_self _) (fun A hA => Draws.strAscii (A := A.in1) hA s1.heap.objs.size z t) (fun i h st => let ⟨o, e, c, d⟩ := st; ⟨o, e, fun v z => by rw [d] at z; cases z⟩) (fun i h h' st k => let ⟨o, e, r⟩ := st; ⟨o, k _ (by simp) o e, r⟩), ⟨⟨_, he⟩, hit'⟩, fin, q⟩
end
theorem for_enum {z : Str} {g : TG} {tb : TS} {D : Ends} {σ : St} {H : Hp} (Pv : Nat → St → Hp → Prop) (h0 : Pv 0 σ H)
    (hs : ∀ i c T σ H, z.cps[i]? = some c → Pv i σ H → H T = none → g (.ref T) σ (upd H T (.tup [.int i, .str ⟨#[c]⟩])) fun σ2 H2 => tb { D with nx := Pv (i + 1), ct := Pv (i + 1), bk := D.nx } σ2 H2) (hd : ∀ σ H, Pv z.cps.size σ H → D.nx σ H) :
    ∃ W : Nat → Nat → St → Hp → Prop, (∃ m, W 0 m σ H) ∧ ∀ i m σ H, W i m σ H →
      ((Ite z).stop i H ∧ D.nx σ H) ∨ ((Ite z).go i H ∧ ∃ N : St → Hp → Prop, (∀ σ' H', N σ' H' → ∃ m', m' < m ∧ W (i + 1) m' σ' H') ∧ ∀ x H', (Ite z).yld i H x H' → g x σ H' fun σ2 H2 => tb { D with nx := N, ct := N, bk := D.nx } σ2 H2) := by
  refine ⟨fun i m σ H => m = z.cps.size - i ∧ i ≤ z.cps.size ∧ Pv i σ H, ⟨z.cps.size, by simp, Nat.zero_le _, h0⟩, ?_⟩
  rintro i m σ H ⟨rfl, hi, p⟩
  by_cases hlt : i < z.cps.size
  · refine .inr ⟨hlt, Pv (i + 1), fun σ' H' p' => ⟨z.cps.size - (i + 1), by omega, rfl, hlt, p'⟩, fun x H' y => ?_⟩
    obtain ⟨c, T, hc, e2, hT, e⟩ := y
    subst e e2
    exact hs i c T σ H hc p hT
  · have e : i = z.cps.size := by omega
    subst e
    exact .inl ⟨rfl, hd σ H p⟩
section
variable {X : Cx}
/-! ### all of a list of truths -/
theorem range_allB (bs : List Bool) : ((List.range bs.length).all fun i => (bs[i]?).getD true) = bs.all id := by
  rw [Bool.eq_iff_iff, List.all_eq_true, List.all_eq_true]
  constructor
  · intro h x hx
    obtain ⟨i, hi, rfl⟩ := List.mem_iff_getElem.mp hx
    have := h i (List.mem_range.mpr hi)
    simpa [hi] using this
  · intro h i hi
    have hi' := List.mem_range.mp hi
    simpa [hi'] using h bs[i] (List.getElem_mem hi')
theorem call_allB (hc : X.calm = true) : CallR X (.builtin "all") (fun xs H Q => ∃ (p : Addr) (bs : List Bool), xs = [.ref p] ∧ SqL X.K H p (bs.map V.bl) ∧ Q (.bl (bs.all id)) H) := by
  intro pins s σ H xs us Q I r h
  obtain ⟨p, bs, rfl, hq, q⟩ := h
  obtain ⟨u, rfl, ru⟩ := vals1 r
  cases ru
  obtain ⟨its, rv, pl, hz⟩ := I.list hq
  have hl := pl.isList
  have hlt : p < s.heap.objs.size := by obtain ⟨_, e, _⟩ := hl; exact Heap.lt_size e
  have hlen : its.length = bs.length := by have := rv.length; simp at this; omega
  refine call_all_walk (wpAny_pyIter_list hl ?_)
  refine ⟨s.heap.objs.size, [s.heap.objs.size, p], [s.heap.objs.size], its.toArray.size, _, _, fun i => (bs[i]?).getD true, rfl, Walks.list (A := X.A.in1) (I.ok.hd hc) _ p (Nat.ne_of_lt hlt) its.toArray,
    ⟨⟨_, Heap.get?_push_size _ rfl, rfl, rfl⟩, hl.push _⟩, fun i v s' Q' E' hP hQ => ?_, fun h' tk hk => ?_⟩
  · have hv : its[i]? = some v := by simpa using hP
    have hi : i < its.length := (List.getElem?_eq_some_iff.mp hv).1
    have hb : (bs.map V.bl)[i]? = some (.bl bs[i]) := by simp [show i < bs.length by omega]
    obtain ⟨u, hu, ru⟩ := rv.get hb
    rw [hv] at hu; cases hu
    cases ru
    have e : (bs[i]?).getD true = bs[i] := by simp [show i < bs.length by omega]
    have hQ2 : Q' ((bs[i]?).getD true) s' := hQ
    rw [e] at hQ2
    exact wpAny_truthy_bool hQ2
  · have e : ((List.range its.toArray.size).all fun i => (bs[i]?).getD true) = bs.all id := by
      rw [List.size_toArray, hlen]; exact range_allB bs
    rw [e]
    refine ⟨.bl (bs.all id), H, I.kept fun b o x => hk b o (fun hm => ?_) (Heap.get?_push_of_some _ x), rfl, q⟩
    rw [List.mem_singleton.mp hm] at x; exact Nat.lt_irrefl _ (Heap.lt_size x)
/-! ### isinstance of a built-in class -/
theorem call_isi : CallR X (.builtin "isinstance") (fun xs H Q => ∃ x c t b, xs = [x, .ty c] ∧ TyOf X.K H x t ∧ PySem.W.kitOne X.K t (.type c) = some b ∧ Q (.bl b) H) := by
  intro pins s σ H xs us Q I r h
  obtain ⟨x, c, t, b, rfl, ty, hk, q⟩ := h
  obtain ⟨u, v, rfl, ru, rv⟩ := r.two
  cases rv
  exact isinst_ok I ru ty hk fun tk => ⟨.bl b, H, I.tok tk, rfl, q⟩
theorem kit_same {K : PySem.W.Frag} (c : String) : PySem.W.kitOne K (.type c) (.type c) = some true := by
  unfold PySem.W.kitOne
  rw [if_pos (beq_self_eq_true _)]
/-! ### two lists of the very same items -/
def okV : V → Bool
  | .flt _ => false
  | .byt _ => false
  | _ => true
theorem eqAt_sameV {A : Around} {s : Shared} {x : V} {u v : Value} (ru : RelV x u) (rv : RelV x v) (f : okV x = true) : SeqAt.EqAt A s u v true := by
  cases x with
  | non => cases ru; cases rv; exact SeqAt.EqAt.same _
  | bl b => cases ru; cases rv; exact SeqAt.EqAt.same _
  | ref a => cases ru; cases rv; exact SeqAt.EqAt.same _
  | ty n => cases ru; cases rv; exact SeqAt.EqAt.same _
  | int i =>
    obtain ⟨t, rfl⟩ := ru
    obtain ⟨t', rfl⟩ := rv
    have h := SeqAt.EqAt.int_int (A := A) (s := s) i t i t'
    rw [beq_self_eq_true] at h; exact h
  | str i =>
    obtain ⟨t, rfl⟩ := ru
    obtain ⟨t', rfl⟩ := rv
    have h := SeqAt.EqAt.str_str (A := A) (s := s) i t i t'
    rw [beq_self_eq_true] at h; exact h
  | byt b => exact absurd f (by simp [okV])
  | flt b => exact absurd f (by simp [okV])
theorem same_at {A : Around} {s : Shared} {xs : List V} {us ws : List Value} (ru : Vals xs us) (rw' : Vals xs ws) (f : xs.all okV = true) :
    ∀ j (h1 : j < us.toArray.size) (h2 : j < ws.toArray.size), SeqAt.EqAt A s us.toArray[j] ws.toArray[j] ((fun _ => true) j) := fun j h1 h2 => by
  have hj : j < xs.length := by rw [ru.length]; simpa using h1
  obtain ⟨u, hu, r1⟩ := ru.get (i := j) (x := xs[j]) (by simp [hj])
  obtain ⟨v, hv, r2⟩ := rw'.get (i := j) (x := xs[j]) (by simp [hj])
  have e1 : us.toArray[j] = u := by
    have := (List.getElem?_eq_some_iff.mp hu).2
    simpa using this
  have e2 : ws.toArray[j] = v := by
    have := (List.getElem?_eq_some_iff.mp hv).2
    simpa using this
  rw [e1, e2]
  exact eqAt_sameV r1 r2 (List.all_eq_true.mp f _ (List.getElem_mem hj))
theorem all_true (n : Nat) : ((List.range n).all fun _ => true) = true := by simp
def rEqL (K : PySem.W.Frag) (k : Bool) : R2 := fun x y H Q => ∃ p q xs, x = .ref p ∧ y = .ref q ∧ SqL K H p xs ∧ SqL K H q xs ∧ xs.all okV = true ∧ Q (.bl k) H
theorem op_eqL (hu : X.A.units < cLine) : OpR X (compareOp .Eq) (rEqL X.K true) := by
  intro pins s σ H x y v u Q I rx ry h
  obtain ⟨p, q, xs, rfl, rfl, h1, h2, f, q⟩ := h
  cases rx
  cases ry
  obtain ⟨its, r1, p1, _⟩ := I.list h1
  obtain ⟨its2, r2, p2, _⟩ := I.list h2
  have e := all_true its.toArray.size
  refine SeqAt.eq_listAt p1.isList p2.isList (by simp [← r1.length, ← r2.length]) hu (same_at r1 r2 f) ?_
  rw [e]
  exact ⟨.bl true, H, I, rfl, q⟩
theorem op_neL (hu : X.A.units < cLine) : OpR X (compareOp .NotEq) (rEqL X.K false) := by
  intro pins s σ H x y v u Q I rx ry h
  obtain ⟨p, q, xs, rfl, rfl, h1, h2, f, q⟩ := h
  cases rx
  cases ry
  obtain ⟨its, r1, p1, _⟩ := I.list h1
  obtain ⟨its2, r2, p2, _⟩ := I.list h2
  have e := all_true its.toArray.size
  refine EqBoolInt.of_rcne (SeqAt.RcNeAt.lists p1.isList p2.isList (by simp [← r1.length, ← r2.length]) hu (same_at r1 r2 f)) ?_
  rw [e]
  exact ⟨.bl false, H, I, rfl, q⟩
/-! ### () + t -/
def rCatT0 (K : PySem.W.Frag) : R2 := fun x y H Q => ∃ a b ys, x = .ref a ∧ y = .ref b ∧ SqT K H a [] ∧ SqT K H b ys ∧ Q (.ref b) H
theorem op_catT0 : OpR X (binaryOp .Add) (rCatT0 X.K) := by
  intro pins s σ H x y v u Q I rx ry h
  obtain ⟨a, b, ys, rfl, rfl, ha, hb, q⟩ := h
  cases rx
  cases ry
  obtain ⟨its, r1, p1, _⟩ := I.tuple ha
  obtain ⟨its2, r2, p2, _⟩ := I.tuple hb
  cases r1
  obtain ⟨⟨cls, dd, data, sl⟩, ho, hc, n, hd⟩ := id p1
  obtain ⟨⟨cls2, dd2, data2, sl2⟩, ho2, hc2, n2, hd2⟩ := id p2
  simp only at hc hd hc2 hd2
  subst hc hd hc2 hd2
  exact concat_meets ⟨_, ho, rfl⟩ ⟨_, ho2, rfl⟩ noFill_tuple_add seq_tuple_add PySem.F.slot_tuple_add PySem.F.entry_tuple_add (PySem.F.args_tuple_add_2 _ _)
    (tuple_addW0 a b _ _ n n2 dd dd2 sl sl2 (by simp)) ⟨ho, ho2, ⟨.ref b, H, I, rfl, q⟩⟩
/-! ### a text's slice -/
theorem part_of {v : Value} {o : Option Int} (h : IsPart v o) : ∃ l : Option (Int × Tok), v = partValue l ∧ l.map (·.1) = o := by
  cases h with
  | none => exact ⟨none, rfl, rfl⟩
  | int i t => exact ⟨some (i, t), rfl, rfl⟩
def rSlS : V → Option Int → Option Int → Hp → VK → Prop := fun x lo hi H Q => ∃ z, x = .str z ∧ z.length ≤ sizeLine ∧ Q (.str (Txt.slice z lo hi)) H
theorem sl_str : SlR X rSlS := by
  intro pins s σ H x v vl vu lo hi sl Q I rx hs pl pu h
  obtain ⟨z, rfl, hz, q⟩ := h
  obtain ⟨t, rfl⟩ := rx
  obtain ⟨l, rfl, rfl⟩ := part_of pl
  obtain ⟨u, rfl, rfl⟩ := part_of pu
  refine ⟨"str", _, PySem.F.slot_str_getitem.lookup, typeIs_str _ _ _, ?_⟩
  obtain ⟨o, ho, hc, hd⟩ := hs
  refine wpAny_getItem_str_slice (l := l) (u := u) (st := none) ⟨o, ho, hc, hd⟩ rfl ?_
  have hle := Txt.slice_le z (l.map (·.1)) (u.map (·.1))
  unfold sliceMade
  unfold Txt.slice at q hle
  show Made.post (if ((1 : Int) == 1 && (PySem.Builtin.Str.strSliceIndices (l.map (·.1)) (u.map (·.1)) 1 z.length).length == z.length) = true then _ else Made.str ⟨((PySem.Builtin.Str.strSliceIndices (l.map (·.1)) (u.map (·.1)) 1 z.length).filterMap (z.cps[·]?)).toArray⟩) _ s
  split
  · rename_i hif
    rw [if_pos hif] at q
    exact ⟨.str z, H, I, ⟨t, rfl⟩, q⟩
  · rename_i hif
    rw [if_neg hif] at q
    rw [if_neg hif] at hle
    exact ⟨Nat.le_trans hle hz, .str _, H, I.tok _, ⟨_, rfl⟩, q⟩
end
end L2
set_option Elab.async false
set_option linter.all false
set_option maxRecDepth 100000
set_option maxHeartbeats 4000000
namespace L2
open PySem PySem.Spec PyProof.Rows
theorem bt_max : bootBuiltins "max" = some (.builtin "max") := by decide +kernel
theorem bt_min : bootBuiltins "min" = some (.builtin "min") := by decide +kernel
theorem bt_all : bootBuiltins "all" = some (.builtin "all") := by decide +kernel
theorem bt_isinstance : bootBuiltins "isinstance" = some (.builtin "isinstance") := by decide +kernel
theorem bt_bool : bootBuiltins "bool" = some (.type "bool") := by decide +kernel
theorem bt_int : bootBuiltins "int" = some (.type "int") := by decide +kernel
theorem bt_str : bootBuiltins "str" = some (.type "str") := by decide +kernel
theorem bt_list : bootBuiltins "list" = some (.type "list") := by decide +kernel
theorem bt_tuple : bootBuiltins "tuple" = some (.type "tuple") := by decide +kernel
section
variable {X : Cx}
/-- a def that keeps its promise, whatever its address -/
structure Ca (P : Program) (w : World) (K : PySem.W.Frag) (mg : Str → Option Value) (base : Heap) (k : Nat) (x : Str) (ps : List Str) (sp : Sp) : Prop where
  ex : ∃ (f : Addr) (fd : FuncData), FnOk P w K mg base CX0 k f fd ps sp ∧ Binds K fd ps [] ∧ PySem.W.keepIn K (.ref f) = true ∧ mg x = some (.ref f)
theorem pe_ca {k : Nat} {x : Str} {ps : List Str} {sp : Sp} {p pos : Pos} {e : Expr} {es : List Expr} {t : TA} (C : Ca X.prog X.w X.K X.mg X.base k x ps sp) (hr : Room k X.A) (hg : Gl X x) (ha : PA X (e :: es) t)
    (hdb : (x == ("__debug__" : Str)) = false := by decide) (he : starEach (e :: es) X.env = (false, eval e X.env) :: starEach es X.env := by rfl) (hpl : (backTo pos (starEach es X.env)).any (·.1) = false := by rfl) :
    PE X (.Call (.Name x p) (e :: es) [] pos) (tCall sp [] E0 t) := by
  obtain ⟨f, fd, F, B, kp, m⟩ := C.ex
  exact pe_call F hr hg m kp B .nil pass0 ha hdb he hpl
/-- a name of the module's top -/
theorem pe_gl {x : Str} {v : V} {pos : Pos} (hg : Gl X x) (h : ∃ u, X.mg x = some u ∧ RelV v u) (hd : (x == ("__debug__" : Str)) = false := by decide) : PE X (.Name x pos) (tC v) := by
  obtain ⟨u, hm, r⟩ := h
  exact pe_glob hg hm r hd
theorem tm_no : ∀ (σ : St) (H : Hp) (Q Q' : Bool → Hp → Prop), (∀ b H', Q b H' → Q' b H') → tNoIf σ H Q → tNoIf σ H Q' := fun _ _ _ _ h q => h _ _ q
theorem gm_tup {K : PySem.W.Frag} {n : Nat} {u : TGs} (b : TGsmono u) : TGmono (gTup K n u) := fun x σ H Q Q' h q => by
  obtain ⟨a, xs, e, hq, hl, q⟩ := q
  exact ⟨a, xs, e, hq, hl, b _ _ _ _ _ h q⟩
/-! the names of a block -/
theorem mem_relabel {scope : Scope} {env : Env} {x : Str} {k : NameKind} (h : (relabel scope env).names.lookup x = some k) : ∃ k', (x, k') ∈ scope.names ∧ (k' = k ∨ k' = .free) := by
  have m := PySem.mem_of_lookup h
  unfold relabel at m
  obtain ⟨⟨n, k'⟩, hm, e⟩ := List.mem_map.mp m
  dsimp only at e
  split at e
  · rename_i hc
    cases e
    refine ⟨k', hm, .inr ?_⟩
    simp only [Bool.and_eq_true, beq_iff_eq] at hc
    exact hc.1.1
  · cases e
    exact ⟨_, hm, .inl rfl⟩
theorem compOk0 {cN : List Str} {cap : List (Option Nat)} {scope : Scope} (hk : scope.kind = .function) (h1 : scope.names.all (fun y => y.2 != .free && y.2 != .cell) = true) (h2 : scope.names.all (fun y => y.2 != .local || scope.names.lookup y.1 == some .local) = true)
    (hl : cap.length = cN.length) (hc : cap.all (fun o => o.isNone) = true) : CompOk X cN cap scope [] where
  clos := closureFor_none fun y hy => by
    have := List.all_eq_true.mp h1 y hy
    simp only [Bool.and_eq_true, bne_iff_ne, ne_eq] at this
    exact this.1
  sub := fun n a h => by cases h
  cell := fun y hy => by
    have := List.all_eq_true.mp h1 y hy
    simp only [Bool.and_eq_true, bne_iff_ne, ne_eq] at this
    exact this.2
  kind := hk
  names := fun y hy e => by
    have := List.all_eq_true.mp h2 y hy
    simp only [Bool.or_eq_true, bne_iff_ne, ne_eq, beq_iff_eq] at this
    rcases this with q | q
    · exact absurd e q
    · exact q
  len := hl
  has := fun x h => by
    exfalso
    have no : ∀ k', (x, k') ∈ scope.names → k' ≠ .free ∧ k' ≠ .cell := fun k' hy => by
      have := List.all_eq_true.mp h1 _ hy
      simpa only [Bool.and_eq_true, bne_iff_ne, ne_eq] using this
    rcases h with h | h
    · obtain ⟨k', hm, e⟩ := mem_relabel h
      rcases e with e | e
      · exact (no k' hm).2 e
      · exact (no k' hm).1 e
    · obtain ⟨k', hm, e⟩ := mem_relabel h
      rcases e with e | e
      · exact (no k' hm).1 e
      · exact (no k' hm).1 e
  capd := fun i j x h _ => by
    have := List.all_eq_true.mp hc _ (List.mem_of_getElem? h)
    cases this
/-- the cells that a block takes -/
def closOf (cells : List (Str × Addr)) : List (Str × NameKind) → List (Str × Addr) → List (Str × Addr)
  | [], cs => cs
  | (n, k) :: r, cs => closOf cells r (if k == .free then (n, (cells.lookup n).getD 0) :: cs else cs)
theorem closOf_mem {cells : List (Str × Addr)} : ∀ {names : List (Str × NameKind)} {cs : List (Str × Addr)} {p : Str × Addr}, p ∈ closOf cells names cs ↔ p ∈ cs ∨ ((p.1, NameKind.free) ∈ names ∧ p.2 = (cells.lookup p.1).getD 0)
  | [], cs, p => by simp [closOf]
  | (n, k) :: r, cs, p => by
    unfold closOf
    rw [closOf_mem]
    by_cases hk : k = .free
    · subst hk
      simp only [beq_self_eq_true, if_true, List.mem_cons, Prod.mk.injEq, and_true]
      constructor
      · rintro ((h | h) | h)
        · subst h; exact .inr ⟨.inl rfl, rfl⟩
        · exact .inl h
        · exact .inr ⟨.inr h.1, h.2⟩
      · rintro (h | ⟨h | h, e⟩)
        · exact .inl (.inr h)
        · refine .inl (.inl ?_)
          obtain ⟨a, b⟩ := p
          simp only at h e
          subst h; subst e; rfl
        · exact .inr ⟨h, e⟩
    · have hb : (k == NameKind.free) = false := by simpa using hk
      simp only [hb, Bool.false_eq_true, if_false, List.mem_cons, Prod.mk.injEq]
      constructor
      · rintro (h | h)
        · exact .inl h
        · exact .inr ⟨.inr h.1, h.2⟩
      · rintro (h | ⟨h | h, e⟩)
        · exact .inl h
        · exact absurd h.2.symm hk
        · exact .inr ⟨h, e⟩
theorem closureFor_of {scope : Scope} {env : Env} (h : ∀ n, (n, NameKind.free) ∈ scope.names → ∃ c, env.cells.lookup n = some c) : closureFor scope env = pure (closOf env.cells scope.names []) := by
  have key : ∀ (names : List (Str × NameKind)) (cs : List (Str × Addr)), (∀ n, (n, NameKind.free) ∈ names → ∃ c, env.cells.lookup n = some c) →
      (forIn names cs fun x r => (match x with | (name, kind) => if (kind == NameKind.free) = true then (do let y ← cellOf env name; pure (ForInStep.yield ((name, y) :: r))) else pure (ForInStep.yield r) : Sem (ForInStep (List (Str × Addr))))) = pure (closOf env.cells names cs) := by
    intro names
    induction names with
    | nil => intro cs _; rfl
    | cons y r ih =>
      obtain ⟨n, k⟩ := y
      intro cs hn
      rw [List.forIn_cons]
      unfold closOf
      by_cases hk : k = .free
      · subst hk
        obtain ⟨c, hc⟩ := hn n (List.mem_cons_self)
        simp only [beq_self_eq_true, if_true, cellOf, hc, Option.getD_some]
        exact ih _ fun m hm => hn m (List.mem_cons_of_mem _ hm)
      · have hb : (k == NameKind.free) = false := by simpa using hk
        simp only [hb, Bool.false_eq_true, if_false]
        exact ih _ fun m hm => hn m (List.mem_cons_of_mem _ hm)
  unfold closureFor
  have := key scope.names [] h
  first
    | exact this
    | (simp only [bind_pure]; exact this)
    | (show (forIn scope.names [] _ >>= fun r => pure r) = _; rw [bind_pure]; exact this)
theorem lookup_snd {f : Str → NameKind → NameKind} : ∀ {names : List (Str × NameKind)} {x : Str}, (names.map fun y => (y.1, f y.1 y.2)).lookup x = (names.lookup x).map (f x)
  | [], x => rfl
  | (n, k) :: r, x => by
    have ih := @lookup_snd f r x
    rw [List.map_cons, List.lookup_cons, List.lookup_cons]
    by_cases hx : x = n
    · subst hx; simp
    · have hb : (x == n) = false := beq_eq_false_iff_ne.mpr hx
      simp only [hb]; exact ih
theorem lookup_relabel {scope : Scope} {env : Env} {x : Str} : (relabel scope env).names.lookup x =
      (scope.names.lookup x).map fun k => if (k == NameKind.free && env.scope.kind == .function && env.kindOf x == some .cell) then NameKind.cell else k := by
  rw [← lookup_snd (f := fun n k => if (k == NameKind.free && env.scope.kind == .function && env.kindOf n == some .cell) then NameKind.cell else k)]
  unfold relabel
  congr 1
  refine List.map_congr_left fun y _ => ?_
  obtain ⟨n, k⟩ := y
  dsimp only
  split <;> rfl
/-- the block's names stand at these places of the frame around, as cells -/
def capOk (N : List Str) (outer inner : List (Str × NameKind)) : List (Option Nat) → List Str → Bool
  | [], _ => true
  | _, [] => true
  | none :: r, _ :: xs => capOk N outer inner r xs
  | some j :: r, x :: xs => N[j]? == some x && outer.lookup x == some .cell && inner.lookup x == some .free && capOk N outer inner r xs
theorem capOk_get {N : List Str} {outer inner : List (Str × NameKind)} : ∀ {cap : List (Option Nat)} {cN : List Str}, capOk N outer inner cap cN = true → ∀ (i j : Nat) (x : Str), cap[i]? = some (some j) → cN[i]? = some x → N[j]? = some x ∧ outer.lookup x = some .cell ∧ inner.lookup x = some .free
  | [], _, _, i, j, x, h1, _ => by simp at h1
  | _ :: _, [], _, i, j, x, _, h2 => by simp at h2
  | none :: r, y :: xs, h, 0, j, x, h1, _ => by simp at h1
  | none :: r, y :: xs, h, i + 1, j, x, h1, h2 => capOk_get (cap := r) (cN := xs) (by simpa [capOk] using h) i j x (by simpa using h1) (by simpa using h2)
  | some k :: r, y :: xs, h, 0, j, x, h1, h2 => by
    simp only [capOk, Bool.and_eq_true, beq_iff_eq] at h
    simp at h1 h2
    subst h1 h2
    exact ⟨h.1.1.1, h.1.1.2, h.1.2⟩
  | some k :: r, y :: xs, h, i + 1, j, x, h1, h2 => by
    simp only [capOk, Bool.and_eq_true, beq_iff_eq] at h
    exact capOk_get (cap := r) (cN := xs) h.2 i j x (by simpa using h1) (by simpa using h2)
theorem lookup_of_mem {α β : Type} [BEq α] [LawfulBEq α] {x : α} : ∀ {l : List (α × β)} {b : β}, (x, b) ∈ l → ∃ c, l.lookup x = some c
  | [], _, h => by cases h
  | (y, c) :: r, b, h => by
    rw [List.lookup_cons]
    by_cases hx : x = y
    · subst hx; simp
    · have hb : (x == y) = false := beq_eq_false_iff_ne.mpr hx
      rw [hb]
      rcases List.mem_cons.mp h with e | h
      · cases e; exact absurd rfl hx
      · exact lookup_of_mem h
/-- a block that takes names of the frame around: in the frame they are cells -/
theorem compOkN {cN : List Str} {cap : List (Option Nat)} {scope : Scope} (ok : X.Ok) (hk : scope.kind = .function) (h1 : scope.names.all (fun y => y.2 != .cell) = true) (h2 : scope.names.all (fun y => y.2 != .local || scope.names.lookup y.1 == some .local) = true)
    (hl : cap.length = cN.length) (hf : (scope.names.all fun y => y.2 != .free || X.env.scope.names.lookup y.1 == some .cell) = true) (hc : capOk X.N X.env.scope.names scope.names cap cN = true) : CompOk X cN cap scope (closOf X.env.cells scope.names []) := by
  have hfr : ∀ n, (n, NameKind.free) ∈ scope.names → ∃ c, X.env.cells.lookup n = some c := fun n hn => by
    have := List.all_eq_true.mp hf _ hn
    simp only [bne_self_eq_false, Bool.false_or, beq_iff_eq] at this
    exact ok.has n (.inl this)
  refine ⟨closureFor_of hfr, fun n a h => ?_, fun y hy => ?_, hk, fun y hy e => ?_, hl, fun x h => ?_, fun i j x h1' h2' => ?_⟩
  · have m := PySem.mem_of_lookup h
    rw [closOf_mem] at m
    rcases m with m | ⟨m, e⟩
    · cases m
    · obtain ⟨c, hc⟩ := hfr n m
      simp only [hc, Option.getD_some] at e
      rw [hc, e]
  · have := List.all_eq_true.mp h1 y hy
    simpa using this
  · have := List.all_eq_true.mp h2 y hy
    simp only [Bool.or_eq_true, bne_iff_ne, ne_eq, beq_iff_eq] at this
    rcases this with q | q
    · exact absurd e q
    · exact q
  · have nc : ∀ k', (x, k') ∈ scope.names → k' ≠ .cell := fun k' hy => by
      have := List.all_eq_true.mp h1 _ hy
      simpa using this
    have m : (x, NameKind.free) ∈ scope.names := by
      rcases h with h | h
      · obtain ⟨k', hm, e⟩ := mem_relabel h
        rcases e with e | e
        · exact absurd e (nc k' hm)
        · subst e; exact hm
      · obtain ⟨k', hm, e⟩ := mem_relabel h
        rcases e with e | e <;> (subst e; exact hm)
    exact lookup_of_mem (b := (X.env.cells.lookup x).getD 0) (closOf_mem.mpr (.inr ⟨m, rfl⟩))
  · obtain ⟨q1, q2, q3⟩ := capOk_get hc i j x h1' h2'
    refine ⟨q1, .inr (.inl q2), (by rw [q2]; simp), ?_⟩
    rw [lookup_relabel, q3]
    simp only [Option.map_some, beq_self_eq_true, Bool.true_and]
    split
    · exact .inl rfl
    · exact .inr rfl
end
end L2
set_option Elab.async false
set_option linter.all false
set_option maxRecDepth 100000
set_option maxHeartbeats 4000000
namespace L2
open PySem PySem.Spec PyProof.Rows
theorem Same.upd {H H' : Hp} {p : Addr} {o : HO} (e : Same H H') (h : H p = none) : Same H (upd H' p o) := fun b u q => by
  rw [upd_ne (ne_of_none q h)]; exact e b u q
theorem Same.new {H : Hp} {p : Addr} {o : HO} (h : H p = none) : Same H (L2.upd H p o) := (Same.refl H).upd h
theorem Same.sqt {K : PySem.W.Frag} {H H' : Hp} {a : Addr} {xs : List V} (e : Same H H') (h : SqT K H a xs) : SqT K H' a xs := by
  rcases h with (h | ⟨o, h⟩) | h
  · exact .inl (.inl (e _ _ h))
  · exact .inl (.inr ⟨o, e _ _ h⟩)
  · exact .inr h
/-- the list grown so far, and what holds of it -/
def CN (p : Addr) (Pv : Nat → List V → Hp → Prop) (i : Nat) (H : Hp) : Prop := ∃ ys, H p = some (.lst ys) ∧ ys.length ≤ i ∧ Pv i ys H
theorem comp_iter {J : It} {p : Addr} {g : TG} {c : TT} {te : TE} {σc : St} {Q : Addr → Hp → Prop} {H1 : Hp} (n : Nat) (Pv : Nat → List V → Hp → Prop) (h0 : Pv 0 [] (upd H1 p (.lst [])))
    (go : ∀ i xs H, i < n → H p = some (.lst xs) → Pv i xs H → J.go i H)
    (step : ∀ i xs H x H', i < n → H p = some (.lst xs) → xs.length ≤ i → Pv i xs H → J.yld i H x H' → g x σc H' fun σ2 H2 => c σ2 H2 fun b H3 =>
      if b = true then te σ2 H3 fun v H4 => ∃ xs, H4 p = some (.lst xs) ∧ xs.length < sizeLine ∧ CN p Pv (i + 1) (upd H4 p (.lst (xs ++ [v]))) else CN p Pv (i + 1) H3)
    (done : ∀ xs H, H p = some (.lst xs) → xs.length ≤ n → Pv n xs H → J.stop n H ∧ Q p H) :
    ∃ W : Nat → Nat → Hp → Prop, (∃ m, W 0 m (upd H1 p (.lst []))) ∧ ∀ i m H, W i m H →
      (J.stop i H ∧ Q p H) ∨ (J.go i H ∧ ∃ N : Hp → Prop, (∀ H', N H' → ∃ m', m' < m ∧ W (i + 1) m' H') ∧ ∀ x H', J.yld i H x H' → g x σc H' fun σ2 H2 => c σ2 H2 fun b H3 =>
        if b = true then te σ2 H3 fun v H4 => ∃ xs, H4 p = some (.lst xs) ∧ xs.length < sizeLine ∧ N (upd H4 p (.lst (xs ++ [v]))) else N H3) := by
  refine ⟨fun i m H => m = n - i ∧ i ≤ n ∧ CN p Pv i H, ⟨n, by simp, Nat.zero_le _, [], upd_same, Nat.le_refl _, h0⟩, ?_⟩
  rintro i m H ⟨rfl, hi, xs, e, hl, hp⟩
  by_cases hlt : i < n
  · exact .inr ⟨go i xs H hlt e hp, CN p Pv (i + 1), fun H' q => ⟨n - (i + 1), by omega, rfl, hlt, q⟩, fun x H' y => step i xs H x H' hlt e hl hp y⟩
  · have e0 : i = n := by omega
    subst e0
    exact .inl (done xs H e hl hp)
section
variable {K : PySem.W.Frag} {cap : List (Option Nat)} {g : TG} {c : TT} {te : TE} {σ : St} {Q : Addr → Hp → Prop} {H : Hp}
/-- a comprehension over a text, by what holds of the list grown so far -/
theorem go_str {z : Str} (Pv : Addr → Nat → List V → Hp → Prop) (h0 : ∀ p, H p = none → Pv p 0 [] (upd H p (.lst [])))
    (step : ∀ p i xs H1 d, H p = none → z.cps[i]? = some d → H1 p = some (.lst xs) → xs.length ≤ i → Pv p i xs H1 → g (.str ⟨#[d]⟩) (capS cap σ) H1 fun σ2 H2 => c σ2 H2 fun b H3 =>
      if b = true then te σ2 H3 fun v H4 => ∃ xs, H4 p = some (.lst xs) ∧ xs.length < sizeLine ∧ CN p (Pv p) (i + 1) (upd H4 p (.lst (xs ++ [v]))) else CN p (Pv p) (i + 1) H3)
    (done : ∀ p xs H1, H p = none → H1 p = some (.lst xs) → xs.length ≤ z.cps.size → Pv p z.cps.size xs H1 → Q p H1) : tGo cap g c te σ Q (Its z) H := fun p hp => by
  refine comp_iter (J := Its z) z.cps.size (Pv p) (h0 p hp) (fun i xs H' hi _ _ => hi) (fun i xs H1 x H2 hi e hl hP y => ?_) fun xs H1 e hl hP => ⟨rfl, done p xs H1 hp e hl hP⟩
  obtain ⟨rfl, d, hd, rfl⟩ := y
  exact step p i xs H2 d hp hd e hl hP
theorem go_range {lo : Int} {n : Nat} (Pv : Addr → Nat → List V → Hp → Prop) (h0 : ∀ p, H p = none → Pv p 0 [] (upd H p (.lst [])))
    (step : ∀ p i xs H1, H p = none → i < n → H1 p = some (.lst xs) → xs.length ≤ i → Pv p i xs H1 → g (.int (lo + i)) (capS cap σ) H1 fun σ2 H2 => c σ2 H2 fun b H3 =>
      if b = true then te σ2 H3 fun v H4 => ∃ xs, H4 p = some (.lst xs) ∧ xs.length < sizeLine ∧ CN p (Pv p) (i + 1) (upd H4 p (.lst (xs ++ [v]))) else CN p (Pv p) (i + 1) H3)
    (done : ∀ p xs H1, H p = none → H1 p = some (.lst xs) → xs.length ≤ n → Pv p n xs H1 → Q p H1) : tGo cap g c te σ Q (Itr lo n) H := fun p hp => by
  refine comp_iter (J := Itr lo n) n (Pv p) (h0 p hp) (fun i xs H' hi _ _ => hi) (fun i xs H1 x H2 hi e hl hP y => ?_) fun xs H1 e hl hP => ⟨Nat.le_refl _, done p xs H1 hp e hl hP⟩
  obtain ⟨rfl, rfl⟩ := y
  exact step p i xs H2 hp hi e hl hP
theorem go_list {a : Addr} {zs : List V} (Pv : Addr → Nat → List V → Hp → Prop) (h0 : ∀ p, H p = none → Pv p 0 [] (upd H p (.lst []))) (hl : ∀ p i xs H1, H p = none → Pv p i xs H1 → SqL K H1 a zs)
    (step : ∀ p i xs H1 d, H p = none → zs[i]? = some d → H1 p = some (.lst xs) → xs.length ≤ i → Pv p i xs H1 → g d (capS cap σ) H1 fun σ2 H2 => c σ2 H2 fun b H3 =>
      if b = true then te σ2 H3 fun v H4 => ∃ xs, H4 p = some (.lst xs) ∧ xs.length < sizeLine ∧ CN p (Pv p) (i + 1) (upd H4 p (.lst (xs ++ [v]))) else CN p (Pv p) (i + 1) H3)
    (done : ∀ p xs H1, H p = none → H1 p = some (.lst xs) → xs.length ≤ zs.length → Pv p zs.length xs H1 → Q p H1) : tGo cap g c te σ Q (Itl K a) H := fun p hp => by
  refine comp_iter (J := Itl K a) zs.length (Pv p) (h0 p hp) (fun i xs H' hi _ hP => ⟨zs, zs[i], hl p i xs H' hp hP, by simp [hi]⟩) (fun i xs H1 x H2 hi e hle hP y => ?_) fun xs H1 e hle hP => ⟨⟨zs, hl p _ xs H1 hp hP, Nat.le_refl _⟩, done p xs H1 hp e hle hP⟩
  obtain ⟨rfl, y⟩ := y
  exact step p i xs H2 x hp (y zs (hl p i xs H2 hp hP)) e hle hP
theorem go_tup {a : Addr} {zs : List V} (Pv : Addr → Nat → List V → Hp → Prop) (h0 : ∀ p, H p = none → Pv p 0 [] (upd H p (.lst []))) (hl : ∀ p i xs H1, H p = none → Pv p i xs H1 → SqT K H1 a zs)
    (step : ∀ p i xs H1 d, H p = none → zs[i]? = some d → H1 p = some (.lst xs) → xs.length ≤ i → Pv p i xs H1 → g d (capS cap σ) H1 fun σ2 H2 => c σ2 H2 fun b H3 =>
      if b = true then te σ2 H3 fun v H4 => ∃ xs, H4 p = some (.lst xs) ∧ xs.length < sizeLine ∧ CN p (Pv p) (i + 1) (upd H4 p (.lst (xs ++ [v]))) else CN p (Pv p) (i + 1) H3)
    (done : ∀ p xs H1, H p = none → H1 p = some (.lst xs) → xs.length ≤ zs.length → Pv p zs.length xs H1 → Q p H1) : tGo cap g c te σ Q (Itt K a) H := fun p hp => by
  refine comp_iter (J := Itt K a) zs.length (Pv p) (h0 p hp) (fun i xs H' hi _ hP => ⟨zs, zs[i], hl p i xs H' hp hP, by simp [hi]⟩) (fun i xs H1 x H2 hi e hle hP y => ?_) fun xs H1 e hle hP => ⟨⟨zs, hl p _ xs H1 hp hP, Nat.le_refl _⟩, done p xs H1 hp e hle hP⟩
  obtain ⟨rfl, y⟩ := y
  exact step p i xs H2 x hp (y zs (hl p i xs H2 hp hP)) e hle hP
end
/-- a for's turns -/
def tForGo (g : TG) (tb : TS) (D : Ends) (σ : St) (J : It) (H1 : Hp) : Prop := ∃ W : Nat → Nat → St → Hp → Prop, (∃ m, W 0 m σ H1) ∧ ∀ i m σ H, W i m σ H →
  (J.stop i H ∧ D.nx σ H) ∨ (J.go i H ∧ ∃ N : St → Hp → Prop, (∀ σ' H', N σ' H' → ∃ m', m' < m ∧ W (i + 1) m' σ' H') ∧ ∀ x H', J.yld i H x H' → g x σ H' fun σ2 H2 => tb { D with nx := N, ct := N, bk := D.nx } σ2 H2)
theorem tFor_eq {wi : TI} {g : TG} {tb : TS} {D : Ends} {σ : St} {H : Hp} : tFor wi g tb D σ H = wi σ H fun J H1 => tForGo g tb D σ J H1 := rfl
section
variable {K : PySem.W.Frag} {a : Addr} {xs : List V} {g : TG} {tb : TS} {D : Ends} {σ : St} {H : Hp} {z : Str}
theorem fo_list (Pv : Nat → St → Hp → Prop) (h0 : Pv 0 σ H) (hl : ∀ i σ H, i ≤ xs.length → Pv i σ H → SqL K H a xs)
    (hs : ∀ i x σ H, xs[i]? = some x → Pv i σ H → g x σ H fun σ2 H2 => tb { D with nx := Pv (i + 1), ct := Pv (i + 1), bk := D.nx } σ2 H2) (hd : ∀ σ H, Pv xs.length σ H → D.nx σ H) : tForGo g tb D σ (Itl K a) H := for_list Pv h0 hl hs hd
theorem fo_tup (Pv : Nat → St → Hp → Prop) (h0 : Pv 0 σ H) (hl : ∀ i σ H, i ≤ xs.length → Pv i σ H → SqT K H a xs)
    (hs : ∀ i x σ H, xs[i]? = some x → Pv i σ H → g x σ H fun σ2 H2 => tb { D with nx := Pv (i + 1), ct := Pv (i + 1), bk := D.nx } σ2 H2) (hd : ∀ σ H, Pv xs.length σ H → D.nx σ H) : tForGo g tb D σ (Itt K a) H := for_tup Pv h0 hl hs hd
theorem fo_range {lo : Int} {n : Nat} (Pv : Nat → St → Hp → Prop) (h0 : Pv 0 σ H)
    (hs : ∀ i σ H, i < n → Pv i σ H → g (.int (lo + i)) σ H fun σ2 H2 => tb { D with nx := Pv (i + 1), ct := Pv (i + 1), bk := D.nx } σ2 H2) (hd : ∀ σ H, Pv n σ H → D.nx σ H) : tForGo g tb D σ (Itr lo n) H := for_range Pv h0 hs hd
theorem fo_str (Pv : Nat → St → Hp → Prop) (h0 : Pv 0 σ H)
    (hs : ∀ i c σ H, z.cps[i]? = some c → Pv i σ H → g (.str ⟨#[c]⟩) σ H fun σ2 H2 => tb { D with nx := Pv (i + 1), ct := Pv (i + 1), bk := D.nx } σ2 H2) (hd : ∀ σ H, Pv z.cps.size σ H → D.nx σ H) : tForGo g tb D σ (Its z) H := for_str Pv h0 hs hd
theorem fo_enum (Pv : Nat → St → Hp → Prop) (h0 : Pv 0 σ H)
    (hs : ∀ i c T σ H, z.cps[i]? = some c → Pv i σ H → H T = none → g (.ref T) σ (upd H T (.tup [.int i, .str ⟨#[c]⟩])) fun σ2 H2 => tb { D with nx := Pv (i + 1), ct := Pv (i + 1), bk := D.nx } σ2 H2) (hd : ∀ σ H, Pv z.cps.size σ H → D.nx σ H) : tForGo g tb D σ (Ite z) H := for_enum Pv h0 hs hd
end
theorem tyL {K : PySem.W.Frag} {H : Hp} {r : Addr} {xs : List V} (h : H r = some (.lst xs)) : tyV K "list" (.ref r) H := by
  unfold tyV
  exact .inl ⟨rfl, xs, SqL.of h⟩
theorem atI_in {α : Type} {xs : List α} {i : Int} (h0 : 0 ≤ i) (h1 : i < (xs.length : Int)) : ∃ v, atI xs i = some v ∧ v ∈ xs := by
  have hk : i.toNat < xs.length := by omega
  have ek : ((i.toNat : Nat) : Int) = i := by omega
  have q : atI xs ((i.toNat : Nat) : Int) = some xs[i.toNat] := atI_nat (by simp [hk])
  rw [ek] at q
  exact ⟨xs[i.toNat], q, List.getElem_mem hk⟩
theorem atI_ints {ds : List Int} {i : Int} (h0 : 0 ≤ i) (h1 : i < (ds.length : Int)) : ∃ d, atI (ds.map V.int) i = some (.int d) ∧ d ∈ ds := by
  obtain ⟨v, h, m⟩ := atI_in (xs := ds.map V.int) h0 (by simpa using h1)
  obtain ⟨d, hd, rfl⟩ := List.mem_map.mp m
  exact ⟨d, h, hd⟩
theorem atI_strs {ds : List Str} {i : Int} (h0 : 0 ≤ i) (h1 : i < (ds.length : Int)) : ∃ d, atI (ds.map V.str) i = some (.str d) ∧ d ∈ ds := by
  obtain ⟨v, h, m⟩ := atI_in (xs := ds.map V.str) h0 (by simpa using h1)
  obtain ⟨d, hd, rfl⟩ := List.mem_map.mp m
  exact ⟨d, h, hd⟩
theorem lt_size {n : Nat} (h : n ≤ 1000) : n < sizeLine := small1000 h
theorem cx_K {CX : CXT} {P : Program} {w : World} {K : PySem.W.Frag} {mg : Str → Option Value} {base : Heap} {N : List Str} {qual : Str} {scope : Scope} {f : Addr} {cd : Value} {A : Around} {outer : List Env} {s : Shared} {H : Hp} {E : XK} :
    (cxOf CX P w K mg base N qual scope f cd A outer s H E).K = K := rfl
theorem small_z {n : Nat} (h : n ≤ 1000) : n ≤ sizeLine := Nat.le_of_lt (small1000 h)
end L2
set_option Elab.async false
set_option linter.all false
set_option maxRecDepth 100000
set_option maxHeartbeats 4000000
namespace L2
open PySem PySem.Spec PyProof.Rows
/-! ### lists of pairs as tables -/
section
variable {κ : Type} [DecidableEq κ]
def valV (kvs : List (κ × V)) (k : κ) : Option V := (kvs.find? fun kv => decide (kv.1 = k)).map (·.2)
/-- in its place, or at the end -/
def putK (kvs : List (κ × V)) (k : κ) (v : V) : List (κ × V) :=
  if (kvs.any fun kv => decide (kv.1 = k)) = true then kvs.map (fun kv => if kv.1 = k then (kv.1, v) else kv) else kvs ++ [(k, v)]
def dropK (kvs : List (κ × V)) (k : κ) : List (κ × V) := kvs.filter fun kv => decide (kv.1 ≠ k)
theorem valV_nil {k : κ} : valV ([] : List (κ × V)) k = none := rfl
theorem valV_pos {p : κ × V} {r : List (κ × V)} {k : κ} (e : p.1 = k) : valV (p :: r) k = some p.2 := by simp [valV, List.find?_cons, e]
theorem valV_neg {p : κ × V} {r : List (κ × V)} {k : κ} (e : ¬ p.1 = k) : valV (p :: r) k = valV r k := by simp [valV, List.find?_cons, e]
theorem valV_any (k : κ) : ∀ kvs : List (κ × V), (kvs.any fun kv => decide (kv.1 = k)) = (valV kvs k).isSome
  | [] => rfl
  | p :: r => by
    rw [List.any_cons]
    by_cases e : p.1 = k
    · simp only [valV_pos e, decide_eq_true e, Bool.true_or, Option.isSome_some]
    · rw [valV_neg e, decide_eq_false e, Bool.false_or]; exact valV_any k r
theorem valV_map (k j : κ) (y : V) : ∀ kvs : List (κ × V), valV (kvs.map fun kv => if kv.1 = k then (kv.1, y) else kv) j = (valV kvs j).map fun x => if j = k then y else x
  | [] => rfl
  | p :: r => by
    have ih := valV_map k j y r
    rw [List.map_cons]
    by_cases h : p.1 = k
    · rw [if_pos h]
      by_cases e : p.1 = j
      · rw [valV_pos (p := (p.1, y)) e, valV_pos e, Option.map_some, if_pos (e.symm.trans h)]
      · rw [valV_neg (p := (p.1, y)) e, valV_neg e, ih]
    · rw [if_neg h]
      by_cases e : p.1 = j
      · rw [valV_pos (p := p) e, valV_pos e, Option.map_some, if_neg (fun z => h (e.trans z))]
      · rw [valV_neg (p := p) e, valV_neg e, ih]
theorem valV_snoc (k j : κ) (y : V) : ∀ kvs : List (κ × V), valV kvs k = none → valV (kvs ++ [(k, y)]) j = if j = k then some y else valV kvs j
  | [], _ => by
    by_cases e : k = j
    · rw [if_pos e.symm]; exact valV_pos (p := (k, y)) e
    · rw [if_neg (fun z => e z.symm)]; exact valV_neg (p := (k, y)) e
  | p :: r, hn => by
    rw [List.cons_append]
    have hk : ¬ p.1 = k := fun z => by rw [valV_pos z] at hn; cases hn
    rw [valV_neg hk] at hn
    have ih := valV_snoc k j y r hn
    by_cases e : p.1 = j
    · rw [valV_pos e, valV_pos e, if_neg (fun z => hk (e.trans z))]
    · rw [valV_neg e, valV_neg e, ih]
theorem valV_put (kvs : List (κ × V)) (k j : κ) (y : V) : valV (putK kvs k y) j = if j = k then some y else valV kvs j := by
  unfold putK
  by_cases a : (kvs.any fun kv => decide (kv.1 = k)) = true
  · rw [if_pos a, valV_map]
    rw [valV_any] at a
    by_cases e : j = k
    · obtain ⟨x, hx⟩ := Option.isSome_iff_exists.mp a
      rw [if_pos e, e, hx, Option.map_some, if_pos rfl]
    · rw [if_neg e]
      cases valV kvs j with
      | none => rfl
      | some x => rw [Option.map_some, if_neg e]
  · rw [if_neg a]
    refine valV_snoc k j y kvs ?_
    rw [valV_any] at a
    cases q : valV kvs k with
    | none => rfl
    | some x => rw [q] at a; exact (a rfl).elim
theorem length_putK (kvs : List (κ × V)) (k : κ) (v : V) : (putK kvs k v).length ≤ kvs.length + 1 := by
  unfold putK
  split
  · rw [List.length_map]; omega
  · rw [List.length_append, List.length_cons, List.length_nil]; omega
theorem putK_new {kvs : List (κ × V)} {k : κ} (v : V) (h : valV kvs k = none) : putK kvs k v = kvs ++ [(k, v)] := by
  unfold putK
  rw [valV_any, h]
  exact if_neg (by decide)
theorem RelO.isSome_eq {o : Option V} {u : Option Value} (r : RelO o u) : o.isSome = u.isSome := by
  cases o with
  | none => cases u with
    | none => rfl
    | some _ => exact (show False from r).elim
  | some _ => cases u with
    | none => exact (show False from r).elim
    | some _ => rfl
theorem RelO.getD {o : Option V} {u : Option Value} {d : V} {d' : Value} (r : RelO o u) (rd : RelV d d') : RelV (o.getD d) (u.getD d') := by
  cases o with
  | none => cases u with
    | none => exact rd
    | some _ => exact (show False from r).elim
  | some _ => cases u with
    | none => exact (show False from r).elim
    | some _ => exact r
/-- raw tables of the same keys -/
theorem KV.val {kvs : List (κ × V)} {vs : List (κ × Value)} (r : KV kvs vs) (k : κ) : RelO (valV kvs k) (valueAt vs k) := by
  unfold KV at r
  induction r with
  | nil => exact True.intro
  | @cons p q ps qs h t ih =>
    obtain ⟨h1, h2⟩ := h
    by_cases e : p.1 = k
    · have e' : q.1 = k := h1.symm.trans e
      have b : valueAt (q :: qs) k = some q.2 := by simp [valueAt, List.find?_cons, e']
      rw [valV_pos e, b]; exact h2
    · have e' : ¬ q.1 = k := fun z => e (h1.trans z)
      have b : valueAt (q :: qs) k = valueAt qs k := by simp [valueAt, List.find?_cons, e']
      rw [valV_neg e, b]; exact ih
theorem KV.any {kvs : List (κ × V)} {vs : List (κ × Value)} (r : KV kvs vs) (k : κ) : (kvs.any fun kv => decide (kv.1 = k)) = vs.any fun kv => decide (kv.1 = k) := by
  unfold KV at r
  induction r with
  | nil => rfl
  | cons h t ih => rw [List.any_cons, List.any_cons, ih, h.1]
theorem KV.repl {kvs : List (κ × V)} {vs : List (κ × Value)} (r : KV kvs vs) (k : κ) {y : V} {u : Value} (ry : RelV y u) :
    KV (kvs.map fun kv => if kv.1 = k then (kv.1, y) else kv) (vs.map fun kv => if kv.1 = k then (kv.1, u) else kv) := by
  unfold KV at r ⊢
  induction r with
  | nil => exact .nil
  | @cons p q ps qs h t ih =>
    rw [List.map_cons, List.map_cons]
    refine .cons ?_ ih
    obtain ⟨h1, h2⟩ := h
    by_cases e : p.1 = k
    · rw [if_pos e, if_pos (h1.symm.trans e)]; exact ⟨h1, ry⟩
    · rw [if_neg e, if_neg (fun z => e (h1.trans z))]; exact ⟨h1, h2⟩
theorem KV.put {kvs : List (κ × V)} {vs : List (κ × Value)} (r : KV kvs vs) (k : κ) {y : V} {u : Value} (ry : RelV y u) : KV (putK kvs k y) (stored vs k u) := by
  unfold putK stored
  rw [r.any k]
  by_cases e : (vs.any fun kv => decide (kv.1 = k)) = true
  · rw [if_pos e, if_pos e]; exact r.repl k ry
  · rw [if_neg e, if_neg e]; exact Paired.snoc r ⟨rfl, ry⟩
theorem KV.drop {kvs : List (κ × V)} {vs : List (κ × Value)} (r : KV kvs vs) (k : κ) : KV (dropK kvs k) (without vs k) := by
  unfold KV at r ⊢
  unfold dropK without
  induction r with
  | nil => exact .nil
  | @cons p q ps qs h t ih =>
    obtain ⟨h1, h2⟩ := h
    rw [List.filter_cons, List.filter_cons]
    by_cases e : p.1 = k
    · have a : ¬ decide (p.1 ≠ k) = true := by simp [e]
      have b : ¬ decide (q.1 ≠ k) = true := by simp [h1.symm.trans e]
      rw [if_neg a, if_neg b]; exact ih
    · have e' : ¬ q.1 = k := fun z => e (h1.trans z)
      have a : decide (p.1 ≠ k) = true := by simp [e]
      have b : decide (q.1 ≠ k) = true := by simp [e']
      rw [if_pos a, if_pos b]; exact .cons ⟨h1, h2⟩ ih
theorem KV.keys {kvs : List (κ × V)} {vs : List (κ × Value)} (r : KV kvs vs) : kvs.map (·.1) = vs.map (·.1) := by
  unfold KV at r
  induction r with
  | nil => rfl
  | cons h t ih => rw [List.map_cons, List.map_cons, ih, h.1]
theorem KV.length {kvs : List (κ × V)} {vs : List (κ × Value)} (r : KV kvs vs) : kvs.length = vs.length := Paired.length r
theorem dropK_le (kvs : List (κ × V)) (k : κ) : (dropK kvs k).length ≤ kvs.length := List.length_filter_le _ _
end
/-! ### a tracked dict, its keys ints and texts or tuples of these -/
theorem kV_is {P : Program} {w : World} {k : Key} {u : Value} (r : RelV (kV k) u) : (mixKind P w).is k u = true := by
  cases k with
  | inl i => obtain ⟨t, e⟩ := (show ∃ t, u = Value.int i t from r); subst e; exact mixKind_int P w i t
  | inr x => obtain ⟨t, e⟩ := (show ∃ t, u = Value.str x t from r); subst e; exact mixKind_str P w x t
theorem kV_inj {a b : Key} (e : kV a = kV b) : a = b := by
  cases a with
  | inl i => cases b with
    | inl j => have e' : V.int i = V.int j := e; injection e' with e'; rw [e']
    | inr y => exact nomatch (show V.int i = V.str y from e)
  | inr x => cases b with
    | inl j => exact nomatch (show V.str x = V.int j from e)
    | inr y => have e' : V.str x = V.str y := e; injection e' with e'; rw [e']
theorem kVs_inj : ∀ {a b : List Key}, a.map kV = b.map kV → a = b
  | [], [], _ => rfl
  | [], _ :: _, e => by simp at e
  | _ :: _, [], e => by simp at e
  | x :: xs, y :: ys, e => by
    rw [List.map_cons, List.map_cons] at e
    injection e with e1 e2
    rw [kV_inj e1, kVs_inj e2]
theorem items_are {P : Program} {w : World} : ∀ {ks : List Key} {us : List Value}, Vals (ks.map kV) us → ItemsAre (mixKind P w) ks us
  | [], _, r => by rw [List.map_nil] at r; cases r; exact .nil
  | k :: ks, _, r => by
    rw [List.map_cons] at r
    cases r with
    | cons h t => exact .cons (kV_is h) (items_are t)
/-- raw entries of a dict with tuple keys -/
abbrev KT (H : Hp) : List (List Key × V) → List (List Key × Addr × Value) → Prop := Paired fun p q => p.1 = q.1 ∧ H q.2.1 = some (.tup (p.1.map kV)) ∧ RelV p.2 q.2.2
theorem KT.val {H : Hp} {kvs : List (List Key × V)} {xs : List (List Key × Addr × Value)} (r : KT H kvs xs) (k : List Key) : RelO (valV kvs k) ((atKey xs k).map (·.2)) := by
  induction r with
  | nil => exact True.intro
  | @cons p q ps qs h t ih =>
    obtain ⟨h1, _, h2⟩ := h
    by_cases e : p.1 = k
    · have e' : q.1 = k := h1.symm.trans e
      have b : atKey (q :: qs) k = some q.2 := by simp [atKey, List.find?_cons, e']
      rw [valV_pos e, b]; exact h2
    · have e' : ¬ q.1 = k := fun z => e (h1.trans z)
      have b : atKey (q :: qs) k = atKey qs k := by simp [atKey, List.find?_cons, e']
      rw [valV_neg e, b]; exact ih
theorem KT.repl {H : Hp} {kvs : List (List Key × V)} {xs : List (List Key × Addr × Value)} (r : KT H kvs xs) (k : List Key) {y : V} {u : Value} (ry : RelV y u) :
    KT H (kvs.map fun kv => if kv.1 = k then (kv.1, y) else kv) (xs.map (putAt k u)) := by
  induction r with
  | nil => exact .nil
  | @cons p q ps qs h t ih =>
    rw [List.map_cons, List.map_cons]
    refine .cons ?_ ih
    obtain ⟨h1, h2, h3⟩ := h
    unfold putAt
    by_cases e : p.1 = k
    · rw [if_pos e, if_pos (h1.symm.trans e)]; exact ⟨h1, h2, ry⟩
    · rw [if_neg e, if_neg (fun z => e (h1.trans z))]; exact ⟨h1, h2, h3⟩
theorem KT.put {H : Hp} {kvs : List (List Key × V)} {xs : List (List Key × Addr × Value)} (r : KT H kvs xs) (k : List Key) {b : Addr} {y : V} {u : Value} (hb : H b = some (.tup (k.map kV))) (ry : RelV y u) :
    KT H (putK kvs k y) (storedH xs k b u) := by
  have e : (kvs.any fun kv => decide (kv.1 = k)) = (atKey xs k).isSome := by
    rw [valV_any, (r.val k).isSome_eq, Option.isSome_map]
  unfold putK storedH
  rw [e]
  by_cases q : (atKey xs k).isSome = true
  · rw [if_pos q, if_pos q]; exact r.repl k ry
  · rw [if_neg q, if_neg q]; exact Paired.snoc r ⟨rfl, hb, ry⟩
theorem KT.keeps {H H' : Hp} {kvs : List (List Key × V)} {xs : List (List Key × Addr × Value)} (r : KT H kvs xs) (ht : ∀ b ys, H b = some (.tup ys) → H' b = some (.tup ys)) : KT H' kvs xs :=
  Paired.mapP r fun _ _ z => ⟨z.1, ht _ _ z.2.1, z.2.2⟩
section
variable {P : Program} {w : World} {H : Hp} {h : Heap} {a : Addr}
theorem rd_of {u : HO} (ok : HOk P w H h) (e : Rd H a u) : ObjOk P w H h a u := e.ok ok
theorem dk_rd {kvs : List (Key × V)} (ok : HOk P w H h) (e : Rd H a (.dK kvs)) : kvs.length ≤ sizeLine ∧ (a == sysModules) = false ∧ ∃ vs, KV kvs vs ∧ h.DictOf (mixKind P w) a vs :=
  show ObjOk P w H h a (.dK kvs) from rd_of ok e
theorem dk_of {kvs : List (Key × V)} (ok : HOk P w H h) (e : H a = some (.dK kvs)) : kvs.length ≤ sizeLine ∧ (a == sysModules) = false ∧ ∃ vs, KV kvs vs ∧ h.DictOf (mixKind P w) a vs := dk_rd ok (.inl e)
/-- a tracked tuple of ints and texts is a key -/
theorem key_of {ks : List Key} (ok : HOk P w H h) (e : H a = some (.tup (ks.map kV))) : (tupleKind (mixKind P w)).is h ks a := by
  obtain ⟨_, its, r, o, h1, h2, n, h3⟩ := (show ObjOk P w H h a (.tup (ks.map kV)) from ok a _ e)
  exact ⟨o, its.toArray, n, h1, h2, h3, by simpa using items_are r⟩
theorem dt_rd {kvs : List (List Key × V)} (ok : HOk P w H h) (e : Rd H a (.dT kvs)) : kvs.length ≤ sizeLine ∧ (a == sysModules) = false ∧
    ∃ xs, KT H kvs xs ∧ h.DictOfH (tupleKind (mixKind P w)) a xs := by
  obtain ⟨z, y, xs, r, o, es, ep, h1, h2, h3, h4, h5⟩ := (show ObjOk P w H h a (.dT kvs) from rd_of ok e)
  refine ⟨z, y, xs, r, o, es, ep, h1, h2, h3, h4, fun x hx => ?_, h5⟩
  have all : ∀ {l : List (List Key × V)} {m : List (List Key × Addr × Value)}, KT H l m → ∀ x ∈ m, (tupleKind (mixKind P w)).is h x.1 x.2.1 := by
    intro l m q
    induction q with
    | nil => intro x hx; exact nomatch hx
    | @cons p q ps qs hq t ih =>
      intro x hx
      rcases List.mem_cons.mp hx with e | hx
      · subst e
        exact key_of ok (by rw [← hq.1]; exact hq.2.1)
      · exact ih x hx
  exact all r x hx
theorem dt_of {kvs : List (List Key × V)} (ok : HOk P w H h) (e : H a = some (.dT kvs)) : kvs.length ≤ sizeLine ∧ (a == sysModules) = false ∧
    ∃ xs, KT H kvs xs ∧ h.DictOfH (tupleKind (mixKind P w)) a xs := dt_rd ok (.inl e)
end
/-- what the dict at a holds at the key y -/
def DGet (H : Hp) (a : Addr) (y : V) (r : Option V) : Prop :=
  (∃ kvs k, Rd H a (.dK kvs) ∧ y = kV k ∧ r = valV kvs k) ∨ ∃ kvs k b, Rd H a (.dT kvs) ∧ y = .ref b ∧ H b = some (.tup (k.map kV)) ∧ r = valV kvs k
/-- the heap behind a[y] = v -/
def DPut (H : Hp) (a : Addr) (y v : V) (H' : Hp) : Prop :=
  (∃ kvs k, H a = some (.dK kvs) ∧ y = kV k ∧ kvs.length < sizeLine ∧ H' = upd H a (.dK (putK kvs k v))) ∨
  ∃ kvs k b, H a = some (.dT kvs) ∧ y = .ref b ∧ H b = some (.tup (k.map kV)) ∧ kvs.length < sizeLine ∧ H' = upd H a (.dT (putK kvs k v))
theorem DGet.k {H : Hp} {a : Addr} {kvs : List (Key × V)} {k : Key} (e : H a = some (.dK kvs)) : DGet H a (kV k) (valV kvs k) := .inl ⟨kvs, k, .inl e, rfl, rfl⟩
theorem DGet.t {H : Hp} {a b : Addr} {kvs : List (List Key × V)} {k : List Key} (e : H a = some (.dT kvs)) (eb : H b = some (.tup (k.map kV))) : DGet H a (.ref b) (valV kvs k) := .inr ⟨kvs, k, b, .inl e, rfl, eb, rfl⟩
theorem DPut.k {H : Hp} {a : Addr} {kvs : List (Key × V)} {k : Key} {v : V} (e : H a = some (.dK kvs)) (hl : kvs.length < sizeLine) : DPut H a (kV k) v (upd H a (.dK (putK kvs k v))) := .inl ⟨kvs, k, e, rfl, hl, rfl⟩
theorem DPut.t {H : Hp} {a b : Addr} {kvs : List (List Key × V)} {k : List Key} {v : V} (e : H a = some (.dT kvs)) (eb : H b = some (.tup (k.map kV))) (hl : kvs.length < sizeLine) :
    DPut H a (.ref b) v (upd H a (.dT (putK kvs k v))) := .inr ⟨kvs, k, b, e, rfl, eb, hl, rfl⟩
section
variable {X : Cx} {pins : List (Addr × Obj)} {σ : St} {H : Hp} {s : Shared} {a : Addr} {y v : V} {u r : Value} {o : Option V} {A : Around} {E : Value → Shared → Prop}
theorem Inv.big (I : Inv X pins σ H s) : sysModules < s.heap.objs.size := by
  have h : mainGlobals < s.heap.objs.size := (I.mod.glob.keeps I.bk).lt
  exact Nat.lt_trans (by decide) h
/-- d[y], there -/
theorem d_getItem {Q : Value → Shared → Prop} (hu : A.units + 1 < cLine) (I : Inv X pins σ H s) (g : DGet H a y (some v)) (ry : RelV y u) (h : ∀ w' s', Inv X pins σ H s' → RelV v w' → Q w' s') :
    wpAny (model X.prog X.w) A (getItem (.ref a) u) Q E s := by
  rcases g with ⟨kvs, k, e, ey, l⟩ | ⟨kvs, k, b, e, ey, eb, l⟩
  · subst ey
    obtain ⟨z, hd, vs, rel, dd⟩ := dk_rd I.hok e
    obtain ⟨w', hw, rw'⟩ := RelO.some_of (v := v) (o := valueAt vs k) (by rw [l]; exact rel.val k)
    exact wpAny_getItem_of (kV_is ry) dd.mapOf hw (h w' _ (I.tok _) rw')
  · subst ey
    cases (show u = Value.ref b from ry)
    obtain ⟨z, hd, xs, rel, dd⟩ := dt_rd I.hok e
    obtain ⟨w', hw, rw'⟩ := RelO.some_of (v := v) (o := (atKey xs k).map (·.2)) (by rw [l]; exact rel.val k)
    obtain ⟨p, hp, hp2⟩ := Option.map_eq_some_iff.mp hw
    refine wpAny_getItem_heap (tupleKind_room_in1 hu) (key_of I.hok eb) dd hp ?_
    rw [hp2]
    exact h w' _ (I.tok _) rw'
/-- y in d -/
theorem d_in {Q : Value → Shared → Prop} (hu : A.units + 1 < cLine) (I : Inv X pins σ H s) (g : DGet H a y o) (ry : RelV y u) (h : ∀ s', Inv X pins σ H s' → Q (.bool o.isSome) s') :
    wpAny (model X.prog X.w) A (compareOp .In u (.ref a)) Q E s := by
  rcases g with ⟨kvs, k, e, ey, l⟩ | ⟨kvs, k, b, e, ey, eb, l⟩
  · subst ey
    obtain ⟨z, hd, vs, rel, dd⟩ := dk_rd I.hok e
    refine wpAny_in_of (kV_is ry) hd dd.mapOf ?_
    rw [← (rel.val k).isSome_eq, ← l]
    exact h _ (I.tok _)
  · subst ey
    cases (show u = Value.ref b from ry)
    obtain ⟨z, hd, xs, rel, dd⟩ := dt_rd I.hok e
    refine wpAny_in_heap (tupleKind_room_in1 hu) (key_of I.hok eb) hd dd ?_
    have q := (rel.val k).isSome_eq
    rw [Option.isSome_map] at q
    rw [← q, ← l]
    exact h _ (I.tok _)
theorem d_notIn {Q : Value → Shared → Prop} (hu : A.units + 1 < cLine) (I : Inv X pins σ H s) (g : DGet H a y o) (ry : RelV y u) (h : ∀ s', Inv X pins σ H s' → Q (.bool (!o.isSome)) s') :
    wpAny (model X.prog X.w) A (compareOp .NotIn u (.ref a)) Q E s := by
  rcases g with ⟨kvs, k, e, ey, l⟩ | ⟨kvs, k, b, e, ey, eb, l⟩
  · subst ey
    obtain ⟨z, hd, vs, rel, dd⟩ := dk_rd I.hok e
    refine wpAny_notIn_of (kV_is ry) hd dd.mapOf ?_
    rw [← (rel.val k).isSome_eq, ← l]
    exact h _ (I.tok _)
  · subst ey
    cases (show u = Value.ref b from ry)
    obtain ⟨z, hd, xs, rel, dd⟩ := dt_rd I.hok e
    refine wpAny_notIn_heap (tupleKind_room_in1 hu) (key_of I.hok eb) hd dd ?_
    have q := (rel.val k).isSome_eq
    rw [Option.isSome_map] at q
    rw [← q, ← l]
    exact h _ (I.tok _)
/-- a dict's object is replaced -/
theorem d_write {h' : Heap} {t' : Nat} {ob : HO} (I : Inv X pins σ H s) (mu : Mut (H a)) (hs : Heap.SameBut a s.heap h') (he : ∃ q, h'.get? a = some q) (new : ObjOk X.prog X.w (upd H a ob) h' a ob) :
    Inv X pins σ (upd H a ob) { s with heap := h', toks := t' } :=
  I.write (x := a) (e := a) mu (.inl rfl) (fun b q hb z => (hs.2 b hb).trans z) he new
theorem dk_new {P : Program} {w : World} {H' : Hp} {h' : Heap} {kvs : List (Key × V)} {vs : List (Key × Value)} (z : kvs.length ≤ sizeLine) (hd : (a == sysModules) = false) (rel : KV kvs vs) (dd : h'.DictOf (mixKind P w) a vs) :
    ObjOk P w H' h' a (.dK kvs) := ⟨z, hd, vs, rel, dd⟩
/-- d[y] = v -/
theorem d_setItem {H' : Hp} {Q : Unit → Shared → Prop} (hu : A.units + 1 < cLine) (I : Inv X pins σ H s) (g : DPut H a y v H') (ry : RelV y u) (rv : RelV v r) (h : ∀ s', Inv X pins σ H' s' → Q () s') :
    wpAny (model X.prog X.w) A (setItem (.ref a) u r) Q E s := by
  rcases g with ⟨kvs, k, e, ey, l, eH⟩ | ⟨kvs, k, b, e, ey, eb, l, eH⟩
  · subst ey eH
    obtain ⟨z, hd, vs, rel, dd⟩ := dk_of I.hok e
    have hz : vs.length ≤ sizeLine := by rw [← rel.length]; exact z
    have hl : (putK kvs k v).length ≤ sizeLine := by have := length_putK kvs k v; omega
    refine wpAny_setItem_pairs (hsz := hz) (kV_is ry) dd fun h' dd' hs => h _ ?_
    have he : ∃ q, h'.get? a = some q := let ⟨q, _, _, hq, _⟩ := dd'; ⟨q, hq⟩
    exact d_write I (by rw [e]; exact True.intro) hs he (dk_new hl hd (rel.put k rv) dd')
  · subst ey eH
    cases (show u = Value.ref b from ry)
    obtain ⟨z, hd, xs, rel, dd⟩ := dt_of I.hok e
    have hz : xs.length ≤ sizeLine := by rw [← Paired.length rel]; exact z
    have hl : (putK kvs k v).length ≤ sizeLine := by have := length_putK kvs k v; omega
    refine wpAny_setItem_heap (hsz := hz) (tupleKind_room_in1 hu) (key_of I.hok eb) dd fun h' dd' hs => h _ ?_
    obtain ⟨q, es, ep, hq, h2, h3, h4, _, h5⟩ := dd'
    refine d_write I (by rw [e]; exact True.intro) hs ⟨q, hq⟩ ⟨hl, hd, _, (rel.put k eb rv).keeps fun c ys ec => ?_, q, es, ep, hq, h2, h3, h4, h5⟩
    rw [upd_ne (ne_of ec e (fun z => nomatch z))]
    exact ec
end
section
variable {X : Cx} {pins : List (Addr × Obj)} {σ : St} {H : Hp} {s : Shared} {a : Addr} {kvs : List (Key × V)} {k : Key} {u : Value} {A : Around} {E : Value → Shared → Prop}
/-- del d[k] -/
theorem d_delItem {Q : Unit → Shared → Prop} (I : Inv X pins σ H s) (e : H a = some (.dK kvs)) (ry : RelV (kV k) u) (l : (valV kvs k).isSome = true) (h : ∀ s', Inv X pins σ (upd H a (.dK (dropK kvs k))) s' → Q () s') :
    wpAny (model X.prog X.w) A (delItem (.ref a) u) Q E s := by
  obtain ⟨z, hd, vs, rel, dd⟩ := dk_of I.hok e
  refine wpAny_delItem_slot dd.typeIs (by decide) PySem.F.slot_dict_delitem
    (call_meetsIn PySem.F.slot_dict_delitem dd.typeIs PySem.F.entry_dict_delitem (PySem.F.args_dict_delitem_2 _ _) (meets_dict_delitem_pairs (mixKind X.prog X.w) a (kV_is ry)) ⟨vs, dd, by rw [← rel.length]; exact z, by rw [← (rel.val k).isSome_eq]; exact l, fun h' dd' hs => h _ ?_⟩)
  have he : ∃ q, h'.get? a = some q := let ⟨q, _, _, hq, _⟩ := dd'; ⟨q, hq⟩
  exact d_write I (by rw [e]; exact True.intro) hs he (dk_new (Nat.le_trans (dropK_le kvs k) z) hd (rel.drop k) dd')
/-- d.pop(k[, x]), there -/
theorem d_pop {v : V} {more : List Value} {Q : Value → Shared → Prop} (I : Inv X pins σ H s) (e : H a = some (.dK kvs)) (ry : RelV (kV k) u) (l : valV kvs k = some v) (hm : more = [] ∨ ∃ x, more = [x])
    (h : ∀ w' s', Inv X pins σ (upd H a (.dK (dropK kvs k))) s' → RelV v w' → Q w' s') : wpAny (model X.prog X.w) A (call (.builtin "dict.pop") (.ref a :: u :: more)) Q E s := by
  obtain ⟨z, hd, vs, rel, dd⟩ := dk_of I.hok e
  obtain ⟨w', hw, rw'⟩ := RelO.some_of (v := v) (o := valueAt vs k) (by rw [← l]; exact rel.val k)
  have hp : (keyPart u).isSome = true := by
    cases k with
    | inl i => obtain ⟨t, q⟩ := (show ∃ t, u = Value.int i t from ry); subst q; rfl
    | inr x => obtain ⟨t, q⟩ := (show ∃ t, u = Value.str x t from ry); subst q; rfl
  have ha : argsOk "dict.pop" ⟨.ref a :: u :: more, []⟩ := by
    rcases hm with q | ⟨x, q⟩
    · subst q; exact PySem.F.args_dict_pop_2 _ _
    · subst q; exact PySem.F.args_dict_pop_3 _ _ _
  refine call_meetsIn PySem.F.slot_dict_pop dd.typeIs PySem.F.entry_dict_pop ha (meets_dict_pop_there (mixKind X.prog X.w) a (kV_is ry) more hm hp)
    ⟨vs, w', dd, by rw [← rel.length]; exact z, hw, fun h' dd' hs => h w' _ ?_ rw'⟩
  have he : ∃ q, h'.get? a = some q := let ⟨q, _, _, hq, _⟩ := dd'; ⟨q, hq⟩
  exact d_write I (by rw [e]; exact True.intro) hs he (dk_new (Nat.le_trans (dropK_le kvs k) z) hd (rel.drop k) dd')
/-- d.pop(k, x), not there -/
theorem d_popD {r : Value} {Q : Value → Shared → Prop} (I : Inv X pins σ H s) (e : H a = some (.dK kvs)) (ry : RelV (kV k) u) (l : valV kvs k = none) (h : ∀ s', Inv X pins σ H s' → Q r s') :
    wpAny (model X.prog X.w) A (call (.builtin "dict.pop") [.ref a, u, r]) Q E s := by
  obtain ⟨z, hd, vs, rel, dd⟩ := dk_of I.hok e
  have hn : valueAt vs k = none := RelO.none_of (by rw [← l]; exact rel.val k)
  have hp : (keyPart u).isSome = true := by
    cases k with
    | inl i => obtain ⟨t, q⟩ := (show ∃ t, u = Value.int i t from ry); subst q; rfl
    | inr x => obtain ⟨t, q⟩ := (show ∃ t, u = Value.str x t from ry); subst q; rfl
  exact call_meetsIn PySem.F.slot_dict_pop dd.typeIs PySem.F.entry_dict_pop (PySem.F.args_dict_pop_3 _ _ _) (meets_dict_pop_default (mixKind X.prog X.w) a (kV_is ry) hd hp r) ⟨vs, dd, hn, h _ (I.tok _)⟩
/-- d.clear() -/
theorem d_clear {Q : Value → Shared → Prop} (I : Inv X pins σ H s) (e : H a = some (.dK kvs)) (h : ∀ s', Inv X pins σ (upd H a (.dK [])) s' → Q .none s') : wpAny (model X.prog X.w) A (call (.builtin "dict.clear") [.ref a]) Q E s := by
  obtain ⟨z, hd, vs, rel, dd⟩ := dk_of I.hok e
  refine call_meetsIn PySem.F.slot_dict_clear dd.typeIs PySem.F.entry_dict_clear (PySem.F.args_dict_clear_1 _) (meets_dict_clear (mixKind X.prog X.w) a) ⟨vs, dd, by rw [← rel.length]; exact z, fun h' dd' hs => h _ ?_⟩
  have he : ∃ q, h'.get? a = some q := let ⟨q, _, _, hq, _⟩ := dd'; ⟨q, hq⟩
  exact d_write (t' := s.toks) I (by rw [e]; exact True.intro) hs he (dk_new (Nat.zero_le _) hd .nil dd')
/-- len(d) -/
theorem d_len {Q : Value → Shared → Prop} (I : Inv X pins σ H s) (e : Rd H a (.dK kvs)) (h : ∀ t s', Inv X pins σ H s' → Q (.int kvs.length t) s') : wpAny (model X.prog X.w) A (call (.builtin "len") [.ref a]) Q E s := by
  obtain ⟨z, hd, vs, rel, dd⟩ := dk_rd I.hok e
  refine call_len_dict hd dd (by rw [← rel.length]; rw [sizeLine_eq] at z; omega) ?_
  rw [← rel.length]
  exact h _ _ (I.tok _)
/-- if d -/
theorem d_truth {Q : Bool → Shared → Prop} (I : Inv X pins σ H s) (e : Rd H a (.dK kvs)) (h : ∀ s', Inv X pins σ H s' → Q (!kvs.isEmpty) s') : wpAny (model X.prog X.w) A (truthy (.ref a)) Q E s := by
  obtain ⟨z, hd, vs, rel, dd⟩ := dk_rd I.hok e
  refine wpAny_truthy_dict hd dd (by rw [← rel.length]; rw [sizeLine_eq] at z; omega) ?_
  have q : kvs.isEmpty = vs.isEmpty := by cases rel <;> rfl
  rw [← q]
  exact h _ (I.tok _)
end
/-! ### readings and rules -/
/-- the element of a subscription, not a slice -/
def NoSl (i : Expr) : Prop := ∀ ov iv, subscripted i false ov iv = operate [ov, iv] (getItem ov iv)
theorem subD_of {prog : Program} {w : World} {A : Around} {E : Value → Shared → Prop} {s : Shared} {env : Env} {value slice : Expr} {pos : Pos} {T id : String} {Q : Value → Shared → Prop}
    (hl : typeLookup (.type T) "__getitem__" = pure (some (.builtin id))) (hs : NoSl slice)
    (h : wpAny (model prog w) A (eval value env) (fun o s₁ => wpAny (model prog w) A (eval slice env) (fun i s₂ => s₂.TypeIs o T ∧ wpAny (model prog w) A (getItem o i) Q E s₂) E s₁) E s) :
    wpAny (model prog w) A (eval (.Subscript value slice pos) env) Q E s := by
  refine Subscript_ (wpAny_mono h (fun o s₁ h₁ => wpAny_mono h₁ (fun i s₂ h₂ => ?_) fun _ _ x => x) fun _ _ x => x)
  obtain ⟨hT, h₂⟩ := h₂
  unfold subscriptTail
  refine wpAny_bind ?_
  rw [getitemInPython_of_ne hT.not_modules]
  refine wpAny_bind (wpAny_specialOf hT hl ?_)
  have fin : wpAny (model prog w) A (subscripted slice false o i) (fun r s₃ => wpAny (model prog w) A (letTemporaryGo value o r >>= fun _ => pure r) Q E s₃) E s₂ := by
    rw [hs o i]
    exact wpAny_operating (wpAny_mono h₂ (fun r s₃ h₃ => wpAny_bind (wpAny_letTemporaryGo (wpAny_pure h₃))) fun _ _ x => x)
  first
    | exact wpAny_pure (wpAny_bind fin)
    | exact wpAny_bind (wpAny_pure (wpAny_bind fin))
    | exact wpAny_bind fin
theorem dict_typeIs {X : Cx} {pins : List (Addr × Obj)} {σ : St} {H : Hp} {s : Shared} {a : Addr} {y : V} {o : Option V} (I : Inv X pins σ H s) (g : DGet H a y o) : s.TypeIs (.ref a) "dict" := by
  rcases g with ⟨kvs, k, e, _, _⟩ | ⟨kvs, k, b, e, _, _, _⟩
  · obtain ⟨_, _, vs, _, dd⟩ := dk_rd I.hok e
    exact dd.typeIs
  · obtain ⟨_, _, xs, _, dd⟩ := dt_rd I.hok e
    exact dd.typeIs
theorem dict_noDict {X : Cx} {pins : List (Addr × Obj)} {σ : St} {H : Hp} {s : Shared} {a : Addr} {y : V} {o : Option V} (I : Inv X pins σ H s) (g : DGet H a y o) :
    ∀ b, Value.ref a = .ref b → ∃ ob, s.heap.get? b = some ob ∧ ob.dict = none := fun b q => by
  cases q
  rcases g with ⟨kvs, k, e, _, _⟩ | ⟨kvs, k, b, e, _, _, _⟩
  · obtain ⟨_, _, vs, _, ob, _, _, h1, h2, _⟩ := dk_rd I.hok e
    exact ⟨ob, h1, h2.2.1⟩
  · obtain ⟨_, _, xs, _, ob, _, _, h1, h2, _⟩ := dt_rd I.hok e
    exact ⟨ob, h1, h2.2.1⟩
/-- d[y] -/
def tDGet (td ty : TE) : TE := fun σ H Q => td σ H fun x H1 => ty σ H1 fun y H2 => ∃ a v, x = .ref a ∧ DGet H2 a y (some v) ∧ Q v H2
/-- y in d, y not in d -/
def tDIn (ty td : TE) : TE := fun σ H Q => ty σ H fun y H1 => td σ H1 fun x H2 => ∃ a o, x = .ref a ∧ DGet H2 a y o ∧ Q (.bl o.isSome) H2
def tDNotIn (ty td : TE) : TE := fun σ H Q => ty σ H fun y H1 => td σ H1 fun x H2 => ∃ a o, x = .ref a ∧ DGet H2 a y o ∧ Q (.bl (!o.isSome)) H2
/-- d[y] = v -/
def sDPut (td ty tv : TE) : TS := fun D σ H => tv σ H fun v H1 => td σ H1 fun x H2 => ty σ H2 fun y H3 => ∃ a H4, x = .ref a ∧ DPut H3 a y v H4 ∧ D.nx σ H4
/-- d[y] op= v -/
def sDAug (td ty tv : TE) (rd : V → V → Hp → VK → Prop) : TS := fun D σ H => td σ H fun x H1 => ty σ H1 fun y H2 => ∃ a v, x = .ref a ∧ DGet H2 a y (some v) ∧
  tv σ H2 fun y2 H3 => rd v y2 H3 fun z H4 => ∃ H5, DPut H4 a y z H5 ∧ D.nx σ H5
/-- del d[y] -/
def sDDel (td ty : TE) : TS := fun D σ H => td σ H fun x H1 => ty σ H1 fun y H2 => ∃ a kvs k, x = .ref a ∧ H2 a = some (.dK kvs) ∧ y = kV k ∧ (valV kvs k).isSome = true ∧ D.nx σ (upd H2 a (.dK (dropK kvs k)))
section
variable {X : Cx} {o i e value : Expr} {pos pos' tpos : Pos} {td ty tv : TE}
theorem pe_dget (hu : X.A.units + 1 < cLine) (ho : PE X o td) (hi : PE X i ty) (hs : NoSl i) : PE X (.Subscript o i pos) (tDGet td ty) := by
  intro pins s σ H Q I h
  refine subD_of PySem.F.slot_dict_getitem.lookup hs (thn (ho pins s σ H _ I h) fun u s1 ⟨x, H1, I1, rx, q1⟩ => thn (hi pins s1 σ H1 _ I1 q1) fun iv s2 ⟨y, H2, I2, ry, a, v, ex, g, q2⟩ => ?_)
  subst ex
  obtain rfl : u = Value.ref a := rx
  exact ⟨dict_typeIs I2 g, d_getItem hu I2 g ry fun w' s3 I3 rw' => ⟨v, H2, I3, rw', q2⟩⟩
theorem pc_din (hu : X.A.units + 1 < cLine) (hi : PE X i ty) (ho : PE X o td) : PC X .In i o (tDIn ty td) := by
  intro pins s σ H Q I h
  refine thn (hi pins s σ H _ I h) fun iv s1 ⟨y, H1, I1, ry, q1⟩ => thn (ho pins s1 σ H1 _ I1 q1) fun u s2 ⟨x, H2, I2, rx, a, ov, ex, g, q2⟩ => ?_
  subst ex
  obtain rfl : u = Value.ref a := rx
  exact d_in hu I2 g ry fun s3 I3 => ⟨.bl ov.isSome, H2, I3, rfl, q2⟩
theorem pc_dnotin (hu : X.A.units + 1 < cLine) (hi : PE X i ty) (ho : PE X o td) : PC X .NotIn i o (tDNotIn ty td) := by
  intro pins s σ H Q I h
  refine thn (hi pins s σ H _ I h) fun iv s1 ⟨y, H1, I1, ry, q1⟩ => thn (ho pins s1 σ H1 _ I1 q1) fun u s2 ⟨x, H2, I2, rx, a, ov, ex, g, q2⟩ => ?_
  subst ex
  obtain rfl : u = Value.ref a := rx
  exact d_notIn hu I2 g ry fun s3 I3 => ⟨.bl (!ov.isSome), H2, I3, rfl, q2⟩
theorem ps_dput (hu : X.A.units + 1 < cLine) (ho : PE X o td) (hi : PE X i ty) (hv : PE X value tv) (hs : swapsWith value (some (.Subscript o i pos')) pos.line X.env = pure false) :
    PS X (.Assign [.Subscript o i pos'] value pos) (sDPut td ty tv) := by
  intro pins s σ H D I h
  refine wpAny_Assign_Subscript (thn (hv pins s σ H _ I h) fun r s1 ⟨v, H1, I1, rv, q1⟩ => thn (ho pins s1 σ H1 _ I1 q1) fun u s2 ⟨x, H2, I2, rx, q2⟩ => thn (hi pins s2 σ H2 _ I2 q2) fun iv s3 ⟨y, H3, I3, ry, a, H4, ex, g, q3⟩ => ?_) hs
  subst ex
  obtain rfl : u = Value.ref a := rx
  exact d_setItem hu I3 g ry rv fun s4 I4 => ⟨σ, H4, I4, q3⟩
theorem ps_daug {op : Operator} {rd : V → V → Hp → VK → Prop} (hu : X.A.units + 1 < cLine) (ho : PE X o td) (hi : PE X i ty) (hv : PE X value tv) (hop : InOp X op rd)
    (ha : ∀ ov iv new, augStore i ov iv new = (do holding [new, ov, iv] (setItem ov iv new); release [new, ov, iv] []; pure .next)) : PS X (.AugAssign (.Subscript o i tpos) op value pos) (sDAug td ty tv rd) := by
  intro pins s σ H D I h
  refine wpAny_AugAssign_SubscriptAny (thn (ho pins s σ H _ I h) fun u s1 ⟨x, H1, I1, rx, q1⟩ => thn (hi pins s1 σ H1 _ I1 q1) fun iv s2 ⟨y, H2, I2, ry, a, v, ex, g, q2⟩ => ?_) ha
  subst ex
  obtain rfl : u = Value.ref a := rx
  refine d_getItem hu I2 g ry fun w' s3 I3 rw' => thn (hv pins s3 σ H2 _ I3 q2) fun w2 s4 ⟨y2, H3, I4, ry2, q3⟩ => thn (hop pins s4 σ H3 v y2 w' w2 _ I4 rw' ry2 q3) fun w3 s5 ⟨z, H4, I5, rz, H5, g5, q4⟩ => ?_
  exact d_setItem hu I5 g5 ry rz fun s6 I6 => ⟨σ, H5, I6, q4⟩
theorem ps_ddel (ho : PE X o td) (hi : PE X i ty) : PS X (.Delete [.Subscript o i tpos] pos) (sDDel td ty) := by
  intro pins s σ H D I h
  refine wpAny_Delete (wpAny_deleteEach_cons (wpAny_delete_Subscript (thn (ho pins s σ H _ I h) fun u s1 ⟨x, H1, I1, rx, q1⟩ => thn (hi pins s1 σ H1 _ I1 q1) fun iv s2 ⟨y, H2, I2, ry, a, kvs, k, ex, e, ey, l, q2⟩ => ?_)))
  subst ex ey
  obtain rfl : u = Value.ref a := rx
  exact d_delItem I2 e ry l fun s3 I3 => wpAny_deleteEach_nil ⟨σ, _, I3, q2⟩
end
/-! ### displays -/
theorem dk_empty {P : Program} {w : World} {H : Hp} (h : Heap) (hb : sysModules < h.objs.size) : ObjOk P w H (h.push { cls := .type "dict", data := .dict #[] }) h.objs.size (.dK []) :=
  ⟨Nat.zero_le _, beq_eq_false_iff_ne.mpr (Ne.symm (Nat.ne_of_lt hb)), [], .nil, Heap.DictOf.new h⟩
theorem dt_empty {P : Program} {w : World} {H : Hp} (h : Heap) (hb : sysModules < h.objs.size) : ObjOk P w H (h.push { cls := .type "dict", data := .dict #[] }) h.objs.size (.dT []) :=
  ⟨Nat.zero_le _, beq_eq_false_iff_ne.mpr (Ne.symm (Nat.ne_of_lt hb)), [], .nil, _, #[], 0, Heap.get?_push_size _ rfl, ⟨rfl, rfl, rfl⟩, rfl, rfl, List.nodup_nil⟩
/-- {}, to be a dict of the kind that is wanted -/
def tDNewK : TE := fun _ H Q => ∀ p, H p = none → Q (.ref p) (upd H p (.dK []))
def tDNewT : TE := fun _ H Q => ∀ p, H p = none → Q (.ref p) (upd H p (.dT []))
section
variable {X : Cx} {pos : Pos}
theorem pe_dnewK : PE X (.Dict [] [] pos) tDNewK := fun pins s σ H Q I h =>
  wpAny_Dict_empty ⟨.ref s.heap.objs.size, _, I.laid (a := s.heap.objs.size) (o := .dK []) (t' := s.toks) (fun _ _ q => Heap.get?_push_of_some _ q) (Nat.le_refl _) (dk_empty s.heap I.big), rfl, h _ (I.hok.fresh (Nat.le_refl _))⟩
theorem pe_dnewT : PE X (.Dict [] [] pos) tDNewT := fun pins s σ H Q I h =>
  wpAny_Dict_empty ⟨.ref s.heap.objs.size, _, I.laid (a := s.heap.objs.size) (o := .dT []) (t' := s.toks) (fun _ _ q => Heap.get?_push_of_some _ q) (Nat.le_refl _) (dt_empty s.heap I.big), rfl, h _ (I.hok.fresh (Nat.le_refl _))⟩
end
/-- the pairs of a display, from the left -/
def tPairs : List (TE × TE) → St → Hp → (List (V × V) → Hp → Prop) → Prop
  | [], _, H, Q => Q [] H
  | (tk, tv) :: r, σ, H, Q => tk σ H fun x H1 => tv σ H1 fun y H2 => tPairs r σ H2 fun ps H3 => Q ((x, y) :: ps) H3
abbrev VV : List (V × V) → List (Value × Value) → Prop := Paired fun p q => RelV p.1 q.1 ∧ RelV p.2 q.2
def PPs (X : Cx) (pos : Pos) (keys : List (Option Expr)) (values : List Expr) (trs : List (TE × TE)) : Prop :=
  ∀ (pins : List (Addr × Obj)) (s : Shared) (σ : St) (H : Hp) (Q : List (V × V) → Hp → Prop), Inv X pins σ H s → tPairs trs σ H Q →
    wpAny (model X.prog X.w) X.A (evalPairs (pairTrees keys values X.env pos)) (fun vs s' => ∃ ps H', Inv X pins σ H' s' ∧ VV ps vs ∧ Q ps H') X.xe s
theorem pps_nil {X : Cx} {pos : Pos} : PPs X pos [] [] [] := fun pins s σ H Q I h => pairTrees_nil_walk ⟨[], H, I, .nil, h⟩
theorem pps_cons {X : Cx} {pos : Pos} {k v : Expr} {ks : List (Option Expr)} {vs : List Expr} {tk tv : TE} {trs : List (TE × TE)} (hk : PE X k tk) (hv : PE X v tv) (hr : PPs X pos ks vs trs) :
    PPs X pos (some k :: ks) (v :: vs) ((tk, tv) :: trs) := fun pins s σ H Q I h =>
  pairTrees_cons_walk (thn (hk pins s σ H _ I h) fun u s1 ⟨x, H1, I1, rx, q1⟩ => thn (hv pins s1 σ H1 _ I1 q1) fun w2 s2 ⟨y, H2, I2, ry, q2⟩ =>
    thn (hr pins s2 σ H2 _ I2 q2) fun ws s3 ⟨ps, H3, I3, rel, q3⟩ => ⟨(x, y) :: ps, H3, I3, .cons ⟨rx, ry⟩ rel, q3⟩)
def mergeK (kvs more : List (Key × V)) : List (Key × V) := more.foldl (fun acc kv => putK acc kv.1 kv.2) kvs
theorem KV.merge : ∀ {more : List (Key × V)} {rs : List (Key × Value)} {kvs : List (Key × V)} {vs : List (Key × Value)}, KV more rs → KV kvs vs → KV (mergeK kvs more) (merged vs rs) := by
  intro more rs kvs vs r
  unfold KV at r
  induction r generalizing kvs vs with
  | nil => intro q; exact q
  | @cons p q ps qs h t ih =>
    intro r0
    have e : KV (putK kvs p.1 p.2) (stored vs q.1 q.2) := by
      have := r0.put p.1 h.2
      rw [← h.1]; exact this
    exact ih e
theorem length_mergeK : ∀ (more kvs : List (Key × V)), (mergeK kvs more).length ≤ kvs.length + more.length
  | [], kvs => by show kvs.length ≤ kvs.length + 0; omega
  | p :: r, kvs => by
    have h1 := length_mergeK r (putK kvs p.1 p.2)
    have h2 := length_putK kvs p.1 p.2
    show (mergeK (putK kvs p.1 p.2) r).length ≤ _
    rw [List.length_cons]; omega
theorem carries_of {P : Program} {w : World} : ∀ {kvs : List (Key × V)} {ws : List (Value × Value)}, VV (kvs.map fun kv => (kV kv.1, kv.2)) ws → ∃ rs, Carries (mixKind P w) ws rs ∧ KV kvs rs
  | [], _, r => by rw [List.map_nil] at r; cases r; exact ⟨[], True.intro, .nil⟩
  | p :: kvs, _, r => by
    rw [List.map_cons] at r
    cases r with
    | @cons a b as bs h t =>
      obtain ⟨rs, c, q⟩ := carries_of (P := P) (w := w) t
      obtain ⟨b1, b2⟩ := b
      exact ⟨(p.1, b2) :: rs, ⟨kV_is h.1, rfl, c⟩, .cons ⟨rfl, h.2⟩ q⟩
/-- {k: v, ..} with keys ints and texts; the new dict stands empty while the pairs are made -/
def tDisp (trs : List (TE × TE)) : TE := fun σ H Q => ∀ p, H p = none → tPairs trs σ (upd H p (.dK [])) fun ps H2 => H2 p = some (.dK []) ∧ ∃ kvs : List (Key × V), ps = kvs.map (fun kv => (kV kv.1, kv.2)) ∧ kvs.length ≤ 15 ∧ Q (.ref p) (upd H2 p (.dK (mergeK [] kvs)))
theorem pe_disp {X : Cx} {pos : Pos} {keys : List (Option Expr)} {values : List Expr} {trs : List (TE × TE)} (h : PPs X pos keys values trs) (hall : keys.all (·.isSome) = true) (hl : keys.length = values.length) (h0 : keys ≠ [])
    (h15 : keys.length ≤ 15) : PE X (.Dict keys values pos) (tDisp trs) := by
  intro pins s σ H Q I q
  have hn := I.hok.fresh (Nat.le_refl s.heap.objs.size)
  have I1 := I.laid (a := s.heap.objs.size) (o := .dK []) (h' := s.heap.push { cls := .type "dict", data := .dict #[] }) (t' := s.toks) (fun _ _ q => Heap.get?_push_of_some _ q) (Nat.le_refl _) (dk_empty s.heap I.big)
  refine wpAny_Dict_walk (knd := mixKind X.prog X.w) hall hl h0 h15 (thn (h pins _ σ _ _ I1 (q _ hn)) fun ws s2 ⟨ps, H2, I2, rel, e, kvs, ep, lk, q2⟩ => ?_)
  subst ep
  obtain ⟨rs, c, rk⟩ := carries_of (P := X.prog) (w := X.w) rel
  obtain ⟨z, hd, vs0, r0, dd⟩ := dk_of I2.hok e
  cases r0
  refine ⟨rs, c, dd, fun h' dd' hs => ⟨.ref s.heap.objs.size, _, ?_, rfl, q2⟩⟩
  have hz : (mergeK [] kvs).length ≤ sizeLine := by
    have h1 := length_mergeK kvs []
    rw [List.length_nil] at h1
    rw [sizeLine_eq]; omega
  have he : ∃ q, h'.get? s.heap.objs.size = some q := let ⟨q, _, _, hq, _⟩ := dd'; ⟨q, hq⟩
  exact d_write I2 (by rw [e]; exact True.intro) hs he (dk_new hz hd (rk.merge .nil) dd')
/-! ### methods -/
/-- a method call o.m(e) of a built-in, with one argument: what must be seen of the text -/
structure M1 (X : Cx) (o : Expr) (m : Str) (apos : Pos) (e : Expr) (cpos : Pos) : Prop where
  base : attributeBase o m X.env (eval o X.env) = eval o X.env
  few : ((backTo cpos (starEach [e] X.env)).all (fun x => !x.1) && (backToKw cpos (keywordEach [] X.env)).all (fun x => x.1.isSome)
    && decide (([e] : List Expr).length + ([] : List Keyword).length + (if ([] : List Keyword).isEmpty then 0 else 1) < 30)) = true
  line : (apos.endLine == cpos.line) = true
  trees : backTo cpos (starEach [e] X.env) = [(false, eval e X.env)]
structure M2 (X : Cx) (o : Expr) (m : Str) (apos : Pos) (e f : Expr) (cpos : Pos) : Prop where
  base : attributeBase o m X.env (eval o X.env) = eval o X.env
  few : ((backTo cpos (starEach [e, f] X.env)).all (fun x => !x.1) && (backToKw cpos (keywordEach [] X.env)).all (fun x => x.1.isSome)
    && decide (([e, f] : List Expr).length + ([] : List Keyword).length + (if ([] : List Keyword).isEmpty then 0 else 1) < 30)) = true
  line : (apos.endLine == cpos.line) = true
  trees : backTo cpos (starEach [e, f] X.env) = [(false, eval e X.env), (false, eval f X.env)]
/-- a is a dict, whatever its keys -/
def IsD (H : Hp) (a : Addr) : Prop := (∃ kvs, Rd H a (.dK kvs)) ∨ ∃ kvs, Rd H a (.dT kvs)
theorem isD_at {X : Cx} {pins : List (Addr × Obj)} {σ : St} {H : Hp} {s : Shared} {a : Addr} (I : Inv X pins σ H s) (d : IsD H a) :
    s.TypeIs (.ref a) "dict" ∧ (∀ b, Value.ref a = .ref b → ∃ ob, s.heap.get? b = some ob ∧ ob.dict = none) ∧ (a == sysModules) = false := by
  rcases d with ⟨kvs, e⟩ | ⟨kvs, e⟩
  · obtain ⟨_, hd, vs, _, dd⟩ := dk_rd I.hok e
    refine ⟨dd.typeIs, fun b q => ?_, hd⟩
    cases q
    obtain ⟨ob, _, _, h1, h2, _⟩ := dd
    exact ⟨ob, h1, h2.2.1⟩
  · obtain ⟨_, hd, xs, _, dd⟩ := dt_rd I.hok e
    refine ⟨dd.typeIs, fun b q => ?_, hd⟩
    cases q
    obtain ⟨ob, _, _, h1, h2, _⟩ := dd
    exact ⟨ob, h1, h2.2.1⟩
section
variable {X : Cx} {pins : List (Addr × Obj)} {σ : St} {H : Hp} {s : Shared} {a : Addr} {y d : V} {u r : Value} {o : Option V} {A : Around} {E : Value → Shared → Prop}
/-- d.get(y) -/
theorem d_get1 {Q : Value → Shared → Prop} (hu : A.units + 1 < cLine) (I : Inv X pins σ H s) (g : DGet H a y o) (ry : RelV y u) (h : ∀ w' s', Inv X pins σ H s' → RelV (o.getD .non) w' → Q w' s') :
    wpAny (model X.prog X.w) A (call (.builtin "dict.get") [.ref a, u]) Q E s := by
  rcases g with ⟨kvs, k, e, ey, l⟩ | ⟨kvs, k, b, e, ey, eb, l⟩
  · subst ey
    obtain ⟨z, hd, vs, rel, dd⟩ := dk_rd I.hok e
    refine call_meetsIn PySem.F.slot_dict_get dd.typeIs PySem.F.entry_dict_get (PySem.F.args_dict_get_2 _ _) (meets_dict_get (mixKind X.prog X.w) a (kV_is ry) hd) ⟨_, dd.mapOf, h _ _ (I.tok _) ?_⟩
    rw [l]
    exact (rel.val k).getD rfl
  · subst ey
    cases (show u = Value.ref b from ry)
    obtain ⟨z, hd, xs, rel, dd⟩ := dt_rd I.hok e
    refine call_meetsIn PySem.F.slot_dict_get dd.typeIs PySem.F.entry_dict_get (PySem.F.args_dict_get_2 _ _) (meetsH_dict_get (tupleKind (mixKind X.prog X.w)) a b hd) ⟨tupleKind_room_in1 hu, k, xs, key_of I.hok eb, dd, h _ _ (I.tok _) ?_⟩
    rw [l]
    exact (rel.val k).getD rfl
/-- d.get(y, x) -/
theorem d_get2 {Q : Value → Shared → Prop} (hu : A.units + 1 < cLine) (I : Inv X pins σ H s) (g : DGet H a y o) (ry : RelV y u) (rd : RelV d r) (h : ∀ w' s', Inv X pins σ H s' → RelV (o.getD d) w' → Q w' s') :
    wpAny (model X.prog X.w) A (call (.builtin "dict.get") [.ref a, u, r]) Q E s := by
  rcases g with ⟨kvs, k, e, ey, l⟩ | ⟨kvs, k, b, e, ey, eb, l⟩
  · subst ey
    obtain ⟨z, hd, vs, rel, dd⟩ := dk_rd I.hok e
    refine call_meetsIn PySem.F.slot_dict_get dd.typeIs PySem.F.entry_dict_get (PySem.F.args_dict_get_3 _ _ _) (meets_dict_get_default (mixKind X.prog X.w) a (kV_is ry) hd r) ⟨_, dd.mapOf, h _ _ (I.tok _) ?_⟩
    rw [l]
    exact (rel.val k).getD rd
  · subst ey
    cases (show u = Value.ref b from ry)
    obtain ⟨z, hd, xs, rel, dd⟩ := dt_rd I.hok e
    refine call_meetsIn PySem.F.slot_dict_get dd.typeIs PySem.F.entry_dict_get (PySem.F.args_dict_get_3 _ _ _) (meetsH_dict_get_default (tupleKind (mixKind X.prog X.w)) a b hd r) ⟨tupleKind_room_in1 hu, k, xs, key_of I.hok eb, dd, h _ _ (I.tok _) ?_⟩
    rw [l]
    exact (rel.val k).getD rd
end
def tDGet1 (td ty : TE) : TE := fun σ H Q => td σ H fun x H1 => ∃ a, x = .ref a ∧ IsD H1 a ∧ ty σ H1 fun y H2 => ∃ o, DGet H2 a y o ∧ Q (o.getD .non) H2
def tDGet2 (td ty tx : TE) : TE := fun σ H Q => td σ H fun x H1 => ∃ a, x = .ref a ∧ IsD H1 a ∧ ty σ H1 fun y H2 => tx σ H2 fun z H3 => ∃ o, DGet H3 a y o ∧ Q (o.getD z) H3
/-- d.pop(k): there; d.pop(k, x): there or not -/
def tDPop1 (td ty : TE) : TE := fun σ H Q => td σ H fun x H1 => ∃ a, x = .ref a ∧ IsD H1 a ∧ ty σ H1 fun y H2 => ∃ kvs k v, H2 a = some (.dK kvs) ∧ y = kV k ∧ valV kvs k = some v ∧ Q v (upd H2 a (.dK (dropK kvs k)))
def tDPop2 (td ty tx : TE) : TE := fun σ H Q => td σ H fun x H1 => ∃ a, x = .ref a ∧ IsD H1 a ∧ ty σ H1 fun y H2 => tx σ H2 fun z H3 => ∃ kvs k, H3 a = some (.dK kvs) ∧ y = kV k ∧
  (∀ v, valV kvs k = some v → Q v (upd H3 a (.dK (dropK kvs k)))) ∧ (valV kvs k = none → Q z H3)
section
variable {X : Cx} {o e f : Expr} {apos cpos : Pos} {td ty tx : TE}
theorem pe_dget1 (hu : X.A.units + 1 < cLine) (ho : PE X o td) (he : PE X e ty) (m : M1 X o "get" apos e cpos) : PE X (.Call (.Attribute o "get" apos) [e] [] cpos) (tDGet1 td ty) := by
  intro pins s σ H Q I h
  refine wpAny_Call_method m.base m.few m.line PySem.F.plainAttrs_dict PySem.F.slot_dict_get PySem.F.type_dict_get (thn (ho pins s σ H _ I h) fun u s1 ⟨x, H1, I1, rx, a, ex, d, q1⟩ => ?_)
  subst ex
  obtain rfl : u = Value.ref a := rx
  obtain ⟨t1, t2, _⟩ := isD_at I1 d
  refine ⟨t1, t2, ?_⟩
  rw [m.trees]
  refine Calls.callWith_builtin rfl (Calls.evalArgs_plain (Calls.spliced_cons (thn (he pins s1 σ H1 _ I1 q1) fun iv s2 ⟨y, H2, I2, ry, ov, g, q2⟩ => Calls.spliced_nil ?_)))
  exact d_get1 hu I2 g ry fun w' s3 I3 rw' => ⟨_, H2, I3, rw', q2⟩
theorem pe_dget2 (hu : X.A.units + 1 < cLine) (ho : PE X o td) (he : PE X e ty) (hf : PE X f tx) (m : M2 X o "get" apos e f cpos) : PE X (.Call (.Attribute o "get" apos) [e, f] [] cpos) (tDGet2 td ty tx) := by
  intro pins s σ H Q I h
  refine wpAny_Call_method m.base m.few m.line PySem.F.plainAttrs_dict PySem.F.slot_dict_get PySem.F.type_dict_get (thn (ho pins s σ H _ I h) fun u s1 ⟨x, H1, I1, rx, a, ex, d, q1⟩ => ?_)
  subst ex
  obtain rfl : u = Value.ref a := rx
  obtain ⟨t1, t2, _⟩ := isD_at I1 d
  refine ⟨t1, t2, ?_⟩
  rw [m.trees]
  refine Calls.callWith_builtin rfl (Calls.evalArgs_plain (Calls.spliced_cons (thn (he pins s1 σ H1 _ I1 q1) fun iv s2 ⟨y, H2, I2, ry, q2⟩ =>
    Calls.spliced_cons (thn (hf pins s2 σ H2 _ I2 q2) fun fv s3 ⟨z, H3, I3, rz, ov, g, q3⟩ => Calls.spliced_nil ?_))))
  exact d_get2 hu I3 g ry rz fun w' s4 I4 rw' => ⟨_, H3, I4, rw', q3⟩
theorem pe_dpop1 (ho : PE X o td) (he : PE X e ty) (m : M1 X o "pop" apos e cpos) : PE X (.Call (.Attribute o "pop" apos) [e] [] cpos) (tDPop1 td ty) := by
  intro pins s σ H Q I h
  refine wpAny_Call_method m.base m.few m.line PySem.F.plainAttrs_dict PySem.F.slot_dict_pop PySem.F.type_dict_pop (thn (ho pins s σ H _ I h) fun u s1 ⟨x, H1, I1, rx, a, ex, d, q1⟩ => ?_)
  subst ex
  obtain rfl : u = Value.ref a := rx
  obtain ⟨t1, t2, _⟩ := isD_at I1 d
  refine ⟨t1, t2, ?_⟩
  rw [m.trees]
  refine Calls.callWith_builtin rfl (Calls.evalArgs_plain (Calls.spliced_cons (thn (he pins s1 σ H1 _ I1 q1) fun iv s2 ⟨y, H2, I2, ry, kvs, k, v, ea, ey, l, q2⟩ => Calls.spliced_nil ?_)))
  subst ey
  exact d_pop I2 ea ry l (.inl rfl) fun w' s3 I3 rw' => ⟨v, _, I3, rw', q2⟩
theorem pe_dpop2 (ho : PE X o td) (he : PE X e ty) (hf : PE X f tx) (m : M2 X o "pop" apos e f cpos) : PE X (.Call (.Attribute o "pop" apos) [e, f] [] cpos) (tDPop2 td ty tx) := by
  intro pins s σ H Q I h
  refine wpAny_Call_method m.base m.few m.line PySem.F.plainAttrs_dict PySem.F.slot_dict_pop PySem.F.type_dict_pop (thn (ho pins s σ H _ I h) fun u s1 ⟨x, H1, I1, rx, a, ex, d, q1⟩ => ?_)
  subst ex
  obtain rfl : u = Value.ref a := rx
  obtain ⟨t1, t2, _⟩ := isD_at I1 d
  refine ⟨t1, t2, ?_⟩
  rw [m.trees]
  refine Calls.callWith_builtin rfl (Calls.evalArgs_plain (Calls.spliced_cons (thn (he pins s1 σ H1 _ I1 q1) fun iv s2 ⟨y, H2, I2, ry, q2⟩ =>
    Calls.spliced_cons (thn (hf pins s2 σ H2 _ I2 q2) fun fv s3 ⟨z, H3, I3, rz, kvs, k, ea, ey, q3, q4⟩ => Calls.spliced_nil ?_))))
  subst ey
  cases l : valV kvs k with
  | some v => exact d_pop I3 ea ry l (.inr ⟨fv, rfl⟩) fun w' s4 I4 rw' => ⟨v, _, I4, rw', q3 v l⟩
  | none => exact d_popD I3 ea ry l fun s4 I4 => ⟨z, H3, I4, rz, q4 l⟩
end
/-! ### dict(d): a copy -/
section
variable {X : Cx} {pins : List (Addr × Obj)} {σ : St} {H : Hp} {s : Shared} {a : Addr} {kvs : List (Key × V)} {A : Around} {E : Value → Shared → Prop}
theorem d_copyOf {Q : Value → Shared → Prop} (I : Inv X pins σ H s) (e : Rd H a (.dK kvs)) (h : ∀ p s', H p = none → Inv X pins σ (upd H p (.dK kvs)) s' → Q (.ref p) s') : wpAny (model X.prog X.w) A (call (.type "dict") [.ref a]) Q E s := by
  obtain ⟨z, hd, vs, rel, dd⟩ := dk_rd I.hok e
  refine kt_call_dict hd dd (by rw [← rel.length]; exact z) fun h' dd' hs => ?_
  refine h _ _ (I.hok.fresh (Nat.le_refl _)) (I.laid (a := s.heap.objs.size) (o := .dK kvs) (t' := s.toks) (fun b q hq => ?_) (Nat.le_refl _) (dk_new z (beq_eq_false_iff_ne.mpr (Ne.symm (Nat.ne_of_lt I.big))) rel dd'))
  exact (hs.2 b (Nat.ne_of_lt (Heap.lt_size hq))).trans (Heap.get?_push_of_some _ hq)
end
section
variable {X : Cx} {pins : List (Addr × Obj)} {σ : St} {H : Hp} {s : Shared} {a : Addr} {y : V} {u : Value} {A : Around} {E : Value → Shared → Prop}
/-- d[y], not there: a KeyError -/
theorem d_missing {Q : Value → Shared → Prop} (hu : A.units + 1 < cLine) (hh : A.handled = none) (I : Inv X pins σ H s) (g : DGet H a y none) (ry : RelV y u)
    (h : ∀ h' e t', Heap.NewExc s.heap h' e "KeyError" → E (.ref e) { s with heap := h', toks := t' }) : wpAny (model X.prog X.w) A (getItem (.ref a) u) Q E s := by
  rcases g with ⟨kvs, k, e, ey, l⟩ | ⟨kvs, k, b, e, ey, eb, l⟩
  · subst ey
    obtain ⟨z, hd, vs, rel, dd⟩ := dk_rd I.hok e
    have hn : valueAt vs k = none := RelO.none_of (by rw [l]; exact rel.val k)
    exact wpAny_getItem_missing_of (kV_is ry) hd hh dd.mapOf hn fun h' ex ne => h h' ex _ ne
  · subst ey
    cases (show u = Value.ref b from ry)
    obtain ⟨z, hd, xs, rel, dd⟩ := dt_rd I.hok e
    have hn : (atKey xs k).map (·.2) = none := RelO.none_of (by rw [l]; exact rel.val k)
    exact wpAny_getItem_missing_heap (tupleKind_room_in1 hu) (key_of I.hok eb) hd hh dd (Option.map_eq_none_iff.mp hn) fun h' ex ne => h h' ex _ ne
end
end L2
set_option Elab.async false
set_option linter.all false
set_option maxRecDepth 100000
set_option maxHeartbeats 4000000
/-! a second level over the layer: tuples are values, lists and objects stand in a heap of their own; what a def does is a wish transformer over these -/
namespace WL
open PySem PySem.Spec PyProof.Rows L2
inductive T where
  | non | bl (b : Bool) | int (i : Int) | str (x : Str) | tup (xs : List T)
  /-- a list, a dict, an object of ours -/
  | ref (a : Addr)
  /-- a list that nobody changes (the script, a list of the module) -/
  | cl (xs : List T)
inductive O where
  | lst (xs : List T)
  | dic (kvs : List (Key × T))
  | ins (C : Addr) (fs : List (Str × T))
  /-- a dict that is read alone -/
  | fdic (kvs : List (Key × T))
abbrev Hw := Addr → Option O
def up (C : Hw) (a : Addr) (o : O) : Hw := fun b => if b = a then some o else C b
theorem up_same {C : Hw} {a : Addr} {o : O} : up C a o a = some o := by unfold up; rw [if_pos rfl]
theorem up_ne {C : Hw} {a b : Addr} {o : O} (h : b ≠ a) : up C a o b = C b := by unfold up; rw [if_neg h]
theorem up_up {C : Hw} {a : Addr} {o u : O} : up (up C a o) a u = up C a u := by
  funext b; unfold up; split <;> rfl
/-! ### how a value stands in the abstract heap -/
def SqC (K : PySem.W.Frag) (H : Hp) (a : Addr) (xs : List V) : Prop :=
  (∃ o, H a = some (.frz o (.lst xs))) ∨
    ∃ (o : Obj) (its : Array Value) (n : Nat), K.lookup a = some o ∧ o.cls = .type "list" ∧ o.dict = none ∧ o.data = .seq its n ∧ its.size ≤ sizeLine ∧ Vals xs its.toList
theorem SqC.sq {K : PySem.W.Frag} {H : Hp} {a : Addr} {xs : List V} (h : SqC K H a xs) : SqL K H a xs := by
  rcases h with ⟨o, h⟩ | h
  · exact .inl (.inr ⟨o, h⟩)
  · exact .inr h
mutual
def Rep (K : PySem.W.Frag) (H : Hp) (x : V) : T → Prop
  | .non => x = .non
  | .bl b => x = .bl b
  | .int i => x = .int i
  | .str z => x = .str z
  | .ref a => x = .ref a
  | .tup ts => ∃ a ys, x = .ref a ∧ SqT K H a ys ∧ Reps K H ys ts
  | .cl ts => ∃ a ys, x = .ref a ∧ SqC K H a ys ∧ Reps K H ys ts
def Reps (K : PySem.W.Frag) (H : Hp) (ys : List V) : List T → Prop
  | [] => ys = []
  | t :: ts => ∃ y r, ys = y :: r ∧ Rep K H y t ∧ Reps K H r ts
end
def Stb : HO → Prop
  | .tup _ => True
  | .frz _ _ => True
  | _ => False
/-- tuples and frozen things stay -/
def Tx (H H' : Hp) : Prop := ∀ b o, H b = some o → Stb o → H' b = some o
theorem Tx.refl (H : Hp) : Tx H H := fun _ _ h _ => h
theorem Tx.trans {H H1 H2 : Hp} (a : Tx H H1) (b : Tx H1 H2) : Tx H H2 := fun c o h n => b c o (a c o h n) n
theorem Tx.new {H : Hp} {p : Addr} {o : HO} (h : H p = none) : Tx H (upd H p o) := fun b u q _ => by rw [upd_ne (ne_of_none q h)]; exact q
theorem Tx.put {H : Hp} {p : Addr} {o u : HO} (h : H p = some o) (n : ¬ Stb o) : Tx H (upd H p u) := fun b v q s => by
  by_cases e : b = p
  · subst e; rw [h] at q; cases q; exact absurd s n
  · rw [upd_ne e]; exact q
theorem Tx.sqt {K : PySem.W.Frag} {H H' : Hp} (t : Tx H H') {a : Addr} {xs : List V} (h : SqT K H a xs) : SqT K H' a xs := by
  rcases h with (h | ⟨o, h⟩) | h
  · exact .inl (.inl (t _ _ h trivial))
  · exact .inl (.inr ⟨o, t _ _ h trivial⟩)
  · exact .inr h
theorem Tx.sqc {K : PySem.W.Frag} {H H' : Hp} (t : Tx H H') {a : Addr} {xs : List V} (h : SqC K H a xs) : SqC K H' a xs := by
  rcases h with ⟨o, h⟩ | h
  · exact .inl ⟨o, t _ _ h trivial⟩
  · exact .inr h
mutual
theorem Rep.tx {K : PySem.W.Frag} {H H' : Hp} (t : Tx H H') {x : V} : ∀ {v : T}, Rep K H x v → Rep K H' x v
  | .non, h => by simpa [Rep] using h
  | .bl b, h => by simpa [Rep] using h
  | .int i, h => by simpa [Rep] using h
  | .str z, h => by simpa [Rep] using h
  | .ref a, h => by simpa [Rep] using h
  | .tup ts, h => by
    unfold Rep at h ⊢
    obtain ⟨a, ys, e, q, r⟩ := h
    exact ⟨a, ys, e, t.sqt q, Reps.tx t r⟩
  | .cl ts, h => by
    unfold Rep at h ⊢
    obtain ⟨a, ys, e, q, r⟩ := h
    exact ⟨a, ys, e, t.sqc q, Reps.tx t r⟩
theorem Reps.tx {K : PySem.W.Frag} {H H' : Hp} (t : Tx H H') {ys : List V} : ∀ {vs : List T}, Reps K H ys vs → Reps K H' ys vs
  | [], h => by simpa [Reps] using h
  | v :: vs, h => by
    unfold Reps at h ⊢
    obtain ⟨y, r, e, q, s⟩ := h
    exact ⟨y, r, e, Rep.tx t q, Reps.tx t s⟩
end
section
variable {K : PySem.W.Frag} {H : Hp}
theorem rep_int {i : Int} : Rep K H (.int i) (.int i) := by unfold Rep; rfl
theorem rep_str {i : Str} : Rep K H (.str i) (.str i) := by unfold Rep; rfl
theorem rep_bl {i : Bool} : Rep K H (.bl i) (.bl i) := by unfold Rep; rfl
theorem rep_non : Rep K H .non .non := by unfold Rep; rfl
theorem rep_ref {a : Addr} : Rep K H (.ref a) (.ref a) := by unfold Rep; rfl
theorem rep_tup {a : Addr} {ys : List V} {ts : List T} (h : SqT K H a ys) (r : Reps K H ys ts) : Rep K H (.ref a) (.tup ts) := by unfold Rep; exact ⟨a, ys, rfl, h, r⟩
theorem of_int {x : V} {i : Int} (h : Rep K H x (.int i)) : x = .int i := by unfold Rep at h; exact h
theorem of_str {x : V} {i : Str} (h : Rep K H x (.str i)) : x = .str i := by unfold Rep at h; exact h
theorem of_bl {x : V} {i : Bool} (h : Rep K H x (.bl i)) : x = .bl i := by unfold Rep at h; exact h
theorem of_non {x : V} (h : Rep K H x .non) : x = .non := by unfold Rep at h; exact h
theorem of_ref {x : V} {a : Addr} (h : Rep K H x (.ref a)) : x = .ref a := by unfold Rep at h; exact h
theorem of_tup {x : V} {ts : List T} (h : Rep K H x (.tup ts)) : ∃ a ys, x = .ref a ∧ SqT K H a ys ∧ Reps K H ys ts := by unfold Rep at h; exact h
theorem of_cl {x : V} {ts : List T} (h : Rep K H x (.cl ts)) : ∃ a ys, x = .ref a ∧ SqC K H a ys ∧ Reps K H ys ts := by unfold Rep at h; exact h
theorem reps_nil : Reps K H [] [] := by unfold Reps; rfl
theorem reps_cons {y : V} {ys : List V} {t : T} {ts : List T} (a : Rep K H y t) (b : Reps K H ys ts) : Reps K H (y :: ys) (t :: ts) := by unfold Reps; exact ⟨y, ys, rfl, a, b⟩
theorem of_nil {ys : List V} (h : Reps K H ys []) : ys = [] := by unfold Reps at h; exact h
theorem of_cons {ys : List V} {t : T} {ts : List T} (h : Reps K H ys (t :: ts)) : ∃ y r, ys = y :: r ∧ Rep K H y t ∧ Reps K H r ts := by unfold Reps at h; exact h
theorem Reps.length : ∀ {vs : List T} {ys : List V}, Reps K H ys vs → ys.length = vs.length
  | [], _, h => by rw [of_nil h]; rfl
  | _ :: _, _, h => by obtain ⟨y, r, rfl, _, q⟩ := of_cons h; rw [List.length_cons, List.length_cons, q.length]
theorem Reps.get : ∀ {vs : List T} {ys : List V} {i : Nat} {v : T}, Reps K H ys vs → vs[i]? = some v → ∃ y, ys[i]? = some y ∧ Rep K H y v
  | [], _, _, _, _, e => by simp at e
  | _ :: _, _, 0, _, h, e => by obtain ⟨y, r, rfl, a, _⟩ := of_cons h; simp at e; subst e; exact ⟨y, rfl, a⟩
  | _ :: _, _, i + 1, v, h, e => by
    obtain ⟨y, r, rfl, _, q⟩ := of_cons h
    obtain ⟨z, h1, h2⟩ := Reps.get (i := i) (v := v) q (by simpa using e)
    exact ⟨z, by simpa using h1, h2⟩
theorem Reps.get' : ∀ {vs : List T} {ys : List V} {i : Nat} {y : V}, Reps K H ys vs → ys[i]? = some y → ∃ v, vs[i]? = some v ∧ Rep K H y v := fun {vs ys i y} h e => by
  have hl := h.length
  have hi : i < ys.length := (List.getElem?_eq_some_iff.mp e).1
  have hv : vs[i]? = some (vs[i]'(by omega)) := by simp [hl ▸ hi]
  obtain ⟨z, h1, h2⟩ := h.get hv
  rw [e] at h1; cases h1
  exact ⟨_, hv, h2⟩
theorem Reps.app : ∀ {vs ws : List T} {ys zs : List V}, Reps K H ys vs → Reps K H zs ws → Reps K H (ys ++ zs) (vs ++ ws)
  | [], _, _, _, h, q => by rw [of_nil h]; exact q
  | _ :: _, _, _, _, h, q => by obtain ⟨y, r, rfl, a, b⟩ := of_cons h; exact reps_cons a (b.app q)
theorem Reps.take : ∀ (n : Nat) {vs : List T} {ys : List V}, Reps K H ys vs → Reps K H (ys.take n) (vs.take n)
  | 0, _, _, _ => by simpa using reps_nil
  | _ + 1, [], _, h => by rw [of_nil h]; exact reps_nil
  | n + 1, _ :: _, _, h => by obtain ⟨y, r, rfl, a, b⟩ := of_cons h; exact reps_cons a (b.take n)
theorem Reps.drop : ∀ (n : Nat) {vs : List T} {ys : List V}, Reps K H ys vs → Reps K H (ys.drop n) (vs.drop n)
  | 0, _, _, h => h
  | _ + 1, [], _, h => by rw [of_nil h]; exact reps_nil
  | n + 1, _ :: _, _, h => by obtain ⟨y, r, rfl, a, b⟩ := of_cons h; exact b.drop n
theorem Reps.set {y : V} {v : T} (q : Rep K H y v) : ∀ (n : Nat) {vs : List T} {ys : List V}, Reps K H ys vs → Reps K H (ys.set n y) (vs.set n v)
  | _, [], _, h => by rw [of_nil h]; exact reps_nil
  | 0, _ :: _, _, h => by obtain ⟨y, r, rfl, a, b⟩ := of_cons h; exact reps_cons q b
  | n + 1, _ :: _, _, h => by obtain ⟨y, r, rfl, a, b⟩ := of_cons h; exact reps_cons a (b.set q n)
theorem Reps.erase : ∀ (n : Nat) {vs : List T} {ys : List V}, Reps K H ys vs → Reps K H (ys.eraseIdx n) (vs.eraseIdx n)
  | _, [], _, h => by rw [of_nil h]; exact reps_nil
  | 0, _ :: _, _, h => by obtain ⟨y, r, rfl, a, b⟩ := of_cons h; exact b
  | n + 1, _ :: _, _, h => by obtain ⟨y, r, rfl, a, b⟩ := of_cons h; exact reps_cons a (b.erase n)
theorem Reps.dropLast {vs : List T} {ys : List V} (h : Reps K H ys vs) : Reps K H ys.dropLast vs.dropLast := by
  rw [List.dropLast_eq_take, List.dropLast_eq_take, h.length]; exact h.take _
theorem Reps.snoc {vs : List T} {ys : List V} {y : V} {v : T} (h : Reps K H ys vs) (q : Rep K H y v) : Reps K H (ys ++ [y]) (vs ++ [v]) := h.app (reps_cons q reps_nil)
theorem Reps.reverse : ∀ {vs : List T} {ys : List V}, Reps K H ys vs → Reps K H ys.reverse vs.reverse
  | [], _, h => by rw [of_nil h]; exact reps_nil
  | _ :: _, _, h => by obtain ⟨y, r, rfl, a, b⟩ := of_cons h; rw [List.reverse_cons, List.reverse_cons]; exact b.reverse.snoc a
theorem Reps.at {vs : List T} {ys : List V} {i : Int} {v : T} (h : Reps K H ys vs) (e : atI vs i = some v) : ∃ y, atI ys i = some y ∧ Rep K H y v := by
  unfold atI at e ⊢
  rw [h.length]
  cases q : ixN vs.length i with
  | none => rw [q] at e; cases e
  | some j =>
    rw [q] at e
    exact h.get e
theorem reps_ints : ∀ ns : List Int, Reps K H (ns.map V.int) (ns.map T.int)
  | [] => reps_nil
  | n :: r => reps_cons rep_int (reps_ints r)
theorem reps_strs : ∀ ns : List Str, Reps K H (ns.map V.str) (ns.map T.str)
  | [] => reps_nil
  | n :: r => reps_cons rep_str (reps_strs r)
end
/-! ### two heaps -/
abbrev PR (K : PySem.W.Frag) (H : Hp) {κ : Type} (kvs : List (κ × V)) (kws : List (κ × T)) : Prop := PySem.Paired (fun p q => p.1 = q.1 ∧ Rep K H p.2 q.2) kvs kws
def ORel (K : PySem.W.Frag) (H : Hp) (a : Addr) : O → Prop
  | .lst xs => ∃ ys, H a = some (.lst ys) ∧ Reps K H ys xs
  | .dic kvs => ∃ ks, H a = some (.dK ks) ∧ PR K H ks kvs
  | .ins Cl fs => ∃ dx ks, H a = some (.ins Cl dx ks) ∧ PR K H ks fs
  | .fdic kvs => ∃ ks, Rd H a (.dK ks) ∧ PR K H ks kvs
def O.wr : O → Prop
  | .fdic _ => False
  | _ => True
structure Rl (K : PySem.W.Frag) (F H : Hp) (C : Hw) : Prop where
  obj : ∀ a o, C a = some o → ORel K H a o
  frm : ∀ a o, F a = some o → H a = some o ∧ C a = none
theorem pr_tx {K : PySem.W.Frag} {H H' : Hp} (t : Tx H H') {κ : Type} {ks : List (κ × V)} {kvs : List (κ × T)} (h : PR K H ks kvs) : PR K H' ks kvs := L2.Paired.mapP h fun _ _ z => ⟨z.1, z.2.tx t⟩
theorem ORel.stay {K : PySem.W.Frag} {H H' : Hp} {a : Addr} {o : O} (h : ORel K H a o) (t : Tx H H') (e : H' a = H a) : ORel K H' a o := by
  cases o with
  | lst xs => obtain ⟨ys, q, r⟩ := h; exact ⟨ys, e.trans q, r.tx t⟩
  | dic kvs => obtain ⟨ys, q, r⟩ := h; exact ⟨ys, e.trans q, pr_tx t r⟩
  | ins C fs => obtain ⟨dx, ys, q, r⟩ := h; exact ⟨dx, ys, e.trans q, pr_tx t r⟩
  | fdic kvs =>
    obtain ⟨ys, q, r⟩ := h
    refine ⟨ys, ?_, pr_tx t r⟩
    rcases q with q | ⟨o, q⟩
    · exact .inl (e.trans q)
    · exact .inr ⟨o, e.trans q⟩
theorem ORel.some {K : PySem.W.Frag} {H : Hp} {a : Addr} {o : O} (h : ORel K H a o) (wr : o.wr) : ∃ u, H a = some u ∧ ¬ Stb u := by
  cases o with
  | fdic kvs => exact wr.elim
  | lst xs => obtain ⟨ys, q, r⟩ := h; exact ⟨_, q, fun z => z⟩
  | dic kvs => obtain ⟨ys, q, r⟩ := h; exact ⟨_, q, fun z => z⟩
  | ins C fs => obtain ⟨dx, ys, q, r⟩ := h; exact ⟨_, q, fun z => z⟩
theorem ORel.here {K : PySem.W.Frag} {H : Hp} {a : Addr} {o : O} (h : ORel K H a o) : ∃ u, H a = Option.some u := by
  cases o with
  | fdic kvs =>
    obtain ⟨ys, q, r⟩ := h
    rcases q with q | ⟨o, q⟩
    · exact ⟨_, q⟩
    · exact ⟨_, q⟩
  | lst xs => obtain ⟨ys, q, r⟩ := h; exact ⟨_, q⟩
  | dic kvs => obtain ⟨ys, q, r⟩ := h; exact ⟨_, q⟩
  | ins C fs => obtain ⟨dx, ys, q, r⟩ := h; exact ⟨_, q⟩
section
variable {K : PySem.W.Frag} {F H : Hp} {C : Hw}
theorem Rl.free (R : Rl K F H C) {p : Addr} (h : H p = none) : C p = none := by
  cases e : C p with
  | none => rfl
  | some o => obtain ⟨u, q⟩ := (R.obj p o e).here; rw [h] at q; cases q
theorem Rl.lst (R : Rl K F H C) {a : Addr} {xs : List T} (h : C a = some (.lst xs)) : ∃ ys, H a = some (.lst ys) ∧ Reps K H ys xs := R.obj a _ h
/-- a new object that is seen -/
theorem Rl.new (R : Rl K F H C) {p : Addr} {u : HO} {o : O} (h : H p = none) (r : ORel K (upd H p u) p o) : Rl K F (upd H p u) (up C p o) where
  obj := fun a v e => by
    by_cases q : a = p
    · subst q; rw [up_same] at e; cases e; exact r
    · rw [up_ne q] at e
      exact (R.obj a v e).stay (Tx.new h) (upd_ne q)
  frm := fun a v e => by
    have z := R.frm a v e
    have q : a ≠ p := ne_of_none z.1 h
    rw [upd_ne q, up_ne q]; exact z
/-- a new object that is not seen -/
theorem Rl.hid (R : Rl K F H C) {p : Addr} {u : HO} (h : H p = none) : Rl K F (upd H p u) C where
  obj := fun a v e => by
    obtain ⟨w, q⟩ := (R.obj a v e).here
    exact (R.obj a v e).stay (Tx.new h) (upd_ne (ne_of_none q h))
  frm := fun a v e => by
    have z := R.frm a v e
    rw [upd_ne (ne_of_none z.1 h)]; exact z
/-- an object written over -/
theorem Rl.put (R : Rl K F H C) {p : Addr} {u : HO} {o o' : O} (h : C p = some o) (r : ORel K (upd H p u) p o') (wr : o.wr := by trivial) : Rl K F (upd H p u) (up C p o') ∧ Tx H (upd H p u) := by
  obtain ⟨w, hw, ns⟩ := (R.obj p o h).some wr
  have t : Tx H (upd H p u) := Tx.put hw ns
  refine ⟨⟨fun a v e => ?_, fun a v e => ?_⟩, t⟩
  · by_cases q : a = p
    · subst q; rw [up_same] at e; cases e; exact r
    · rw [up_ne q] at e
      exact (R.obj a v e).stay t (upd_ne q)
  · have z := R.frm a v e
    have q : a ≠ p := fun y => by subst y; rw [h] at z; cases z.2
    rw [upd_ne q, up_ne q]; exact z
theorem Rl.putL (R : Rl K F H C) {p : Addr} {xs xs' : List T} {ys' : List V} (h : C p = some (.lst xs)) (r : Reps K H ys' xs') : Rl K F (upd H p (.lst ys')) (up C p (.lst xs')) ∧ Tx H (upd H p (.lst ys')) := by
  obtain ⟨w, hw, ns⟩ := (R.obj p _ h).some trivial
  exact R.put h ⟨ys', upd_same, r.tx (Tx.put hw ns)⟩
theorem Rl.newL (R : Rl K F H C) {p : Addr} {xs : List T} {ys : List V} (h : H p = none) (r : Reps K H ys xs) : Rl K F (upd H p (.lst ys)) (up C p (.lst xs)) := R.new h ⟨ys, upd_same, r.tx (Tx.new h)⟩
/-- a smaller frame -/
theorem Rl.less (R : Rl K F H C) {F' : Hp} (h : ∀ a o, F' a = some o → F a = some o) : Rl K F' H C := ⟨R.obj, fun a o e => R.frm a o (h a o e)⟩
end
/-! ### wishes -/
abbrev Sw := List (Option T)
abbrev WK := T → Hw → Prop
/-- an exception: its class's name, its attributes -/
structure Xn where
  cls : Str
  fs : List (Str × T)
abbrev WX := Xn → Hw → Prop
abbrev WE := Sw → Hw → WK → WX → Prop
abbrev WT := Sw → Hw → (Bool → Hw → Prop) → WX → Prop
abbrev WA := Sw → Hw → (List T → Hw → Prop) → WX → Prop
structure We where
  nx : Sw → Hw → Prop
  rt : WK
  bk : Sw → Hw → Prop := fun _ _ => False
  ct : Sw → Hw → Prop := fun _ _ => False
  xc : WX := fun _ _ => False
abbrev WS := We → Sw → Hw → Prop
abbrev WG := T → Sw → Hw → (Sw → Hw → Prop) → WX → Prop
abbrev WGs := List T → Sw → Hw → (Sw → Hw → Prop) → WX → Prop
/-- what is walked: its items, and what must hold of the heap at each turn -/
abbrev WI := Sw → Hw → (List T → (Hw → Prop) → Hw → Prop) → WX → Prop
abbrev W2 := T → T → Hw → WK → Prop
abbrev Calls := Nat → List T → Hw → WK → WX → Prop
/-! ### what the operations are -/
def eVar (i : Nat) : WE := fun τ C Q _ => ∃ v, τ[i]? = some (some v) ∧ Q v C
def eC (v : T) : WE := fun _ C Q _ => Q v C
def eBin (r : W2) (a b : WE) : WE := fun τ C Q χ => a τ C (fun x C1 => b τ C1 (fun y C2 => r x y C2 Q) χ) χ
def eUn (r : T → Hw → WK → Prop) (a : WE) : WE := fun τ C Q χ => a τ C (fun x C1 => r x C1 Q) χ
def aNil : WA := fun _ C Q _ => Q [] C
def aCons (a : WE) (r : WA) : WA := fun τ C Q χ => a τ C (fun x C1 => r τ C1 (fun xs C2 => Q (x :: xs) C2) χ) χ
def eTup (a : WA) : WE := fun τ C Q χ => a τ C (fun xs C1 => xs.length ≤ sizeLine ∧ Q (.tup xs) C1) χ
def eLst (a : WA) : WE := fun τ C Q χ => a τ C (fun xs C1 => xs.length ≤ sizeLine ∧ ∀ p, C1 p = none → Q (.ref p) (up C1 p (.lst xs))) χ
def eCall (P : Calls) (i : Nat) (a : WA) : WE := fun τ C Q χ => a τ C (fun xs C1 => P i xs C1 Q χ) χ
def eBi (r : List T → Hw → WK → Prop) (a : WA) : WE := fun τ C Q χ => a τ C (fun xs C1 => r xs C1 Q) χ
def eMt (ty : T → Hw → Prop) (r : T → List T → Hw → WK → Prop) (o : WE) (a : WA) : WE := fun τ C Q χ => o τ C (fun x C1 => ty x C1 ∧ a τ C1 (fun xs C2 => r x xs C2 Q) χ) χ
def eIf (c : WT) (a b : WE) : WE := fun τ C Q χ => c τ C (fun k C1 => if k = true then a τ C1 Q χ else b τ C1 Q χ) χ
def eAnd (a b : WE) : WE := fun τ C Q χ => a τ C (fun x C1 => ∃ k, x = .bl k ∧ if k = true then b τ C1 Q χ else Q (.bl false) C1) χ
def eOr (a b : WE) : WE := fun τ C Q χ => a τ C (fun x C1 => ∃ k, x = .bl k ∧ if k = true then Q (.bl true) C1 else b τ C1 Q χ) χ
def eNot (a : WE) : WE := fun τ C Q χ => a τ C (fun x C1 => ∃ k, x = .bl k ∧ Q (.bl (!k)) C1) χ
/-- a value's truth -/
def tru : T → Hw → Bool → Prop
  | .non, _, k => k = false
  | .bl b, _, k => k = b
  | .int i, _, k => k = (i != 0)
  | .str y, _, k => y.length ≤ sizeLine ∧ k = ((y.length : Int) != 0)
  | .tup xs, _, k => k = !xs.isEmpty
  | .cl xs, _, k => k = !xs.isEmpty
  | .ref a, C, k => (∃ xs, C a = some (.lst xs) ∧ k = !xs.isEmpty) ∨ ∃ kvs, C a = some (.dic kvs) ∧ k = !kvs.isEmpty
def tTru (a : WE) : WT := fun τ C Q χ => a τ C (fun x C1 => ∃ k, tru x C1 k ∧ Q k C1) χ
/-- the value is a truth -/
def tBl (a : WE) : WT := fun τ C Q χ => a τ C (fun x C1 => ∃ k, x = .bl k ∧ Q k C1) χ
def tAn (a b : WT) : WT := fun τ C Q χ => a τ C (fun k C1 => if k = true then b τ C1 Q χ else Q false C1) χ
def tOr' (a b : WT) : WT := fun τ C Q χ => a τ C (fun k C1 => if k = true then Q true C1 else b τ C1 Q χ) χ
def tNo (a : WT) : WT := fun τ C Q χ => a τ C (fun k C1 => Q (!k) C1) χ
/-- a op1 b op2 c -/
def eChain (r r' : W2) (a b c : WE) : WE := fun τ C Q χ => a τ C (fun x C1 => b τ C1 (fun y C2 => r x y C2 fun z C3 => ∃ k, z = .bl k ∧ (if k = true then c τ C3 (fun w C4 => r' y w C4 Q) χ else Q (.bl false) C3)) χ) χ
def wAdd : W2
  | .int i, .int j, C, Q => Q (.int (i + j)) C
  | .str i, .str j, C, Q => i.length + j.length ≤ sizeLine ∧ Q (.str (i ++ j)) C
  | .tup xs, .tup ys, C, Q => xs.length + ys.length ≤ sizeLine ∧ Q (.tup (xs ++ ys)) C
  | .ref a, .ref b, C, Q => ∃ xs ys, C a = some (.lst xs) ∧ C b = some (.lst ys) ∧ xs.length + ys.length ≤ sizeLine ∧ ∀ p, C p = none → Q (.ref p) (up C p (.lst (xs ++ ys)))
  | _, _, _, _ => False
def wSub : W2
  | .int i, .int j, C, Q => Q (.int (i - j)) C
  | _, _, _, _ => False
def wMul : W2
  | .int i, .int j, C, Q => CMul i j ∧ Q (.int (i * j)) C
  | _, _, _, _ => False
def wDiv : W2
  | .int i, .int j, C, Q => CDiv i j ∧ Q (.int (i / j)) C
  | _, _, _, _ => False
def wMod : W2
  | .int i, .int j, C, Q => 0 < j ∧ Q (.int (i % j)) C
  | _, _, _, _ => False
def wPow : W2
  | .int i, .int j, C, Q => CPow i j ∧ Q (.int (i ^ j.toNat)) C
  | _, _, _, _ => False
def wNeg : T → Hw → WK → Prop
  | .int i, C, Q => Q (.int (-i)) C
  | _, _, _ => False
def wLt : W2
  | .int i, .int j, C, Q => Q (.bl (decide (i < j))) C
  | .str i, .str j, C, Q => Q (.bl (decide (i.cps.toList < j.cps.toList))) C
  | _, _, _, _ => False
def wLe : W2
  | .int i, .int j, C, Q => Q (.bl (decide (i ≤ j))) C
  | _, _, _, _ => False
def wGt : W2
  | .int i, .int j, C, Q => Q (.bl (decide (j < i))) C
  | _, _, _, _ => False
def wGe : W2
  | .int i, .int j, C, Q => Q (.bl (decide (j ≤ i))) C
  | _, _, _, _ => False
/-! equality, as == tells it -/
mutual
def eqT : T → T → Bool
  | .non, .non => true
  | .bl a, .bl b => a == b
  | .bl a, .int b => (if a then 1 else 0) == b
  | .int a, .bl b => a == (if b then 1 else 0)
  | .int a, .int b => a == b
  | .str a, .str b => a == b
  | .tup xs, .tup ys => eqTs xs ys
  | _, _ => false
def eqTs : List T → List T → Bool
  | [], [] => true
  | x :: xs, y :: ys => eqT x y && eqTs xs ys
  | _, _ => false
end
/-! nothing of the heap in it; how deep it is -/
mutual
def flat : T → Nat → Bool
  | .tup xs, n + 1 => flats xs n
  | .tup _, 0 => false
  | .ref _, _ => false
  | .cl _, _ => false
  | _, _ => true
def flats : List T → Nat → Bool
  | [], _ => true
  | x :: xs, n => flat x n && flats xs n
end
/-- how deep tuples that are compared may be -/
def eqDeep : Nat := 100
def isFlat (x : T) : Prop := flat x eqDeep = true
def wEqG (neg : Bool) : W2
  | .ref a, .ref b, C, Q => ∃ xs ys, C a = some (.lst xs) ∧ C b = some (.lst ys) ∧ (xs.length = ys.length → flats xs eqDeep = true ∧ flats ys eqDeep = true) ∧ Q (.bl (if neg then !eqTs xs ys else eqTs xs ys)) C
  | .ref a, y, C, Q => (∃ xs, C a = some (.lst xs)) ∧ isFlat y ∧ Q (.bl neg) C
  | x, .ref b, C, Q => (∃ ys, C b = some (.lst ys)) ∧ isFlat x ∧ Q (.bl neg) C
  | x, y, C, Q => isFlat x ∧ isFlat y ∧ Q (.bl (if neg then !eqT x y else eqT x y)) C
abbrev wEq : W2 := wEqG false
abbrev wNe : W2 := wEqG true
def wIsN : W2 := fun x y C Q => y = .non ∧ Q (.bl (match x with | .non => true | _ => false)) C
def wNotN : W2 := fun x y C Q => y = .non ∧ Q (.bl (match x with | .non => false | _ => true)) C
def inL (x : T) (xs : List T) : Bool := xs.any fun y => eqT y x
def wInG (neg : Bool) : W2
  | .str i, .str j, C, Q => Q (.bl (if neg then (!(!(Builtin.Str.occurrences j i 0 j.length 1).isEmpty)) else (!(Builtin.Str.occurrences j i 0 j.length 1).isEmpty))) C
  | x, .tup ys, C, Q => isFlat x ∧ flats ys eqDeep = true ∧ Q (.bl (if neg then !inL x ys else inL x ys)) C
  | x, .cl ys, C, Q => isFlat x ∧ flats ys eqDeep = true ∧ Q (.bl (if neg then !inL x ys else inL x ys)) C
  | x, .ref a, C, Q => ∃ ys, C a = some (.lst ys) ∧ isFlat x ∧ flats ys eqDeep = true ∧ Q (.bl (if neg then !inL x ys else inL x ys)) C
  | _, _, _, _ => False
abbrev wIn : W2 := wInG false
abbrev wNotIn : W2 := wInG true
def cut {α : Type} (xs : List α) (lo hi : Option Int) : List α := (xs.drop (HT.sIx xs.length 0 lo)).take (HT.sIx xs.length xs.length hi - HT.sIx xs.length 0 lo)
def wIdx : W2
  | .tup xs, .int i, C, Q => ∃ v, atI xs i = some v ∧ Q v C
  | .cl xs, .int i, C, Q => ∃ v, atI xs i = some v ∧ Q v C
  | .str z, .int i, C, Q => z.length ≤ sizeLine ∧ ∃ c, atI z.cps.toList i = some c ∧ Q (.str ⟨#[c]⟩) C
  | .ref a, .int i, C, Q => ∃ xs v, C a = some (.lst xs) ∧ atI xs i = some v ∧ Q v C
  | _, _, _, _ => False
def oNo : Sw → Hw → (Option Int → Hw → Prop) → WX → Prop := fun _ C Q _ => Q none C
def oSome (a : WE) : Sw → Hw → (Option Int → Hw → Prop) → WX → Prop := fun τ C Q χ => a τ C (fun x C1 => ∃ i, x = .int i ∧ Q (some i) C1) χ
def wSl : T → Option Int → Option Int → Hw → WK → Prop
  | .tup xs, lo, hi, C, Q => ¬ (HT.sIx xs.length 0 lo = 0 ∧ HT.sIx xs.length xs.length hi = xs.length) ∧ Q (.tup (cut xs lo hi)) C
  | .cl xs, lo, hi, C, Q => ∀ p, C p = none → Q (.ref p) (up C p (.lst (cut xs lo hi)))
  | .str z, lo, hi, C, Q => z.length ≤ sizeLine ∧ Q (.str (Txt.slice z lo hi)) C
  | .ref a, lo, hi, C, Q => ∃ xs, C a = some (.lst xs) ∧ ∀ p, C p = none → Q (.ref p) (up C p (.lst (cut xs lo hi)))
  | _, _, _, _, _ => False
def eSl (a : WE) (lo hi : Sw → Hw → (Option Int → Hw → Prop) → WX → Prop) : WE := fun τ C Q χ => a τ C (fun x C1 => lo τ C1 (fun l C2 => hi τ C2 (fun h C3 => wSl x l h C3 Q) χ) χ) χ
def bLen : List T → Hw → WK → Prop := fun vs C Q => ∃ x, vs = [x] ∧ match x with
  | .str z => z.length ≤ sizeLine ∧ Q (.int z.length) C
  | .tup xs => Q (.int xs.length) C
  | .cl xs => Q (.int xs.length) C
  | .ref a => ∃ xs, C a = some (.lst xs) ∧ Q (.int xs.length) C
  | _ => False
def bMax : List T → Hw → WK → Prop := fun vs C Q => ∃ i j, vs = [.int i, .int j] ∧ Q (.int (if j > i then j else i)) C
def bMin : List T → Hw → WK → Prop := fun vs C Q => ∃ i j, vs = [.int i, .int j] ∧ Q (.int (if j < i then j else i)) C
def bAll : List T → Hw → WK → Prop := fun vs C Q => ∃ (a : Addr) (bs : List Bool), vs = [.ref a] ∧ C a = some (.lst (bs.map T.bl)) ∧ Q (.bl (bs.all id)) C
def bTuple : List T → Hw → WK → Prop := fun vs C Q => ∃ x, vs = [x] ∧ match x with
  | .tup xs => Q (.tup xs) C
  | .cl xs => Q (.tup xs) C
  | .ref a => ∃ xs, C a = some (.lst xs) ∧ Q (.tup xs) C
  | _ => False
def bList : List T → Hw → WK → Prop := fun vs C Q => ∃ x, vs = [x] ∧ match x with
  | .tup xs => ∀ p, C p = none → Q (.ref p) (up C p (.lst xs))
  | .cl xs => ∀ p, C p = none → Q (.ref p) (up C p (.lst xs))
  | .ref a => ∃ xs, C a = some (.lst xs) ∧ ∀ p, C p = none → Q (.ref p) (up C p (.lst xs))
  | _ => False
/-- the name of a value's class -/
def tyN : T → Hw → String → Prop
  | .non, _, n => n = "NoneType"
  | .bl _, _, n => n = "bool"
  | .int _, _, n => n = "int"
  | .str _, _, n => n = "str"
  | .tup _, _, n => n = "tuple"
  | .cl _, _, n => n = "list"
  | .ref a, C, n => (n = "list" ∧ ∃ xs, C a = some (.lst xs)) ∨ (n = "dict" ∧ ∃ kvs, C a = some (.dic kvs))
def isCls (n c : String) : Bool := n == c || (n == "bool" && c == "int")
/-- isinstance(a, c), c a class of Python's own -/
def eIsi (a : WE) (c : String) : WE := fun τ C Q χ => a τ C (fun x C1 => ∃ n, tyN x C1 n ∧ Q (.bl (isCls n c)) C1) χ
def tyL' : T → Hw → Prop := fun x C => ∃ a xs, x = .ref a ∧ C a = some (.lst xs)
def tyS : T → Hw → Prop := fun x _ => ∃ z, x = .str z
def mAppend : T → List T → Hw → WK → Prop := fun x vs C Q => ∃ a xs y, x = .ref a ∧ vs = [y] ∧ C a = some (.lst xs) ∧ xs.length < sizeLine ∧ Q .non (up C a (.lst (xs ++ [y])))
def mPop : T → List T → Hw → WK → Prop := fun x vs C Q => ∃ a xs y, x = .ref a ∧ vs = [] ∧ C a = some (.lst xs) ∧ xs[xs.length - 1]? = some y ∧ Q y (up C a (.lst xs.dropLast))
def mPopAt : T → List T → Hw → WK → Prop := fun x vs C Q => ∃ a xs i k y, x = .ref a ∧ vs = [.int i] ∧ C a = some (.lst xs) ∧ -(2 ^ 63) ≤ i ∧ i < 2 ^ 63 ∧ seqIndex? i xs.length = some k ∧ xs[k]? = some y ∧ Q y (up C a (.lst (xs.eraseIdx k)))
/-! ### targets, statements -/
def gNm (i : Nat) : WG := fun v τ C Q _ => Q (τ.set i (some v)) C
def gsNil : WGs := fun vs τ C Q _ => vs = [] ∧ Q τ C
def gsCons (g : WG) (gs : WGs) : WGs := fun vs τ C Q χ => ∃ v r, vs = v :: r ∧ g v τ C (fun τ' C' => gs r τ' C' Q χ) χ
def gTp (gs : WGs) : WG := fun v τ C Q χ => ∃ xs, v = .tup xs ∧ gs xs τ C Q χ
/-- o[i] = .. -/
def gSb (o i : WE) : WG := fun v τ C Q χ => o τ C (fun x C1 => i τ C1 (fun y C2 => ∃ a xs k j, x = .ref a ∧ y = .int k ∧ C2 a = some (.lst xs) ∧ ixN xs.length k = some j ∧ Q τ (up C2 a (.lst (xs.set j v)))) χ) χ
def sPass : WS := fun D τ C => D.nx τ C
def sSeq (a b : WS) : WS := fun D τ C => a { D with nx := b D } τ C
def sExpr (e : WE) : WS := fun D τ C => e τ C (fun _ C1 => D.nx τ C1) D.xc
def sRet (e : WE) : WS := fun D τ C => e τ C D.rt D.xc
def sRetN : WS := fun D _ C => D.rt .non C
def sIf (c : WT) (a b : WS) : WS := fun D τ C => c τ C (fun k C1 => if k = true then a D τ C1 else b D τ C1) D.xc
def sAsg (e : WE) (g : WG) : WS := fun D τ C => e τ C (fun x C1 => g x τ C1 D.nx D.xc) D.xc
def sBrk : WS := fun D τ C => D.bk τ C
def sCont : WS := fun D τ C => D.ct τ C
def sNever : WS := fun _ _ _ => False
def forW (g : WG) (b : WS) (ok : Hw → Prop) (D : We) : List T → Sw → Hw → Prop
  | [], τ, C => ok C ∧ D.nx τ C
  | x :: xs, τ, C => ok C ∧ g x τ C (fun τ2 C2 => b { D with nx := forW g b ok D xs, ct := forW g b ok D xs, bk := D.nx } τ2 C2) D.xc
def sFor (i : WI) (g : WG) (b : WS) : WS := fun D τ C => i τ C (fun xs ok C1 => forW g b ok D xs τ C1) D.xc
def iSeq (e : WE) : WI := fun τ C R χ => e τ C (fun v C1 => match v with
  | .tup xs => R xs (fun _ => True) C1
  | .cl xs => R xs (fun _ => True) C1
  | .str z => R (z.cps.toList.map fun c => T.str ⟨#[c]⟩) (fun _ => True) C1
  | .ref a => ∃ xs, C1 a = some (.lst xs) ∧ R xs (fun C2 => C2 a = some (.lst xs)) C1
  | _ => False) χ
def rng (lo : Int) (n : Nat) : List T := (List.range n).map fun k : Nat => T.int (lo + k)
def iR1 (a : WA) : WI := fun τ C R χ => a τ C (fun vs C1 => ∃ j : Int, vs = [.int j] ∧ -(2 ^ 62) ≤ j ∧ j < 2 ^ 62 ∧ R (rng 0 j.toNat) (fun _ => True) C1) χ
def iR2 (a : WA) : WI := fun τ C R χ => a τ C (fun vs C1 => ∃ i j : Int, vs = [.int i, .int j] ∧ (-(2 ^ 62) ≤ i ∧ i < 2 ^ 62 ∧ -(2 ^ 62) ≤ j ∧ j < 2 ^ 62) ∧ R (rng i (j - i).toNat) (fun _ => True) C1) χ
def iEn (a : WA) : WI := fun τ C R χ => a τ C (fun vs C1 => ∃ z, vs = [.str z] ∧ R (z.cps.toList.zipIdx.map fun c => T.tup [.int c.2, .str ⟨#[c.1]⟩]) (fun _ => True) C1) χ
def capW (cap : List (Option Nat)) (τ : Sw) : Sw := cap.map fun o => o.bind fun i => (τ[i]?).join
def tYes : WT := fun _ C Q _ => Q true C
def compW (g : WG) (c : WT) (e : WE) (ok : Hw → Prop) (τ : Sw) (Q : List T → Hw → Prop) (χ : WX) : List T → List T → Hw → Prop
  | [], acc, C => ok C ∧ Q acc C
  | x :: xs, acc, C => ok C ∧ g x τ C (fun τ2 C2 => c τ2 C2 (fun b C3 => if b = true then e τ2 C3 (fun v C4 => acc.length < sizeLine ∧ compW g c e ok τ Q χ xs (acc ++ [v]) C4) χ else compW g c e ok τ Q χ xs acc C3) χ) χ
def eComp (cap : List (Option Nat)) (i : WI) (g : WG) (c : WT) (e : WE) : WE := fun τ C Q χ => i τ C (fun xs ok C1 => compW g c e ok (capW cap τ) (fun vs C2 => ∀ p, C2 p = none → Q (.ref p) (up C2 p (.lst vs))) χ xs [] C1) χ
/-! ### defs -/
structure Df where
  n : Nat
  ar : Nat
  body : Calls → WS
def wpc (pr : List Df) : Nat → Calls
  | 0 => fun _ _ _ _ _ => False
  | n + 1 => fun i vs C Q χ => ∃ d, pr[i]? = some d ∧ vs.length = d.ar ∧ d.body (wpc pr n) { nx := fun _ C' => Q .non C', rt := Q, xc := χ } (vs.map some ++ List.replicate (d.n - d.ar) none) C
end WL
set_option Elab.async false
set_option linter.all false
set_option maxRecDepth 100000
set_option maxHeartbeats 4000000
namespace WL
open PySem PySem.Spec PyProof.Rows L2
/-! ### equality of values over the heap -/
section
variable {X : Cx} {pins : List (Addr × Obj)} {σ : L2.St} {H : Hp} {s : Shared}
def sc : T → Option V
  | .non => some .non
  | .bl b => some (.bl b)
  | .int i => some (.int i)
  | .str z => some (.str z)
  | _ => none
theorem rep_sc {K : PySem.W.Frag} {H : Hp} {x z : V} {v : T} (h : sc v = some z) (r : Rep K H x v) : x = z ∧ flatV z = true := by
  cases v with
  | non => cases h; exact ⟨of_non r, rfl⟩
  | bl b => cases h; exact ⟨of_bl r, rfl⟩
  | int i => cases h; exact ⟨of_int r, rfl⟩
  | str z => cases h; exact ⟨of_str r, rfl⟩
  | _ => cases h
theorem eqT_sc {v w : T} {a b : V} (h : sc v = some a) (h' : sc w = some b) : eqT v w = eqV a b := by
  cases v <;> cases w <;> cases h <;> cases h' <;> unfold eqT <;> rfl
mutual
theorem eqT_refl : ∀ (v : T) {n : Nat}, flat v n = true → eqT v v = true
  | .non, _, _ => by unfold eqT; rfl
  | .bl b, _, _ => by unfold eqT; simp
  | .int b, _, _ => by unfold eqT; simp
  | .str b, _, _ => by unfold eqT; simp
  | .tup xs, 0, h => by unfold flat at h; cases h
  | .tup xs, n + 1, h => by unfold flat at h; unfold eqT; exact eqTs_refl xs h
  | .ref a, _, h => by unfold flat at h; cases h
  | .cl a, _, h => by unfold flat at h; cases h
theorem eqTs_refl : ∀ (v : List T) {n : Nat}, flats v n = true → eqTs v v = true
  | [], _, _ => by unfold eqTs; rfl
  | x :: xs, n, h => by
    unfold flats at h
    rw [Bool.and_eq_true] at h
    unfold eqTs
    rw [eqT_refl x h.1, eqTs_refl xs h.2]; rfl
end
theorem sc_none {v : T} {n : Nat} (h : flat v n = true) (e : sc v = none) : ∃ ts m, v = .tup ts ∧ n = m + 1 ∧ flats ts m = true := by
  cases v with
  | tup ts =>
    cases n with
    | zero => unfold flat at h; cases h
    | succ m => unfold flat at h; exact ⟨ts, m, rfl, rfl, h⟩
  | ref a => unfold flat at h; cases h
  | cl a => unfold flat at h; cases h
  | non => cases e
  | bl b => cases e
  | int b => cases e
  | str b => cases e
theorem flats_get : ∀ {vs : List T} {n i : Nat} {v : T}, flats vs n = true → vs[i]? = some v → flat v n = true
  | [], _, _, _, _, e => by simp at e
  | x :: xs, n, 0, v, h, e => by
    unfold flats at h
    rw [Bool.and_eq_true] at h
    simp at e; subst e; exact h.1
  | x :: xs, n, i + 1, v, h, e => by
    unfold flats at h
    rw [Bool.and_eq_true] at h
    exact flats_get h.2 (by simpa using e)
/-- the same thing stands for one flat value alone -/
theorem rep_inj (I : Inv X pins σ H s) : ∀ (n : Nat) {v w : T} {x : V}, flat v n = true → flat w n = true → Rep X.K H x v → Rep X.K H x w → v = w := by
  intro n
  induction n with
  | zero =>
    intro v w x fv fw rv rw'
    cases ev : sc v with
    | none => obtain ⟨_, _, _, h, _⟩ := sc_none fv ev; cases h
    | some a =>
      cases ew : sc w with
      | none => obtain ⟨_, _, _, h, _⟩ := sc_none fw ew; cases h
      | some b =>
        obtain ⟨e1, _⟩ := rep_sc ev rv
        obtain ⟨e2, _⟩ := rep_sc ew rw'
        have e : a = b := e1.symm.trans e2
        subst e
        cases v <;> cases ev <;> cases w <;> cases ew <;> rfl
  | succ n ih =>
    intro v w x fv fw rv rw'
    have lists : ∀ {ys : List V} {vs ws : List T}, flats vs n = true → flats ws n = true → Reps X.K H ys vs → Reps X.K H ys ws → vs = ws := by
      intro ys vs
      induction vs generalizing ys with
      | nil =>
        intro ws _ _ a b
        have := of_nil a
        subst this
        cases ws with
        | nil => rfl
        | cons w ws => obtain ⟨_, _, e, _⟩ := of_cons b; cases e
      | cons v vs ihv =>
        intro ws fa fb a b
        obtain ⟨y, r, rfl, a1, a2⟩ := of_cons a
        cases ws with
        | nil => have := of_nil b; cases this
        | cons w ws =>
          obtain ⟨y', r', e, b1, b2⟩ := of_cons b
          cases e
          unfold flats at fa fb
          rw [Bool.and_eq_true] at fa fb
          rw [ih fa.1 fb.1 a1 b1, ihv fa.2 fb.2 a2 b2]
    cases ev : sc v with
    | none =>
      obtain ⟨ts, m, rfl, em, ft⟩ := sc_none fv ev
      cases em
      obtain ⟨a, ys, rfl, hq, r⟩ := of_tup rv
      cases ew : sc w with
      | none =>
        obtain ⟨us, m', rfl, em, fu⟩ := sc_none fw ew
        cases em
        obtain ⟨b, zs, e, hq', r'⟩ := of_tup rw'
        cases e
        have e := I.tuple_inj hq hq'
        subst e
        rw [lists ft fu r r']
      | some b =>
        obtain ⟨e2, f⟩ := rep_sc ew rw'
        subst e2
        cases f
    | some a =>
      obtain ⟨e1, f⟩ := rep_sc ev rv
      cases ew : sc w with
      | none =>
        obtain ⟨us, m', rfl, em, fu⟩ := sc_none fw ew
        obtain ⟨b, zs, e, hq', r'⟩ := of_tup rw'
        subst e1
        subst e
        cases f
      | some b =>
        obtain ⟨e2, _⟩ := rep_sc ew rw'
        have e : a = b := e1.symm.trans e2
        subst e
        cases v <;> cases ev <;> cases w <;> cases ew <;> rfl
def eqJ (ts us : List T) (j : Nat) : Bool := match ts[j]?, us[j]? with
  | some a, some b => eqT a b
  | _, _ => true
theorem eqTs_range : ∀ (vs ws : List T), ((List.range (min vs.length ws.length)).all (eqJ vs ws) && vs.length == ws.length) = eqTs vs ws
  | [], [] => by unfold eqTs; rfl
  | [], _ :: _ => by unfold eqTs; simp
  | _ :: _, [] => by unfold eqTs; simp
  | v :: vs, w :: ws => by
    unfold eqTs
    rw [← eqTs_range vs ws]
    rw [List.length_cons, List.length_cons, show min (vs.length + 1) (ws.length + 1) = min vs.length ws.length + 1 by omega, List.range_succ_eq_map, List.all_cons, List.all_map]
    have e1 : eqJ (v :: vs) (w :: ws) 0 = eqT v w := rfl
    have e2 : (eqJ (v :: vs) (w :: ws) ∘ Nat.succ) = eqJ vs ws := by funext j; simp [Function.comp_def, eqJ]
    rw [e1, e2]
    simp [Bool.and_assoc]
/-- == within another comparison -/
theorem eqAtT (I : Inv X pins σ H s) : ∀ (n : Nat) {v w : T} {x y : V} {u u' : Value} {A : Around}, flat v n = true → flat w n = true → Rep X.K H x v → Rep X.K H y w → RelV x u → RelV y u' → A.units + n < cLine →
    SeqAt.EqAt A s u u' (eqT v w) := by
  intro n
  induction n with
  | zero =>
    intro v w x y u u' A fv fw rv rw' ru ru' hu
    cases ev : sc v with
    | none => obtain ⟨_, _, _, h, _⟩ := sc_none fv ev; cases h
    | some a =>
      cases ew : sc w with
      | none => obtain ⟨_, _, _, h, _⟩ := sc_none fw ew; cases h
      | some b =>
        obtain ⟨rfl, f1⟩ := rep_sc ev rv
        obtain ⟨rfl, f2⟩ := rep_sc ew rw'
        rw [eqT_sc ev ew]
        exact eqAt_V ru ru' f1 f2
  | succ n ih =>
    intro v w x y u u' A fv fw rv rw' ru ru' hu
    have hu0 : A.units < cLine := by omega
    cases ev : sc v with
    | some a =>
      obtain ⟨rfl, f1⟩ := rep_sc ev rv
      cases ew : sc w with
      | some b =>
        obtain ⟨rfl, f2⟩ := rep_sc ew rw'
        rw [eqT_sc ev ew]
        exact eqAt_V ru ru' f1 f2
      | none =>
        obtain ⟨ts, m, rfl, em, ft⟩ := sc_none fw ew
        obtain ⟨b, zs, rfl, hq, r⟩ := of_tup rw'
        cases ru'
        obtain ⟨its, _, p, _⟩ := I.tuple hq
        cases v with
        | non => cases ev; cases ru; unfold eqT; exact SeqAt.EqAt.none_tuple p hu0
        | bl c => cases ev; cases ru; unfold eqT; exact SeqAt.EqAt.bool_tuple c p hu0
        | int i => cases ev; obtain ⟨t, rfl⟩ := ru; unfold eqT; exact SeqAt.EqAt.int_tuple i t p hu0
        | str i => cases ev; obtain ⟨t, rfl⟩ := ru; unfold eqT; exact SeqAt.EqAt.str_tuple i t p hu0
        | _ => cases ev
    | none =>
      obtain ⟨ts, m, rfl, em, ft⟩ := sc_none fv ev
      cases em
      obtain ⟨a, ys, rfl, hq, r⟩ := of_tup rv
      cases ru
      obtain ⟨its, rI, p, _⟩ := I.tuple hq
      cases ew : sc w with
      | some b =>
        obtain ⟨rfl, f2⟩ := rep_sc ew rw'
        cases w with
        | non => cases ew; cases ru'; unfold eqT; exact SeqAt.EqAt.tuple_none p hu0
        | bl c => cases ew; cases ru'; unfold eqT; exact SeqAt.EqAt.tuple_bool c p hu0
        | int i => cases ew; obtain ⟨t, rfl⟩ := ru'; unfold eqT; exact SeqAt.EqAt.tuple_int i t p hu0
        | str i => cases ew; obtain ⟨t, rfl⟩ := ru'; unfold eqT; exact SeqAt.EqAt.tuple_str i t p hu0
        | _ => cases ew
      | none =>
        obtain ⟨us, m', rfl, em, fu⟩ := sc_none fw ew
        cases em
        obtain ⟨b, zs, rfl, hq', r'⟩ := of_tup rw'
        cases ru'
        obtain ⟨its', rI', p', _⟩ := I.tuple hq'
        by_cases hne : a = b
        · subst hne
          have e := rep_inj I (n + 1) fv fw (rep_tup hq r) (rep_tup hq' r')
          rw [e, eqT_refl _ fw]
          exact SeqAt.EqAt.same _
        · have l1 : its.toArray.size = ts.length := by rw [List.size_toArray, ← rI.length, r.length]
          have l2 : its'.toArray.size = us.length := by rw [List.size_toArray, ← rI'.length, r'.length]
          have key := SeqAt.EqAt.of_refs hne (SeqAt.RcAt.tuples (A := A) (e := eqJ ts us) p p' hu0 (fun j h1 h2 => by
            have i1 : ts[j]? = some (ts[j]'(by omega)) := by simp [l1 ▸ h1]
            have i2 : us[j]? = some (us[j]'(by omega)) := by simp [l2 ▸ h2]
            obtain ⟨x1, g1, q1⟩ := r.get i1
            obtain ⟨x2, g2, q2⟩ := r'.get i2
            obtain ⟨u1, k1, z1⟩ := rI.get g1
            obtain ⟨u2, k2, z2⟩ := rI'.get g2
            have e1 : its.toArray[j] = u1 := by
              have : its[j]? = some its.toArray[j] := by simp
              rw [k1] at this; exact (Option.some.inj this).symm
            have e2 : its'.toArray[j] = u2 := by
              have : its'[j]? = some its'.toArray[j] := by simp
              rw [k2] at this; exact (Option.some.inj this).symm
            rw [e1, e2]
            unfold eqJ
            simp only [i1, i2]
            exact ih (flats_get ft i1) (flats_get fu i2) q1 q2 z1 z2 (by show A.units + 1 + n < cLine; omega)))
          rw [l1, l2, eqTs_range] at key
          unfold eqT
          exact key
end
end WL
set_option Elab.async false
set_option linter.all false
set_option maxRecDepth 100000
set_option maxHeartbeats 4000000
namespace WL
open PySem PySem.Spec PyProof.Rows L2
def RepS (K : PySem.W.Frag) (H : Hp) (σ : L2.St) (τ : Sw) : Prop := σ.length = τ.length ∧ ∀ (i : Nat) (v : T), τ[i]? = some (some v) → ∃ x, σ[i]? = some (some x) ∧ Rep K H x v
theorem RepS.tx {K : PySem.W.Frag} {H H' : Hp} {σ : L2.St} {τ : Sw} (h : RepS K H σ τ) (t : Tx H H') : RepS K H' σ τ := ⟨h.1, fun i v e => let ⟨x, a, b⟩ := h.2 i v e; ⟨x, a, b.tx t⟩⟩
theorem RepS.set {K : PySem.W.Frag} {H : Hp} {σ : L2.St} {τ : Sw} (h : RepS K H σ τ) {i : Nat} {x : V} {v : T} (r : Rep K H x v) : RepS K H (σ.set i (some x)) (τ.set i (some v)) := by
  refine ⟨by rw [List.length_set, List.length_set]; exact h.1, fun j w e => ?_⟩
  by_cases hj : i = j
  · subst hj
    by_cases hi : i < τ.length
    · rw [List.getElem?_set_self hi] at e
      cases e
      exact ⟨x, List.getElem?_set_self (by rw [h.1]; exact hi), r⟩
    · rw [List.getElem?_eq_none (by rw [List.length_set]; omega)] at e
      cases e
  · rw [List.getElem?_set_ne hj] at e ⊢
    exact h.2 j w e
abbrev QE (K : PySem.W.Frag) (F H : Hp) (Q : VK) (Q' : WK) : Prop := ∀ x v H' C', Rl K F H' C' → Tx H H' → Rep K H' x v → Q' v C' → Q x H'
abbrev QT (K : PySem.W.Frag) (F H : Hp) (Q : Bool → Hp → Prop) (Q' : Bool → Hw → Prop) : Prop := ∀ b H' C', Rl K F H' C' → Tx H H' → Q' b C' → Q b H'
abbrev QA (K : PySem.W.Frag) (F H : Hp) (Q : List V → Hp → Prop) (Q' : List T → Hw → Prop) : Prop := ∀ xs vs H' C', Rl K F H' C' → Tx H H' → Reps K H' xs vs → Q' vs C' → Q xs H'
theorem QE.at {K : PySem.W.Frag} {F H H1 : Hp} {Q : VK} {Q' : WK} (q : QE K F H Q Q') (t : Tx H H1) : QE K F H1 Q Q' := fun x v H' C' R t' => q x v H' C' R (t.trans t')
def SimE (K : PySem.W.Frag) (te : TE) (we : WE) : Prop := ∀ (F H : Hp) (C : Hw) (σ : L2.St) (τ : Sw) (Q : VK) (Q' : WK) (χ : WX), Rl K F H C → RepS K H σ τ → we τ C Q' χ → QE K F H Q Q' → te σ H Q
def SimT (K : PySem.W.Frag) (te : TT) (we : WT) : Prop := ∀ (F H : Hp) (C : Hw) (σ : L2.St) (τ : Sw) (Q : Bool → Hp → Prop) (Q' : Bool → Hw → Prop) (χ : WX), Rl K F H C → RepS K H σ τ → we τ C Q' χ → QT K F H Q Q' → te σ H Q
def SimA (K : PySem.W.Frag) (te : TA) (we : WA) : Prop := ∀ (F H : Hp) (C : Hw) (σ : L2.St) (τ : Sw) (Q : List V → Hp → Prop) (Q' : List T → Hw → Prop) (χ : WX), Rl K F H C → RepS K H σ τ → we τ C Q' χ → QA K F H Q Q' → te σ H Q
def SimR (K : PySem.W.Frag) (r : R2) (w : W2) : Prop := ∀ (F H : Hp) (C : Hw) (x y : V) (v u : T) (Q : VK) (Q' : WK), Rl K F H C → Rep K H x v → Rep K H y u → w v u C Q' → QE K F H Q Q' → r x y H Q
def SimB (K : PySem.W.Frag) (r : List V → Hp → VK → Prop) (w : List T → Hw → WK → Prop) : Prop := ∀ (F H : Hp) (C : Hw) (xs : List V) (vs : List T) (Q : VK) (Q' : WK), Rl K F H C → Reps K H xs vs → w vs C Q' → QE K F H Q Q' → r xs H Q
def SimM (K : PySem.W.Frag) (r : V → List V → Hp → VK → Prop) (w : T → List T → Hw → WK → Prop) : Prop := ∀ (F H : Hp) (C : Hw) (x : V) (v : T) (xs : List V) (vs : List T) (Q : VK) (Q' : WK), Rl K F H C → Rep K H x v → Reps K H xs vs → w v vs C Q' → QE K F H Q Q' → r x xs H Q
def SimU (K : PySem.W.Frag) (r : V → Hp → VK → Prop) (w : T → Hw → WK → Prop) : Prop := ∀ (F H : Hp) (C : Hw) (x : V) (v : T) (Q : VK) (Q' : WK), Rl K F H C → Rep K H x v → w v C Q' → QE K F H Q Q' → r x H Q
def SdE (X : Cx) (e : Expr) (w : WE) : Prop := ∃ t, PE X e t ∧ SimE X.K t w
def SdT (X : Cx) (e : Expr) (w : WT) : Prop := ∃ t, PT X e t ∧ SimT X.K t w
def SdW (X : Cx) (e : Expr) (w : WT) : Prop := ∃ t, PW X e t ∧ SimT X.K t w
def SdA (X : Cx) (es : List Expr) (w : WA) : Prop := ∃ t, PA X es t ∧ SimA X.K t w
def OpS (X : Cx) (f : Value → Value → Sem Value) (w : W2) : Prop := ∃ r, OpR X f r ∧ SimR X.K r w
def IxS (X : Cx) (w : W2) : Prop := ∃ r, IxR X r ∧ SimR X.K r w
def CallS (X : Cx) (f : Value) (w : List T → Hw → WK → Prop) : Prop := ∃ r, CallR X f r ∧ SimB X.K r w
def MtS (X : Cx) (id : String) (w : T → List T → Hw → WK → Prop) : Prop := ∃ r, MtR X id r ∧ SimM X.K r w
section
variable {K : PySem.W.Frag} {ta tb tc : TE} {wa wb wc : WE} {r r' : R2} {w w' : W2}
theorem s_var {i : Nat} : SimE K (tVar i) (eVar i) := fun F H C σ τ Q Q' χ R S h q => by
  obtain ⟨v, e, h⟩ := h
  obtain ⟨x, ex, rx⟩ := S.2 i v e
  exact ⟨x, ex, q x v H C R (Tx.refl H) rx h⟩
theorem s_c {x : V} {v : T} (h : ∀ H, Rep K H x v) : SimE K (tC x) (eC v) := fun F H C σ τ Q Q' χ R S w q => q x v H C R (Tx.refl H) (h H) w
theorem s_op (ha : SimE K ta wa) (hb : SimE K tb wb) (hr : SimR K r w) : SimE K (tOp r ta tb) (eBin w wa wb) := fun F H C σ τ Q Q' χ R S h q => by
  refine ha F H C σ τ _ _ χ R S h fun x v H1 C1 R1 t1 rx h1 => ?_
  refine hb F H1 C1 σ τ _ _ χ R1 (S.tx t1) h1 fun y u H2 C2 R2 t2 ry h2 => ?_
  exact hr F H2 C2 x y v u Q Q' R2 (rx.tx t2) ry h2 (QE.at q (t1.trans t2))
theorem s_un {r : V → Hp → VK → Prop} {w : T → Hw → WK → Prop} (ha : SimE K ta wa) (hr : SimU K r w) : SimE K (tUn r ta) (eUn w wa) := fun F H C σ τ Q Q' χ R S h q => by
  refine ha F H C σ τ _ _ χ R S h fun x v H1 C1 R1 t1 rx h1 => ?_
  exact hr F H1 C1 x v Q Q' R1 rx h1 (QE.at q t1)
theorem s_nil : SimA K tNil aNil := fun F H C σ τ Q Q' χ R S h q => q [] [] H C R (Tx.refl H) reps_nil h
theorem s_cons {t : TA} {wt : WA} (ha : SimE K ta wa) (hb : SimA K t wt) : SimA K (tCons ta t) (aCons wa wt) := fun F H C σ τ Q Q' χ R S h q => by
  refine ha F H C σ τ _ _ χ R S h fun x v H1 C1 R1 t1 rx h1 => ?_
  exact hb F H1 C1 σ τ _ _ χ R1 (S.tx t1) h1 fun xs vs H2 C2 R2 t2 rs h2 => q (x :: xs) (v :: vs) H2 C2 R2 (t1.trans t2) (reps_cons (rx.tx t2) rs) h2
theorem s_tup {t : TA} {wt : WA} (ha : SimA K t wt) : SimE K (tTup t) (eTup wt) := fun F H C σ τ Q Q' χ R S h q => by
  refine ha F H C σ τ _ _ χ R S h fun xs vs H1 C1 R1 t1 rs h1 => ⟨by rw [rs.length]; exact h1.1, fun p hp => ?_⟩
  exact q _ _ _ C1 (R1.hid hp) (t1.trans (Tx.new hp)) (rep_tup (SqT.of upd_same) (rs.tx (Tx.new hp))) h1.2
theorem s_lst {t : TA} {wt : WA} (ha : SimA K t wt) : SimE K (tLst t) (eLst wt) := fun F H C σ τ Q Q' χ R S h q => by
  refine ha F H C σ τ _ _ χ R S h fun xs vs H1 C1 R1 t1 rs h1 => ⟨by rw [rs.length]; exact h1.1, fun p hp => ?_⟩
  exact q _ _ _ _ (R1.newL hp rs) (t1.trans (Tx.new hp)) rep_ref (h1.2 p (R1.free hp))
theorem s_bi {r : List V → Hp → VK → Prop} {w : List T → Hw → WK → Prop} {t : TA} {wt : WA} (hr : SimB K r w) (ha : SimA K t wt) : SimE K (tCB r t) (eBi w wt) := fun F H C σ τ Q Q' χ R S h q => by
  refine ha F H C σ τ _ _ χ R S h fun xs vs H1 C1 R1 t1 rs h1 => ?_
  exact hr F H1 C1 xs vs Q Q' R1 rs h1 (QE.at q t1)
theorem s_if {tt : TT} {wt : WT} (hc : SimT K tt wt) (ha : SimE K ta wa) (hb : SimE K tb wb) : SimE K (tIf tt ta tb) (eIf wt wa wb) := fun F H C σ τ Q Q' χ R S h q => by
  refine hc F H C σ τ _ _ χ R S h fun k H1 C1 R1 t1 h1 => ?_
  cases k with
  | true => exact ha F H1 C1 σ τ Q Q' χ R1 (S.tx t1) h1 (QE.at q t1)
  | false => exact hb F H1 C1 σ τ Q Q' χ R1 (S.tx t1) h1 (QE.at q t1)
theorem s_and (ha : SimE K ta wa) (hb : SimE K tb wb) : SimE K (tAndV ta tb) (eAnd wa wb) := fun F H C σ τ Q Q' χ R S h q => by
  refine ha F H C σ τ _ _ χ R S h fun x v H1 C1 R1 t1 rx h1 => ?_
  obtain ⟨k, rfl, h1⟩ := h1
  refine ⟨k, of_bl rx, ?_⟩
  cases k with
  | true => exact hb F H1 C1 σ τ Q Q' χ R1 (S.tx t1) h1 (QE.at q t1)
  | false => exact q _ _ H1 C1 R1 t1 rep_bl h1
theorem s_or (ha : SimE K ta wa) (hb : SimE K tb wb) : SimE K (tOrV ta tb) (eOr wa wb) := fun F H C σ τ Q Q' χ R S h q => by
  refine ha F H C σ τ _ _ χ R S h fun x v H1 C1 R1 t1 rx h1 => ?_
  obtain ⟨k, rfl, h1⟩ := h1
  refine ⟨k, of_bl rx, ?_⟩
  cases k with
  | true => exact q _ _ H1 C1 R1 t1 rep_bl h1
  | false => exact hb F H1 C1 σ τ Q Q' χ R1 (S.tx t1) h1 (QE.at q t1)
theorem s_not (ha : SimE K ta wa) : SimE K (tNotV ta) (eNot wa) := fun F H C σ τ Q Q' χ R S h q => by
  refine ha F H C σ τ _ _ χ R S h fun x v H1 C1 R1 t1 rx h1 => ?_
  obtain ⟨k, rfl, h1⟩ := h1
  exact ⟨k, of_bl rx, q _ _ H1 C1 R1 t1 rep_bl h1⟩
theorem s_chain (ha : SimE K ta wa) (hb : SimE K tb wb) (hc : SimE K tc wc) (hr : SimR K r w) (hr' : SimR K r' w') : SimE K (tChain r r' ta tb tc) (eChain w w' wa wb wc) := fun F H C σ τ Q Q' χ R S h q => by
  refine ha F H C σ τ _ _ χ R S h fun x v H1 C1 R1 t1 rx h1 => ?_
  refine hb F H1 C1 σ τ _ _ χ R1 (S.tx t1) h1 fun y u H2 C2 R2 t2 ry h2 => ?_
  refine hr F H2 C2 x y v u _ _ R2 (rx.tx t2) ry h2 fun z z' H3 C3 R3 t3 rz h3 => ?_
  obtain ⟨k, rfl, h3⟩ := h3
  refine ⟨k, of_bl rz, ?_⟩
  cases k with
  | true =>
    refine hc F H3 C3 σ τ _ _ χ R3 (S.tx ((t1.trans t2).trans t3)) h3 fun a b H4 C4 R4 t4 rb h4 => ?_
    exact hr' F H4 C4 y a u b Q Q' R4 ((ry.tx t3).tx t4) rb h4 (QE.at q (((t1.trans t2).trans t3).trans t4))
  | false => exact q _ _ H3 C3 R3 ((t1.trans t2).trans t3) rep_bl h3
/-! tests -/
theorem s_bl (ha : SimE K ta wa) : SimT K (tTest ta) (tBl wa) := fun F H C σ τ Q Q' χ R S h q => by
  refine ha F H C σ τ _ _ χ R S h fun x v H1 C1 R1 t1 rx h1 => ?_
  obtain ⟨k, rfl, h1⟩ := h1
  exact ⟨k, of_bl rx, q k H1 C1 R1 t1 h1⟩
theorem s_tru (ha : SimE K ta wa) : SimT K (fun σ H Q => ta σ H fun x H' => ∃ k, TruV K x H' k ∧ Q k H') (tTru wa) := fun F H C σ τ Q Q' χ R S h q => by
  refine ha F H C σ τ _ _ χ R S h fun x v H1 C1 R1 t1 rx h1 => ?_
  obtain ⟨k, hk, h1⟩ := h1
  refine ⟨k, ?_, q k H1 C1 R1 t1 h1⟩
  have emp : ∀ {ys : List V} {xs : List T}, Reps K H1 ys xs → ys.isEmpty = xs.isEmpty := fun {ys xs} r => by
    have := r.length
    cases ys <;> cases xs <;> simp_all
  cases v with
  | non => cases of_non rx; exact hk
  | bl b => cases of_bl rx; exact hk
  | int i => cases of_int rx; exact hk
  | str z => cases of_str rx; exact hk
  | tup xs =>
    obtain ⟨a, ys, rfl, hq, r⟩ := of_tup rx
    refine .inr (.inl ⟨ys, hq, ?_⟩)
    rw [emp r]; exact hk
  | cl xs =>
    obtain ⟨a, ys, rfl, hq, r⟩ := of_cl rx
    refine .inl ⟨ys, hq.sq, ?_⟩
    rw [emp r]; exact hk
  | ref a =>
    cases of_ref rx
    rcases hk with ⟨xs, hx, e⟩ | ⟨kvs, hx, e⟩
    · obtain ⟨ys, hy, r⟩ := R1.lst hx
      refine .inl ⟨ys, SqL.of hy, ?_⟩
      rw [emp r]; exact e
    · obtain ⟨ks, hy, r⟩ := R1.obj a _ hx
      refine .inr (.inr ⟨ks, hy, ?_⟩)
      have := Paired.length r
      rw [e]
      cases ks <;> cases kvs <;> simp_all
theorem s_an {t u : TT} {w w' : WT} (ha : SimT K t w) (hb : SimT K u w') : SimT K (tAnd t u) (tAn w w') := fun F H C σ τ Q Q' χ R S h q => by
  refine ha F H C σ τ _ _ χ R S h fun k H1 C1 R1 t1 h1 => ?_
  cases k with
  | true => exact hb F H1 C1 σ τ Q Q' χ R1 (S.tx t1) h1 fun b H' C' R' t' => q b H' C' R' (t1.trans t')
  | false => exact q _ H1 C1 R1 t1 h1
theorem s_or' {t u : TT} {w w' : WT} (ha : SimT K t w) (hb : SimT K u w') : SimT K (tOr t u) (tOr' w w') := fun F H C σ τ Q Q' χ R S h q => by
  refine ha F H C σ τ _ _ χ R S h fun k H1 C1 R1 t1 h1 => ?_
  cases k with
  | true => exact q _ H1 C1 R1 t1 h1
  | false => exact hb F H1 C1 σ τ Q Q' χ R1 (S.tx t1) h1 fun b H' C' R' t' => q b H' C' R' (t1.trans t')
theorem s_no {t : TT} {w : WT} (ha : SimT K t w) : SimT K (tNot t) (tNo w) := fun F H C σ τ Q Q' χ R S h q => by
  refine ha F H C σ τ _ _ χ R S h fun k H1 C1 R1 t1 h1 => ?_
  exact q _ H1 C1 R1 t1 h1
end
/-! ### the operations -/
section
variable {X : Cx}
theorem o_add : OpS X (binaryOp .Add) wAdd := ⟨_, op_add.or (op_add_str.or (op_cat.or (op_catT0.or op_catT))), fun F H C x y v u Q Q' R rx ry h q => by
  cases v <;> cases u <;> first | exact False.elim h | skip
  case int.int i j => cases of_int rx; cases of_int ry; exact .inl ⟨i, j, rfl, rfl, q _ _ H C R (Tx.refl H) rep_int h⟩
  case str.str i j => cases of_str rx; cases of_str ry; exact .inr (.inl ⟨i, j, rfl, rfl, h.1, q _ _ H C R (Tx.refl H) rep_str h.2⟩)
  case ref.ref a b =>
    cases of_ref rx; cases of_ref ry
    obtain ⟨xs, ys, ha, hb, hl, h⟩ := h
    obtain ⟨zs, hz, rz⟩ := R.lst ha
    obtain ⟨ws, hw, rw'⟩ := R.lst hb
    exact .inr (.inr (.inl ⟨a, b, zs, ws, rfl, rfl, hz, hw, by rw [rz.length, rw'.length]; exact hl, fun p hp => q _ _ _ _ (R.newL hp (rz.app rw')) (Tx.new hp) rep_ref (h p (R.free hp))⟩))
  case tup.tup xs ys =>
    obtain ⟨a, zs, rfl, hz, rz⟩ := of_tup rx
    obtain ⟨b, ws, rfl, hw, rw'⟩ := of_tup ry
    by_cases e : zs = []
    · subst e
      have e2 : xs = [] := by
        have := rz.length
        cases xs with
        | nil => rfl
        | cons _ _ => cases this
      subst e2
      exact .inr (.inr (.inr (.inl ⟨a, b, ws, rfl, rfl, hz, hw, q _ _ H C R (Tx.refl H) (rep_tup hw rw') h.2⟩)))
    · refine .inr (.inr (.inr (.inr ⟨a, b, zs, ws, rfl, rfl, hz, hw, e, by rw [rz.length, rw'.length]; exact h.1, fun e2 => ?_, fun e2 p hp => ?_⟩)))
      · subst e2
        have e3 : ys = [] := by
          have := rw'.length
          cases ys with
          | nil => rfl
          | cons _ _ => cases this
        subst e3
        refine q _ _ H C R (Tx.refl H) (rep_tup hz rz) ?_
        have := h.2
        rw [List.append_nil] at this
        exact this
      · exact q _ _ _ C (R.hid hp) (Tx.new hp) (rep_tup (SqT.of upd_same) ((rz.app rw').tx (Tx.new hp))) h.2⟩
theorem o_sub : OpS X (binaryOp .Sub) wSub := ⟨_, op_sub, fun F H C x y v u Q Q' R rx ry h q => by
  cases v <;> cases u <;> first | exact False.elim h | skip
  case int.int i j => cases of_int rx; cases of_int ry; exact ⟨i, j, rfl, rfl, q _ _ H C R (Tx.refl H) rep_int h⟩⟩
theorem o_mul : OpS X (binaryOp .Mult) wMul := ⟨_, op_mul, fun F H C x y v u Q Q' R rx ry h q => by
  cases v <;> cases u <;> first | exact False.elim h | skip
  case int.int i j => cases of_int rx; cases of_int ry; exact ⟨i, j, rfl, rfl, h.1, q _ _ H C R (Tx.refl H) rep_int h.2⟩⟩
theorem o_div : OpS X (binaryOp .FloorDiv) wDiv := ⟨_, op_fdiv, fun F H C x y v u Q Q' R rx ry h q => by
  cases v <;> cases u <;> first | exact False.elim h | skip
  case int.int i j => cases of_int rx; cases of_int ry; exact ⟨i, j, rfl, rfl, h.1, q _ _ H C R (Tx.refl H) rep_int h.2⟩⟩
theorem o_mod : OpS X (binaryOp .Mod) wMod := ⟨_, op_mod, fun F H C x y v u Q Q' R rx ry h q => by
  cases v <;> cases u <;> first | exact False.elim h | skip
  case int.int i j => cases of_int rx; cases of_int ry; exact ⟨i, j, rfl, rfl, h.1, q _ _ H C R (Tx.refl H) rep_int h.2⟩⟩
theorem o_pow : OpS X (binaryOp .Pow) wPow := ⟨_, op_pow, fun F H C x y v u Q Q' R rx ry h q => by
  cases v <;> cases u <;> first | exact False.elim h | skip
  case int.int i j => cases of_int rx; cases of_int ry; exact ⟨i, j, rfl, rfl, h.1, q _ _ H C R (Tx.refl H) rep_int h.2⟩⟩
theorem o_lt : OpS X (compareOp .Lt) wLt := ⟨_, op_lt.or op_lt_str, fun F H C x y v u Q Q' R rx ry h q => by
  cases v <;> cases u <;> first | exact False.elim h | skip
  case int.int i j => cases of_int rx; cases of_int ry; exact .inl ⟨i, j, rfl, rfl, q _ _ H C R (Tx.refl H) rep_bl h⟩
  case str.str i j => cases of_str rx; cases of_str ry; exact .inr ⟨i, j, rfl, rfl, q _ _ H C R (Tx.refl H) rep_bl h⟩⟩
theorem o_le : OpS X (compareOp .LtE) wLe := ⟨_, op_le, fun F H C x y v u Q Q' R rx ry h q => by
  cases v <;> cases u <;> first | exact False.elim h | skip
  case int.int i j => cases of_int rx; cases of_int ry; exact ⟨i, j, rfl, rfl, q _ _ H C R (Tx.refl H) rep_bl h⟩⟩
theorem o_gt : OpS X (compareOp .Gt) wGt := ⟨_, op_gt, fun F H C x y v u Q Q' R rx ry h q => by
  cases v <;> cases u <;> first | exact False.elim h | skip
  case int.int i j => cases of_int rx; cases of_int ry; exact ⟨i, j, rfl, rfl, q _ _ H C R (Tx.refl H) rep_bl h⟩⟩
theorem o_ge : OpS X (compareOp .GtE) wGe := ⟨_, op_ge, fun F H C x y v u Q Q' R rx ry h q => by
  cases v <;> cases u <;> first | exact False.elim h | skip
  case int.int i j => cases of_int rx; cases of_int ry; exact ⟨i, j, rfl, rfl, q _ _ H C R (Tx.refl H) rep_bl h⟩⟩
/-- a rule that stands over the state itself, by values -/
def rDir (X : Cx) (f : Value → Value → Sem Value) : R2 := fun x y H Q => ∀ (pins : List (Addr × Obj)) (s : Shared) (σ : L2.St) (v u : Value), Inv X pins σ H s → RelV x v → RelV y u → wpAny (model X.prog X.w) X.A (f v u) (EP X pins σ Q) X.xe s
theorem op_dir {f : Value → Value → Sem Value} : OpR X f (rDir X f) := fun pins s σ H x y v u Q I rx ry h => h pins s σ v u I rx ry
theorem RelV.refl_of {x : V} {a : Addr} {u : Value} (r : RelV (.ref a) u) : u = .ref a := r
/-- the items of two lists, one by one -/
theorem items_at {pins : List (Addr × Obj)} {σ : L2.St} {H : Hp} {s : Shared} {A : Around} {n : Nat} {ts us : List T} {ys zs : List V} {its its' : List Value} (I : Inv X pins σ H s) (r : Reps X.K H ys ts) (r' : Reps X.K H zs us) (rI : Vals ys its) (rI' : Vals zs its')
    (f : flats ts n = true) (f' : flats us n = true) (hu : A.units + n < cLine) :
    ∀ j (h1 : j < its.toArray.size) (h2 : j < its'.toArray.size), SeqAt.EqAt A s its.toArray[j] its'.toArray[j] (eqJ ts us j) := fun j h1 h2 => by
  have l1 : its.toArray.size = ts.length := by rw [List.size_toArray, ← rI.length, r.length]
  have l2 : its'.toArray.size = us.length := by rw [List.size_toArray, ← rI'.length, r'.length]
  have i1 : ts[j]? = some (ts[j]'(by omega)) := by simp [l1 ▸ h1]
  have i2 : us[j]? = some (us[j]'(by omega)) := by simp [l2 ▸ h2]
  obtain ⟨x1, g1, q1⟩ := r.get i1
  obtain ⟨x2, g2, q2⟩ := r'.get i2
  obtain ⟨u1, k1, z1⟩ := rI.get g1
  obtain ⟨u2, k2, z2⟩ := rI'.get g2
  have e1 : its.toArray[j] = u1 := by
    have : its[j]? = some its.toArray[j] := by simp
    rw [k1] at this; exact (Option.some.inj this).symm
  have e2 : its'.toArray[j] = u2 := by
    have : its'[j]? = some its'.toArray[j] := by simp
    rw [k2] at this; exact (Option.some.inj this).symm
  rw [e1, e2]
  unfold eqJ
  simp only [i1, i2]
  exact eqAtT I n (flats_get f i1) (flats_get f' i2) q1 q2 z1 z2 hu
theorem eqTs_len {vs ws : List T} (h : vs.length ≠ ws.length) : eqTs vs ws = false := by
  rw [← eqTs_range, show (vs.length == ws.length) = false from beq_eq_false_iff_ne.mpr h, Bool.and_false]
theorem eqTs_same {vs ws : List T} (h : vs.length = ws.length) : (List.range vs.length).all (eqJ vs ws) = eqTs vs ws := by
  rw [← eqTs_range, h, Nat.min_self, beq_self_eq_true, Bool.and_true]
/-- == of two values at the top, nothing of the heap in them -/
theorem rcT {pins : List (Addr × Obj)} {σ : L2.St} {H : Hp} {s : Shared} {v w : T} {x y : V} {u u' : Value} {A : Around} {n : Nat} (I : Inv X pins σ H s) (fv : flat v n = true) (fw : flat w n = true) (rv : Rep X.K H x v) (rw' : Rep X.K H y w)
    (ru : RelV x u) (ru' : RelV y u') (hu : A.units + n + 1 < cLine) : SeqAt.RcAt A s u u' (eqT v w) ∧ SeqAt.RcNeAt A s u u' (!eqT v w) := by
  have hu0 : A.units < cLine := by omega
  cases ev : sc v with
  | some a =>
    obtain ⟨rfl, f1⟩ := rep_sc ev rv
    cases ew : sc w with
    | some b =>
      obtain ⟨rfl, f2⟩ := rep_sc ew rw'
      cases v with
      | non =>
        cases ev; cases ru
        cases w with
        | non => cases ew; cases ru'; unfold eqT; exact ⟨.none_none, .none_none⟩
        | bl c => cases ew; cases ru'; unfold eqT; exact ⟨.none_bool c, .none_bool c⟩
        | int c => cases ew; obtain ⟨t, rfl⟩ := ru'; unfold eqT; exact ⟨.none_int c t, .none_int c t⟩
        | str c => cases ew; obtain ⟨t, rfl⟩ := ru'; unfold eqT; exact ⟨.none_str c t, .none_str c t⟩
        | _ => cases ew
      | bl d =>
        cases ev; cases ru
        cases w with
        | non => cases ew; cases ru'; unfold eqT; exact ⟨.bool_none d, .bool_none d⟩
        | bl c => cases ew; cases ru'; unfold eqT; exact ⟨.bool_bool d c, .bool_bool d c⟩
        | int c => cases ew; obtain ⟨t, rfl⟩ := ru'; unfold eqT; exact ⟨.bool_int d c t, .bool_int d c t⟩
        | str c => cases ew; obtain ⟨t, rfl⟩ := ru'; unfold eqT; exact ⟨.bool_str d c t, .bool_str d c t⟩
        | _ => cases ew
      | int d =>
        cases ev; obtain ⟨t', rfl⟩ := ru
        cases w with
        | non => cases ew; cases ru'; unfold eqT; exact ⟨.int_none d t', .int_none d t'⟩
        | bl c => cases ew; cases ru'; unfold eqT; exact ⟨.int_bool d t' c, .int_bool d t' c⟩
        | int c => cases ew; obtain ⟨t, rfl⟩ := ru'; unfold eqT; exact ⟨.int_int d t' c t, .int_int d t' c t⟩
        | str c => cases ew; obtain ⟨t, rfl⟩ := ru'; unfold eqT; exact ⟨.int_str d t' c t, .int_str d t' c t⟩
        | _ => cases ew
      | str d =>
        cases ev; obtain ⟨t', rfl⟩ := ru
        cases w with
        | non => cases ew; cases ru'; unfold eqT; exact ⟨.str_none d t', .str_none d t'⟩
        | bl c => cases ew; cases ru'; unfold eqT; exact ⟨.str_bool d t' c, .str_bool d t' c⟩
        | int c => cases ew; obtain ⟨t, rfl⟩ := ru'; unfold eqT; exact ⟨.str_int d t' c t, .str_int d t' c t⟩
        | str c => cases ew; obtain ⟨t, rfl⟩ := ru'; unfold eqT; exact ⟨.str_str d t' c t, .str_str d t' c t⟩
        | _ => cases ew
      | _ => cases ev
    | none =>
      obtain ⟨ts, m, rfl, em, ft⟩ := sc_none fw ew
      obtain ⟨b, zs, rfl, hq, r⟩ := of_tup rw'
      cases ru'
      obtain ⟨its, _, p, _⟩ := I.tuple hq
      cases v with
      | non => cases ev; cases ru; unfold eqT; exact ⟨.none_tuple p hu0, .none_tuple p hu0⟩
      | bl c => cases ev; cases ru; unfold eqT; exact ⟨.bool_tuple c p hu0, .bool_tuple c p hu0⟩
      | int i => cases ev; obtain ⟨t, rfl⟩ := ru; unfold eqT; exact ⟨.int_tuple i t p hu0, .int_tuple i t p hu0⟩
      | str i => cases ev; obtain ⟨t, rfl⟩ := ru; unfold eqT; exact ⟨.str_tuple i t p hu0, .str_tuple i t p hu0⟩
      | _ => cases ev
  | none =>
    obtain ⟨ts, m, rfl, em, ft⟩ := sc_none fv ev
    subst em
    obtain ⟨a, ys, rfl, hq, r⟩ := of_tup rv
    cases ru
    obtain ⟨its, rI, p, _⟩ := I.tuple hq
    cases ew : sc w with
    | some b =>
      obtain ⟨rfl, f2⟩ := rep_sc ew rw'
      cases w with
      | non => cases ew; cases ru'; unfold eqT; exact ⟨.tuple_none p hu0, .tuple_none p hu0⟩
      | bl c => cases ew; cases ru'; unfold eqT; exact ⟨.tuple_bool c p hu0, .tuple_bool c p hu0⟩
      | int i => cases ew; obtain ⟨t, rfl⟩ := ru'; unfold eqT; exact ⟨.tuple_int i t p hu0, .tuple_int i t p hu0⟩
      | str i => cases ew; obtain ⟨t, rfl⟩ := ru'; unfold eqT; exact ⟨.tuple_str i t p hu0, .tuple_str i t p hu0⟩
      | _ => cases ew
    | none =>
      obtain ⟨us, m', rfl, em, fu⟩ := sc_none fw ew
      cases em
      obtain ⟨b, zs, rfl, hq', r'⟩ := of_tup rw'
      cases ru'
      obtain ⟨its', rI', p', _⟩ := I.tuple hq'
      have l1 : its.toArray.size = ts.length := by rw [List.size_toArray, ← rI.length, r.length]
      have l2 : its'.toArray.size = us.length := by rw [List.size_toArray, ← rI'.length, r'.length]
      have hi := items_at (A := A.in1) I r r' rI rI' ft fu (by show A.units + 1 + m < cLine; omega)
      have k1 := SeqAt.RcAt.tuples (A := A) p p' hu0 hi
      have k2 := SeqAt.RcNeAt.tuples (A := A) p p' hu0 hi
      rw [l1, l2, eqTs_range] at k1 k2
      unfold eqT
      exact ⟨k1, k2⟩
theorem flat_tup_or {y : T} {n : Nat} (h : flat y n = true) : (∀ a, y ≠ .ref a) := fun a e => by subst e; unfold flat at h; cases h
theorem list_vs {pins : List (Addr × Obj)} {σ : L2.St} {H : Hp} {s : Shared} {w : T} {y : V} {u' : Value} {A : Around} {n : Nat} {a : Addr} {its : List Value} (I : Inv X pins σ H s) (fw : flat w n = true) (rw' : Rep X.K H y w) (ru' : RelV y u') (hu0 : A.units < cLine)
    (p : s.heap.IsList a its.toArray) : (SeqAt.RcAt A s (.ref a) u' false ∧ SeqAt.RcNeAt A s (.ref a) u' true) ∧ (SeqAt.RcAt A s u' (.ref a) false ∧ SeqAt.RcNeAt A s u' (.ref a) true) := by
  cases w with
  | non => cases of_non rw'; cases ru'; exact ⟨⟨.list_none p hu0, .list_none p hu0⟩, .none_list p hu0, .none_list p hu0⟩
  | bl c => cases of_bl rw'; cases ru'; exact ⟨⟨.list_bool c p hu0, .list_bool c p hu0⟩, .bool_list c p hu0, .bool_list c p hu0⟩
  | int c => cases of_int rw'; obtain ⟨t, rfl⟩ := ru'; exact ⟨⟨.list_int c t p hu0, .list_int c t p hu0⟩, .int_list c t p hu0, .int_list c t p hu0⟩
  | str c => cases of_str rw'; obtain ⟨t, rfl⟩ := ru'; exact ⟨⟨.list_str c t p hu0, .list_str c t p hu0⟩, .str_list c t p hu0, .str_list c t p hu0⟩
  | tup ts =>
    obtain ⟨b, zs, rfl, hq, r⟩ := of_tup rw'
    cases ru'
    obtain ⟨its', _, p', _⟩ := I.tuple hq
    exact ⟨⟨.list_tuple p p' hu0, .list_tuple p p' hu0⟩, .tuple_list p' p hu0, .tuple_list p' p hu0⟩
  | ref b => unfold flat at fw; cases fw
  | cl b => unfold flat at fw; cases fw
theorem o_eqG (neg : Bool) (hu : X.A.units + 150 < cLine) : OpS X (compareOp (if neg then .NotEq else .Eq)) (wEqG neg) := ⟨_, op_dir, fun F H C x y v u Q Q' R rx ry h q pins s σ v' u' I r1 r2 => by
  have fin : ∀ {k : Bool}, SeqAt.RcAt X.A s v' u' k ∧ SeqAt.RcNeAt X.A s v' u' (!k) → Q (.bl (if neg then !k else k)) H → wpAny (model X.prog X.w) X.A (compareOp (if neg then .NotEq else .Eq) v' u') (EP X pins σ Q) X.xe s := fun {k} e hq => by
    cases neg with
    | true => exact EqBoolInt.of_rcne e.2 ⟨.bl (!k), H, I, rfl, hq⟩
    | false => exact EqBoolInt.of_rc e.1 ⟨.bl k, H, I, rfl, hq⟩
  have two : ∀ {v u : T}, Rep X.K H x v → Rep X.K H y u → isFlat v ∧ isFlat u ∧ Q' (.bl (if neg then !eqT v u else eqT v u)) C → wpAny (model X.prog X.w) X.A (compareOp (if neg then .NotEq else .Eq) v' u') (EP X pins σ Q) X.xe s := fun {v u} rx ry h =>
    fin (rcT I h.1 h.2.1 rx ry r1 r2 (show X.A.units + 100 + 1 < cLine by omega)) (q _ _ H C R (Tx.refl H) rep_bl h.2.2)
  have hn : (if neg then !false else false) = neg := by cases neg <;> rfl
  have lft : ∀ {a : Addr} {u : T}, v' = .ref a → Rep X.K H y u → (∃ xs, C a = some (.lst xs)) ∧ isFlat u ∧ Q' (.bl neg) C → wpAny (model X.prog X.w) X.A (compareOp (if neg then .NotEq else .Eq) v' u') (EP X pins σ Q) X.xe s := fun {a u} ev ry h => by
    obtain ⟨⟨xs, hx⟩, f, hq⟩ := h
    obtain ⟨ys, hy, r⟩ := R.lst hx
    obtain ⟨its, _, p, _⟩ := I.list (SqL.of hy)
    have z := (list_vs (A := X.A) I f ry r2 (by omega) p.isList).1
    subst ev
    refine fin (k := false) z ?_
    rw [hn]
    exact q _ _ H C R (Tx.refl H) rep_bl hq
  have rgt : ∀ {b : Addr} {v : T}, u' = .ref b → Rep X.K H x v → (∃ xs, C b = some (.lst xs)) ∧ isFlat v ∧ Q' (.bl neg) C → wpAny (model X.prog X.w) X.A (compareOp (if neg then .NotEq else .Eq) v' u') (EP X pins σ Q) X.xe s := fun {b v} eu rx h => by
    obtain ⟨⟨xs, hx⟩, f, hq⟩ := h
    obtain ⟨ys, hy, r⟩ := R.lst hx
    obtain ⟨its, _, p, _⟩ := I.list (SqL.of hy)
    have z := (list_vs (A := X.A) I f rx r1 (by omega) p.isList).2
    subst eu
    refine fin (k := false) z ?_
    rw [hn]
    exact q _ _ H C R (Tx.refl H) rep_bl hq
  cases v with
  | ref a =>
    have ev : v' = .ref a := by cases of_ref rx; exact r1
    cases u with
    | ref b =>
      have eu : u' = .ref b := by cases of_ref ry; exact r2
      obtain ⟨xs, ys, ha, hb, hf, hq⟩ := h
      obtain ⟨zs, hz, rz⟩ := R.lst ha
      obtain ⟨ws, hw, rw'⟩ := R.lst hb
      obtain ⟨its, rI, p, _⟩ := I.list (SqL.of hz)
      obtain ⟨its', rI', p', _⟩ := I.list (SqL.of hw)
      have l1 : its.toArray.size = xs.length := by rw [List.size_toArray, ← rI.length, rz.length]
      have l2 : its'.toArray.size = ys.length := by rw [List.size_toArray, ← rI'.length, rw'.length]
      subst ev
      subst eu
      refine fin ?_ (q _ _ H C R (Tx.refl H) rep_bl hq)
      by_cases hl : xs.length = ys.length
      · obtain ⟨f1, f2⟩ := hf hl
        have hi := items_at (A := X.A.in1) I rz rw' rI rI' f1 f2 (by show X.A.units + 1 + 100 < cLine; omega)
        have k1 := SeqAt.RcAt.lists (A := X.A) p.isList p'.isList (by rw [l1, l2, hl]) (by omega) hi
        have k2 := SeqAt.RcNeAt.lists (A := X.A) p.isList p'.isList (by rw [l1, l2, hl]) (by omega) hi
        rw [l1, eqTs_same hl] at k1 k2
        exact ⟨k1, k2⟩
      · rw [eqTs_len hl]
        have hne : (its.toArray.size != its'.toArray.size) = true := by rw [l1, l2]; exact bne_iff_ne.mpr hl
        exact ⟨SeqAt.RcAt.lists_lengths p.isList p'.isList hne (by omega), SeqAt.RcNeAt.lists_lengths p.isList p'.isList hne (by omega)⟩
    | non => exact lft ev ry h
    | bl b => exact lft ev ry h
    | int b => exact lft ev ry h
    | str b => exact lft ev ry h
    | tup b => exact lft ev ry h
    | cl b => exact lft ev ry h
  | non =>
    cases u with
    | ref b => exact rgt (by cases of_ref ry; exact r2) rx h
    | _ => exact two rx ry h
  | bl _ =>
    cases u with
    | ref b => exact rgt (by cases of_ref ry; exact r2) rx h
    | _ => exact two rx ry h
  | int _ =>
    cases u with
    | ref b => exact rgt (by cases of_ref ry; exact r2) rx h
    | _ => exact two rx ry h
  | str _ =>
    cases u with
    | ref b => exact rgt (by cases of_ref ry; exact r2) rx h
    | _ => exact two rx ry h
  | tup _ =>
    cases u with
    | ref b => exact rgt (by cases of_ref ry; exact r2) rx h
    | _ => exact two rx ry h
  | cl _ =>
    cases u with
    | ref b => exact rgt (by cases of_ref ry; exact r2) rx h
    | _ => exact two rx ry h⟩
theorem o_eq (hu : X.A.units + 150 < cLine) : OpS X (compareOp .Eq) wEq := o_eqG false hu
theorem o_ne (hu : X.A.units + 150 < cLine) : OpS X (compareOp .NotEq) wNe := o_eqG true hu
theorem o_isN : OpS X (compareOp .Is) wIsN := ⟨_, op_isN, fun F H C x y v u Q Q' R rx ry h q => by
  obtain ⟨rfl, h⟩ := h
  refine ⟨of_non ry, ?_⟩
  have z := q (.bl _) _ H C R (Tx.refl H) rep_bl h
  cases v with
  | non => cases of_non rx; exact z
  | bl _ => cases of_bl rx; exact z
  | int _ => cases of_int rx; exact z
  | str _ => cases of_str rx; exact z
  | ref _ => cases of_ref rx; exact z
  | tup _ => obtain ⟨a, ys, rfl, _⟩ := of_tup rx; exact z
  | cl _ => obtain ⟨a, ys, rfl, _⟩ := of_cl rx; exact z⟩
theorem o_notN : OpS X (compareOp .IsNot) wNotN := ⟨_, op_notN, fun F H C x y v u Q Q' R rx ry h q => by
  obtain ⟨rfl, h⟩ := h
  refine ⟨of_non ry, ?_⟩
  have z := q (.bl _) _ H C R (Tx.refl H) rep_bl h
  cases v with
  | non => cases of_non rx; exact z
  | bl _ => cases of_bl rx; exact z
  | int _ => cases of_int rx; exact z
  | str _ => cases of_str rx; exact z
  | ref _ => cases of_ref rx; exact z
  | tup _ => obtain ⟨a, ys, rfl, _⟩ := of_tup rx; exact z
  | cl _ => obtain ⟨a, ys, rfl, _⟩ := of_cl rx; exact z⟩
open Classical in
/-- the items' answers, by the values -/
noncomputable def eqAns (v : T) (us : List Value) (ts : List T) (u : Value) : Bool := match (us.zip ts).find? fun p => decide (p.1 = u) with
  | some p => eqT p.2 v
  | none => false
open Classical in
theorem eqAns_at {pins : List (Addr × Obj)} {σ : L2.St} {H : Hp} {s : Shared} {n : Nat} {v : T} {ts : List T} {ys : List V} {us : List Value} (I : Inv X pins σ H s) (r : Reps X.K H ys ts) (rI : Vals ys us) (f : flats ts n = true) {j : Nat} {u : Value} {t : T} (hu : us[j]? = some u) (ht : ts[j]? = some t) :
    eqAns v us ts u = eqT t v := by
  unfold eqAns
  have hm : (u, t) ∈ us.zip ts := by
    refine List.mem_iff_getElem?.mpr ⟨j, ?_⟩
    rw [List.getElem?_zip_eq_some]
    exact ⟨hu, ht⟩
  cases e : (us.zip ts).find? fun p => decide (p.1 = u) with
  | none =>
    have := List.find?_eq_none.mp e (u, t) hm
    simp at this
  | some p =>
    have h1 := List.find?_some e
    have h2 := List.mem_of_find?_eq_some e
    simp only [decide_eq_true_eq] at h1
    obtain ⟨i, hi⟩ := List.mem_iff_getElem?.mp h2
    obtain ⟨g1, g2⟩ := List.getElem?_zip_eq_some.mp hi
    obtain ⟨x1, k1, q1⟩ := r.get g2
    obtain ⟨x2, k2, q2⟩ := r.get ht
    obtain ⟨u1, m1, z1⟩ := rI.get k1
    obtain ⟨u2, m2, z2⟩ := rI.get k2
    rw [g1] at m1; cases m1
    rw [hu] at m2; cases m2
    rw [h1] at z1
    have e2 := z1.inj z2
    subst e2
    show eqT p.2 v = eqT t v
    rw [rep_inj I n (flats_get f g2) (flats_get f ht) q1 q2]
theorem any_ans {pins : List (Addr × Obj)} {σ : L2.St} {H : Hp} {s : Shared} {n : Nat} {v : T} {ts : List T} {ys : List V} {us : List Value} (I : Inv X pins σ H s) (r : Reps X.K H ys ts) (rI : Vals ys us) (f : flats ts n = true) : us.any (eqAns v us ts) = inL v ts := by
  have hl : us.length = ts.length := by rw [← rI.length, r.length]
  have hat : ∀ j, us[j]?.map (eqAns v us ts) = ts[j]?.map fun t => eqT t v := fun j => by
    by_cases hj : j < us.length
    · have e1 : us[j]? = some us[j] := by simp [hj]
      have e2 : ts[j]? = some (ts[j]'(by omega)) := by simp [hl ▸ hj]
      rw [e1, e2, Option.map_some, Option.map_some, eqAns_at I r rI f e1 e2]
    · rw [List.getElem?_eq_none (by omega), List.getElem?_eq_none (by omega)]; rfl
  have hm : us.map (eqAns v us ts) = ts.map fun t => eqT t v := by
    refine List.ext_getElem? fun j => ?_
    rw [List.getElem?_map, List.getElem?_map]
    exact hat j
  unfold inL
  have a1 : us.any (eqAns v us ts) = (us.map (eqAns v us ts)).any id := by rw [List.any_map]; rfl
  have a2 : (ts.any fun y => eqT y v) = (ts.map fun t => eqT t v).any id := by rw [List.any_map]; rfl
  rw [a1, a2, hm]
theorem o_inG (neg : Bool) (hu : X.A.units + 150 < cLine) : OpS X (compareOp (if neg then .NotIn else .In)) (wInG neg) := ⟨_, op_dir, fun F H C x y v u Q Q' R rx ry h q pins s σ v' u' I r1 r2 => by
  have sq : ∀ {p : Addr} {ys : List V} {ts : List T}, u' = .ref p → (SqL X.K H p ys ∨ SqT X.K H p ys) → Reps X.K H ys ts → isFlat v → flats ts eqDeep = true → Q' (.bl (if neg then !inL v ts else inL v ts)) C →
      wpAny (model X.prog X.w) X.A (compareOp (if neg then .NotIn else .In) v' u') (EP X pins σ Q) X.xe s := fun {p ys ts} eu hq r fv ft hq' => by
    subst eu
    have at1 : ∀ {its : List Value}, Vals ys its → ∀ w, w ∈ its.toArray → SeqAt.EqAt X.A.in1 s w v' (eqAns v its ts w) := fun {its} rI w hw => by
      have hw' : w ∈ its := by simpa using hw
      obtain ⟨j, hj⟩ := List.mem_iff_getElem?.mp hw'
      have hlt : j < its.length := (List.getElem?_eq_some_iff.mp hj).1
      have hl : its.length = ts.length := by rw [← rI.length, r.length]
      have e2 : ts[j]? = some (ts[j]'(by omega)) := by simp [hl ▸ hlt]
      rw [eqAns_at I r rI ft hj e2]
      obtain ⟨x2, k2, q2⟩ := r.get e2
      obtain ⟨u2, m2, z2⟩ := rI.get k2
      rw [hj] at m2; cases m2
      exact eqAtT I 100 (flats_get ft e2) fv q2 rx z2 r1 (by show X.A.units + 1 + 100 < cLine; omega)
    rcases hq with hq | hq
    · obtain ⟨its, rI, p, _⟩ := I.list hq
      have e : its.toArray.any (eqAns v its ts) = inL v ts := by rw [← any_ans I r rI ft]; simp
      cases neg with
      | true => refine SeqAt.notIn_listAt (eqAns v its ts) p.isList (at1 rI) ⟨.bl _, H, I, rfl, ?_⟩; rw [e]; exact q _ _ H C R (Tx.refl H) rep_bl hq'
      | false => refine SeqAt.in_listAt (eqAns v its ts) p.isList (at1 rI) ⟨.bl _, H, I, rfl, ?_⟩; rw [e]; exact q _ _ H C R (Tx.refl H) rep_bl hq'
    · obtain ⟨its, rI, p, _⟩ := I.tuple hq
      have e : its.toArray.any (eqAns v its ts) = inL v ts := by rw [← any_ans I r rI ft]; simp
      cases neg with
      | true => refine SeqAt.notIn_tupleAt (eqAns v its ts) p (at1 rI) ⟨.bl _, H, I, rfl, ?_⟩; rw [e]; exact q _ _ H C R (Tx.refl H) rep_bl hq'
      | false => refine SeqAt.in_tupleAt (eqAns v its ts) p (at1 rI) ⟨.bl _, H, I, rfl, ?_⟩; rw [e]; exact q _ _ H C R (Tx.refl H) rep_bl hq'
  have tpl : ∀ {ts : List T}, Rep X.K H y (.tup ts) → isFlat v ∧ flats ts eqDeep = true ∧ Q' (.bl (if neg then !inL v ts else inL v ts)) C → wpAny (model X.prog X.w) X.A (compareOp (if neg then .NotIn else .In) v' u') (EP X pins σ Q) X.xe s := fun {ts} ry h => by
    obtain ⟨a, ys, rfl, hq, r⟩ := of_tup ry
    exact sq r2 (.inr hq) r h.1 h.2.1 h.2.2
  have cls : ∀ {ts : List T}, Rep X.K H y (.cl ts) → isFlat v ∧ flats ts eqDeep = true ∧ Q' (.bl (if neg then !inL v ts else inL v ts)) C → wpAny (model X.prog X.w) X.A (compareOp (if neg then .NotIn else .In) v' u') (EP X pins σ Q) X.xe s := fun {ts} ry h => by
    obtain ⟨a, ys, rfl, hq, r⟩ := of_cl ry
    exact sq r2 (.inl hq.sq) r h.1 h.2.1 h.2.2
  have rf : ∀ {a : Addr}, Rep X.K H y (.ref a) → (∃ ys, C a = some (.lst ys) ∧ isFlat v ∧ flats ys eqDeep = true ∧ Q' (.bl (if neg then !inL v ys else inL v ys)) C) → wpAny (model X.prog X.w) X.A (compareOp (if neg then .NotIn else .In) v' u') (EP X pins σ Q) X.xe s := fun {a} ry h => by
    obtain ⟨ts, ht, h1, h2, h3⟩ := h
    obtain ⟨zs, hz, rz⟩ := R.lst ht
    cases of_ref ry
    exact sq r2 (.inl (SqL.of hz)) rz h1 h2 h3
  cases u with
  | tup ts => cases v <;> exact tpl ry h
  | cl ts => cases v <;> exact cls ry h
  | ref a => cases v <;> exact rf ry h
  | str j =>
    cases v with
    | str i =>
      cases of_str rx; cases of_str ry
      obtain ⟨t, rfl⟩ := r1
      obtain ⟨t', rfl⟩ := r2
      cases neg with
      | true => exact notIn_str ⟨.bl _, H, I, rfl, q _ _ H C R (Tx.refl H) rep_bl h⟩
      | false => exact in_str ⟨.bl _, H, I, rfl, q _ _ H C R (Tx.refl H) rep_bl h⟩
    | _ => exact False.elim h
  | non => cases v <;> exact False.elim h
  | bl _ => cases v <;> exact False.elim h
  | int _ => cases v <;> exact False.elim h⟩
theorem o_in (hu : X.A.units + 150 < cLine) : OpS X (compareOp .In) wIn := o_inG false hu
theorem o_notIn (hu : X.A.units + 150 < cLine) : OpS X (compareOp .NotIn) wNotIn := o_inG true hu
theorem o_ix : IxS X wIdx := ⟨_, ix_seq, fun F H C x y v u Q Q' R rx ry h q => by
  cases v <;> cases u <;> first | exact False.elim h | skip
  case tup.int xs i =>
    obtain ⟨a, ys, rfl, hq, r⟩ := of_tup rx
    cases of_int ry
    obtain ⟨v, hv, h⟩ := h
    obtain ⟨z, hz, rz⟩ := r.at hv
    exact .inr (.inl ⟨a, ys, i, z, rfl, rfl, hq, hz, q _ _ H C R (Tx.refl H) rz h⟩)
  case cl.int xs i =>
    obtain ⟨a, ys, rfl, hq, r⟩ := of_cl rx
    cases of_int ry
    obtain ⟨v, hv, h⟩ := h
    obtain ⟨z, hz, rz⟩ := r.at hv
    exact .inl ⟨a, ys, i, z, rfl, rfl, hq.sq, hz, q _ _ H C R (Tx.refl H) rz h⟩
  case ref.int a i =>
    cases of_ref rx
    cases of_int ry
    obtain ⟨xs, v, hx, hv, h⟩ := h
    obtain ⟨ys, hy, r⟩ := R.lst hx
    obtain ⟨z, hz, rz⟩ := r.at hv
    exact .inl ⟨a, ys, i, z, rfl, rfl, SqL.of hy, hz, q _ _ H C R (Tx.refl H) rz h⟩
  case str.int z i =>
    cases of_str rx
    cases of_int ry
    obtain ⟨hl, c, hc, h⟩ := h
    exact .inr (.inr ⟨z, i, c, rfl, rfl, hl, hc, q _ _ H C R (Tx.refl H) rep_str h⟩)⟩
/-! slices -/
def SlS (X : Cx) (w : T → Option Int → Option Int → Hw → WK → Prop) : Prop := ∃ r, SlR X r ∧ ∀ (F H : Hp) (C : Hw) (x : V) (v : T) (lo hi : Option Int) (Q : VK) (Q' : WK), Rl X.K F H C → Rep X.K H x v → w v lo hi C Q' → QE X.K F H Q Q' → r x lo hi H Q
theorem cut_reps {K : PySem.W.Frag} {H : Hp} {ys : List V} {xs : List T} (r : Reps K H ys xs) (lo hi : Option Int) : Reps K H (cutV ys lo hi) (cut xs lo hi) := by
  unfold cutV cut
  rw [r.length]
  exact (r.drop _).take _
theorem o_sl : SlS X wSl := ⟨_, sl_tup.or (sl_list.or sl_str), fun F H C x v lo hi Q Q' R rx h q => by
  cases v with
  | tup xs =>
    obtain ⟨a, ys, rfl, hq, r⟩ := of_tup rx
    exact .inl ⟨a, ys, rfl, hq, by rw [r.length]; exact h.1, fun p hp => q _ _ _ C (R.hid hp) (Tx.new hp) (rep_tup (SqT.of upd_same) ((cut_reps r lo hi).tx (Tx.new hp))) h.2⟩
  | cl xs =>
    obtain ⟨a, ys, rfl, hq, r⟩ := of_cl rx
    exact .inr (.inl ⟨a, ys, rfl, hq.sq, fun p hp => q _ _ _ _ (R.newL hp (cut_reps r lo hi)) (Tx.new hp) rep_ref (h p (R.free hp))⟩)
  | ref a =>
    cases of_ref rx
    obtain ⟨xs, hx, h⟩ := h
    obtain ⟨ys, hy, r⟩ := R.lst hx
    exact .inr (.inl ⟨a, ys, rfl, SqL.of hy, fun p hp => q _ _ _ _ (R.newL hp (cut_reps r lo hi)) (Tx.new hp) rep_ref (h p (R.free hp))⟩)
  | str z => cases of_str rx; exact .inr (.inr ⟨z, rfl, h.1, q _ _ H C R (Tx.refl H) rep_str h.2⟩)
  | _ => exact False.elim h⟩
/-! calls of builtins -/
theorem of_one {K : PySem.W.Frag} {H : Hp} {xs : List V} {v : T} (h : Reps K H xs [v]) : ∃ x, xs = [x] ∧ Rep K H x v := by
  obtain ⟨y, r, rfl, a, b⟩ := of_cons h
  cases of_nil b
  exact ⟨y, rfl, a⟩
theorem of_two {K : PySem.W.Frag} {H : Hp} {xs : List V} {v w : T} (h : Reps K H xs [v, w]) : ∃ x y, xs = [x, y] ∧ Rep K H x v ∧ Rep K H y w := by
  obtain ⟨y, r, rfl, a, b⟩ := of_cons h
  obtain ⟨z, rfl, c⟩ := of_one b
  exact ⟨y, z, rfl, a, c⟩
theorem b_len : CallS X (.builtin "len") bLen := ⟨_, call_len_seq.or call_len_str, fun F H C xs vs Q Q' R rs h q => by
  obtain ⟨v, rfl, h⟩ := h
  obtain ⟨x, rfl, rx⟩ := of_one rs
  cases v with
  | str z => cases of_str rx; exact .inr ⟨z, rfl, h.1, q _ _ H C R (Tx.refl H) rep_int h.2⟩
  | tup xs =>
    obtain ⟨a, ys, rfl, hq, r⟩ := of_tup rx
    exact .inl ⟨a, ys, rfl, .inr hq, by rw [r.length]; exact q _ _ H C R (Tx.refl H) rep_int h⟩
  | cl xs =>
    obtain ⟨a, ys, rfl, hq, r⟩ := of_cl rx
    exact .inl ⟨a, ys, rfl, .inl hq.sq, by rw [r.length]; exact q _ _ H C R (Tx.refl H) rep_int h⟩
  | ref a =>
    cases of_ref rx
    obtain ⟨xs, hx, h⟩ := h
    obtain ⟨ys, hy, r⟩ := R.lst hx
    exact .inl ⟨a, ys, rfl, .inl (SqL.of hy), by rw [r.length]; exact q _ _ H C R (Tx.refl H) rep_int h⟩
  | _ => exact False.elim h⟩
theorem b_max (hc : X.calm = true) : CallS X (.builtin "max") bMax := ⟨_, call_max2 hc, fun F H C xs vs Q Q' R rs h q => by
  obtain ⟨i, j, rfl, h⟩ := h
  obtain ⟨x, y, rfl, rx, ry⟩ := of_two rs
  cases of_int rx; cases of_int ry
  exact ⟨i, j, rfl, q _ _ H C R (Tx.refl H) rep_int h⟩⟩
theorem b_min (hc : X.calm = true) : CallS X (.builtin "min") bMin := ⟨_, call_min2 hc, fun F H C xs vs Q Q' R rs h q => by
  obtain ⟨i, j, rfl, h⟩ := h
  obtain ⟨x, y, rfl, rx, ry⟩ := of_two rs
  cases of_int rx; cases of_int ry
  exact ⟨i, j, rfl, q _ _ H C R (Tx.refl H) rep_int h⟩⟩
theorem reps_bls {K : PySem.W.Frag} {H : Hp} : ∀ {bs : List Bool} {ys : List V}, Reps K H ys (bs.map T.bl) → ys = bs.map V.bl
  | [], _, h => of_nil h
  | b :: bs, _, h => by obtain ⟨y, r, rfl, a, c⟩ := of_cons h; cases of_bl a; rw [reps_bls c]; rfl
theorem b_all (hc : X.calm = true) : CallS X (.builtin "all") bAll := ⟨_, call_allB hc, fun F H C xs vs Q Q' R rs h q => by
  obtain ⟨a, bs, rfl, hx, h⟩ := h
  obtain ⟨x, rfl, rx⟩ := of_one rs
  cases of_ref rx
  obtain ⟨ys, hy, r⟩ := R.lst hx
  cases reps_bls r
  exact ⟨a, bs, rfl, SqL.of hy, q _ _ H C R (Tx.refl H) rep_bl h⟩⟩
theorem b_tuple : CallS X (.type "tuple") bTuple := ⟨_, call_tuple_of, fun F H C xs vs Q Q' R rs h q => by
  obtain ⟨v, rfl, h⟩ := h
  obtain ⟨x, rfl, rx⟩ := of_one rs
  cases v with
  | tup xs =>
    obtain ⟨a, ys, rfl, hq, r⟩ := of_tup rx
    exact ⟨a, ys, rfl, .inr ⟨hq, q _ _ H C R (Tx.refl H) (rep_tup hq r) h⟩⟩
  | cl xs =>
    obtain ⟨a, ys, rfl, hq, r⟩ := of_cl rx
    exact ⟨a, ys, rfl, .inl ⟨hq.sq, fun p hp => q _ _ _ C (R.hid hp) (Tx.new hp) (rep_tup (SqT.of upd_same) (r.tx (Tx.new hp))) h⟩⟩
  | ref a =>
    cases of_ref rx
    obtain ⟨xs, hx, h⟩ := h
    obtain ⟨ys, hy, r⟩ := R.lst hx
    exact ⟨a, ys, rfl, .inl ⟨SqL.of hy, fun p hp => q _ _ _ C (R.hid hp) (Tx.new hp) (rep_tup (SqT.of upd_same) (r.tx (Tx.new hp))) h⟩⟩
  | _ => exact False.elim h⟩
theorem b_list : CallS X (.type "list") bList := ⟨_, call_list_of, fun F H C xs vs Q Q' R rs h q => by
  obtain ⟨v, rfl, h⟩ := h
  obtain ⟨x, rfl, rx⟩ := of_one rs
  cases v with
  | tup xs =>
    obtain ⟨a, ys, rfl, hq, r⟩ := of_tup rx
    exact ⟨a, ys, rfl, .inr hq, fun p hp => q _ _ _ _ (R.newL hp r) (Tx.new hp) rep_ref (h p (R.free hp))⟩
  | cl xs =>
    obtain ⟨a, ys, rfl, hq, r⟩ := of_cl rx
    exact ⟨a, ys, rfl, .inl hq.sq, fun p hp => q _ _ _ _ (R.newL hp r) (Tx.new hp) rep_ref (h p (R.free hp))⟩
  | ref a =>
    cases of_ref rx
    obtain ⟨xs, hx, h⟩ := h
    obtain ⟨ys, hy, r⟩ := R.lst hx
    exact ⟨a, ys, rfl, .inl (SqL.of hy), fun p hp => q _ _ _ _ (R.newL hp r) (Tx.new hp) rep_ref (h p (R.free hp))⟩
  | _ => exact False.elim h⟩
/-! methods of lists -/
theorem m_append : MtS X "list.append" mAppend := ⟨_, mt_append, fun F H C x v xs vs Q Q' R rx rs h q => by
  obtain ⟨a, ts, y, rfl, rfl, hx, hl, h⟩ := h
  cases of_ref rx
  obtain ⟨z, rfl, rz⟩ := of_one rs
  obtain ⟨ys, hy, r⟩ := R.lst hx
  obtain ⟨R', t⟩ := R.putL hx (r.snoc rz)
  exact ⟨a, ys, z, rfl, rfl, hy, by rw [r.length]; exact hl, q _ _ _ _ R' t rep_non h⟩⟩
theorem m_pop : MtS X "list.pop" mPop := ⟨_, mt_pop, fun F H C x v xs vs Q Q' R rx rs h q => by
  obtain ⟨a, ts, y, rfl, rfl, hx, hy, h⟩ := h
  cases of_ref rx
  cases of_nil rs
  obtain ⟨ys, hys, r⟩ := R.lst hx
  obtain ⟨z, hz, rz⟩ := r.get hy
  obtain ⟨R', t⟩ := R.putL hx r.dropLast
  exact ⟨a, ys, z, rfl, rfl, hys, by rw [r.length]; exact hz, q _ _ _ _ R' t (rz.tx t) h⟩⟩
theorem m_popAt : MtS X "list.pop" mPopAt := ⟨_, mt_popAt, fun F H C x v xs vs Q Q' R rx rs h q => by
  obtain ⟨a, ts, i, k, y, rfl, rfl, hx, h1, h2, hk, hy, h⟩ := h
  cases of_ref rx
  obtain ⟨z, rfl, rz⟩ := of_one rs
  cases of_int rz
  obtain ⟨ys, hys, r⟩ := R.lst hx
  obtain ⟨z, hz, rz⟩ := r.get hy
  obtain ⟨R', t⟩ := R.putL hx (r.erase k)
  exact ⟨a, ys, i, k, z, rfl, rfl, hys, h1, h2, by rw [r.length]; exact hk, hz, q _ _ _ _ R' t (rz.tx t) h⟩⟩
end
end WL
set_option Elab.async false
set_option linter.all false
set_option maxRecDepth 100000
set_option maxHeartbeats 4000000
namespace WL
open PySem PySem.Spec PyProof.Rows L2
/-! ### expressions -/
section
variable {X : Cx} {a b c e : Expr} {es : List Expr} {wa wb wc : WE} {wt wt' : WT} {wA : WA} {w w' : W2} {pos p apos cpos : Pos} {rest : List Expr}
theorem d_var (i : Nat) {x : Str} (hN : X.N[i]? = some x := by rfl) (hv : Vis X.env.scope x := by first | exact Or.inl rfl | exact Or.inr (Or.inl rfl) | exact Or.inr (Or.inr rfl)) (hd : (x == ("__debug__" : Str)) = false := by decide)
    (hcd : (x == ("__classdict__" : Str)) = false := by decide) : SdE X (.Name x pos) (eVar i) := ⟨_, pe_var hN hv hd hcd, s_var⟩
theorem d_int {i j} : SdE X (.Constant (.int i) j pos) (eC (.int i)) := ⟨_, pe_int, s_c fun _ => rep_int⟩
theorem d_str {i j} : SdE X (.Constant (.str i) j pos) (eC (.str i)) := ⟨_, pe_str, s_c fun _ => rep_str⟩
theorem d_bl {i j} : SdE X (.Constant (.bool i) j pos) (eC (.bl i)) := ⟨_, pe_bl, s_c fun _ => rep_bl⟩
theorem d_non {j} : SdE X (.Constant .none j pos) (eC .non) := ⟨_, pe_non, s_c fun _ => rep_non⟩
/-- a name of the module's top that stands for a value -/
def Glb (K : PySem.W.Frag) (mg : Str → Option Value) (x : Str) (v : T) : Prop := ∃ z u, mg x = some u ∧ RelV z u ∧ ∀ H, Rep K H z v
theorem d_gl {x : Str} {v : T} (hg : Gl X x) (h : Glb X.K X.mg x v) (hd : (x == ("__debug__" : Str)) = false := by decide) : SdE X (.Name x pos) (eC v) := by
  obtain ⟨z, u, h1, h2, h3⟩ := h
  exact ⟨_, pe_glob hg h1 h2 hd, s_c h3⟩
theorem d_op {op : Operator} (ho : OpS X (binaryOp op) w) (ha : SdE X a wa) (hb : SdE X b wb) : SdE X (.BinOp a op b pos) (eBin w wa wb) := by
  obtain ⟨r, h1, h2⟩ := ho
  obtain ⟨ta, p1, s1⟩ := ha
  obtain ⟨tb, p2, s2⟩ := hb
  exact ⟨_, pe_op h1 p1 p2, s_op s1 s2 h2⟩
theorem d_neg (ha : SdE X a wa) : SdE X (.UnaryOp .USub a pos) (eUn wNeg wa) := by
  obtain ⟨ta, p1, s1⟩ := ha
  exact ⟨_, pe_un un_neg p1, s_un s1 fun F H C x v Q Q' R rx h q => by
    cases v with
    | int i => cases of_int rx; exact ⟨i, rfl, q _ _ H C R (Tx.refl H) rep_int h⟩
    | _ => exact False.elim h⟩
theorem d_cmp {op : CmpOp} (ho : OpS X (compareOp op) w) (ha : SdE X a wa) (hb : SdE X b wb) (hm : behindInMarks op b = false) : SdE X (.Compare a [op] [b] pos) (eBin w wa wb) := by
  obtain ⟨r, h1, h2⟩ := ho
  obtain ⟨ta, p1, s1⟩ := ha
  obtain ⟨tb, p2, s2⟩ := hb
  exact ⟨_, pe_cmpR h1 p1 p2 hm, s_op s1 s2 h2⟩
theorem d_chain {op op' : CmpOp} (ho : OpS X (compareOp op) w) (ho' : OpS X (compareOp op') w') (ha : SdE X a wa) (hb : SdE X b wb) (hc : SdE X c wc) (hm : lastMarks [op, op'] [b, c] = false := by with_unfolding_all rfl) :
    SdE X (.Compare a [op, op'] [b, c] pos) (eChain w w' wa wb wc) := by
  obtain ⟨r, h1, h2⟩ := ho
  obtain ⟨r', h1', h2'⟩ := ho'
  obtain ⟨ta, p1, s1⟩ := ha
  obtain ⟨tb, p2, s2⟩ := hb
  obtain ⟨tc, p3, s3⟩ := hc
  exact ⟨_, pe_chain h1 h1' p1 p2 p3 hm, s_chain s1 s2 s3 h2 h2'⟩
theorem d_and (ha : SdE X a wa) (hb : SdE X (.BoolOp .And (b :: rest) pos) wb) : SdE X (.BoolOp .And (a :: b :: rest) pos) (eAnd wa wb) := by
  obtain ⟨ta, p1, s1⟩ := ha
  obtain ⟨tb, p2, s2⟩ := hb
  exact ⟨_, pe_and p1 p2, s_and s1 s2⟩
theorem d_or (ha : SdE X a wa) (hb : SdE X (.BoolOp .Or (b :: rest) pos) wb) : SdE X (.BoolOp .Or (a :: b :: rest) pos) (eOr wa wb) := by
  obtain ⟨ta, p1, s1⟩ := ha
  obtain ⟨tb, p2, s2⟩ := hb
  exact ⟨_, pe_or p1 p2, s_or s1 s2⟩
theorem d_one {op} (ha : SdE X a wa) : SdE X (.BoolOp op [a] pos) wa := by
  obtain ⟨ta, p1, s1⟩ := ha
  exact ⟨_, pe_one p1, s1⟩
theorem d_not (ha : SdE X a wa) : SdE X (.UnaryOp .Not a pos) (eNot wa) := by
  obtain ⟨ta, p1, s1⟩ := ha
  exact ⟨_, pe_not p1, s_not s1⟩
theorem d_ife (hc : SdT X c wt) (ha : SdE X a wa) (hb : SdE X b wb) : SdE X (.IfExp c a b pos) (eIf wt wa wb) := by
  obtain ⟨ta, p1, s1⟩ := ha
  obtain ⟨tb, p2, s2⟩ := hb
  obtain ⟨tc, p3, s3⟩ := hc
  exact ⟨_, pe_ifExp p3 p1 p2, s_if s3 s1 s2⟩
theorem da_nil : SdA X [] aNil := ⟨_, pa_nil, s_nil⟩
theorem da_cons (ha : SdE X a wa) (hb : SdA X es wA) (hs : starEach (a :: es) X.env = (false, eval a X.env) :: starEach es X.env := by rfl) : SdA X (a :: es) (aCons wa wA) := by
  obtain ⟨ta, p1, s1⟩ := ha
  obtain ⟨tb, p2, s2⟩ := hb
  exact ⟨_, pa_cons p1 p2 hs, s_cons s1 s2⟩
theorem d_tup {x1} (h : SdA X es wA) : SdE X (.Tuple es x1 pos) (eTup wA) := by
  obtain ⟨t, p, s⟩ := h
  exact ⟨_, pe_tup p, s_tup s⟩
theorem d_lst (h : SdA X es wA) : SdE X (.List es pos) (eLst wA) := by
  obtain ⟨t, p, s⟩ := h
  exact ⟨_, pe_lst p, s_lst s⟩
theorem d_ix (ha : SdE X a wa) (hb : SdE X b wb) (hs : PlainIx b) : SdE X (.Subscript a b pos) (eBin wIdx wa wb) := by
  obtain ⟨r, h1, h2⟩ := o_ix (X := X)
  obtain ⟨ta, p1, s1⟩ := ha
  obtain ⟨tb, p2, s2⟩ := hb
  exact ⟨_, pe_ix h1 p1 p2 hs, s_op s1 s2 h2⟩
def SdO (X : Cx) (e : Option Expr) (w : Sw → Hw → (Option Int → Hw → Prop) → WX → Prop) : Prop := ∃ t, PO X e t ∧ ∀ (F H : Hp) (C : Hw) (σ : L2.St) (τ : Sw) (Q : Option Int → Hp → Prop) (Q' : Option Int → Hw → Prop) (χ : WX), Rl X.K F H C → RepS X.K H σ τ → w τ C Q' χ →
  (∀ o H' C', Rl X.K F H' C' → Tx H H' → Q' o C' → Q o H') → t σ H Q
theorem do_none : SdO X none oNo := ⟨_, po_none, fun F H C σ τ Q Q' χ R S h q => q none H C R (Tx.refl H) h⟩
theorem do_some (ha : SdE X a wa) : SdO X (some a) (oSome wa) := by
  obtain ⟨ta, p1, s1⟩ := ha
  refine ⟨_, po_some p1, fun F H C σ τ Q Q' χ R S h q => ?_⟩
  refine s1 F H C σ τ _ _ χ R S h fun x v H1 C1 R1 t1 rx h1 => ?_
  obtain ⟨i, rfl, h1⟩ := h1
  exact ⟨i, of_int rx, q (some i) H1 C1 R1 t1 h1⟩
theorem d_sl {lo hi : Option Expr} {wl wh : Sw → Hw → (Option Int → Hw → Prop) → WX → Prop} {p2 : Pos} (ha : SdE X a wa) (hl : SdO X lo wl) (hh : SdO X hi wh) : SdE X (.Subscript a (.Slice lo hi none p2) pos) (eSl wa wl wh) := by
  obtain ⟨r, h1, h2⟩ := o_sl (X := X)
  obtain ⟨ta, p1, s1⟩ := ha
  obtain ⟨tl, p3, s3⟩ := hl
  obtain ⟨th, p4, s4⟩ := hh
  refine ⟨_, pe_slice h1 p1 p3 p4, fun F H C σ τ Q Q' χ R S h q => ?_⟩
  refine s1 F H C σ τ _ _ χ R S h fun x v H1 C1 R1 t1 rx h1 => ?_
  refine s3 F H1 C1 σ τ _ _ χ R1 (S.tx t1) h1 fun l H2 C2 R2 t2 h2' => ?_
  refine s4 F H2 C2 σ τ _ _ χ R2 (S.tx (t1.trans t2)) h2' fun u H3 C3 R3 t3 h3 => ?_
  exact h2 F H3 C3 x v l u Q Q' R3 ((rx.tx t2).tx t3) h3 (QE.at q ((t1.trans t2).trans t3))
/-- f(e, ..), f a function of Python's own -/
theorem d_bi {x : Str} {id : String} {r : List T → Hw → WK → Prop} (hc : CallS X (.builtin id) r) (hg : Gl X x) (hm : X.mg x = none) (hv : bootBuiltins x = some (.builtin id)) (ha : SdA X (e :: es) wA) (hn : x ≠ "__name__" := by decide) (hdb : (x == ("__debug__" : Str)) = false := by decide)
    (he : starEach (e :: es) X.env = (false, eval e X.env) :: starEach es X.env := by rfl) (hpl : (backTo pos (starEach es X.env)).any (·.1) = false := by rfl) : SdE X (.Call (.Name x p) (e :: es) [] pos) (eBi r wA) := by
  obtain ⟨r, h1, h2⟩ := hc
  obtain ⟨t, p1, s1⟩ := ha
  exact ⟨_, pe_callB h1 hg hm hv p1 hn hdb he hpl, s_bi h2 s1⟩
theorem d_ty {x : Str} {id : String} {r : List T → Hw → WK → Prop} (hc : CallS X (.type id) r) (hg : Gl X x) (hm : X.mg x = none) (hv : bootBuiltins x = some (.type id)) (ha : SdA X (e :: es) wA) (hn : x ≠ "__name__" := by decide) (hdb : (x == ("__debug__" : Str)) = false := by decide)
    (he : starEach (e :: es) X.env = (false, eval e X.env) :: starEach es X.env := by rfl) (hpl : (backTo pos (starEach es X.env)).any (·.1) = false := by rfl) : SdE X (.Call (.Name x p) (e :: es) [] pos) (eBi r wA) := by
  obtain ⟨r, h1, h2⟩ := hc
  obtain ⟨t, p1, s1⟩ := ha
  exact ⟨_, pe_callTy h1 hg hm hv p1 hn hdb he hpl, s_bi h2 s1⟩
/-- the receiver's class -/
def TyS (X : Cx) (Tn : String) (ty : T → Hw → Prop) : Prop := ∀ (F H : Hp) (C : Hw) (x : V) (v : T), Rl X.K F H C → Rep X.K H x v → ty v C → tyV X.K Tn x H
theorem ty_list : TyS X "list" tyL' := fun F H C x v R rx h => by
  obtain ⟨a, xs, rfl, hx⟩ := h
  cases of_ref rx
  obtain ⟨ys, hy, r⟩ := R.lst hx
  exact L2.tyL hy
theorem ty_str : TyS X "str" tyS := fun F H C x v R rx h => by
  obtain ⟨z, rfl⟩ := h
  cases of_str rx
  unfold tyV
  rfl
theorem d_mt {o : Expr} {wo : WE} {name : Str} {Tn id : String} {ty : T → Hw → Prop} {r : T → List T → Hw → WK → Prop} (pa : PlainAttrs Tn) (slot : Slot Tn name id) (hty : typeOf (.builtin id) = pure (.type "method_descriptor")) (hT : TyS X Tn ty) (hm : MtS X id r) (ho : SdE X o wo) (ha : SdA X (e :: es) wA)
    (hbase : attributeBase o name X.env (eval o X.env) = eval o X.env := by rfl)
    (hfew : ((backTo cpos (starEach (e :: es) X.env)).all (fun x => !x.1) && (backToKw cpos (keywordEach [] X.env)).all (fun x => x.1.isSome)
      && decide ((e :: es).length + ([] : List Keyword).length + (if ([] : List Keyword).isEmpty then 0 else 1) < 30)) = true := by rfl)
    (hline : (apos.endLine == cpos.line) = true := by rfl) (hs : starEach (e :: es) X.env = (false, eval e X.env) :: starEach es X.env := by rfl) (hplain : (backTo cpos (starEach es X.env)).any (·.1) = false := by rfl) :
    SdE X (.Call (.Attribute o name apos) (e :: es) [] cpos) (eMt ty r wo wA) := by
  obtain ⟨rr, h1, h2⟩ := hm
  obtain ⟨to, p1, s1⟩ := ho
  obtain ⟨ta, p2, s2⟩ := ha
  refine ⟨_, pe_bm pa slot hty h1 p1 p2 hbase hfew hline hs hplain, fun F H C σ τ Q Q' χ R S h q => ?_⟩
  refine s1 F H C σ τ _ _ χ R S h fun x v H1 C1 R1 t1 rx h1' => ⟨hT F H1 C1 x v R1 rx h1'.1, ?_⟩
  refine s2 F H1 C1 σ τ _ _ χ R1 (S.tx t1) h1'.2 fun xs vs H2 C2 R2 t2 rs h2' => ?_
  exact h2 F H2 C2 x v xs vs Q Q' R2 (rx.tx t2) rs h2' (QE.at q (t1.trans t2))
theorem d_mt0 {o : Expr} {wo : WE} {name : Str} {Tn id : String} {ty : T → Hw → Prop} {r : T → List T → Hw → WK → Prop} (pa : PlainAttrs Tn) (slot : Slot Tn name id) (hty : typeOf (.builtin id) = pure (.type "method_descriptor")) (hT : TyS X Tn ty) (hm : MtS X id r) (ho : SdE X o wo)
    (hbase : attributeBase o name X.env (eval o X.env) = eval o X.env := by rfl) (hline : (apos.endLine == cpos.line) = true := by rfl) :
    SdE X (.Call (.Attribute o name apos) [] [] cpos) (eMt ty r wo aNil) := by
  obtain ⟨rr, h1, h2⟩ := hm
  obtain ⟨to, p1, s1⟩ := ho
  refine ⟨_, pe_bm0 pa slot hty h1 p1 hbase hline, fun F H C σ τ Q Q' χ R S h q => ?_⟩
  refine s1 F H C σ τ _ _ χ R S h fun x v H1 C1 R1 t1 rx h1' => ⟨hT F H1 C1 x v R1 rx h1'.1, ?_⟩
  exact h2 F H1 C1 x v [] [] Q Q' R1 rx reps_nil h1'.2 (QE.at q t1)
/-! isinstance -/
theorem kit_cls {K : PySem.W.Frag} {n c : String} (hn : n ∈ ["NoneType", "bool", "int", "str", "tuple", "list", "dict"]) (hc : c ∈ ["bool", "int", "str", "tuple", "list", "dict"]) : PySem.W.kitOne K (.type n) (.type c) = some (isCls n c) := by
  simp only [List.mem_cons, List.not_mem_nil, or_false] at hn hc
  rcases hn with rfl | rfl | rfl | rfl | rfl | rfl | rfl <;> rcases hc with rfl | rfl | rfl | rfl | rfl | rfl <;> rfl
theorem tyN_mem {v : T} {C : Hw} {n : String} (h : tyN v C n) : n ∈ ["NoneType", "bool", "int", "str", "tuple", "list", "dict"] := by
  cases v with
  | non => cases h; decide
  | bl _ => cases h; decide
  | int _ => cases h; decide
  | str _ => cases h; decide
  | tup _ => cases h; decide
  | cl _ => cases h; decide
  | ref _ => rcases h with ⟨rfl, _⟩ | ⟨rfl, _⟩ <;> decide
theorem isi_of {pins : List (Addr × Obj)} {σ : L2.St} {F H : Hp} {C : Hw} {s : Shared} {x : V} {v : T} {u : Value} {n c : String} {Q : Value → Shared → Prop} (I : Inv X pins σ H s) (R : Rl X.K F H C) (rx : Rep X.K H x v) (ru : RelV x u) (hn : tyN v C n) (hc : c ∈ ["bool", "int", "str", "tuple", "list", "dict"])
    (h : ∀ tk, Q (.bool (isCls n c)) { s with toks := tk }) : wpAny (model X.prog X.w) X.A (call (.builtin "isinstance") [u, .type c]) Q X.xe s := by
  have e := kit_cls (K := X.K) (tyN_mem hn) hc
  cases v with
  | non => cases hn; cases of_non rx; exact isinst_ok I ru .non e h
  | bl b => cases hn; cases of_bl rx; exact isinst_ok I ru (.bl b) e h
  | int b => cases hn; cases of_int rx; exact isinst_ok I ru (.int b) e h
  | str b => cases hn; cases of_str rx; exact isinst_ok I ru (.str b) e h
  | tup xs =>
    cases hn
    obtain ⟨a, ys, rfl, hq, r⟩ := of_tup rx
    cases ru
    obtain ⟨its, _, ⟨o, h1, h2, _⟩, _⟩ := I.tuple hq
    exact PySem.W.kia_one PySem.W.kitx_tuple I.kIn ⟨o, h1, h2⟩ e (fun z => nomatch z) h
  | cl xs =>
    cases hn
    obtain ⟨a, ys, rfl, hq, r⟩ := of_cl rx
    cases ru
    obtain ⟨its, _, p, _⟩ := I.list hq.sq
    obtain ⟨o, h1, h2, _⟩ := p.isList
    exact PySem.W.kia_one PySem.W.kitx_list I.kIn ⟨o, h1, h2⟩ e (fun z => nomatch z) h
  | ref a =>
    cases of_ref rx
    rcases hn with ⟨rfl, xs, hx⟩ | ⟨rfl, kvs, hx⟩
    · obtain ⟨ys, hy, r⟩ := R.lst hx
      exact isinst_ok I ru (.lst hy) e h
    · obtain ⟨ks, hy, r⟩ := R.obj a _ hx
      exact isinst_ok I ru (.dK hy) e h
theorem d_isi {x : Str} {q2 : Pos} {c : String} (hg : Gl X "isinstance") (hm : X.mg "isinstance" = none) (hgx : Gl X x) (hmx : X.mg x = none) (hvx : bootBuiltins x = some (.type c)) (hc : c ∈ ["bool", "int", "str", "tuple", "list", "dict"]) (ha : SdE X a wa)
    (hnx : x ≠ "__name__" := by decide) (hdx : (x == ("__debug__" : Str)) = false := by decide) (he : starEach [a, .Name x q2] X.env = [(false, eval a X.env), (false, eval (.Name x q2) X.env)] := by rfl) : SdE X (.Call (.Name "isinstance" p) [a, .Name x q2] [] pos) (eIsi wa c) := by
  obtain ⟨ta, p1, s1⟩ := ha
  let r : List V → Hp → VK → Prop := fun xs H Q => ∃ y F C v n, xs = [y, .ty c] ∧ Rl X.K F H C ∧ Rep X.K H y v ∧ tyN v C n ∧ Q (.bl (isCls n c)) H
  have hr : CallR X (.builtin "isinstance") r := by
    intro pins s σ H xs us Q I rs h
    obtain ⟨y, F, C, v, n, rfl, R, ry, hn, q⟩ := h
    obtain ⟨u, u2, rfl, ru, ru2⟩ := rs.two
    cases ru2
    exact isi_of I R ry ru hn hc fun tk => ⟨.bl _, H, I.tok tk, rfl, q⟩
  refine ⟨_, pe_callB hr hg hm bt_isinstance (pa_cons p1 (pa_cons (pe_bltn (v := .ty c) hgx hmx hvx rfl hnx hdx) pa_nil (by rw [show starEach [Expr.Name x q2] X.env = [(false, eval (.Name x q2) X.env)] from rfl]; rfl)) ?_) (by decide) (by decide) ?_ ?_, ?_⟩
  · rw [he]; rfl
  · rw [he]; rfl
  · rfl
  · intro F H C σ τ Q Q' χ R S h q
    refine s1 F H C σ τ _ _ χ R S h fun y v H1 C1 R1 t1 ry h1 => ?_
    obtain ⟨n, hn, h1⟩ := h1
    exact ⟨y, F, C1, v, n, rfl, R1, ry, hn, q _ _ H1 C1 R1 t1 rep_bl h1⟩
/-! tests -/
theorem dt_cmp {op : CmpOp} (ho : OpS X (compareOp op) w) (ha : SdE X a wa) (hb : SdE X b wb) (hm : behindInMarks op b = false) : SdT X (.Compare a [op] [b] pos) (tBl (eBin w wa wb)) := by
  obtain ⟨r, h1, h2⟩ := ho
  obtain ⟨ta, p1, s1⟩ := ha
  obtain ⟨tb, p2, s2⟩ := hb
  exact ⟨_, pt_cmpR h1 p1 p2 hm, s_bl (s_op s1 s2 h2)⟩
theorem dt_chain {op op' : CmpOp} (ho : OpS X (compareOp op) w) (ho' : OpS X (compareOp op') w') (ha : SdE X a wa) (hb : SdE X b wb) (hc : SdE X c wc) (hm : lastMarks [op, op'] [b, c] = false := by with_unfolding_all rfl) :
    SdT X (.Compare a [op, op'] [b, c] pos) (tBl (eChain w w' wa wb wc)) := by
  obtain ⟨r, h1, h2⟩ := ho
  obtain ⟨r', h1', h2'⟩ := ho'
  obtain ⟨ta, p1, s1⟩ := ha
  obtain ⟨tb, p2, s2⟩ := hb
  obtain ⟨tc, p3, s3⟩ := hc
  exact ⟨_, pt_chain h1 h1' p1 p2 p3 hm, s_bl (s_chain s1 s2 s3 h2 h2')⟩
theorem dt_tru (ha : SdE X a wa) (he : ∀ whole, isTrue a X.env whole = (do let v ← whole; standAt a.pos; holding [v] (truthy v)) := by intro _; rfl) : SdT X a (tTru wa) := by
  obtain ⟨ta, p1, s1⟩ := ha
  exact ⟨_, pt_truth p1 he, s_tru s1⟩
theorem dw_and1 (ha : SdT X a wt) : SdW X (.BoolOp .And [a] pos) wt := by
  obtain ⟨t, p, s⟩ := ha
  exact ⟨_, pw_and1 p, s⟩
theorem dw_or1 (ha : SdT X a wt) : SdW X (.BoolOp .Or [a] pos) wt := by
  obtain ⟨t, p, s⟩ := ha
  exact ⟨_, pw_or1 p, s⟩
theorem dw_and (ha : SdT X a wt) (hb : SdW X (.BoolOp .And (b :: rest) pos) wt') : SdW X (.BoolOp .And (a :: b :: rest) pos) (tAn wt wt') := by
  obtain ⟨t, p, s⟩ := ha
  obtain ⟨t', p', s'⟩ := hb
  exact ⟨_, pw_and p p', s_an s s'⟩
theorem dw_or (ha : SdT X a wt) (hb : SdW X (.BoolOp .Or (b :: rest) pos) wt') : SdW X (.BoolOp .Or (a :: b :: rest) pos) (tOr' wt wt') := by
  obtain ⟨t, p, s⟩ := ha
  obtain ⟨t', p', s'⟩ := hb
  exact ⟨_, pw_or p p', s_or' s s'⟩
theorem dt_w (h : SdW X a wt) : SdT X a wt := by
  obtain ⟨t, p, s⟩ := h
  exact ⟨_, p.pt, s⟩
theorem dt_not (ha : SdT X a wt) : SdT X (.UnaryOp .Not a pos) (tNo wt) := by
  obtain ⟨t, p, s⟩ := ha
  exact ⟨_, pt_not p, s_no s⟩
end
/-! ### statements -/
structure DRel (K : PySem.W.Frag) (F H : Hp) (D : Ends) (D' : We) : Prop where
  nx : ∀ σ τ H' C', Rl K F H' C' → Tx H H' → RepS K H' σ τ → D'.nx τ C' → D.nx σ H'
  rt : ∀ x v H' C', Rl K F H' C' → Tx H H' → Rep K H' x v → D'.rt v C' → D.rt x H'
  bk : ∀ σ τ H' C', Rl K F H' C' → Tx H H' → RepS K H' σ τ → D'.bk τ C' → D.bk σ H'
  ct : ∀ σ τ H' C', Rl K F H' C' → Tx H H' → RepS K H' σ τ → D'.ct τ C' → D.ct σ H'
theorem DRel.at {K : PySem.W.Frag} {F H H1 : Hp} {D : Ends} {D' : We} (h : DRel K F H D D') (t : Tx H H1) : DRel K F H1 D D' :=
  ⟨fun σ τ H' C' R t' => h.nx σ τ H' C' R (t.trans t'), fun x v H' C' R t' => h.rt x v H' C' R (t.trans t'), fun σ τ H' C' R t' => h.bk σ τ H' C' R (t.trans t'), fun σ τ H' C' R t' => h.ct σ τ H' C' R (t.trans t')⟩
def SimS (K : PySem.W.Frag) (t : TS) (w : WS) : Prop := ∀ (F H : Hp) (C : Hw) (σ : L2.St) (τ : Sw) (D : Ends) (D' : We), Rl K F H C → RepS K H σ τ → w D' τ C → DRel K F H D D' → t D σ H
def SimG (K : PySem.W.Frag) (t : TG) (w : WG) : Prop := ∀ (F H : Hp) (C : Hw) (σ : L2.St) (τ : Sw) (x : V) (v : T) (Q : L2.St → Hp → Prop) (Q' : Sw → Hw → Prop) (χ : WX), Rl K F H C → RepS K H σ τ → Rep K H x v → w v τ C Q' χ →
  (∀ σ' τ' H' C', Rl K F H' C' → Tx H H' → RepS K H' σ' τ' → Q' τ' C' → Q σ' H') → t x σ H Q
def SimGs (K : PySem.W.Frag) (t : TGs) (w : WGs) : Prop := ∀ (F H : Hp) (C : Hw) (σ : L2.St) (τ : Sw) (x : List V) (v : List T) (Q : L2.St → Hp → Prop) (Q' : Sw → Hw → Prop) (χ : WX), Rl K F H C → RepS K H σ τ → Reps K H x v → w v τ C Q' χ →
  (∀ σ' τ' H' C', Rl K F H' C' → Tx H H' → RepS K H' σ' τ' → Q' τ' C' → Q σ' H') → t x σ H Q
def SdS (X : Cx) (st : Stmt) (w : WS) : Prop := ∃ t, PS X st t ∧ SimS X.K t w
def SdB (X : Cx) (st : List Stmt) (w : WS) : Prop := ∃ t, PSs X st t ∧ SimS X.K t w
/-- a target: also what a comprehension asks of it -/
def SdG (X : Cx) (e : Expr) (w : WG) : Prop := ∃ t, PG X e t ∧ SimG X.K t w
def SdGs (X : Cx) (e : List Expr) (w : WGs) : Prop := ∃ t, PGs X e t ∧ SimGs X.K t w
section
variable {X : Cx} {st : Stmt} {rest : List Stmt} {w u : WS} {e tg : Expr} {we : WE} {wt : WT} {g : WG} {gs : WGs} {pos : Pos}
theorem sg_name {K : PySem.W.Frag} {i : Nat} : SimG K (gName i) (gNm i) := fun F H C σ τ x v Q Q' χ R S r h q => q _ _ H C R (Tx.refl H) (S.set r) h
theorem sg_nil {K : PySem.W.Frag} : SimGs K gNil gsNil := fun F H C σ τ x v Q Q' χ R S r h q => by
  obtain ⟨rfl, h⟩ := h
  exact ⟨of_nil r, q _ _ H C R (Tx.refl H) S h⟩
theorem sg_cons {K : PySem.W.Frag} {t : TG} {u : TGs} {g : WG} {gs : WGs} (a : SimG K t g) (b : SimGs K u gs) : SimGs K (gCons t u) (gsCons g gs) := fun F H C σ τ x v Q Q' χ R S r h q => by
  obtain ⟨v1, vs, rfl, h⟩ := h
  obtain ⟨y, ys, rfl, r1, r2⟩ := of_cons r
  refine ⟨y, ys, rfl, a F H C σ τ y v1 _ _ χ R S r1 h fun σ' τ' H' C' R' t' S' h' => ?_⟩
  exact b F H' C' σ' τ' ys vs Q Q' χ R' S' (r2.tx t') h' fun σ2 τ2 H2 C2 R2 t2 => q σ2 τ2 H2 C2 R2 (t'.trans t2)
theorem sg_tup {K : PySem.W.Frag} {u : TGs} {gs : WGs} {n : Nat} (b : SimGs K u gs) (hn : ∀ vs τ C Q χ, gs vs τ C Q χ → vs.length = n) : SimG K (gTup K n u) (gTp gs) := fun F H C σ τ x v Q Q' χ R S r h q => by
  obtain ⟨vs, rfl, h⟩ := h
  obtain ⟨a, ys, rfl, hq, rs⟩ := of_tup r
  exact ⟨a, ys, rfl, hq, by rw [rs.length]; exact hn _ _ _ _ _ h, b F H C σ τ ys vs Q Q' χ R S rs h q⟩
/-- how many a row of targets takes -/
def GsLen (n : Nat) (gs : WGs) : Prop := ∀ vs τ C Q χ, gs vs τ C Q χ → vs.length = n
def GMono (g : WG) : Prop := ∀ v τ C Q Q' χ, (∀ τ' C', Q τ' C' → Q' τ' C') → g v τ C Q χ → g v τ C Q' χ
theorem gl_nil : GsLen 0 gsNil := fun vs τ C Q χ h => by rw [h.1]; rfl
theorem gm_nm {i : Nat} : GMono (gNm i) := fun v τ C Q Q' χ m h => m _ _ h
theorem gl_cons1 {n i : Nat} {gs : WGs} (b : GsLen n gs) : GsLen (n + 1) (gsCons (gNm i) gs) := fun vs τ C Q χ h => by
  obtain ⟨v, r, rfl, h⟩ := h
  rw [List.length_cons, b r _ _ _ _ h]
theorem dg_name {i : Nat} {x : Str} (hN : X.N.Nodup) (hi : X.N[i]? = some x := by rfl) (hx : Loc X.env.scope x := by first | exact Or.inl rfl | exact Or.inr rfl) (hf : X.fn x = true ∨ X.env.scope.names.lookup x = some .local := by first | exact .inl rfl | exact .inr rfl | assumption) : SdG X (.Name x pos) (gNm i) := ⟨_, pg_name hN hi hx hf, sg_name⟩
theorem dg_nil : SdGs X [] gsNil := ⟨_, pgs_nil, sg_nil⟩
theorem dg_cons {es : List Expr} (a : SdG X e g) (b : SdGs X es gs) (hs : (assignEach (e :: es) X.env).map (·.2) = assign e X.env :: (assignEach es X.env).map (·.2) := by rfl) : SdGs X (e :: es) (gsCons g gs) := by
  obtain ⟨t, p, s⟩ := a
  obtain ⟨t', p', s'⟩ := b
  exact ⟨_, pgs_cons p p' hs, sg_cons s s'⟩
theorem dg_tup {es : List Expr} {k n : Nat} (hc : X.calm = true) (b : SdGs X es gs) (hl : GsLen n gs) (hn : (assignEach es X.env).length = n := by rfl) (hst : (assignEach es X.env).findIdx? (·.1) = none := by rfl) : SdG X (.Tuple es k pos) (gTp gs) := by
  obtain ⟨t, p, s⟩ := b
  exact ⟨_, pg_tup hc p hn hst, sg_tup s hl⟩
theorem dg_sub {o i : Expr} {wo wi : WE} (ho : SdE X o wo) (hi : SdE X i wi)
    (ha : ∀ v, assign (.Subscript o i pos) X.env v = (do
      let ov ← holding [v] (eval o X.env)
      let iv ← holding [v, ov] (eval i X.env)
      standAt pos
      holding [v, ov, iv] (setItem ov iv v)
      release [v, ov, iv] []) := by intro _; rfl) : SdG X (.Subscript o i pos) (gSb wo wi) := by
  obtain ⟨t, p, s⟩ := ho
  obtain ⟨t', p', s'⟩ := hi
  refine ⟨_, pg_sub p p' set_list ha, fun F H C σ τ x v Q Q' χ R S r h q => ?_⟩
  refine s F H C σ τ _ _ χ R S h fun y vy H1 C1 R1 t1 ry h1 => ?_
  refine s' F H1 C1 σ τ _ _ χ R1 (S.tx t1) h1 fun z vz H2 C2 R2 t2 rz h2 => ?_
  obtain ⟨a, xs, k, j, rfl, rfl, hx, hj, h2⟩ := h2
  cases of_ref ry
  cases of_int rz
  obtain ⟨ys, hy, rs⟩ := R2.lst hx
  have t12 := t1.trans t2
  obtain ⟨R', t'⟩ := R2.putL hx (rs.set (r.tx t12) j)
  exact ⟨a, ys, k, j, rfl, rfl, hy, by rw [rs.length]; exact hj, q _ _ _ _ R' (t12.trans t') (S.tx (t12.trans t')) h2⟩
theorem db_nil : SdB X [] sPass := ⟨_, pss_nil, fun F H C σ τ D D' R S h d => d.nx σ τ H C R (Tx.refl H) S h⟩
theorem ds_pass : SdS X (.Pass pos) sPass := ⟨_, ps_pass, fun F H C σ τ D D' R S h d => d.nx σ τ H C R (Tx.refl H) S h⟩
theorem ds_break : SdS X (.Break pos) sBrk := ⟨_, ps_break, fun F H C σ τ D D' R S h d => d.bk σ τ H C R (Tx.refl H) S h⟩
theorem ds_cont : SdS X (.Continue pos) sCont := ⟨_, ps_continue, fun F H C σ τ D D' R S h d => d.ct σ τ H C R (Tx.refl H) S h⟩
theorem ds_never : SdS X st sNever := ⟨_, ps_never, fun F H C σ τ D D' R S h d => h⟩
theorem db_one (a : SdS X st w) : SdB X [st] w := by
  obtain ⟨t, p, s⟩ := a
  exact ⟨_, pss_one p, s⟩
theorem db_cons (a : SdS X st w) (b : SdB X rest u) : SdB X (st :: rest) (sSeq w u) := by
  obtain ⟨t, p, s⟩ := a
  obtain ⟨t', p', s'⟩ := b
  refine ⟨_, pss_cons p p', fun F H C σ τ D D' R S h d => ?_⟩
  exact s F H C σ τ _ _ R S h ⟨fun σ' τ' H' C' R' t' S' h' => s' F H' C' σ' τ' D D' R' S' h' (d.at t'), d.rt, d.bk, d.ct⟩
theorem ds_expr (a : SdE X e we) (hs : swapsWith e none pos.line X.env = pure false := by rfl) : SdS X (.Expr e pos) (sExpr we) := by
  obtain ⟨t, p, s⟩ := a
  refine ⟨_, ps_expr p hs, fun F H C σ τ D D' R S h d => ?_⟩
  exact s F H C σ τ _ _ D'.xc R S h fun x v H1 C1 R1 t1 rx h1 => d.nx σ τ H1 C1 R1 t1 (S.tx t1) h1
theorem ds_ret (a : SdE X e we) : SdS X (.Return (some e) pos) (sRet we) := by
  obtain ⟨t, p, s⟩ := a
  refine ⟨_, ps_ret p, fun F H C σ τ D D' R S h d => ?_⟩
  exact s F H C σ τ _ _ D'.xc R S h d.rt
theorem ds_retN : SdS X (.Return none pos) sRetN := ⟨_, ps_retN, fun F H C σ τ D D' R S h d => d.rt .non .non H C R (Tx.refl H) rep_non h⟩
theorem ds_if {c : Expr} {a b : List Stmt} {wa wb : WS} (hc : SdT X c wt) (ha : SdB X a wa) (hb : SdB X b wb) : SdS X (.If c a b pos) (sIf wt wa wb) := by
  obtain ⟨t, p, s⟩ := hc
  obtain ⟨t1, p1, s1⟩ := ha
  obtain ⟨t2, p2, s2⟩ := hb
  refine ⟨_, ps_if p p1 p2, fun F H C σ τ D D' R S h d => ?_⟩
  refine s F H C σ τ _ _ D'.xc R S h fun k H1 C1 R1 t1 h1 => ?_
  cases k with
  | true => exact s1 F H1 C1 σ τ D D' R1 (S.tx t1) h1 (d.at t1)
  | false => exact s2 F H1 C1 σ τ D D' R1 (S.tx t1) h1 (d.at t1)
theorem ds_asg (he : SdE X e we) (hg : SdG X tg g) (hs : swapsWithSole [tg] e pos.line X.env = pure false := by rfl) (hw : swappedStores [tg] e X.env = pure none := by rfl)
    (h1 : (assignEach [tg] X.env).map (·.2) = [assign tg X.env] := by rfl) : SdS X (.Assign [tg] e pos) (sAsg we g) := by
  obtain ⟨t, p, s⟩ := he
  obtain ⟨t', p', s'⟩ := hg
  refine ⟨_, ps_asg p p' hs hw h1, fun F H C σ τ D D' R S h d => ?_⟩
  refine s F H C σ τ _ _ D'.xc R S h fun x v H1 C1 R1 t1 rx h1 => ?_
  exact s' F H1 C1 σ τ x v _ _ D'.xc R1 (S.tx t1) rx h1 fun σ' τ' H' C' R' t' => d.nx σ' τ' H' C' R' (t1.trans t')
theorem ds_set {i : Nat} {x : Str} {pos' : Pos} (hN : X.N.Nodup) (he : SdE X e we) (hi : X.N[i]? = some x := by rfl) (hx : Loc X.env.scope x := by first | exact Or.inl rfl | exact Or.inr rfl) (hs : swapsWith e (some (.Name x pos')) pos.line X.env = pure false := by rfl)
    (hf : X.fn x = true ∨ X.env.scope.names.lookup x = some .local := by first | exact .inl rfl | exact .inr rfl | assumption) : SdS X (.Assign [.Name x pos'] e pos) (sAsg we (gNm i)) := by
  obtain ⟨t, p, s⟩ := he
  refine ⟨_, ps_set hN hi hx p hs hf, fun F H C σ τ D D' R S h d => ?_⟩
  refine s F H C σ τ _ _ D'.xc R S h fun x v H1 C1 R1 t1 rx h1 => ?_
  exact sg_name F H1 C1 σ τ x v _ _ D'.xc R1 (S.tx t1) rx h1 fun σ' τ' H' C' R' t' => d.nx σ' τ' H' C' R' (t1.trans t')
end
/-! ### what is walked -/
/-- the iterator gives these items, as long as ok holds -/
def ItRel (K : PySem.W.Frag) (F H0 : Hp) (J : It) (xs : List T) (ok : Hw → Prop) : Prop := ∀ (i : Nat) (H : Hp) (C : Hw), Rl K F H C → Tx H0 H → ok C →
  (i < xs.length → J.go i H ∧ ∀ x H', J.yld i H x H' → ∃ v, xs[i]? = some v ∧ Rl K F H' C ∧ Tx H H' ∧ Rep K H' x v) ∧ (i = xs.length → J.stop i H)
def SimI (K : PySem.W.Frag) (wi : TI) (w : WI) : Prop := ∀ (F H : Hp) (C : Hw) (σ : L2.St) (τ : Sw) (R : It → Hp → Prop) (R' : List T → (Hw → Prop) → Hw → Prop) (χ : WX), Rl K F H C → RepS K H σ τ → w τ C R' χ →
  (∀ J H' xs ok C', Rl K F H' C' → Tx H H' → (∀ F', ItRel K F' H' J xs ok) → R' xs ok C' → R J H') → wi σ H R
def SdI (X : Cx) (tg e : Expr) (w : WI) : Prop := ∃ t, PI X tg e t ∧ SimI X.K t w
section
variable {X : Cx} {tg e a b : Expr} {we : WE} {wA : WA} {pos p : Pos}
theorem it_list {K : PySem.W.Frag} {F H0 : Hp} {l : Addr} {xs : List T} : ItRel K F H0 (Itl K l) xs (fun C => C l = some (.lst xs)) := fun i H C R t ok => by
  obtain ⟨ys, hy, r⟩ := R.lst ok
  refine ⟨fun hi => ?_, fun hi => ⟨ys, SqL.of hy, by rw [r.length]; omega⟩⟩
  have ev : xs[i]? = some xs[i] := by simp [hi]
  obtain ⟨y, ey, ry⟩ := r.get ev
  refine ⟨⟨ys, y, SqL.of hy, ey⟩, fun x H' h => ?_⟩
  obtain ⟨rfl, h⟩ := h
  have e2 := h ys (SqL.of hy)
  rw [ey] at e2; cases e2
  exact ⟨_, ev, R, Tx.refl _, ry⟩
theorem it_cl {K : PySem.W.Frag} {F H0 : Hp} {l : Addr} {ys : List V} {xs : List T} (h0 : SqC K H0 l ys) (r0 : Reps K H0 ys xs) : ItRel K F H0 (Itl K l) xs (fun _ => True) := fun i H C R t ok => by
  have hy := (t.sqc h0).sq
  have r := r0.tx t
  refine ⟨fun hi => ?_, fun hi => ⟨ys, hy, by rw [r.length]; omega⟩⟩
  have ev : xs[i]? = some xs[i] := by simp [hi]
  obtain ⟨y, ey, ry⟩ := r.get ev
  refine ⟨⟨ys, y, hy, ey⟩, fun x H' h => ?_⟩
  obtain ⟨rfl, h⟩ := h
  have e2 := h ys hy
  rw [ey] at e2; cases e2
  exact ⟨_, ev, R, Tx.refl _, ry⟩
theorem it_tup {K : PySem.W.Frag} {F H0 : Hp} {l : Addr} {ys : List V} {xs : List T} (h0 : SqT K H0 l ys) (r0 : Reps K H0 ys xs) : ItRel K F H0 (Itt K l) xs (fun _ => True) := fun i H C R t ok => by
  have hy := t.sqt h0
  have r := r0.tx t
  refine ⟨fun hi => ?_, fun hi => ⟨ys, hy, by rw [r.length]; omega⟩⟩
  have ev : xs[i]? = some xs[i] := by simp [hi]
  obtain ⟨y, ey, ry⟩ := r.get ev
  refine ⟨⟨ys, y, hy, ey⟩, fun x H' h => ?_⟩
  obtain ⟨rfl, h⟩ := h
  have e2 := h ys hy
  rw [ey] at e2; cases e2
  exact ⟨_, ev, R, Tx.refl _, ry⟩
theorem it_str {K : PySem.W.Frag} {F H0 : Hp} {z : Str} : ItRel K F H0 (Its z) (z.cps.toList.map fun c => T.str ⟨#[c]⟩) (fun _ => True) := fun i H C R t ok => by
  refine ⟨fun hi => ⟨by show i < z.cps.size; simpa using hi, fun x H' h => ?_⟩, fun hi => by show i = z.cps.size; simpa using hi⟩
  obtain ⟨rfl, c, hc, rfl⟩ := h
  refine ⟨.str ⟨#[c]⟩, ?_, R, Tx.refl _, rep_str⟩
  rw [List.getElem?_map, Array.getElem?_toList, hc]; rfl
theorem it_rng {K : PySem.W.Frag} {F H0 : Hp} {lo : Int} {n : Nat} : ItRel K F H0 (Itr lo n) (rng lo n) (fun _ => True) := fun i H C R t ok => by
  have hl : (rng lo n).length = n := by unfold rng; simp
  refine ⟨fun hi => ⟨by rw [hl] at hi; exact hi, fun x H' h => ?_⟩, fun hi => by show n ≤ i; omega⟩
  obtain ⟨rfl, rfl⟩ := h
  refine ⟨.int (lo + i), ?_, R, Tx.refl _, rep_int⟩
  unfold rng
  rw [hl] at hi
  rw [List.getElem?_map, List.getElem?_range hi]; rfl
theorem it_enum {K : PySem.W.Frag} {F H0 : Hp} {z : Str} : ItRel K F H0 (Ite z) (z.cps.toList.zipIdx.map fun c => T.tup [.int c.2, .str ⟨#[c.1]⟩]) (fun _ => True) := fun i H C R t ok => by
  have hl : (z.cps.toList.zipIdx.map fun c => T.tup [.int c.2, .str ⟨#[c.1]⟩]).length = z.cps.size := by simp
  refine ⟨fun hi => ⟨by rw [hl] at hi; exact hi, fun x H' h => ?_⟩, fun hi => by show i = z.cps.size; omega⟩
  obtain ⟨c, Tt, hc, rfl, hT, rfl⟩ := h
  refine ⟨.tup [.int i, .str ⟨#[c]⟩], ?_, R.hid hT, Tx.new hT, rep_tup (SqT.of upd_same) (reps_cons rep_int (reps_cons rep_str reps_nil))⟩
  rw [List.getElem?_map, List.getElem?_zipIdx, Array.getElem?_toList, hc]
  simp
theorem str_iter {pins : List (Addr × Obj)} {σ : L2.St} {H1 : Hp} {s1 : Shared} {R : It → Hp → Prop} {z : Str} {v : Value} (I1 : Inv X pins σ H1 s1) (r1 : RelV (.str z) v) (q : R (Its z) H1) : wpAny (model X.prog X.w) X.A (pyIter v) (PIE X pins σ tg R) X.xe s1 := by
  obtain ⟨t, rfl⟩ := r1
  have fin : ∀ b ∈ [s1.heap.objs.size], FpOk X pins H1 b := fun b hb => by
    have e : b = s1.heap.objs.size := by simpa using hb
    subst e
    exact I1.fpOk (Nat.le_refl _) I1.fresh
  cases ha : z.cps.all (· < 128)
  · refine wpAny_pyIter_wide ha ⟨s1.heap.objs.size, [s1.heap.objs.size], _, _, H1, rfl, I1.kept (t' := s1.toks) fun b o e => Heap.get?_push_of_some _ e, turn_walks (ty := "str_iterator") (by decide) (fun A hA => Walks.strWide hA _ z t) fun _ _ _ _ _ st h => wpAny_pyIter_striter_wide st h, ⟨_, Heap.get?_push_size _ rfl, rfl, rfl⟩, fin, q⟩
  · refine wpAny_pyIter_ascii ha ⟨s1.heap.objs.size, [s1.heap.objs.size], _, _, H1, rfl, I1.kept (t' := s1.toks) fun b o e => Heap.get?_push_of_some _ e, turn_walks (ty := "str_ascii_iterator") (by decide) (fun A hA => Walks.strAscii hA _ z t) fun _ _ _ _ _ st h => wpAny_pyIter_striter_ascii st h, ⟨_, Heap.get?_push_size _ rfl, rfl, rfl⟩, fin, q⟩
/-- a list, a tuple or a text, whichever it is -/
def iDyn (K : PySem.W.Frag) (tl : TE) : TI := fun σ H R => tl σ H fun x H1 => (∃ a, x = .ref a ∧ (∃ xs, SqL K H1 a xs) ∧ R (Itl K a) H1) ∨ (∃ a, x = .ref a ∧ (∃ xs, SqT K H1 a xs) ∧ R (Itt K a) H1) ∨ ∃ z, x = .str z ∧ R (Its z) H1
theorem pi_dyn {tl : TE} (hl : PE X e tl) : PI X tg e (iDyn X.K tl) := by
  intro pins s σ H R I h
  refine thn (hl pins s σ H _ I h) fun v s1 ⟨x, H1, I1, r1, q1⟩ => ?_
  rcases q1 with ⟨a, rfl, ⟨xs, hq⟩, q⟩ | ⟨a, rfl, ⟨xs, hq⟩, q⟩ | ⟨z, rfl, q⟩
  · cases r1
    obtain ⟨its, rv, p, hz⟩ := I1.list hq
    refine wpAny_pyIter_list p.isList ?_
    refine ⟨s1.heap.objs.size, [s1.heap.objs.size], _, _, H1, rfl, I1.kept (t' := s1.toks) fun b o e => Heap.get?_push_of_some _ e, turn_list a _, ⟨_, Heap.get?_push_size _ rfl, rfl, rfl⟩, fun b hb => ?_, q⟩
    have e : b = s1.heap.objs.size := by simpa using hb
    subst e
    exact I1.fpOk (Nat.le_refl _) (I1.hok.fresh (Nat.le_refl _))
  · cases r1
    obtain ⟨its, rv, p, hz⟩ := I1.tuple hq
    refine wpAny_pyIter_tuple (show s1.heap.IsTuple a its.toArray from p) ?_
    refine ⟨s1.heap.objs.size, [s1.heap.objs.size], _, _, H1, rfl, I1.kept (t' := s1.toks) fun b o e => Heap.get?_push_of_some _ e, turn_tuple a _, ⟨_, Heap.get?_push_size _ rfl, rfl, rfl⟩, fun b hb => ?_, q⟩
    have e : b = s1.heap.objs.size := by simpa using hb
    subst e
    exact I1.fpOk (Nat.le_refl _) (I1.hok.fresh (Nat.le_refl _))
  · exact str_iter I1 r1 q
theorem di_seq (h : SdE X e we) : SdI X tg e (iSeq we) := by
  obtain ⟨t, p, s⟩ := h
  refine ⟨_, pi_dyn p, fun F H C σ τ R R' χ Rr S h q => ?_⟩
  refine s F H C σ τ _ _ χ Rr S h fun x v H1 C1 R1 t1 rx h1 => ?_
  cases v with
  | tup xs =>
    obtain ⟨a, ys, rfl, hq, r⟩ := of_tup rx
    exact .inr (.inl ⟨a, rfl, ⟨ys, hq⟩, q _ H1 xs _ C1 R1 t1 (fun _ => it_tup hq r) h1⟩)
  | cl xs =>
    obtain ⟨a, ys, rfl, hq, r⟩ := of_cl rx
    exact .inl ⟨a, rfl, ⟨ys, hq.sq⟩, q _ H1 xs _ C1 R1 t1 (fun _ => it_cl hq r) h1⟩
  | str z => cases of_str rx; exact .inr (.inr ⟨z, rfl, q _ H1 _ _ C1 R1 t1 (fun _ => it_str) h1⟩)
  | ref a =>
    cases of_ref rx
    obtain ⟨xs, hx, h1⟩ := h1
    obtain ⟨ys, hy, r⟩ := R1.lst hx
    exact .inl ⟨a, rfl, ⟨ys, SqL.of hy⟩, q _ H1 xs _ C1 R1 t1 (fun _ => it_list) h1⟩
  | _ => exact False.elim h1
theorem di_r1 (hg : Gl X "range") (hm : X.mg "range" = none) (ha : SdA X [a] wA) (hs : starEach [a] X.env = [(false, eval a X.env)] := by rfl) : SdI X tg (.Call (.Name "range" p) [a] [] pos) (iR1 wA) := by
  obtain ⟨t, p1, s⟩ := ha
  refine ⟨_, pi_range1 hg hm p1 hs, fun F H C σ τ R R' χ Rr S h q => ?_⟩
  refine s F H C σ τ _ _ χ Rr S h fun xs vs H1 C1 R1 t1 rs h1 => ?_
  obtain ⟨j, rfl, h2, h3, h1⟩ := h1
  obtain ⟨x, rfl, rx⟩ := of_one rs
  cases of_int rx
  exact ⟨j, rfl, h2, h3, q _ H1 _ _ C1 R1 t1 (fun _ => it_rng) h1⟩
theorem di_r2 (hg : Gl X "range") (hm : X.mg "range" = none) (ha : SdA X [a, b] wA) (hs : starEach [a, b] X.env = [(false, eval a X.env), (false, eval b X.env)] := by rfl) (hs2 : starEach [b] X.env = [(false, eval b X.env)] := by rfl) : SdI X tg (.Call (.Name "range" p) [a, b] [] pos) (iR2 wA) := by
  obtain ⟨t, p1, s⟩ := ha
  refine ⟨_, pi_range2 hg hm p1 hs hs2, fun F H C σ τ R R' χ Rr S h q => ?_⟩
  refine s F H C σ τ _ _ χ Rr S h fun xs vs H1 C1 R1 t1 rs h1 => ?_
  obtain ⟨i, j, rfl, h2, h1⟩ := h1
  obtain ⟨x, y, rfl, rx, ry⟩ := of_two rs
  cases of_int rx; cases of_int ry
  exact ⟨i, j, rfl, h2, q _ H1 _ _ C1 R1 t1 (fun _ => it_rng) h1⟩
theorem di_en {elts : List Expr} {ek : Nat} {epos : Pos} (hg : Gl X "enumerate") (hm : X.mg "enumerate" = none) (ha : SdA X [a] wA) (hc : X.calm = true) (hs : starEach [a] X.env = [(false, eval a X.env)] := by rfl) : SdI X (.Tuple elts ek epos) (.Call (.Name "enumerate" p) [a] [] pos) (iEn wA) := by
  obtain ⟨t, p1, s⟩ := ha
  refine ⟨_, pi_enum hg hm p1 hc hs, fun F H C σ τ R R' χ Rr S h q => ?_⟩
  refine s F H C σ τ _ _ χ Rr S h fun xs vs H1 C1 R1 t1 rs h1 => ?_
  obtain ⟨z, rfl, h1⟩ := h1
  obtain ⟨x, rfl, rx⟩ := of_one rs
  cases of_str rx
  exact ⟨z, rfl, q _ H1 _ _ C1 R1 t1 (fun _ => it_enum) h1⟩
end
/-! ### for -/
theorem sim_for {K : PySem.W.Frag} {wi : TI} {g : TG} {tb : TS} {i : WI} {g' : WG} {b : WS} (hi : SimI K wi i) (hg : SimG K g g') (hb : SimS K tb b) : SimS K (tFor wi g tb) (sFor i g' b) := fun F H C σ τ D D' R S h d => by
  refine hi F H C σ τ _ _ D'.xc R S h fun J H1 xs ok C1 R1 t1 it h1 => ?_
  have it1 := it F
  refine ⟨fun i m σ H => m = xs.length - i ∧ i ≤ xs.length ∧ ∃ τ C, Rl K F H C ∧ Tx H1 H ∧ RepS K H σ τ ∧ forW g' b ok D' (xs.drop i) τ C, ⟨xs.length, by simp, Nat.zero_le _, τ, C1, R1, Tx.refl _, S.tx t1, h1⟩, ?_⟩
  rintro i m σ2 H2 ⟨rfl, hle, τ2, C2, R2, t2, S2, h2⟩
  by_cases hlt : i < xs.length
  · right
    have ed : xs.drop i = xs[i] :: xs.drop (i + 1) := List.drop_eq_getElem_cons hlt
    rw [ed] at h2
    obtain ⟨hok, h2⟩ := h2
    obtain ⟨hgo, hy⟩ := (it1 i H2 C2 R2 t2 hok).1 hlt
    refine ⟨hgo, fun σ' H' => ∃ τ' C', Rl K F H' C' ∧ Tx H1 H' ∧ RepS K H' σ' τ' ∧ forW g' b ok D' (xs.drop (i + 1)) τ' C', fun σ' H' q => ⟨xs.length - (i + 1), by omega, rfl, hlt, q⟩, fun x H' hx => ?_⟩
    obtain ⟨v, ev, R3, t3, rv⟩ := hy x H' hx
    have : v = xs[i] := by
      have e : xs[i]? = some xs[i] := by simp [hlt]
      rw [e] at ev; exact (Option.some.inj ev).symm
    subst this
    refine hg F H' C2 σ2 τ2 x _ _ _ D'.xc R3 (S2.tx t3) rv h2 fun σ4 τ4 H4 C4 R4 t4 S4 h4 => ?_
    have tt : Tx H1 H4 := (t2.trans t3).trans t4
    exact hb F H4 C4 σ4 τ4 _ _ R4 S4 h4 ⟨fun σ5 τ5 H5 C5 R5 t5 S5 h5 => ⟨τ5, C5, R5, tt.trans t5, S5, h5⟩, fun x v H5 C5 R5 t5 => d.rt x v H5 C5 R5 ((t1.trans tt).trans t5), fun σ5 τ5 H5 C5 R5 t5 S5 h5 => d.nx σ5 τ5 H5 C5 R5 ((t1.trans tt).trans t5) S5 h5,
      fun σ5 τ5 H5 C5 R5 t5 S5 h5 => ⟨τ5, C5, R5, tt.trans t5, S5, h5⟩⟩
  · left
    have e : i = xs.length := by omega
    subst e
    rw [List.drop_length] at h2
    obtain ⟨hok, h2⟩ := h2
    exact ⟨(it1 _ H2 C2 R2 t2 hok).2 rfl, d.nx σ2 τ2 H2 C2 R2 (t1.trans t2) S2 h2⟩
theorem ds_for {X : Cx} {tg iter : Expr} {body : List Stmt} {i : WI} {g : WG} {b : WS} {pos : Pos} (hp : PassesOwn (model X.prog X.w) X.A X.env X.xe) (hc : X.calm = true) (hi : SdI X tg iter i) (hg : SdG X tg g) (hb : SdB X body b)
    (hs : ∀ x, foldedSetIterable iter X.env x = pure x := by intro _; rfl) : SdS X (.For tg iter body [] pos) (sFor i g b) := by
  obtain ⟨t, p, s⟩ := hi
  obtain ⟨t', p', s'⟩ := hg
  obtain ⟨t2, p2, s2⟩ := hb
  exact ⟨_, ps_for hp hc p p' p2 hs, sim_for s s' s2⟩
end WL
set_option Elab.async false
set_option linter.all false
set_option maxRecDepth 100000
set_option maxHeartbeats 4000000
namespace WL
open PySem PySem.Spec PyProof.Rows L2
/-! ### comprehensions -/
def tOf (K : PySem.W.Frag) (we : WE) : TE := fun σ H Q => ∃ (F : Hp) (C : Hw) (τ : Sw) (Q' : WK) (χ : WX), Rl K F H C ∧ RepS K H σ τ ∧ we τ C Q' χ ∧ QE K F H Q Q'
def ttOf (K : PySem.W.Frag) (wt : WT) : TT := fun σ H Q => ∃ (F : Hp) (C : Hw) (τ : Sw) (Q' : Bool → Hw → Prop) (χ : WX), Rl K F H C ∧ RepS K H σ τ ∧ wt τ C Q' χ ∧ QT K F H Q Q'
theorem SdE.pe {X : Cx} {e : Expr} {we : WE} (h : SdE X e we) : PE X e (tOf X.K we) := by
  obtain ⟨t, p, s⟩ := h
  intro pins st σ H Q I hq
  obtain ⟨F, C, τ, Q', χ, R, S, hw, q⟩ := hq
  exact p pins st σ H Q I (s F H C σ τ Q Q' χ R S hw q)
def SdIf (X : Cx) (ifs : List Expr) (w : WT) : Prop := ∃ t, PIfs X ifs t ∧ SimT X.K t w
theorem dif_nil {X : Cx} : SdIf X [] tYes := ⟨_, pif_nil, fun F H C σ τ Q Q' χ R S h q => q true H C R (Tx.refl H) h⟩
theorem dif_one {X : Cx} {e : Expr} {wt : WT} (h : SdT X e wt) : SdIf X [e] wt := by
  obtain ⟨t, p, s⟩ := h
  exact ⟨t, pif_one p, s⟩
theorem SdIf.pif {X : Cx} {ifs : List Expr} {w : WT} (h : SdIf X ifs w) : PIfs X ifs (ttOf X.K w) := by
  obtain ⟨t, p, s⟩ := h
  intro pins st σ H Q I hq
  obtain ⟨F, C, τ, Q', χ, R, S, hw, q⟩ := hq
  exact p pins st σ H Q I (s F H C σ τ Q Q' χ R S hw q)
theorem RepS.cap {K : PySem.W.Frag} {H : Hp} {σ : L2.St} {τ : Sw} (h : RepS K H σ τ) (cap : List (Option Nat)) : RepS K H (capS cap σ) (capW cap τ) := by
  refine ⟨by unfold capS capW; rw [List.length_map, List.length_map], fun i v e => ?_⟩
  unfold capW at e
  unfold capS
  rw [List.getElem?_map] at e ⊢
  cases ho : cap[i]? with
  | none => rw [ho] at e; cases e
  | some o =>
    rw [ho] at e
    cases o with
    | none => simp at e
    | some j =>
      have e' : (τ[j]?).join = some v := by simpa using e
      have e2 : τ[j]? = some (some v) := by
        cases hj : τ[j]? with
        | none => rw [hj] at e'; cases e'
        | some z => rw [hj] at e'; rw [show z = some v from e']
      obtain ⟨x, hx, r⟩ := h.2 j v e2
      exact ⟨x, by simp [hx], r⟩
/-- the frame with the list that grows -/
def frP (F : Hp) (p : Addr) (ys : List V) : Hp := fun b => if b = p then some (.lst ys) else F b
theorem frP_same {F : Hp} {p : Addr} {ys : List V} : frP F p ys p = some (.lst ys) := by unfold frP; rw [if_pos rfl]
theorem frP_ne {F : Hp} {p b : Addr} {ys : List V} (h : b ≠ p) : frP F p ys b = F b := by unfold frP; rw [if_neg h]
theorem sim_comp {K : PySem.W.Frag} {cap : List (Option Nat)} {wi : TI} {g : TG} {i : WI} {wg : WG} {wc : WT} {we : WE} (hi : SimI K wi i) (hg : SimG K g wg) {F H : Hp} {C : Hw} {σ : L2.St} {τ : Sw} {Q : Addr → Hp → Prop} {Q' : WK} {χ : WX}
    (R : Rl K F H C) (S : RepS K H σ τ) (h : eComp cap i wg wc we τ C Q' χ) (q : ∀ p H' C', Rl K F H' C' → Tx H H' → Q' (.ref p) C' → Q p H') : tCompL cap wi g (ttOf K wc) (tOf K we) σ H Q := by
  refine hi F H C σ τ _ _ χ R S h fun J H1 xs ok C1 R1 t1 it h1 => ?_
  intro p hp
  have hn : ∀ a o, F a = some o → a ≠ p := fun a o e => ne_of_none (R1.frm a o e).1 hp
  refine ⟨fun i m H2 => m = xs.length - i ∧ i ≤ xs.length ∧ ∃ C2 ys acc, Rl K (frP F p ys) H2 C2 ∧ Tx H1 H2 ∧ Reps K H2 ys acc ∧ compW wg wc we ok (capW cap τ) (fun vs C2 => ∀ p, C2 p = none → Q' (.ref p) (up C2 p (.lst vs))) χ (xs.drop i) acc C2,
    ⟨xs.length, by simp, Nat.zero_le _, C1, [], [], ?_, Tx.new hp, reps_nil, h1⟩, ?_⟩
  · refine ⟨(R1.hid hp).obj, fun a o e => ?_⟩
    by_cases ea : a = p
    · subst ea
      rw [frP_same] at e; cases e
      exact ⟨upd_same, R1.free hp⟩
    · rw [frP_ne ea] at e
      exact (R1.hid hp).frm a o e
  rintro i m H2 ⟨rfl, hle, C2, ys, acc, R2, t2, ra, h2⟩
  by_cases hlt : i < xs.length
  · right
    have ed : xs.drop i = xs[i] :: xs.drop (i + 1) := List.drop_eq_getElem_cons hlt
    rw [ed] at h2
    obtain ⟨hok, h2⟩ := h2
    obtain ⟨hgo, hy⟩ := (it (frP F p ys) i H2 C2 R2 t2 hok).1 hlt
    refine ⟨hgo, fun H' => ∃ C2 ys acc, Rl K (frP F p ys) H' C2 ∧ Tx H1 H' ∧ Reps K H' ys acc ∧ compW wg wc we ok (capW cap τ) (fun vs C2 => ∀ p, C2 p = none → Q' (.ref p) (up C2 p (.lst vs))) χ (xs.drop (i + 1)) acc C2,
      fun H' z => ⟨xs.length - (i + 1), by omega, rfl, hlt, z⟩, fun x H' hx => ?_⟩
    obtain ⟨v, ev, R3, t3, rv⟩ := hy x H' hx
    have : v = xs[i] := by
      have e : xs[i]? = some xs[i] := by simp [hlt]
      rw [e] at ev; exact (Option.some.inj ev).symm
    subst this
    have S3 : RepS K H' (capS cap σ) (capW cap τ) := (S.tx ((t1.trans t2).trans t3)).cap cap
    refine hg (frP F p ys) H' C2 (capS cap σ) (capW cap τ) x _ _ _ χ R3 S3 rv h2 fun σ4 τ4 H4 C4 R4 t4 S4 h4 => ?_
    refine ⟨frP F p ys, C4, τ4, _, χ, R4, S4, h4, fun b H5 C5 R5 t5 h5 => ?_⟩
    have t15 : Tx H2 H5 := (t3.trans t4).trans t5
    cases b with
    | true =>
      refine ⟨frP F p ys, C5, τ4, _, χ, R5, S4.tx t5, h5, fun y vy H6 C6 R6 t6 ry h6 => ?_⟩
      obtain ⟨e6, n6⟩ := R6.frm p _ frP_same
      have tp : Tx H6 (upd H6 p (.lst (ys ++ [y]))) := Tx.put e6 (fun z => z)
      refine ⟨ys, e6, by rw [ra.length]; exact h6.1, C6, ys ++ [y], acc ++ [vy], ⟨fun a o e => ?_, fun a o e => ?_⟩, (t2.trans (t15.trans t6)).trans tp, ((ra.tx (t15.trans t6)).snoc ry).tx tp, h6.2⟩
      · have ea : a ≠ p := fun z => by subst z; rw [n6] at e; cases e
        exact (R6.obj a o e).stay tp (upd_ne ea)
      · by_cases ea : a = p
        · subst ea
          rw [frP_same] at e; cases e
          exact ⟨upd_same, n6⟩
        · rw [frP_ne ea] at e
          rw [upd_ne ea]
          exact R6.frm a o (by rw [frP_ne ea]; exact e)
    | false => exact ⟨C5, ys, acc, R5, t2.trans t15, ra.tx t15, h5⟩
  · left
    have e : i = xs.length := by omega
    subst e
    rw [List.drop_length] at h2
    obtain ⟨hok, h2⟩ := h2
    refine ⟨(it (frP F p ys) _ H2 C2 R2 t2 hok).2 rfl, ?_⟩
    obtain ⟨e6, n6⟩ := R2.frm p _ frP_same
    refine q p H2 (up C2 p (.lst acc)) ⟨fun a o e => ?_, fun a o e => ?_⟩ (t1.trans t2) (h2 p n6)
    · by_cases ea : a = p
      · subst ea
        rw [up_same] at e; cases e
        exact ⟨ys, e6, ra⟩
      · rw [up_ne ea] at e
        exact R2.obj a o e
    · have ea := hn a o e
      rw [up_ne ea]
      exact R2.frm a o (by rw [frP_ne ea]; exact e)
section
variable {X : Cx} {tg iter elt : Expr} {ifs : List Expr} {scope : Scope} {pos : Pos} {cN : List Str} {cap : List (Option Nat)} {cl : List (Str × Addr)} {js : List Nat} {i : WI} {g : TG} {wg : WG} {wc : WT} {we : WE}
theorem ttOf_mono {K : PySem.W.Frag} {w : WT} : ∀ (σ : L2.St) (H : Hp) (Q Q' : Bool → Hp → Prop), (∀ b H', Q b H' → Q' b H') → ttOf K w σ H Q → ttOf K w σ H Q' := fun σ H Q Q' m h => by
  obtain ⟨F, C, τ, R', χ, R, S, hw, q⟩ := h
  exact ⟨F, C, τ, R', χ, R, S, hw, fun b H' C' r t h => m _ _ (q b H' C' r t h)⟩
/-- what is asked of a comprehension -/
structure CompD (X : Cx) (tg iter elt : Expr) (ifs : List Expr) (scope : Scope) (cN : List Str) (cap : List (Option Nat)) (cl : List (Str × Addr)) (js : List Nat) (i : WI) (g : TG) (wg : WG) (wc : WT) (we : WE) : Prop where
  calm : X.calm = true
  ok : X.Ok → CompOk X cN cap scope cl
  it : SdI X tg iter i
  tgt : ∀ fp s H, PG (cxComp X cN scope cl fp s H) tg g
  gm : TGmono g
  gk : GKeep js g
  sg : SimG X.K g wg
  js0 : ∀ j ∈ js, (cap[j]?).join = none
  ts : ∀ fp s H, SdIf (cxComp X cN scope cl fp s H) ifs wc
  el : ∀ fp s H, SdE (cxComp X cN scope cl fp s H) elt we
  fold : ∀ x, foldedSetIterable iter X.env x = pure x
theorem d_comp (D : CompD X tg iter elt ifs scope cN cap cl js i g wg wc we) : SdE X (.ListComp elt [⟨tg, iter, ifs, 0⟩] scope pos) (eComp cap i wg wc we) := by
  obtain ⟨wi, p, s⟩ := D.it
  have P : CompP X tg iter elt ifs scope cN cap cl js wi g (ttOf X.K wc) (tOf X.K we) := ⟨D.calm, D.ok, p, D.tgt, D.gm, D.gk, D.js0, fun fp s H => (D.ts fp s H).pif, ttOf_mono, fun fp s H => (D.el fp s H).pe, D.fold⟩
  exact ⟨_, pe_comp P, fun F H C σ τ Q Q' χ R S h q => sim_comp s D.sg R S h fun p H' C' R' t' h' => q _ _ H' C' R' t' rep_ref h'⟩
theorem ds_setComp {k : Nat} {y : Str} {py spos : Pos} (hN : X.N.Nodup) (hi : X.N[k]? = some y) (hy : X.env.scope.names.lookup y = some .local)
    (hsw : swapsWith (.ListComp elt [⟨tg, iter, ifs, 0⟩] scope pos) (some (.Name y py)) spos.line X.env = pure true)
    (D : CompD X tg iter elt ifs scope cN cap cl js i g wg wc we) : SdS X (.Assign [.Name y py] (.ListComp elt [⟨tg, iter, ifs, 0⟩] scope pos) spos) (sAsg (eComp cap i wg wc we) (gNm k)) := by
  obtain ⟨wi, p, s⟩ := D.it
  have P : CompP X tg iter elt ifs scope cN cap cl js wi g (ttOf X.K wc) (tOf X.K we) := ⟨D.calm, D.ok, p, D.tgt, D.gm, D.gk, D.js0, fun fp s H => (D.ts fp s H).pif, ttOf_mono, fun fp s H => (D.el fp s H).pe, D.fold⟩
  exact ⟨_, ps_setComp hN hi hy hsw P, fun F H C σ τ E E' R S h d => sim_comp s D.sg R S h fun p H' C' R' t' h' => d.nx _ _ H' C' R' t' ((S.tx t').set rep_ref) h'⟩
end
theorem hu150 {A : Around} {k : Nat} (hr : Room k A) : A.units + 150 < cLine := by have := hr.un; omega
/-! ### calls of own defs -/
def spW (K : PySem.W.Frag) (pr : List Df) (n i : Nat) : Sp := fun vs H Q _ => ∃ (F : Hp) (C : Hw) (vs' : List T) (Q' : WK) (χ : WX), Rl K F H C ∧ Reps K H vs vs' ∧ wpc pr n i vs' C Q' χ ∧ QE K F H Q Q'
theorem d_call {X : Cx} {k i : Nat} {x : Str} {ps : List Str} {pr : List Df} {p pos : Pos} {e : Expr} {es : List Expr} {wA : WA} (Cc : Ca X.prog X.w X.K X.mg X.base k x ps (spW X.K pr k i)) (hr : Room k X.A) (hg : Gl X x) (ha : SdA X (e :: es) wA)
    (hdb : (x == ("__debug__" : Str)) = false := by decide) (he : starEach (e :: es) X.env = (false, eval e X.env) :: starEach es X.env := by rfl) (hpl : (backTo pos (starEach es X.env)).any (·.1) = false := by rfl) :
    SdE X (.Call (.Name x p) (e :: es) [] pos) (eCall (wpc pr k) i wA) := by
  obtain ⟨t, p1, s⟩ := ha
  refine ⟨_, pe_ca Cc hr hg p1 hdb he hpl, fun F H C σ τ Q Q' χ R S h q => ?_⟩
  refine s F H C σ τ _ _ χ R S h fun xs vs H1 C1 R1 t1 rs h1 => ?_
  refine ⟨F, C1, vs, Q', χ, R1, ?_, h1, QE.at q t1⟩
  rw [List.append_nil]; exact rs
theorem RepS.start {K : PySem.W.Frag} {H : Hp} {vs : List V} {vs' : List T} (h : Reps K H vs vs') (N : List Str) (m : Nat) (e : m = N.length - vs.length) : RepS K H (start N vs) (vs'.map some ++ List.replicate m none) := by
  refine ⟨?_, fun i v hv => ?_⟩
  · unfold L2.start
    rw [List.length_append, List.length_append, List.length_map, List.length_map, List.length_replicate, List.length_replicate, h.length, e, h.length]
  · unfold L2.start
    by_cases hi : i < vs'.length
    · rw [List.getElem?_append_left (by rw [List.length_map]; exact hi), List.getElem?_map] at hv
      cases hg : vs'[i]? with
      | none => rw [hg] at hv; cases hv
      | some z =>
        rw [hg] at hv
        cases hv
        obtain ⟨x, hx, r⟩ := h.get hg
        refine ⟨x, ?_, r⟩
        rw [List.getElem?_append_left (by rw [List.length_map, h.length]; exact hi), List.getElem?_map, hx]
        rfl
    · rw [List.getElem?_append_right (by rw [List.length_map]; omega), List.getElem?_replicate] at hv
      split at hv
      · cases hv
      · cases hv
theorem fn_ok {P : Program} {w : World} {K : PySem.W.Frag} {mg : Str → Option Value} {base : Heap} {x : Str} {st : Stmt} {f : Addr} {fd : FuncData} {N ps : List Str} {pr : List Df} {n i : Nat} {d : Df} (F : Fun K x x st f fd) (S : FnScope N ps (defScope st)) (hd : pr[i]? = some d) (hn : d.n = N.length) (har : d.ar = ps.length)
    (hb : ∀ (cdv : Value) (A : Around) (outer : List Env) (s : Shared) (H : Hp) (E : XK), Room n (A.deeper (envOfC x (defScope st) s.heap.objs.size f cdv)) → SdB (cxOf CX0 P w K mg base N x (defScope st) f cdv A outer s H E).nox (defBody st) (d.body (wpc pr n))) :
    FnOk P w K mg base CX0 (n + 1) f fd ps (spW K pr (n + 1) i) := by
  refine F.ok S (fun vs H Q E h => ?_) (fun cdv A outer s H vs Q E hr h => ?_)
  · obtain ⟨F', C, vs', Q', χ, R, rs, ⟨d', e1, e2, _⟩, _⟩ := h
    rw [hd] at e1; cases e1
    rw [rs.length, e2, har]
  · obtain ⟨F', C, vs', Q', χ, R, rs, ⟨d', e1, e2, h⟩, q⟩ := h
    rw [hd] at e1; cases e1
    obtain ⟨t, p, sm⟩ := hb cdv A outer s H E hr
    refine ⟨t, p, sm F' H C _ _ _ _ R (RepS.start rs N _ (by rw [rs.length, e2, hn])) h ⟨fun σ τ H' C' R' t' _ h' => q .non .non H' C' R' t' rep_non h', q, fun _ _ _ _ _ _ _ z => z.elim, fun _ _ _ _ _ _ _ z => z.elim⟩⟩
theorem ca_zero {P : Program} {w : World} {K : PySem.W.Frag} {mg : Str → Option Value} {base : Heap} {x : Str} {st : Stmt} {f : Addr} {fd : FuncData} {ps : List Str} {pr : List Df} {i : Nat} (F : Fun K x x st f fd) (hb : Binds K fd ps []) (hm : mg x = some (.ref f)) : Ca P w K mg base 0 x ps (spW K pr 0 i) :=
  ⟨f, fd, ⟨fun vs H Q E h => by obtain ⟨_, _, _, _, _, _, _, z, _⟩ := h; exact z.elim, fun A outer s H args us vs Q E _ _ _ _ h => by obtain ⟨_, _, _, _, _, _, _, z, _⟩ := h; exact z.elim⟩, hb, F.kp, hm⟩
theorem ca_succ {P : Program} {w : World} {K : PySem.W.Frag} {mg : Str → Option Value} {base : Heap} {x : Str} {st : Stmt} {f : Addr} {fd : FuncData} {ps : List Str} {sp : Sp} {n : Nat} (F : Fun K x x st f fd) (hb : Binds K fd ps []) (hm : mg x = some (.ref f)) (G : FnOk P w K mg base CX0 n f fd ps sp) : Ca P w K mg base n x ps sp :=
  ⟨f, fd, G, hb, F.kp, hm⟩
/-- the law's own promise, from what it does at the script -/
theorem law_sp {K : PySem.W.Frag} {pr : List Df} {n i : Nat} {H : Hp} {a : Addr} {ns : List Int} (hO : Only H) (hS : SqL K H a (ns.map V.int)) (h : wpc pr n i [.cl (ns.map T.int)] (fun _ => none) (fun v _ => v = .bl true) (fun _ _ => False)) :
    spW K pr n i [.ref a] H (fun v _ => v = .bl true) (fun _ _ _ => False) := by
  have hq : SqC K H a (ns.map V.int) := by
    rcases hS with (h | ⟨o, h⟩) | h
    · rcases hO a with e | ⟨o, xs, e⟩
      · rw [e] at h; cases h
      · rw [e] at h; cases h
    · exact .inl ⟨o, h⟩
    · exact .inr h
  refine ⟨fun _ => none, fun _ => none, [.cl (ns.map T.int)], _, _, ⟨(fun _ _ e => by cases e), (fun _ _ e => by cases e)⟩, reps_cons ?_ reps_nil, h, fun x v H' C' R t r e => ?_⟩
  · unfold Rep
    exact ⟨a, _, rfl, hq, reps_ints ns⟩
  · subst e; exact of_bl r
end WL
set_option Elab.async false
set_option linter.all false
set_option maxRecDepth 100000
set_option maxHeartbeats 4000000
/-! the second level: while, numbers as texts, dicts whose keys are ints or texts -/
namespace WL
open PySem PySem.Spec PyProof.Rows L2
/-! ### while -/
def whileN (c : WT) (b : WS) (D : We) : Nat → Sw → Hw → Prop
  | 0, _, _ => False
  | n + 1, τ, C => c τ C (fun k C1 => if k = true then b { D with nx := whileN c b D n, ct := whileN c b D n, bk := D.nx } τ C1 else D.nx τ C1) D.xc
def sWhile (c : WT) (b : WS) : WS := fun D τ C => ∃ n, whileN c b D n τ C
theorem sim_while {K : PySem.W.Frag} {c : TT} {tb : TS} {c' : WT} {b' : WS} (hc : SimT K c c') (hb : SimS K tb b') : SimS K (tWhile c tb) (sWhile c' b') := fun F H C σ τ D D' R S h d => by
  obtain ⟨n, h⟩ := h
  refine ⟨fun m σ H2 => ∃ τ C, Rl K F H2 C ∧ Tx H H2 ∧ RepS K H2 σ τ ∧ whileN c' b' D' m τ C, ⟨n, τ, C, R, Tx.refl _, S, h⟩, ?_⟩
  rintro m σ2 H2 ⟨τ2, C2, R2, t2, S2, h2⟩
  cases m with
  | zero => exact h2.elim
  | succ m =>
    refine hc F H2 C2 σ2 τ2 _ _ D'.xc R2 S2 h2 fun k H3 C3 R3 t3 h3 => ?_
    cases k with
    | true =>
      refine ⟨fun σ' H' => ∃ τ' C', Rl K F H' C' ∧ Tx H H' ∧ RepS K H' σ' τ' ∧ whileN c' b' D' m τ' C', fun σ' H' z => ⟨m, Nat.lt_succ_self m, z⟩, ?_⟩
      have t13 := t2.trans t3
      exact hb F H3 C3 σ2 τ2 _ _ R3 (S2.tx t3) h3 ⟨fun σ' τ' H' C' R' t' S' h' => ⟨τ', C', R', t13.trans t', S', h'⟩, fun x v H' C' R' t' => d.rt x v H' C' R' (t13.trans t'), fun σ' τ' H' C' R' t' S' h' => d.nx σ' τ' H' C' R' (t13.trans t') S' h', fun σ' τ' H' C' R' t' S' h' => ⟨τ', C', R', t13.trans t', S', h'⟩⟩
    | false => exact d.nx σ2 τ2 H3 C3 R3 (t2.trans t3) (S2.tx t3) h3
theorem ds_while {X : Cx} {c : Expr} {body : List Stmt} {wc : WT} {b : WS} {pos : Pos} (hp : PassesOwn (model X.prog X.w) X.A X.env X.xe) (hc : SdT X c wc) (hb : SdB X body b) : SdS X (.While c body [] pos) (sWhile wc b) := by
  obtain ⟨t, p, s⟩ := hc
  obtain ⟨t', p', s'⟩ := hb
  exact ⟨_, ps_while hp p p', sim_while s s'⟩
/-- a loop by what holds of the state and a number that falls -/
theorem while_inv {c : WT} {b : WS} {D : We} (Pv : Nat → Sw → Hw → Prop) {τ : Sw} {C : Hw} {m : Nat} (h0 : Pv m τ C)
    (hs : ∀ m τ C (N : Sw → Hw → Prop), Pv m τ C → (∀ m' τ' C', m' < m → Pv m' τ' C' → N τ' C') → c τ C (fun k C1 => if k = true then b { D with nx := N, ct := N, bk := D.nx } τ C1 else D.nx τ C1) D.xc) : sWhile c b D τ C := by
  have key : ∀ (n m : Nat) (τ : Sw) (C : Hw), m < n → Pv m τ C → whileN c b D n τ C := by
    intro n
    induction n with
    | zero => intro m τ C h _; omega
    | succ n ih => intro m τ C hm hp; exact hs m τ C _ hp fun m' τ' C' hlt hp' => ih m' τ' C' (by omega) hp'
  exact ⟨m + 1, key (m + 1) m τ C (Nat.lt_succ_self m) h0⟩
section
variable {X : Cx} {a b c e o i : Expr} {es : List Expr} {wa wb wc wo wi : WE} {wA : WA} {pos p p2 apos cpos : Pos}
/-! ### str(n), int(n) -/
def bStr : List T → Hw → WK → Prop := fun vs C Q => ∃ i : Int, vs = [.int i] ∧ i.natAbs.log2 < 1920 ∧ Q (.str (toString i)) C
theorem b_str : CallS X (.type "str") bStr := ⟨_, call_str_int, fun F H C xs vs Q Q' R rs h q => by
  obtain ⟨j, rfl, hl, h⟩ := h
  obtain ⟨x, rfl, rx⟩ := of_one rs
  cases of_int rx
  exact ⟨j, rfl, hl, q _ _ H C R (Tx.refl H) rep_str h⟩⟩
def bInt : List T → Hw → WK → Prop := fun vs C Q => (∃ i : Int, vs = [.int i] ∧ Q (.int i) C) ∨ ∃ k : Bool, vs = [.bl k] ∧ Q (.int (if k then 1 else 0)) C
theorem b_int : CallS X (.type "int") bInt := ⟨_, call_int1, fun F H C xs vs Q Q' R rs h q => by
  rcases h with ⟨j, rfl, h⟩ | ⟨j, rfl, h⟩
  · obtain ⟨x, rfl, rx⟩ := of_one rs
    cases of_int rx
    exact .inl ⟨j, rfl, q _ _ H C R (Tx.refl H) rep_int h⟩
  · obtain ⟨x, rfl, rx⟩ := of_one rs
    cases of_bl rx
    exact .inr ⟨j, rfl, q _ _ H C R (Tx.refl H) rep_int h⟩⟩
def bAbs : List T → Hw → WK → Prop := fun vs C Q => ∃ i : Int, vs = [.int i] ∧ Q (.int (if i < 0 then -i else i)) C
theorem bt_abs : bootBuiltins "abs" = some (.builtin "abs") := by decide +kernel
theorem b_abs : CallS X (.builtin "abs") bAbs := ⟨_, call_abs, fun F H C xs vs Q Q' R rs h q => by
  obtain ⟨j, rfl, h⟩ := h
  obtain ⟨x, rfl, rx⟩ := of_one rs
  cases of_int rx
  exact ⟨j, rfl, q _ _ H C R (Tx.refl H) rep_int h⟩⟩
end
/-! ### dicts: tables of values -/
def kT : T → Option Key
  | .int i => some (.inl i)
  | .str x => some (.inr x)
  | _ => none
def tK : Key → T
  | .inl i => .int i
  | .inr x => .str x
def getT (kvs : List (Key × T)) (k : Key) : Option T := (kvs.find? fun kv => decide (kv.1 = k)).map (·.2)
def putT (kvs : List (Key × T)) (k : Key) (v : T) : List (Key × T) :=
  if (kvs.any fun kv => decide (kv.1 = k)) = true then kvs.map (fun kv => if kv.1 = k then (kv.1, v) else kv) else kvs ++ [(k, v)]
theorem kT_tK (k : Key) : kT (tK k) = some k := by cases k <;> rfl
theorem rep_key {K : PySem.W.Frag} {H : Hp} {x : V} {v : T} {k : Key} (h : kT v = some k) (r : Rep K H x v) : x = kV k := by
  cases v with
  | int i => cases h; exact of_int r
  | str z => cases h; exact of_str r
  | _ => cases h
theorem PR.get {K : PySem.W.Frag} {H : Hp} : ∀ {ks : List (Key × V)} {kvs : List (Key × T)} (_ : PR K H ks kvs) (k : Key), (getT kvs k = none → valV ks k = none) ∧ ∀ v, getT kvs k = some v → ∃ x, valV ks k = some x ∧ Rep K H x v
  | _, _, .nil, k => ⟨fun _ => rfl, fun v h => by cases h⟩
  | p :: r, q :: s, .cons h t, k => by
    obtain ⟨e, rp⟩ := h
    have ih := PR.get t k
    by_cases c : q.1 = k
    · have c' : p.1 = k := e.trans c
      rw [valV_pos c']
      unfold getT
      rw [List.find?_cons_of_pos (by simpa using c)]
      exact ⟨(fun z => by cases z), (fun v z => by cases z; exact ⟨p.2, rfl, rp⟩)⟩
    · have c' : ¬ p.1 = k := fun z => c (e.symm.trans z)
      rw [valV_neg c']
      unfold getT
      rw [List.find?_cons_of_neg (by simpa using c)]
      exact ih
theorem PR.any {K : PySem.W.Frag} {H : Hp} : ∀ {ks : List (Key × V)} {kvs : List (Key × T)} (_ : PR K H ks kvs) (k : Key), (ks.any fun kv => decide (kv.1 = k)) = kvs.any fun kv => decide (kv.1 = k)
  | _, _, .nil, k => rfl
  | p :: r, q :: s, .cons h t, k => by rw [List.any_cons, List.any_cons, PR.any t k, h.1]
theorem PR.mapK {K : PySem.W.Frag} {H : Hp} {k : Key} {x : V} {v : T} (rx : Rep K H x v) : ∀ {ks : List (Key × V)} {kvs : List (Key × T)} (_ : PR K H ks kvs), PR K H (ks.map fun kv => if kv.1 = k then (kv.1, x) else kv) (kvs.map fun kv => if kv.1 = k then (kv.1, v) else kv)
  | _, _, .nil => .nil
  | p :: r, q :: s, .cons h t => by
    refine .cons ?_ (PR.mapK rx t)
    obtain ⟨e, rp⟩ := h
    by_cases c : q.1 = k
    · have c' : p.1 = k := e.trans c
      dsimp only
      rw [if_pos c, if_pos c']; exact ⟨e, rx⟩
    · have c' : ¬ p.1 = k := fun z => c (e.symm.trans z)
      dsimp only
      rw [if_neg c, if_neg c']; exact ⟨e, rp⟩
theorem PR.put {K : PySem.W.Frag} {H : Hp} {ks : List (Key × V)} {kvs : List (Key × T)} (h : PR K H ks kvs) {k : Key} {x : V} {v : T} (rx : Rep K H x v) : PR K H (putK ks k x) (putT kvs k v) := by
  unfold putK putT
  rw [PR.any h k]
  split
  · exact PR.mapK rx h
  · exact h.snoc ⟨rfl, rx⟩
theorem PR.length {K : PySem.W.Frag} {H : Hp} {ks : List (Key × V)} {kvs : List (Key × T)} (h : PR K H ks kvs) : ks.length = kvs.length := Paired.length h
section
variable {K : PySem.W.Frag} {F H : Hp} {C : Hw}
theorem Rl.dic (R : Rl K F H C) {a : Addr} {kvs : List (Key × T)} (h : C a = some (.dic kvs)) : ∃ ks, H a = some (.dK ks) ∧ PR K H ks kvs := R.obj a _ h
theorem Rl.putD (R : Rl K F H C) {p : Addr} {kvs kvs' : List (Key × T)} {ks' : List (Key × V)} (h : C p = some (.dic kvs)) (r : PR K H ks' kvs') : Rl K F (upd H p (.dK ks')) (up C p (.dic kvs')) ∧ Tx H (upd H p (.dK ks')) := by
  obtain ⟨w, hw, ns⟩ := (R.obj p _ h).some trivial
  exact R.put h ⟨ks', upd_same, pr_tx (Tx.put hw ns) r⟩
theorem Rl.newD (R : Rl K F H C) {p : Addr} {kvs : List (Key × T)} {ks : List (Key × V)} (h : H p = none) (r : PR K H ks kvs) : Rl K F (upd H p (.dK ks)) (up C p (.dic kvs)) := R.new h ⟨ks, upd_same, pr_tx (Tx.new h) r⟩
end
/-! ### dicts: readings and rules -/
def eDict0 : WE := fun _ C Q _ => ∀ p, C p = none → Q (.ref p) (up C p (.dic []))
def wDget : W2 := fun x y C Q => ∃ a kvs k v, x = .ref a ∧ kT y = some k ∧ C a = some (.dic kvs) ∧ getT kvs k = some v ∧ Q v C
def wDinG (neg : Bool) : W2 := fun y x C Q => ∃ a kvs k, x = .ref a ∧ kT y = some k ∧ C a = some (.dic kvs) ∧ Q (.bl (if neg then !(getT kvs k).isSome else (getT kvs k).isSome)) C
abbrev wDin : W2 := wDinG false
abbrev wDnotin : W2 := wDinG true
def gSd (o i : WE) : WG := fun v τ C Q χ => o τ C (fun x C1 => i τ C1 (fun y C2 => ∃ a kvs k, x = .ref a ∧ kT y = some k ∧ C2 a = some (.dic kvs) ∧ kvs.length < sizeLine ∧ Q τ (up C2 a (.dic (putT kvs k v)))) χ) χ
def eDget1 (o i : WE) : WE := fun τ C Q χ => o τ C (fun x C1 => (∃ a kvs, x = .ref a ∧ C1 a = some (.dic kvs)) ∧ i τ C1 (fun y C2 => ∃ a kvs k, x = .ref a ∧ kT y = some k ∧ C2 a = some (.dic kvs) ∧ Q ((getT kvs k).getD .non) C2) χ) χ
def eDget2 (o i d : WE) : WE := fun τ C Q χ => o τ C (fun x C1 => (∃ a kvs, x = .ref a ∧ C1 a = some (.dic kvs)) ∧ i τ C1 (fun y C2 => d τ C2 (fun z C3 => ∃ a kvs k, x = .ref a ∧ kT y = some k ∧ C3 a = some (.dic kvs) ∧ Q ((getT kvs k).getD z) C3) χ) χ) χ
def bLenD : List T → Hw → WK → Prop := fun vs C Q => ∃ a kvs, vs = [.ref a] ∧ C a = some (.dic kvs) ∧ Q (.int kvs.length) C
section
variable {X : Cx} {a b c e o i f : Expr} {es : List Expr} {wa wb wc wo wi wd : WE} {wA : WA} {pos p p2 apos cpos : Pos}
theorem d_dict0 : SdE X (.Dict [] [] pos) eDict0 := ⟨_, pe_dnewK, fun F H C σ τ Q Q' χ R S h q p hp => q _ _ _ _ (R.newD hp .nil) (Tx.new hp) rep_ref (h p (R.free hp))⟩
theorem d_dget (hu : X.A.units + 150 < cLine) (ha : SdE X a wa) (hb : SdE X b wb) (hs : NoSl b) : SdE X (.Subscript a b pos) (eBin wDget wa wb) := by
  obtain ⟨ta, p1, s1⟩ := ha
  obtain ⟨tb, p2, s2⟩ := hb
  refine ⟨_, pe_dget (by omega) p1 p2 hs, fun F H C σ τ Q Q' χ R S h q => ?_⟩
  refine s1 F H C σ τ _ _ χ R S h fun x v H1 C1 R1 t1 rx h1 => ?_
  refine s2 F H1 C1 σ τ _ _ χ R1 (S.tx t1) h1 fun y u H2 C2 R2 t2 ry h2 => ?_
  obtain ⟨l, kvs, k, w, rfl, hk, hC, hg, h2⟩ := h2
  cases of_ref rx
  obtain ⟨ks, hH, pr⟩ := R2.dic hC
  obtain ⟨z, hz, rz⟩ := (PR.get pr k).2 w hg
  cases rep_key hk ry
  refine ⟨l, z, rfl, ?_, q _ _ H2 C2 R2 (t1.trans t2) rz h2⟩
  rw [← hz]
  exact DGet.k hH
theorem o_dinG (neg : Bool) (hu : X.A.units + 150 < cLine) : OpS X (compareOp (if neg then .NotIn else .In)) (wDinG neg) := ⟨_, op_dir, fun F H C y x u v Q Q' R ry rx h q pins s σ u' v' I r1 r2 => by
  obtain ⟨l, kvs, k, rfl, hk, hC, h⟩ := h
  cases of_ref rx
  cases r2
  obtain ⟨ks, hH, pr⟩ := R.dic hC
  cases rep_key hk ry
  have e : (valV ks k).isSome = (getT kvs k).isSome := by
    cases hg : getT kvs k with
    | none => rw [(PR.get pr k).1 hg]; rfl
    | some w => obtain ⟨z, hz, _⟩ := (PR.get pr k).2 w hg; rw [hz]; rfl
  have fin := q _ _ H C R (Tx.refl H) rep_bl h
  rw [← e] at fin
  cases neg with
  | true => exact d_notIn (by omega) I (DGet.k hH) r1 fun s' I' => ⟨.bl _, H, I', rfl, fin⟩
  | false => exact d_in (by omega) I (DGet.k hH) r1 fun s' I' => ⟨.bl _, H, I', rfl, fin⟩⟩
theorem o_din (hu : X.A.units + 150 < cLine) : OpS X (compareOp .In) wDin := o_dinG false hu
theorem o_dnotin (hu : X.A.units + 150 < cLine) : OpS X (compareOp .NotIn) wDnotin := o_dinG true hu
def rSetD : V → V → V → Hp → (Hp → Prop) → Prop := fun o i v H Q => ∃ p ks k, o = .ref p ∧ i = kV k ∧ H p = some (.dK ks) ∧ ks.length < sizeLine ∧ Q (upd H p (.dK (putK ks k v)))
theorem set_dict (hu : X.A.units + 150 < cLine) : PSet X rSetD := by
  intro pins s σ H o i v ov iv u Q I ro ri rv h
  obtain ⟨p, ks, k, rfl, rfl, hp, hl, q⟩ := h
  cases ro
  exact d_setItem (by omega) I (DPut.k hp hl) ri rv fun s' I' => ⟨_, I', q⟩
theorem dg_subD (hu : X.A.units + 150 < cLine) (ho : SdE X o wo) (hi : SdE X i wi)
    (ha : ∀ v, assign (.Subscript o i pos) X.env v = (do
      let ov ← holding [v] (eval o X.env)
      let iv ← holding [v, ov] (eval i X.env)
      standAt pos
      holding [v, ov, iv] (setItem ov iv v)
      release [v, ov, iv] []) := by intro _; rfl) : SdG X (.Subscript o i pos) (gSd wo wi) := by
  obtain ⟨t, p, s⟩ := ho
  obtain ⟨t', p', s'⟩ := hi
  refine ⟨_, pg_sub p p' (set_dict hu) ha, fun F H C σ τ x v Q Q' χ R S r h q => ?_⟩
  refine s F H C σ τ _ _ χ R S h fun y vy H1 C1 R1 t1 ry h1 => ?_
  refine s' F H1 C1 σ τ _ _ χ R1 (S.tx t1) h1 fun z vz H2 C2 R2 t2 rz h2 => ?_
  obtain ⟨l, kvs, k, rfl, hk, hC, hl, h2⟩ := h2
  cases of_ref ry
  obtain ⟨ks, hH, pr⟩ := R2.dic hC
  have t12 := t1.trans t2
  obtain ⟨R', t'⟩ := R2.putD hC (PR.put pr (k := k) (r.tx t12))
  exact ⟨l, ks, k, rfl, rep_key hk rz, hH, by rw [PR.length pr]; exact hl, q _ _ _ _ R' (t12.trans t') (S.tx (t12.trans t')) h2⟩
theorem b_lenD : CallS X (.builtin "len") bLenD := by
  refine ⟨fun xs H Q => ∃ p ks, xs = [.ref p] ∧ H p = some (.dK ks) ∧ Q (.int ks.length) H, ?_, fun F H C xs vs Q Q' R rs h q => ?_⟩
  · intro pins s σ H xs us Q I rs h
    obtain ⟨p, ks, rfl, hp, q⟩ := h
    obtain ⟨u, rfl, ru⟩ := rs.one
    cases ru
    exact d_len I (.inl hp) fun t s' I' => ⟨.int _, H, I', ⟨t, rfl⟩, q⟩
  · obtain ⟨l, kvs, rfl, hC, h⟩ := h
    obtain ⟨x, rfl, rx⟩ := of_one rs
    cases of_ref rx
    obtain ⟨ks, hH, pr⟩ := R.dic hC
    exact ⟨l, ks, rfl, hH, by rw [PR.length pr]; exact q _ _ H C R (Tx.refl H) rep_int h⟩
theorem getD_rep {K : PySem.W.Frag} {H : Hp} {ks : List (Key × V)} {kvs : List (Key × T)} (pr : PR K H ks kvs) (k : Key) {x : V} {v : T} (rx : Rep K H x v) : Rep K H ((valV ks k).getD x) ((getT kvs k).getD v) := by
  cases hg : getT kvs k with
  | none => rw [(PR.get pr k).1 hg]; exact rx
  | some w => obtain ⟨z, hz, rz⟩ := (PR.get pr k).2 w hg; rw [hz]; exact rz
theorem d_dget1 (hu : X.A.units + 150 < cLine) (ho : SdE X o wo) (he : SdE X e wi) (m : M1 X o "get" apos e cpos) : SdE X (.Call (.Attribute o "get" apos) [e] [] cpos) (eDget1 wo wi) := by
  obtain ⟨ta, p1, s1⟩ := ho
  obtain ⟨tb, p2, s2⟩ := he
  refine ⟨_, pe_dget1 (by omega) p1 p2 m, fun F H C σ τ Q Q' χ R S h q => ?_⟩
  refine s1 F H C σ τ _ _ χ R S h fun x v H1 C1 R1 t1 rx h1 => ?_
  obtain ⟨⟨l, kvs0, rfl, hC0⟩, h1⟩ := h1
  cases of_ref rx
  obtain ⟨ks0, hH0, _⟩ := R1.dic hC0
  refine ⟨l, rfl, .inl ⟨ks0, .inl hH0⟩, ?_⟩
  refine s2 F H1 C1 σ τ _ _ χ R1 (S.tx t1) h1 fun y u H2 C2 R2 t2 ry h2 => ?_
  obtain ⟨l', kvs, k, e', hk, hC, h2⟩ := h2
  cases e'
  obtain ⟨ks, hH, pr⟩ := R2.dic hC
  cases rep_key hk ry
  exact ⟨_, DGet.k hH, q _ _ H2 C2 R2 (t1.trans t2) (getD_rep pr k rep_non) h2⟩
theorem d_dget2 (hu : X.A.units + 150 < cLine) (ho : SdE X o wo) (he : SdE X e wi) (hf : SdE X f wd) (m : M2 X o "get" apos e f cpos) : SdE X (.Call (.Attribute o "get" apos) [e, f] [] cpos) (eDget2 wo wi wd) := by
  obtain ⟨ta, p1, s1⟩ := ho
  obtain ⟨tb, p2, s2⟩ := he
  obtain ⟨tc, p3, s3⟩ := hf
  refine ⟨_, pe_dget2 (by omega) p1 p2 p3 m, fun F H C σ τ Q Q' χ R S h q => ?_⟩
  refine s1 F H C σ τ _ _ χ R S h fun x v H1 C1 R1 t1 rx h1 => ?_
  obtain ⟨⟨l, kvs0, rfl, hC0⟩, h1⟩ := h1
  cases of_ref rx
  obtain ⟨ks0, hH0, _⟩ := R1.dic hC0
  refine ⟨l, rfl, .inl ⟨ks0, .inl hH0⟩, ?_⟩
  refine s2 F H1 C1 σ τ _ _ χ R1 (S.tx t1) h1 fun y u H2 C2 R2 t2 ry h2 => ?_
  refine s3 F H2 C2 σ τ _ _ χ R2 (S.tx (t1.trans t2)) h2 fun z w H3 C3 R3 t3 rz h3 => ?_
  obtain ⟨l', kvs, k, e', hk, hC, h3⟩ := h3
  cases e'
  obtain ⟨ks, hH, pr⟩ := R3.dic hC
  cases rep_key hk ry
  exact ⟨_, DGet.k hH, q _ _ H3 C3 R3 ((t1.trans t2).trans t3) (getD_rep pr k rz) h3⟩
end
end WL
set_option Elab.async false
set_option linter.all false
set_option maxRecDepth 100000
set_option maxHeartbeats 4000000
/-! the second level's own words: reading a def, loops, what stays -/
namespace WL
open PySem PySem.Spec PyProof.Rows L2
/-- what stood stands -/
def Ex (C C' : Hw) : Prop := ∀ a o, C a = some o → C' a = some o
theorem Ex.refl (C : Hw) : Ex C C := fun _ _ h => h
theorem Ex.trans {C C1 C2 : Hw} (a : Ex C C1) (b : Ex C1 C2) : Ex C C2 := fun c o h => b c o (a c o h)
theorem cne {C : Hw} {a b : Addr} {o : O} (h : C a = some o) (h' : C b = none) : a ≠ b := fun e => by subst e; rw [h] at h'; cases h'
theorem cne' {C : Hw} {a b : Addr} {o : O} (h : C a = some o) (h' : C b = none) : b ≠ a := fun e => cne h h' e.symm
theorem Ex.new {C : Hw} {p : Addr} {o : O} (h : C p = none) : Ex C (up C p o) := fun a u e => by rw [up_ne (cne e h)]; exact e
theorem Ex.up {C C' : Hw} {p : Addr} {o : O} (e : Ex C C') (h : C p = none) : Ex C (up C' p o) := fun a u q => by rw [up_ne (cne q h)]; exact e a u q
theorem fr1 {C : Hw} {p q : Addr} {o : O} (h : up C p o q = none) : q ≠ p ∧ C q = none := by
  have n : q ≠ p := fun z => by subst z; rw [up_same] at h; cases h
  rw [up_ne n] at h
  exact ⟨n, h⟩
theorem Ex.free {C C' : Hw} (e : Ex C C') {p : Addr} (h : C' p = none) : C p = none := by
  cases q : C p with
  | none => rfl
  | some o => rw [e p o q] at h; cases h
/-- what stood stands, but for one -/
def ExB (p : Addr) (C C' : Hw) : Prop := ∀ a o, a ≠ p → C a = some o → C' a = some o
theorem ExB.refl (p : Addr) (C : Hw) : ExB p C C := fun _ _ _ h => h
theorem ExB.trans {p : Addr} {C C1 C2 : Hw} (a : ExB p C C1) (b : ExB p C1 C2) : ExB p C C2 := fun c o n h => b c o n (a c o n h)
theorem Ex.exB {C C' : Hw} (e : Ex C C') (p : Addr) : ExB p C C' := fun a o _ h => e a o h
theorem ExB.put {p : Addr} {C C' : Hw} {o : O} (e : ExB p C C') : ExB p C (WL.up C' p o) := fun a u n h => by rw [up_ne n]; exact e a u n h
theorem ExB.new {p q : Addr} {C C' : Hw} {o : O} (e : ExB p C C') (h : C q = none) : ExB p C (WL.up C' q o) := fun a u n z => by rw [up_ne (cne z h)]; exact e a u n z
theorem flat_mono : ∀ (v : T) {n m : Nat}, flat v n = true → n ≤ m → flat v m = true := by
  have key : ∀ (n : Nat) (v : T) {m : Nat}, flat v n = true → n ≤ m → flat v m = true := by
    intro n
    induction n with
    | zero =>
      intro v m h _
      cases v with
      | tup xs => unfold flat at h; cases h
      | ref a => unfold flat at h; cases h
      | cl a => unfold flat at h; cases h
      | _ => unfold flat; rfl
    | succ n ih =>
      intro v m h hm
      have fl : ∀ (xs : List T) {m : Nat}, flats xs n = true → n ≤ m → flats xs m = true := by
        intro xs
        induction xs with
        | nil => intro m _ _; unfold flats; rfl
        | cons x xs ihx =>
          intro m h hm
          unfold flats at h ⊢
          rw [Bool.and_eq_true] at h ⊢
          exact ⟨ih x h.1 hm, ihx h.2 hm⟩
      cases v with
      | tup xs =>
        obtain ⟨k, rfl⟩ : ∃ k, m = k + 1 := ⟨m - 1, by omega⟩
        unfold flat at h ⊢
        exact fl xs h (by omega)
      | ref a => unfold flat at h; cases h
      | cl a => unfold flat at h; cases h
      | _ => unfold flat; rfl
  exact fun v {n m} => key n v
theorem flats_iff : ∀ {xs : List T} {n : Nat}, flats xs n = true ↔ ∀ x ∈ xs, flat x n = true
  | [], n => by unfold flats; simp
  | x :: xs, n => by unfold flats; rw [Bool.and_eq_true, flats_iff]; simp
theorem flat_tup {xs : List T} {n : Nat} (h : ∀ x ∈ xs, flat x n = true) : flat (.tup xs) (n + 1) = true := by unfold flat; exact flats_iff.mpr h
theorem flat_str {x : Str} {n : Nat} : flat (.str x) n = true := by unfold flat; rfl
theorem flat_int {x : Int} {n : Nat} : flat (.int x) n = true := by unfold flat; rfl
theorem flat_bl {x : Bool} {n : Nat} : flat (.bl x) n = true := by unfold flat; rfl
theorem flat_non {n : Nat} : flat .non n = true := by unfold flat; rfl
theorem isFlat_str {x : Str} : isFlat (.str x) = True := eq_true flat_str
theorem isFlat_int {x : Int} : isFlat (.int x) = True := eq_true flat_int
theorem isFlat_bl {x : Bool} : isFlat (.bl x) = True := eq_true flat_bl
theorem isFlat_non : isFlat .non = True := eq_true flat_non
theorem flats_strs {xs : List Str} {n : Nat} : flats (xs.map T.str) n = true := flats_iff.mpr fun x hx => by obtain ⟨y, _, rfl⟩ := List.mem_map.mp hx; exact flat_str
theorem flats_ints {xs : List Int} {n : Nat} : flats (xs.map T.int) n = true := flats_iff.mpr fun x hx => by obtain ⟨y, _, rfl⟩ := List.mem_map.mp hx; exact flat_int
section
variable {n : Bool} {C : Hw} {Q : WK}
theorem wEq_str {a b : Str} : wEqG n (.str a) (.str b) C Q = Q (.bl (if n = true then !(a == b) else a == b)) C := by
  show (isFlat _ ∧ isFlat _ ∧ Q (.bl (if n = true then !eqT (.str a) (.str b) else eqT (.str a) (.str b))) C) = _
  rw [isFlat_str, isFlat_str, true_and, true_and, show eqT (.str a) (.str b) = (a == b) by unfold eqT; rfl]
theorem wEq_int {a b : Int} : wEqG n (.int a) (.int b) C Q = Q (.bl (if n = true then !(a == b) else a == b)) C := by
  show (isFlat _ ∧ isFlat _ ∧ Q (.bl (if n = true then !eqT (.int a) (.int b) else eqT (.int a) (.int b))) C) = _
  rw [isFlat_int, isFlat_int, true_and, true_and, show eqT (.int a) (.int b) = (a == b) by unfold eqT; rfl]
theorem wEq_bl {a b : Bool} : wEqG n (.bl a) (.bl b) C Q = Q (.bl (if n = true then !(a == b) else a == b)) C := by
  show (isFlat _ ∧ isFlat _ ∧ Q (.bl (if n = true then !eqT (.bl a) (.bl b) else eqT (.bl a) (.bl b))) C) = _
  rw [isFlat_bl, isFlat_bl, true_and, true_and, show eqT (.bl a) (.bl b) = (a == b) by unfold eqT; rfl]
end
section
variable {α : Type} {a b c d e : α} {xs : List α}
theorem erase0 : (a :: xs).eraseIdx 0 = xs := rfl
theorem atI_0 : atI (a :: xs) 0 = some a := atI_nat (j := 0) rfl
theorem atI_1 : atI (a :: b :: xs) 1 = some b := atI_nat (j := 1) rfl
theorem atI_2 : atI (a :: b :: c :: xs) 2 = some c := atI_nat (j := 2) rfl
theorem atI_3 : atI (a :: b :: c :: d :: xs) 3 = some d := atI_nat (j := 3) rfl
theorem atI_4 : atI (a :: b :: c :: d :: e :: xs) 4 = some e := atI_nat (j := 4) rfl
theorem atI_m1 : atI [a] (-1) = some a := rfl
theorem atI_m2 : atI [a, b] (-1) = some b := rfl
theorem atI_m3 : atI [a, b, c] (-1) = some c := rfl
theorem atI_m4 : atI [a, b, c, d] (-1) = some d := rfl
end
/-- a loop by what holds of the turns done; N is whatever the next turn wants -/
theorem for_inv {g : WG} {b : WS} {ok : Hw → Prop} {D : We} {xs : List T} (Pv : Nat → Sw → Hw → Prop) {τ : Sw} {C : Hw} (h0 : Pv 0 τ C) (hok : ∀ i τ C, i ≤ xs.length → Pv i τ C → ok C)
    (hs : ∀ i x τ C (N : Sw → Hw → Prop), xs[i]? = some x → Pv i τ C → (∀ τ' C', Pv (i + 1) τ' C' → N τ' C') → g x τ C (fun τ2 C2 => b { D with nx := N, ct := N, bk := D.nx } τ2 C2) D.xc)
    (hd : ∀ τ C, Pv xs.length τ C → D.nx τ C) : forW g b ok D xs τ C := by
  have key : ∀ (k i : Nat) (τ : Sw) (C : Hw), xs.length - i = k → i ≤ xs.length → Pv i τ C → forW g b ok D (xs.drop i) τ C := by
    intro k
    induction k with
    | zero =>
      intro i τ C hk hi hp
      have e : i = xs.length := by omega
      subst e
      rw [List.drop_length]
      exact ⟨hok _ τ C (Nat.le_refl _) hp, hd τ C hp⟩
    | succ k ih =>
      intro i τ C hk hi hp
      have hlt : i < xs.length := by omega
      rw [List.drop_eq_getElem_cons hlt]
      exact ⟨hok i τ C hi hp, hs i _ τ C _ (by simp [hlt]) hp fun τ' C' h => ih (i + 1) τ' C' (by omega) hlt h⟩
  exact key xs.length 0 τ C (by simp) (Nat.zero_le _) h0
theorem rng_len (lo : Int) (n : Nat) : (rng lo n).length = n := by unfold rng; simp
theorem rng_get {lo : Int} {n i : Nat} {x : T} (h : (rng lo n)[i]? = some x) : i < n ∧ x = .int (lo + i) := by
  have hi : i < n := by
    have := (List.getElem?_eq_some_iff.mp h).1
    rw [rng_len] at this; exact this
  unfold rng at h
  rw [List.getElem?_map, List.getElem?_range hi] at h
  cases h
  exact ⟨hi, rfl⟩
/-- over a range -/
theorem for_rng {g : WG} {b : WS} {ok : Hw → Prop} {D : We} {lo : Int} {n : Nat} (Pv : Nat → Sw → Hw → Prop) {τ : Sw} {C : Hw} (h0 : Pv 0 τ C) (hok : ∀ C, ok C)
    (hs : ∀ i τ C (N : Sw → Hw → Prop), i < n → Pv i τ C → (∀ τ' C', Pv (i + 1) τ' C' → N τ' C') → g (.int (lo + i)) τ C (fun τ2 C2 => b { D with nx := N, ct := N, bk := D.nx } τ2 C2) D.xc)
    (hd : ∀ τ C, Pv n τ C → D.nx τ C) : forW g b ok D (rng lo n) τ C := by
  refine for_inv Pv h0 (fun _ _ C _ _ => hok C) (fun i x τ C N hx hp hN => ?_) (fun τ C h => hd τ C (by rw [rng_len] at h; exact h))
  obtain ⟨hi, rfl⟩ := rng_get hx
  exact hs i τ C N hi hp hN
theorem comp_inv {g : WG} {c : WT} {e : WE} {ok : Hw → Prop} {τ : Sw} {Q : List T → Hw → Prop} {χ : WX} {xs : List T} (Pv : Nat → List T → Hw → Prop) {C : Hw} (h0 : Pv 0 [] C) (hok : ∀ i acc C, i ≤ xs.length → Pv i acc C → ok C)
    (hs : ∀ i x acc C (N : List T → Hw → Prop), xs[i]? = some x → Pv i acc C → (∀ acc' C', Pv (i + 1) acc' C' → N acc' C') →
      g x τ C (fun τ2 C2 => c τ2 C2 (fun b C3 => if b = true then e τ2 C3 (fun v C4 => acc.length < sizeLine ∧ N (acc ++ [v]) C4) χ else N acc C3) χ) χ)
    (hd : ∀ acc C, Pv xs.length acc C → Q acc C) : compW g c e ok τ Q χ xs [] C := by
  have key : ∀ (k i : Nat) (acc : List T) (C : Hw), xs.length - i = k → i ≤ xs.length → Pv i acc C → compW g c e ok τ Q χ (xs.drop i) acc C := by
    intro k
    induction k with
    | zero =>
      intro i acc C hk hi hp
      have e : i = xs.length := by omega
      subst e
      rw [List.drop_length]
      exact ⟨hok _ acc C (Nat.le_refl _) hp, hd acc C hp⟩
    | succ k ih =>
      intro i acc C hk hi hp
      have hlt : i < xs.length := by omega
      rw [List.drop_eq_getElem_cons hlt]
      exact ⟨hok i acc C hi hp, hs i _ acc C _ (by simp [hlt]) hp fun acc' C' h => ih (i + 1) acc' C' (by omega) hlt h⟩
  exact key xs.length 0 [] C (by simp) (Nat.zero_le _) h0
/-- each item gives a value or is left out, the heap stays -/
theorem comp_fm {g : WG} {c : WT} {e : WE} {ok : Hw → Prop} {τ : Sw} {Q : List T → Hw → Prop} {χ : WX} {xs : List T} (f : T → Option T) {C : Hw} (hok : ok C) (hl : xs.length ≤ sizeLine)
    (hs : ∀ x ∈ xs, ∀ (R : WK) (N : Hw → Prop), (∀ v, f x = some v → R v C) → (f x = none → N C) → g x τ C (fun τ2 C2 => c τ2 C2 (fun b C3 => if b = true then e τ2 C3 R χ else N C3) χ) χ) (hd : Q (xs.filterMap f) C) : compW g c e ok τ Q χ xs [] C := by
  refine comp_inv (fun i acc C' => C' = C ∧ acc = (xs.take i).filterMap f) ⟨rfl, rfl⟩ (fun i acc C' _ h => by rw [h.1]; exact hok) (fun i x acc C' N hx hp hN => ?_) (fun acc C' h => ?_)
  · obtain ⟨rfl, rfl⟩ := hp
    have hi : i < xs.length := (List.getElem?_eq_some_iff.mp hx).1
    refine hs x (List.mem_of_getElem? hx) _ _ (fun v hv => ⟨?_, hN _ _ ⟨rfl, ?_⟩⟩) (fun hv => hN _ _ ⟨rfl, ?_⟩)
    · have := List.length_filterMap_le f (xs.take i)
      rw [List.length_take] at this
      omega
    · rw [List.take_add_one, hx, List.filterMap_append]
      simp [hv]
    · rw [List.take_add_one, hx, List.filterMap_append]
      simp [hv]
  · obtain ⟨rfl, rfl⟩ := h
    rw [List.take_length]; exact hd
/-- each item gives a value, the heap stays -/
theorem comp_pure {g : WG} {e : WE} {ok : Hw → Prop} {τ : Sw} {Q : List T → Hw → Prop} {χ : WX} {xs : List T} (f : T → T) {C : Hw} (hok : ok C) (hl : xs.length ≤ sizeLine)
    (hs : ∀ x ∈ xs, ∀ R : WK, R (f x) C → g x τ C (fun τ2 C2 => e τ2 C2 R χ) χ) (hd : Q (xs.map f) C) : compW g tYes e ok τ Q χ xs [] C := by
  refine comp_inv (fun i acc C' => C' = C ∧ acc = (xs.take i).map f) ⟨rfl, rfl⟩ (fun i acc C' _ h => by rw [h.1]; exact hok) (fun i x acc C' N hx hp hN => ?_) (fun acc C' h => ?_)
  · obtain ⟨rfl, rfl⟩ := hp
    have hi : i < xs.length := (List.getElem?_eq_some_iff.mp hx).1
    refine hs x (List.mem_of_getElem? hx) _ ⟨?_, hN _ _ ⟨rfl, ?_⟩⟩
    · rw [List.length_map, List.length_take]; omega
    · rw [List.take_add_one, hx, List.map_append]; rfl
  · obtain ⟨rfl, rfl⟩ := h
    rw [List.take_length]; exact hd
theorem sub_len {α : Type} [DecidableEq α] : ∀ {l m : List α}, l.Nodup → (∀ x ∈ l, x ∈ m) → l.length ≤ m.length
  | [], _, _, _ => Nat.zero_le _
  | x :: l, m, hn, hs => by
    have hx : x ∈ m := hs x (by simp)
    have h1 : l.length ≤ (m.erase x).length := sub_len (List.nodup_cons.mp hn).2 fun y hy => by
      have hne : y ≠ x := fun e => by subst e; exact (List.nodup_cons.mp hn).1 hy
      exact (List.mem_erase_of_ne hne).mpr (hs y (by simp [hy]))
    have h2 := List.length_erase_of_mem hx
    have h3 : 0 < m.length := List.length_pos_of_mem hx
    rw [List.length_cons]; omega
theorem inL_strs {z : Str} {zs : List Str} : inL (.str z) (zs.map T.str) = decide (z ∈ zs) := by
  unfold inL
  rw [List.any_map]
  induction zs with
  | nil => rfl
  | cons y ys ih =>
    rw [List.any_cons, ih]
    have e : (((fun y => eqT y (.str z)) ∘ T.str) y) = (y == z) := by show eqT (.str y) (.str z) = _; unfold eqT; rfl
    rw [e]
    by_cases h : y = z
    · subst h; simp
    · have h' : z ≠ y := fun q => h q.symm
      simp [h, h']
theorem wIn_ref {n : Bool} {z : Str} {a : Addr} {zs : List Str} {C : Hw} {Q : WK} (h : C a = some (.lst (zs.map T.str))) (q : Q (.bl (if n = true then !decide (z ∈ zs) else decide (z ∈ zs))) C) : wInG n (.str z) (.ref a) C Q :=
  ⟨zs.map T.str, h, flat_str, flats_strs, by rw [inL_strs]; exact q⟩
theorem atT_ints {ds : List Int} {i : Int} (h0 : 0 ≤ i) (h1 : i < (ds.length : Int)) : ∃ d, atI (ds.map T.int) i = some (.int d) ∧ d ∈ ds := by
  obtain ⟨v, h, m⟩ := atI_in (xs := ds.map T.int) h0 (by simpa using h1)
  obtain ⟨d, hd, rfl⟩ := List.mem_map.mp m
  exact ⟨d, h, hd⟩
theorem atT_strs {ds : List Str} {i : Int} (h0 : 0 ≤ i) (h1 : i < (ds.length : Int)) : ∃ d, atI (ds.map T.str) i = some (.str d) ∧ d ∈ ds := by
  obtain ⟨v, h, m⟩ := atI_in (xs := ds.map T.str) h0 (by simpa using h1)
  obtain ⟨d, hd, rfl⟩ := List.mem_map.mp m
  exact ⟨d, h, hd⟩
theorem popL {ds : List Int} (h : 0 < ds.length) : ∃ d, (ds.map T.int)[(ds.map T.int).length - 1]? = some (.int d) ∧ d ∈ ds ∧ (ds.map T.int).dropLast = ds.dropLast.map T.int ∧ ds.dropLast.length = ds.length - 1 ∧ ∀ x ∈ ds.dropLast, x ∈ ds := by
  have hlt : ds.length - 1 < ds.length := by omega
  refine ⟨ds[ds.length - 1], ?_, List.getElem_mem hlt, ?_, List.length_dropLast, fun x hx => (List.dropLast_sublist ds).subset hx⟩
  · rw [List.length_map, List.getElem?_map, List.getElem?_eq_getElem hlt]; rfl
  · rw [List.map_dropLast]
theorem seq0 {n : Nat} (h : 0 < n) : seqIndex? 0 n = some 0 := by
  have := (ixN_seq (n := n) (i := 0) (j := 0) (by unfold ixN; simp; omega)).1
  exact this
theorem small63 {n : Nat} (h : n ≤ 100000) : n ≤ sizeLine := Nat.le_trans h (by decide)
theorem small63' {n : Nat} (h : n ≤ 100000) : n < sizeLine := Nat.lt_of_le_of_lt h (by decide)
end WL
set_option Elab.async false
set_option linter.all false
set_option maxRecDepth 100000
set_option maxHeartbeats 4000000
namespace K31
open PySem PySem.Spec PyProof.Rows L2 WL
/-- slots: 0:op 1:one 2:other 3:outcome -/
def w_reckoned (P : Calls) : WS :=
    (sSeq (sIf (tBl (eBin wEq (eVar 0) (eC (.str "<")))) (sRet (eCall P 1 (aCons (eBin wLt (eVar 1) (eVar 2)) aNil))) sPass)
    (sSeq (sIf (tBl (eBin wEq (eVar 0) (eC (.str "=")))) (sRet (eCall P 1 (aCons (eBin wEq (eVar 1) (eVar 2)) aNil))) sPass)
    (sSeq (sIf (tBl (eBin wEq (eVar 0) (eC (.str "+")))) (sAsg (eBin wAdd (eVar 1) (eVar 2)) (gNm 3)) (sIf (tBl (eBin wEq (eVar 0) (eC (.str "-")))) (sAsg (eBin wSub (eVar 1) (eVar 2)) (gNm 3)) (sAsg (eBin wMul (eVar 1) (eVar 2)) (gNm 3))))
    (sRet (eTup (aCons (eC (.str "number")) (aCons (eBin wMod (eVar 3) (eBin wPow (eC (.int 10)) (eC (.int 18)))) aNil)))))))
/-- slots: 0:holds -/
def w_truth (P : Calls) : WS :=
    (sRet (eTup (aCons (eC (.str "made")) (aCons (eIf (tTru (eVar 0)) (eC (.str "Yes")) (eC (.str "No"))) (aCons (eTup aNil) aNil)))))
/-- slots: 0:_law_script 1:_law_k -/
def w__law_cell_at (P : Calls) : WS :=
    (sSeq (sIf (tBl (eBin wLt (eVar 1) (eBi bLen (aCons (eVar 0) aNil)))) (sRet (eBin wIdx (eVar 0) (eVar 1))) sPass)
    (sRet (eC (.int 0))))
/-- slots: 0:_law_cell -/
def w__law_number (P : Calls) : WS :=
    (sSeq (sIf (tBl (eBin wEq (eBin wMod (eVar 0) (eC (.int 4))) (eC (.int 0)))) (sRet (eBin wMod (eBin wDiv (eVar 0) (eC (.int 4))) (eC (.int 7)))) sPass)
    (sSeq (sIf (tBl (eBin wEq (eBin wMod (eVar 0) (eC (.int 4))) (eC (.int 1)))) (sRet (eBin wSub (eBin wSub (eBin wPow (eC (.int 10)) (eC (.int 18))) (eC (.int 1))) (eBin wMod (eBin wDiv (eVar 0) (eC (.int 4))) (eC (.int 7))))) sPass)
    (sRet (eBin wMod (eBin wMul (eBin wDiv (eVar 0) (eC (.int 4))) (eC (.int 982451653))) (eBin wPow (eC (.int 10)) (eC (.int 18)))))))
def w_law_t1 (P : Calls) : WS :=
    (sRet (eAnd (eChain wLe wLt (eC (.int 0)) (eBin wIdx (eVar 4) (eC (.int 1))) (eBin wPow (eC (.int 10)) (eC (.int 18)))) (eBin wEq (eBin wMod (eBin wSub (eVar 6) (eBin wIdx (eVar 4) (eC (.int 1)))) (eBin wPow (eC (.int 10)) (eC (.int 18)))) (eC (.int 0)))))
def w_law_t2 (P : Calls) : WS :=
    (sSeq (sIf (tBl (eBin wEq (eVar 1) (eC (.str "*")))) (sAsg (eBin wMul (eVar 2) (eVar 3)) (gNm 6)) sPass)
    (w_law_t1 P))
def w_law_t3 (P : Calls) : WS :=
    (sSeq (sAsg (eBin wAdd (eVar 2) (eVar 3)) (gNm 6))
    (sSeq (sIf (tBl (eBin wEq (eVar 1) (eC (.str "-")))) (sAsg (eBin wSub (eVar 2) (eVar 3)) (gNm 6)) sPass)
    (w_law_t2 P)))
def w_law_t4 (P : Calls) : WS :=
    (sSeq (sIf (tOr' (tBl (eBin wNe (eBi bLen (aCons (eVar 4) aNil)) (eC (.int 2)))) (tOr' (tBl (eBin wNe (eBin wIdx (eVar 4) (eC (.int 0))) (eC (.str "number")))) (tOr' (tNo (tTru (eIsi (eBin wIdx (eVar 4) (eC (.int 1))) "int"))) (tTru (eIsi (eBin wIdx (eVar 4) (eC (.int 1))) "bool"))))) (sRet (eC (.bl false))) sPass)
    (w_law_t3 P))
def w_law_t5 (P : Calls) : WS :=
    (sSeq (sIf (tOr' (tBl (eBin wEq (eVar 1) (eC (.str "<")))) (tBl (eBin wEq (eVar 1) (eC (.str "="))))) (sSeq (sAsg (eBin wLt (eVar 2) (eVar 3)) (gNm 5))
    (sSeq (sIf (tBl (eBin wEq (eVar 1) (eC (.str "=")))) (sAsg (eBin wEq (eVar 2) (eVar 3)) (gNm 5)) sPass)
    (sRet (eBin wEq (eVar 4) (eTup (aCons (eC (.str "made")) (aCons (eBin wIdx (eLst (aCons (eC (.str "No")) (aCons (eC (.str "Yes")) aNil))) (eBi bInt (aCons (eVar 5) aNil))) (aCons (eTup aNil) aNil)))))))) sPass)
    (w_law_t4 P))
def w_law_t6 (P : Calls) : WS :=
    (sSeq (sAsg (eCall P 0 (aCons (eVar 1) (aCons (eVar 2) (aCons (eVar 3) aNil)))) (gNm 4))
    (sSeq (sIf (tNo (tTru (eIsi (eVar 4) "tuple"))) (sRet (eC (.bl false))) sPass)
    (w_law_t5 P)))
/-- slots: 0:_law_script 1:_law_op 2:_law_one 3:_law_other 4:_law_found 5:_law_yes 6:_law_due -/
def w_law (P : Calls) : WS :=
    (sSeq (sAsg (eBin wIdx (eC (.str "+-*<=")) (eBin wMod (eCall P 2 (aCons (eVar 0) (aCons (eC (.int 0)) aNil))) (eC (.int 5)))) (gNm 1))
    (sSeq (sAsg (eCall P 3 (aCons (eCall P 2 (aCons (eVar 0) (aCons (eC (.int 1)) aNil))) aNil)) (gNm 2))
    (sSeq (sAsg (eCall P 3 (aCons (eCall P 2 (aCons (eVar 0) (aCons (eC (.int 2)) aNil))) aNil)) (gNm 3))
    (sSeq (sIf (tBl (eBin wEq (eBin wMod (eBin wDiv (eCall P 2 (aCons (eVar 0) (aCons (eC (.int 0)) aNil))) (eC (.int 5))) (eC (.int 4))) (eC (.int 1)))) (sAsg (eVar 2) (gNm 3)) sPass)
    (w_law_t6 P)))))
abbrev i_reckoned : Nat := 0
abbrev i_truth : Nat := 1
abbrev i__law_cell_at : Nat := 2
abbrev i__law_number : Nat := 3
abbrev i_law : Nat := 4
def pr : List Df := [⟨4, 3, w_reckoned⟩, ⟨1, 1, w_truth⟩, ⟨2, 2, w__law_cell_at⟩, ⟨1, 1, w__law_number⟩, ⟨7, 1, w_law⟩]
theorem u_reckoned {n : Nat} {vs : List T} {C : Hw} {Q : WK} {χ : WX} (hl : vs.length = 3) (h : w_reckoned (wpc pr n) { nx := fun _ C' => Q .non C', rt := Q, xc := χ } (vs.map some ++ List.replicate 1 none) C) : wpc pr (n + 1) 0 vs C Q χ := ⟨_, rfl, hl, h⟩
theorem u_truth {n : Nat} {vs : List T} {C : Hw} {Q : WK} {χ : WX} (hl : vs.length = 1) (h : w_truth (wpc pr n) { nx := fun _ C' => Q .non C', rt := Q, xc := χ } (vs.map some ++ List.replicate 0 none) C) : wpc pr (n + 1) 1 vs C Q χ := ⟨_, rfl, hl, h⟩
theorem u__law_cell_at {n : Nat} {vs : List T} {C : Hw} {Q : WK} {χ : WX} (hl : vs.length = 2) (h : w__law_cell_at (wpc pr n) { nx := fun _ C' => Q .non C', rt := Q, xc := χ } (vs.map some ++ List.replicate 0 none) C) : wpc pr (n + 1) 2 vs C Q χ := ⟨_, rfl, hl, h⟩
theorem u__law_number {n : Nat} {vs : List T} {C : Hw} {Q : WK} {χ : WX} (hl : vs.length = 1) (h : w__law_number (wpc pr n) { nx := fun _ C' => Q .non C', rt := Q, xc := χ } (vs.map some ++ List.replicate 0 none) C) : wpc pr (n + 1) 3 vs C Q χ := ⟨_, rfl, hl, h⟩
theorem u_law {n : Nat} {vs : List T} {C : Hw} {Q : WK} {χ : WX} (hl : vs.length = 1) (h : w_law (wpc pr n) { nx := fun _ C' => Q .non C', rt := Q, xc := χ } (vs.map some ++ List.replicate 6 none) C) : wpc pr (n + 1) 4 vs C Q χ := ⟨_, rfl, hl, h⟩
end K31
set_option Elab.async false
set_option linter.all false
set_option maxRecDepth 100000
set_option maxHeartbeats 4000000
namespace K31
open PySem PySem.Spec PyProof.Rows L2 WL
def top (i : Nat) : Stmt := PySem.Challenge.pw_idlegraph_k31_reckoned.main.body.getD i (.Pass ⟨0, 0, 0, 0⟩)
structure Txt (K : PySem.W.Frag) (mg : Str → Option Value) : Prop where
  n_bool : mg "bool" = none
  n_int : mg "int" = none
  n_isinstance : mg "isinstance" = none
  n_len : mg "len" = none
  n_tuple : mg "tuple" = none
structure Cs (Pg : Program) (w : World) (K : PySem.W.Frag) (mg : Str → Option Value) (base : Heap) (n : Nat) : Prop where
  c_reckoned : Ca Pg w K mg base n "reckoned" ["op", "one", "other"] (spW K pr n 0)
  c_truth : Ca Pg w K mg base n "truth" ["holds"] (spW K pr n 1)
  c__law_cell_at : Ca Pg w K mg base n "_law_cell_at" ["_law_script", "_law_k"] (spW K pr n 2)
  c__law_number : Ca Pg w K mg base n "_law_number" ["_law_cell"] (spW K pr n 3)
  c_law : Ca Pg w K mg base n "law" ["_law_script"] (spW K pr n 4)
section
variable {Pg : Program} {w : World} {K : PySem.W.Frag} {mg : Str → Option Value} {base : Heap} {f : Addr} {fd : FuncData} {n : Nat}
abbrev st_reckoned : Stmt := top 1
theorem sc_reckoned : FnScope ["op", "one", "other", "outcome"] ["op", "one", "other"] (defScope st_reckoned) := ⟨rfl, rfl, rfl, by decide +kernel, rfl, by decide +kernel, by decide +kernel⟩
theorem ok_reckoned (T : Txt K mg) (S : Cs Pg w K mg base n) (F : Fun K "reckoned" "reckoned" st_reckoned f fd) : FnOk Pg w K mg base CX0 (n + 1) f fd ["op", "one", "other"] (spW K pr (n + 1) 0) := fn_ok F sc_reckoned rfl rfl rfl fun cdv A outer s H E hr => by
    have nd := sc_reckoned.nd
    have hu := hu150 hr
    show SdB _ (defBody st_reckoned) (w_reckoned (wpc pr n))
    unfold w_reckoned
    exact (db_cons (ds_if (dt_cmp (o_eq hu) (d_var 0) d_str (nomark _)) (db_one (ds_ret (d_call S.c_truth hr (by rfl) (da_cons (d_cmp o_lt (d_var 1) (d_var 2) (nomark _)) da_nil)))) db_nil)
      (db_cons (ds_if (dt_cmp (o_eq hu) (d_var 0) d_str (nomark _)) (db_one (ds_ret (d_call S.c_truth hr (by rfl) (da_cons (d_cmp (o_eq hu) (d_var 1) (d_var 2) (nomark _)) da_nil)))) db_nil)
      (db_cons (ds_if (dt_cmp (o_eq hu) (d_var 0) d_str (nomark _)) (db_one (ds_set (i := 3) nd (d_op o_add (d_var 1) (d_var 2)))) (db_one (ds_if (dt_cmp (o_eq hu) (d_var 0) d_str (nomark _)) (db_one (ds_set (i := 3) nd (d_op o_sub (d_var 1) (d_var 2)))) (db_one (ds_set (i := 3) nd (d_op o_mul (d_var 1) (d_var 2)))))))
      (db_one (ds_ret (d_tup (da_cons d_str (da_cons (d_op o_mod (d_var 3) (d_op o_pow d_int d_int)) da_nil))))))))
abbrev st_truth : Stmt := top 2
theorem sc_truth : FnScope ["holds"] ["holds"] (defScope st_truth) := ⟨rfl, rfl, rfl, by decide +kernel, rfl, by decide +kernel, by decide +kernel⟩
theorem ok_truth (T : Txt K mg) (S : Cs Pg w K mg base n) (F : Fun K "truth" "truth" st_truth f fd) : FnOk Pg w K mg base CX0 (n + 1) f fd ["holds"] (spW K pr (n + 1) 1) := fn_ok F sc_truth rfl rfl rfl fun cdv A outer s H E hr => by
    have nd := sc_truth.nd
    have hu := hu150 hr
    show SdB _ (defBody st_truth) (w_truth (wpc pr n))
    unfold w_truth
    exact (db_one (ds_ret (d_tup (da_cons d_str (da_cons (d_ife (dt_tru (d_var 0)) d_str d_str) (da_cons (d_tup da_nil) da_nil))))))
abbrev st__law_cell_at : Stmt := top 4
theorem sc__law_cell_at : FnScope ["_law_script", "_law_k"] ["_law_script", "_law_k"] (defScope st__law_cell_at) := ⟨rfl, rfl, rfl, by decide +kernel, rfl, by decide +kernel, by decide +kernel⟩
theorem ok__law_cell_at (T : Txt K mg) (S : Cs Pg w K mg base n) (F : Fun K "_law_cell_at" "_law_cell_at" st__law_cell_at f fd) : FnOk Pg w K mg base CX0 (n + 1) f fd ["_law_script", "_law_k"] (spW K pr (n + 1) 2) := fn_ok F sc__law_cell_at rfl rfl rfl fun cdv A outer s H E hr => by
    have nd := sc__law_cell_at.nd
    have hu := hu150 hr
    show SdB _ (defBody st__law_cell_at) (w__law_cell_at (wpc pr n))
    unfold w__law_cell_at
    exact (db_cons (ds_if (dt_cmp o_lt (d_var 1) (d_bi b_len (by rfl) T.n_len PySem.boot_len (da_cons (d_var 0) da_nil)) (nomark _)) (db_one (ds_ret (d_ix (d_var 0) (d_var 1) (fun _ _ => rfl)))) db_nil)
      (db_one (ds_ret d_int)))
abbrev st__law_number : Stmt := top 5
theorem sc__law_number : FnScope ["_law_cell"] ["_law_cell"] (defScope st__law_number) := ⟨rfl, rfl, rfl, by decide +kernel, rfl, by decide +kernel, by decide +kernel⟩
theorem ok__law_number (T : Txt K mg) (S : Cs Pg w K mg base n) (F : Fun K "_law_number" "_law_number" st__law_number f fd) : FnOk Pg w K mg base CX0 (n + 1) f fd ["_law_cell"] (spW K pr (n + 1) 3) := fn_ok F sc__law_number rfl rfl rfl fun cdv A outer s H E hr => by
    have nd := sc__law_number.nd
    have hu := hu150 hr
    show SdB _ (defBody st__law_number) (w__law_number (wpc pr n))
    unfold w__law_number
    exact (db_cons (ds_if (dt_cmp (o_eq hu) (d_op o_mod (d_var 0) d_int) d_int (nomark _)) (db_one (ds_ret (d_op o_mod (d_op o_div (d_var 0) d_int) d_int))) db_nil)
      (db_cons (ds_if (dt_cmp (o_eq hu) (d_op o_mod (d_var 0) d_int) d_int (nomark _)) (db_one (ds_ret (d_op o_sub (d_op o_sub (d_op o_pow d_int d_int) d_int) (d_op o_mod (d_op o_div (d_var 0) d_int) d_int)))) db_nil)
      (db_one (ds_ret (d_op o_mod (d_op o_mul (d_op o_div (d_var 0) d_int) d_int) (d_op o_pow d_int d_int))))))
abbrev st_law : Stmt := top 6
theorem sc_law : FnScope ["_law_script", "_law_op", "_law_one", "_law_other", "_law_found", "_law_yes", "_law_due"] ["_law_script"] (defScope st_law) := ⟨rfl, rfl, rfl, by decide +kernel, rfl, by decide +kernel, by decide +kernel⟩
theorem ok_law (T : Txt K mg) (S : Cs Pg w K mg base n) (F : Fun K "law" "law" st_law f fd) : FnOk Pg w K mg base CX0 (n + 1) f fd ["_law_script"] (spW K pr (n + 1) 4) := fn_ok F sc_law rfl rfl rfl fun cdv A outer s H E hr => by
    have nd := sc_law.nd
    have hu := hu150 hr
    show SdB _ (defBody st_law) (w_law (wpc pr n))
    unfold w_law w_law_t6 w_law_t5 w_law_t4 w_law_t3 w_law_t2 w_law_t1
    exact (db_cons (ds_set (i := 1) nd (d_ix d_str (d_op o_mod (d_call S.c__law_cell_at hr (by rfl) (da_cons (d_var 0) (da_cons d_int da_nil))) d_int) (fun _ _ => rfl)))
      (db_cons (ds_set (i := 2) nd (d_call S.c__law_number hr (by rfl) (da_cons (d_call S.c__law_cell_at hr (by rfl) (da_cons (d_var 0) (da_cons d_int da_nil))) da_nil)))
      (db_cons (ds_set (i := 3) nd (d_call S.c__law_number hr (by rfl) (da_cons (d_call S.c__law_cell_at hr (by rfl) (da_cons (d_var 0) (da_cons d_int da_nil))) da_nil)))
      (db_cons (ds_if (dt_cmp (o_eq hu) (d_op o_mod (d_op o_div (d_call S.c__law_cell_at hr (by rfl) (da_cons (d_var 0) (da_cons d_int da_nil))) d_int) d_int) d_int (nomark _)) (db_one (ds_set (i := 3) nd (d_var 2))) db_nil)
      (db_cons (ds_set (i := 4) nd (d_call S.c_reckoned hr (by rfl) (da_cons (d_var 1) (da_cons (d_var 2) (da_cons (d_var 3) da_nil)))))
      (db_cons (ds_if (dt_not (dt_tru (d_isi (by rfl) T.n_isinstance (by rfl) T.n_tuple bt_tuple (by decide) (d_var 4)))) (db_one (ds_ret d_bl)) db_nil)
      (db_cons (ds_if (dt_w (dw_or (dt_cmp (o_eq hu) (d_var 1) d_str (nomark _)) (dw_or1 (dt_cmp (o_eq hu) (d_var 1) d_str (nomark _))))) (db_cons (ds_set (i := 5) nd (d_cmp o_lt (d_var 2) (d_var 3) (nomark _)))
      (db_cons (ds_if (dt_cmp (o_eq hu) (d_var 1) d_str (nomark _)) (db_one (ds_set (i := 5) nd (d_cmp (o_eq hu) (d_var 2) (d_var 3) (nomark _)))) db_nil)
      (db_one (ds_ret (d_cmp (o_eq hu) (d_var 4) (d_tup (da_cons d_str (da_cons (d_ix (d_lst (da_cons d_str (da_cons d_str da_nil))) (d_ty b_int (by rfl) T.n_int bt_int (da_cons (d_var 5) da_nil)) (fun _ _ => rfl)) (da_cons (d_tup da_nil) da_nil)))) (nomark _)))))) db_nil)
      (db_cons (ds_if (dt_w (dw_or (dt_cmp (o_ne hu) (d_bi b_len (by rfl) T.n_len PySem.boot_len (da_cons (d_var 4) da_nil)) d_int (nomark _)) (dw_or (dt_cmp (o_ne hu) (d_ix (d_var 4) d_int (fun _ _ => rfl)) d_str (nomark _)) (dw_or (dt_not (dt_tru (d_isi (by rfl) T.n_isinstance (by rfl) T.n_int bt_int (by decide) (d_ix (d_var 4) d_int (fun _ _ => rfl))))) (dw_or1 (dt_tru (d_isi (by rfl) T.n_isinstance (by rfl) T.n_bool bt_bool (by decide) (d_ix (d_var 4) d_int (fun _ _ => rfl))))))))) (db_one (ds_ret d_bl)) db_nil)
      (db_cons (ds_set (i := 6) nd (d_op o_add (d_var 2) (d_var 3)))
      (db_cons (ds_if (dt_cmp (o_eq hu) (d_var 1) d_str (nomark _)) (db_one (ds_set (i := 6) nd (d_op o_sub (d_var 2) (d_var 3)))) db_nil)
      (db_cons (ds_if (dt_cmp (o_eq hu) (d_var 1) d_str (nomark _)) (db_one (ds_set (i := 6) nd (d_op o_mul (d_var 2) (d_var 3)))) db_nil)
      (db_one (ds_ret (d_and (d_chain o_le o_lt d_int (d_ix (d_var 4) d_int (fun _ _ => rfl)) (d_op o_pow d_int d_int)) (d_one (d_cmp (o_eq hu) (d_op o_mod (d_op o_sub (d_var 6) (d_ix (d_var 4) d_int (fun _ _ => rfl))) (d_op o_pow d_int d_int)) d_int (nomark _)))))))))))))))))
end
theorem all_mk {l : PySem.W.OpenLaw} {w : World} {K : PySem.W.Frag} {h : Heap} {mg : Str → Option Value} {fa f0 f1 f2 f3 f4 : Addr} (X : K.In h) (G : h.Ns mainGlobals mg) (hfa : mg "law" = some (.ref fa))
    {od0 an0 od1 an1 od2 an2 od3 an3 od4 an4 : Option Addr} {sl0 sl1 sl2 sl3 sl4 : Array (Option Value)} {oc0 kV0 dc0 pm0 cd0 ct0 oc1 kV1 dc1 pm1 cd1 ct1 oc2 kV2 dc2 pm2 cd2 ct2 oc3 kV3 dc3 pm3 cd3 ct3 oc4 kV4 dc4 pm4 cd4 ct4 : Value}
    (a0 : PySem.W.nsIn K mainGlobals "reckoned" = some (some (.ref f0))) (l0 : K.lookup f0 = some ⟨oc0, od0, .func (PySem.W.fnOf "reckoned" "reckoned" (defArgs st_reckoned) (defBody st_reckoned) (defScope st_reckoned) .none kV0 dc0 pm0 an0 cd0 ct0), sl0⟩) (c0 : PySem.W.codeIn K cd0 "reckoned" = true) (k0 : PySem.W.keepIn K (.ref f0) = true)
    (a1 : PySem.W.nsIn K mainGlobals "truth" = some (some (.ref f1))) (l1 : K.lookup f1 = some ⟨oc1, od1, .func (PySem.W.fnOf "truth" "truth" (defArgs st_truth) (defBody st_truth) (defScope st_truth) .none kV1 dc1 pm1 an1 cd1 ct1), sl1⟩) (c1 : PySem.W.codeIn K cd1 "truth" = true) (k1 : PySem.W.keepIn K (.ref f1) = true)
    (a2 : PySem.W.nsIn K mainGlobals "_law_cell_at" = some (some (.ref f2))) (l2 : K.lookup f2 = some ⟨oc2, od2, .func (PySem.W.fnOf "_law_cell_at" "_law_cell_at" (defArgs st__law_cell_at) (defBody st__law_cell_at) (defScope st__law_cell_at) .none kV2 dc2 pm2 an2 cd2 ct2), sl2⟩) (c2 : PySem.W.codeIn K cd2 "_law_cell_at" = true) (k2 : PySem.W.keepIn K (.ref f2) = true)
    (a3 : PySem.W.nsIn K mainGlobals "_law_number" = some (some (.ref f3))) (l3 : K.lookup f3 = some ⟨oc3, od3, .func (PySem.W.fnOf "_law_number" "_law_number" (defArgs st__law_number) (defBody st__law_number) (defScope st__law_number) .none kV3 dc3 pm3 an3 cd3 ct3), sl3⟩) (c3 : PySem.W.codeIn K cd3 "_law_number" = true) (k3 : PySem.W.keepIn K (.ref f3) = true)
    (a4 : PySem.W.nsIn K mainGlobals "law" = some (some (.ref f4))) (l4 : K.lookup f4 = some ⟨oc4, od4, .func (PySem.W.fnOf "law" "law" (defArgs st_law) (defBody st_law) (defScope st_law) .none kV4 dc4 pm4 an4 cd4 ct4), sl4⟩) (c4 : PySem.W.codeIn K cd4 "law" = true) (k4 : PySem.W.keepIn K (.ref f4) = true)
    (z_bool : PySem.W.nsIn K mainGlobals "bool" = some none)
    (z_int : PySem.W.nsIn K mainGlobals "int" = some none)
    (z_isinstance : PySem.W.nsIn K mainGlobals "isinstance" = some none)
    (z_len : PySem.W.nsIn K mainGlobals "len" = some none)
    (z_tuple : PySem.W.nsIn K mainGlobals "tuple" = some none)
    : ∃ fd : FuncData, (∀ (s : Shared) (v : Value), BindsTo s fd ⟨[v], []⟩ [("_law_script", v)]) ∧ ∀ base : Heap, K.In base → base.Ns mainGlobals mg → FnOk l.prog w K mg base CX0 20 fa fd ["_law_script"] (spW K pr 20 4) := by
  have e := hfa.symm.trans (PySem.W.mg_of X G a4)
  cases e
  have T : Txt K mg := ⟨PySem.W.mg_none_of X G z_bool, PySem.W.mg_none_of X G z_int, PySem.W.mg_none_of X G z_isinstance, PySem.W.mg_none_of X G z_len, PySem.W.mg_none_of X G z_tuple⟩
  have F0 := fun_mk (st := st_reckoned) l0 c0 k0
  have B0 : Binds K _ ["op", "one", "other"] [] := F0.binds (fun _ _ _ _ _ _ us hl => match us, hl with | [_, _, _], _ => rfl)
  have M0 := PySem.W.mg_of X G a0
  have F1 := fun_mk (st := st_truth) l1 c1 k1
  have B1 : Binds K _ ["holds"] [] := F1.binds (fun _ _ _ _ _ _ us hl => match us, hl with | [_], _ => rfl)
  have M1 := PySem.W.mg_of X G a1
  have F2 := fun_mk (st := st__law_cell_at) l2 c2 k2
  have B2 : Binds K _ ["_law_script", "_law_k"] [] := F2.binds (fun _ _ _ _ _ _ us hl => match us, hl with | [_, _], _ => rfl)
  have M2 := PySem.W.mg_of X G a2
  have F3 := fun_mk (st := st__law_number) l3 c3 k3
  have B3 : Binds K _ ["_law_cell"] [] := F3.binds (fun _ _ _ _ _ _ us hl => match us, hl with | [_], _ => rfl)
  have M3 := PySem.W.mg_of X G a3
  have F4 := fun_mk (st := st_law) l4 c4 k4
  have B4 : Binds K _ ["_law_script"] [] := F4.binds (fun _ _ _ _ _ _ us hl => match us, hl with | [_], _ => rfl)
  have M4 := PySem.W.mg_of X G a4
  refine ⟨PySem.W.fnOf "law" "law" (defArgs st_law) (defBody st_law) (defScope st_law) .none kV4 dc4 pm4 an4 cd4 ct4, fun s v => .of_eq rfl, fun base _ _ => ?_⟩
  have CS : ∀ n, Cs l.prog w K mg base n := fun n => by
    induction n with
    | zero => exact ⟨ca_zero F0 B0 M0, ca_zero F1 B1 M1, ca_zero F2 B2 M2, ca_zero F3 B3 M3, ca_zero F4 B4 M4⟩
    | succ n ih => exact ⟨ca_succ F0 B0 M0 (ok_reckoned T ih F0), ca_succ F1 B1 M1 (ok_truth T ih F1), ca_succ F2 B2 M2 (ok__law_cell_at T ih F2), ca_succ F3 B3 M3 (ok__law_number T ih F3), ca_succ F4 B4 M4 (ok_law T ih F4)⟩
  exact ok_law T (CS (19)) F4
end K31
set_option Elab.async false
set_option linter.all false
set_option maxRecDepth 100000
set_option maxHeartbeats 4000000
namespace K31
open PySem PySem.Spec PyProof.Rows L2 WL
local macro_rules | `(tactic| walk_at "ws") => `(tactic| try simp (config := { decide := true }) only [eVar, eC, eBin, eUn, aNil, aCons, eTup, eLst, eCall, eBi, eMt, eIf, eAnd, eOr, eNot, tTru, tBl, tAn, tOr', tNo, eChain, wAdd, wSub, wMul, wDiv, wMod, wPow, wNeg, wLt, wLe, wGt, wGe, wIsN, wNotN, wIdx, oNo, oSome, wSl, eSl, bLen, bMax, bMin, bTuple, bList, eIsi, tyN, gNm, gsNil, gsCons, gTp, gSb, sPass, sSeq, sExpr, sRet, sRetN, sIf, sAsg, sBrk, sCont, sNever, sFor, iSeq, iR1, iR2, iEn, capW, tYes, eComp, tyL', tyS, mAppend, mPop, mPopAt, wEq, wNe, wIn, wNotIn, wEq_str, wEq_int, erase0, atI_0, atI_1, atI_2, atI_3, atI_4, atI_m1, atI_m2, atI_m3, atI_m4, wEq_bl,
  List.map_cons, List.map_nil, List.length_cons, List.length_nil, List.replicate, List.cons_append, List.nil_append, List.getElem?_cons_zero, List.getElem?_cons_succ, List.set_cons_zero, List.set_cons_succ, Option.some.injEq, T.int.injEq, T.str.injEq, T.bl.injEq, T.ref.injEq, T.tup.injEq, T.cl.injEq, exists_eq_left', exists_eq_left, exists_eq', exists_and_left, and_assoc, List.cons.injEq, and_true, true_and, reduceCtorEq, false_and, exists_false, List.append_nil, if_true, if_false, Bool.not_not, decide_eq_true_eq, Bool.not_eq_true', decide_eq_false_iff_not, Bool.false_eq_true, List.nil_eq, Option.bind_none, Option.bind_some, Option.join_some, Nat.reduceAdd, Nat.reduceSub, Nat.sub_self, Nat.zero_add, Nat.sub_zero, beq_iff_eq, Bool.not_false, Bool.not_true])
/-! tests by a word or a number, one after another: what is not taken is not walked -/
section
variable {A B : WS} {D : We} {τ : Sw} {C : Hw} {i k : Nat} {v : T} {r : List T} {s s' w : Str} {x y : Int}
theorem k_a0 (h : τ[0]? = some (some (.tup (v :: r)))) (q : B D (τ.set k (some v)) C) : sSeq (sAsg (eBin wIdx (eVar 0) (eC (.int 0))) (gNm k)) B D τ C := ⟨_, h, _, atI_0, q⟩
theorem k_yes (h : τ[i]? = some (some (.str w))) (hw : w = s) (q : A { D with nx := B D } τ C) : sSeq (sIf (tBl (eBin wEq (eVar i) (eC (.str s)))) A sPass) B D τ C := by
  refine ⟨_, h, ?_⟩
  simp only [eC]
  rw [wEq, wEq_str, hw]
  refine ⟨true, by simp, ?_⟩
  rw [if_pos rfl]; exact q
theorem k_no (h : τ[i]? = some (some (.str w))) (hw : w ≠ s) (q : B D τ C) : sSeq (sIf (tBl (eBin wEq (eVar i) (eC (.str s)))) A sPass) B D τ C := by
  refine ⟨_, h, ?_⟩
  simp only [eC]
  rw [wEq, wEq_str]
  refine ⟨false, by simp [hw], ?_⟩
  rw [if_neg (by decide)]; exact q
theorem k_yes2 (h : τ[i]? = some (some (.str w))) (hw : w = s ∨ w = s') (q : A { D with nx := B D } τ C) : sSeq (sIf (tOr' (tBl (eBin wEq (eVar i) (eC (.str s)))) (tBl (eBin wEq (eVar i) (eC (.str s'))))) A sPass) B D τ C := by
  refine ⟨_, h, ?_⟩
  simp only [eC]
  rw [wEq, wEq_str]
  by_cases c : w = s
  · refine ⟨true, by simp [c], ?_⟩
    rw [if_pos rfl]; exact q
  · refine ⟨false, by simp [c], ?_⟩
    rw [if_neg (by decide)]
    refine ⟨_, h, ?_⟩
    simp only [eC]
    rw [wEq_str]
    have c' : w = s' := hw.resolve_left c
    refine ⟨true, by simp [c'], ?_⟩
    rw [if_pos rfl]; exact q
theorem k_no2 (h : τ[i]? = some (some (.str w))) (hw : w ≠ s) (hw' : w ≠ s') (q : B D τ C) : sSeq (sIf (tOr' (tBl (eBin wEq (eVar i) (eC (.str s)))) (tBl (eBin wEq (eVar i) (eC (.str s'))))) A sPass) B D τ C := by
  refine ⟨_, h, ?_⟩
  simp only [eC]
  rw [wEq, wEq_str]
  refine ⟨false, by simp [hw], ?_⟩
  rw [if_neg (by decide)]
  refine ⟨_, h, ?_⟩
  simp only [eC]
  rw [wEq_str]
  refine ⟨false, by simp [hw'], ?_⟩
  rw [if_neg (by decide)]; exact q
theorem k_yesI (h : τ[i]? = some (some (.int x))) (hw : x = y) (q : A { D with nx := B D } τ C) : sSeq (sIf (tBl (eBin wEq (eVar i) (eC (.int y)))) A sPass) B D τ C := by
  refine ⟨_, h, ?_⟩
  simp only [eC]
  rw [wEq, wEq_int, hw]
  refine ⟨true, by simp, ?_⟩
  rw [if_pos rfl]; exact q
theorem k_noI (h : τ[i]? = some (some (.int x))) (hw : x ≠ y) (q : B D τ C) : sSeq (sIf (tBl (eBin wEq (eVar i) (eC (.int y)))) A sPass) B D τ C := by
  refine ⟨_, h, ?_⟩
  simp only [eC]
  rw [wEq, wEq_int]
  refine ⟨false, by simp [hw], ?_⟩
  rw [if_neg (by decide)]; exact q
/-- the first word of the first variable -/
theorem k_yesX (h : τ[0]? = some (some (.tup (.str w :: r)))) (hw : w = s) (q : A { D with nx := B D } τ C) : sSeq (sIf (tBl (eBin wEq (eBin wIdx (eVar 0) (eC (.int 0))) (eC (.str s)))) A sPass) B D τ C := by
  refine ⟨_, h, _, atI_0, ?_⟩
  simp only [eC]
  rw [wEq, wEq_str, hw]
  refine ⟨true, by simp, ?_⟩
  rw [if_pos rfl]; exact q
theorem k_noX (h : τ[0]? = some (some (.tup (.str w :: r)))) (hw : w ≠ s) (q : B D τ C) : sSeq (sIf (tBl (eBin wEq (eBin wIdx (eVar 0) (eC (.int 0))) (eC (.str s)))) A sPass) B D τ C := by
  refine ⟨_, h, _, atI_0, ?_⟩
  simp only [eC]
  rw [wEq, wEq_str]
  refine ⟨false, by simp [hw], ?_⟩
  rw [if_neg (by decide)]; exact q
theorem k_noX2 (h : τ[0]? = some (some (.tup (.str w :: r)))) (hw : w ≠ s) (hw' : w ≠ s') (q : B D τ C) : sSeq (sIf (tOr' (tBl (eBin wEq (eBin wIdx (eVar 0) (eC (.int 0))) (eC (.str s)))) (tBl (eBin wEq (eBin wIdx (eVar 0) (eC (.int 0))) (eC (.str s'))))) A sPass) B D τ C := by
  refine ⟨_, h, _, atI_0, ?_⟩
  simp only [eC]
  rw [wEq, wEq_str]
  refine ⟨false, by simp [hw], ?_⟩
  rw [if_neg (by decide)]
  refine ⟨_, h, _, atI_0, ?_⟩
  simp only [eC]
  rw [wEq_str]
  refine ⟨false, by simp [hw'], ?_⟩
  rw [if_neg (by decide)]; exact q
theorem k_yesX2 (h : τ[0]? = some (some (.tup (.str w :: r)))) (hw : w = s ∨ w = s') (q : A { D with nx := B D } τ C) : sSeq (sIf (tOr' (tBl (eBin wEq (eBin wIdx (eVar 0) (eC (.int 0))) (eC (.str s)))) (tBl (eBin wEq (eBin wIdx (eVar 0) (eC (.int 0))) (eC (.str s'))))) A sPass) B D τ C := by
  refine ⟨_, h, _, atI_0, ?_⟩
  simp only [eC]
  rw [wEq, wEq_str]
  by_cases c : w = s
  · refine ⟨true, by simp [c], ?_⟩
    rw [if_pos rfl]; exact q
  · refine ⟨false, by simp [c], ?_⟩
    rw [if_neg (by decide)]
    refine ⟨_, h, _, atI_0, ?_⟩
    simp only [eC]
    rw [wEq_str]
    have c' : w = s' := hw.resolve_left c
    refine ⟨true, by simp [c'], ?_⟩
    rw [if_pos rfl]; exact q
end
section
variable {C : Hw} {Q : WK} {χ : WX} {n : Nat}
theorem s_cell {ns : List Int} {k : Nat} (q : ∀ c : Int, Q (.int c) C) : wpc pr (n + 1) i__law_cell_at [.cl (ns.map T.int), .int k] C Q χ := by
  refine u__law_cell_at rfl ?_
  unfold w__law_cell_at
  walk_at "ws"
  refine ite2 (fun c => ?_) fun c => q 0
  obtain ⟨d, h1, _⟩ := atT_ints (ds := ns) (i := (k : Int)) (by omega) (by rw [List.length_map] at c; exact c)
  exact ⟨_, h1, q d⟩
theorem pw18 : (10 : Int) ^ Int.toNat 18 = 1000000000000000000 := by decide
theorem s_number {c : Int} (q : ∀ x : Int, 0 ≤ x → x < 1000000000000000000 → Q (.int x) C) : wpc pr (n + 1) i__law_number [.int c] C Q χ := by
  refine u__law_number rfl ?_
  unfold w__law_number
  walk_at "ws"
  rw [pw18]
  have p : CPow 10 18 := ⟨by decide, by decide, by decide⟩
  have dv : CDiv c 4 := ⟨by decide, by decide⟩
  refine ite2 (fun _ => ⟨dv, q _ (by omega) (by omega)⟩) fun _ => ite2 (fun _ => ⟨p, dv, q _ (by omega) (by omega)⟩) fun _ => ⟨dv, .inr ⟨by decide, by decide⟩, p, q _ ?_ ?_⟩
  · exact Int.emod_nonneg _ (by decide)
  · exact Int.emod_lt_of_pos _ (by decide)
theorem s_truth {b : Bool} (q : Q (.tup [.str "made", .str (if b = true then "Yes" else "No"), .tup []]) C) : wpc pr (n + 1) i_truth [.bl b] C Q χ := by
  refine u_truth rfl ?_
  unfold w_truth
  walk_at "ws"
  refine ⟨b, rfl, ?_⟩
  cases b
  · exact q
  · exact q
theorem isT {C : Hw} : tru (T.bl (isCls "tuple" "tuple")) C true := by
  have h : isCls "tuple" "tuple" = true := by decide +kernel
  rw [h]; rfl
theorem isI : isCls "int" "int" = true := by decide +kernel
theorem isB : isCls "int" "bool" = false := by decide +kernel
theorem wEq_tup {n : Bool} {C : Hw} {Q : WK} {a b : List T} : wEqG n (.tup a) (.tup b) C Q = (isFlat (.tup a) ∧ isFlat (.tup b) ∧ Q (.bl (if n = true then !eqTs a b else eqTs a b)) C) := by
  show (isFlat _ ∧ isFlat _ ∧ Q (.bl (if n = true then !WL.eqT (.tup a) (.tup b) else WL.eqT (.tup a) (.tup b))) C) = _
  rw [show WL.eqT (.tup a) (.tup b) = eqTs a b by unfold WL.eqT; rfl]
theorem wEq_same {l : List T} {C : Hw} {Q : WK} (hf : isFlat (.tup l)) (q : Q (.bl true) C) : wEqG false (.tup l) (.tup l) C Q := ⟨hf, hf, by rw [eqT_refl _ hf]; exact q⟩
theorem s_cmp {op : Str} {x y : Int} {b : Bool} (h : (op = "<" ∧ b = decide (x < y)) ∨ (op = "=" ∧ b = (x == y))) (q : Q (.tup [.str "made", .str (if b = true then "Yes" else "No"), .tup []]) C) : wpc pr (n + 2) i_reckoned [.str op, .int x, .int y] C Q χ := by
  refine u_reckoned rfl ?_
  unfold w_reckoned
  rcases h with ⟨rfl, rfl⟩ | ⟨rfl, rfl⟩
  · refine k_yes rfl rfl ?_
    walk_at "ws"
    exact s_truth q
  · refine k_no rfl (by decide +kernel) (k_yes rfl rfl ?_)
    walk_at "ws"
    exact s_truth q
theorem s_op {op : Str} {x y z : Int} (hx : 0 ≤ x) (hx' : x < 1000000000000000000) (h : (op = "+" ∧ z = x + y) ∨ (op = "-" ∧ z = x - y) ∨ (op = "*" ∧ z = x * y)) (q : Q (.tup [.str "number", .int (z % 1000000000000000000)]) C) : wpc pr (n + 2) i_reckoned [.str op, .int x, .int y] C Q χ := by
  refine u_reckoned rfl ?_
  unfold w_reckoned
  have p : CPow 10 18 := ⟨by decide, by decide, by decide⟩
  rcases h with ⟨rfl, rfl⟩ | ⟨rfl, rfl⟩ | ⟨rfl, rfl⟩
  · refine k_no rfl (by decide +kernel) (k_no rfl (by decide +kernel) ?_)
    walk_at "ws"
    rw [pw18]
    exact ⟨p, q⟩
  · refine k_no rfl (by decide +kernel) (k_no rfl (by decide +kernel) ?_)
    walk_at "ws"
    rw [pw18]
    exact ⟨p, q⟩
  · refine k_no rfl (by decide +kernel) (k_no rfl (by decide +kernel) ?_)
    walk_at "ws"
    rw [pw18]
    exact ⟨.inl ⟨by omega, by omega⟩, p, q⟩
theorem fl_made {y : Str} : isFlat (.tup [.str "made", .str y, .tup []]) := by
  refine flat_tup fun x hx => ?_
  simp only [List.mem_cons, List.not_mem_nil, or_false] at hx
  rcases hx with rfl | rfl | rfl
  · exact flat_str
  · exact flat_str
  · unfold flat flats; rfl
end
section
variable {D : We} {C : Hw} {n : Nat}
theorem t_cmp {s0 : T} {op : Str} {x y : Int} (hop : op = "<" ∨ op = "=") (hD : ∀ C, D.rt (.bl true) C) : w_law_t6 (wpc pr (n + 2)) D [some s0, some (.str op), some (.int x), some (.int y), none, none, none] C := by
  unfold w_law_t6
  walk_at "ws"
  refine s_cmp (b := if op = "<" then decide (x < y) else (x == y)) ?_ ?_
  · rcases hop with rfl | rfl
    · exact .inl ⟨rfl, by rw [if_pos rfl]⟩
    · exact .inr ⟨rfl, by rw [if_neg (by decide +kernel)]⟩
  walk_at "ws"
  refine ⟨true, isT, ?_⟩
  rw [if_neg (by decide)]
  unfold w_law_t5
  refine k_yes2 rfl hop ?_
  rcases hop with rfl | rfl
  · walk_at "ws"
    intro p hp
    refine .inr ⟨_, rfl, ?_⟩
    by_cases c : x < y
    all_goals
      simp only [c, decide_true, decide_false, if_true, if_false, Bool.false_eq_true]
      refine ⟨_, up_same, _, rfl, ?_⟩
      exact wEq_same fl_made (hD _)
  · walk_at "ws"
    intro p hp
    refine .inr ⟨_, rfl, ?_⟩
    simp only [if_neg (show ¬ ("=" : Str) = "<" by decide +kernel)]
    by_cases c : x = y
    · subst c
      simp only [BEq.rfl, if_true]
      refine ⟨_, up_same, _, rfl, ?_⟩
      exact wEq_same fl_made (hD _)
    · rw [beq_false_of_ne c, if_neg c]
      refine ⟨_, up_same, _, rfl, ?_⟩
      exact wEq_same fl_made (hD _)
theorem t_op {s0 : T} {op : Str} {x y : Int} (hx : 0 ≤ x) (hx' : x < 1000000000000000000) (hop : op = "+" ∨ op = "-" ∨ op = "*") (hD : ∀ C, D.rt (.bl true) C) : w_law_t6 (wpc pr (n + 2)) D [some s0, some (.str op), some (.int x), some (.int y), none, none, none] C := by
  unfold w_law_t6
  walk_at "ws"
  refine s_op (z := if op = "+" then x + y else if op = "-" then x - y else x * y) hx hx' ?_ ?_
  · rcases hop with rfl | rfl | rfl
    · exact .inl ⟨rfl, by rw [if_pos rfl]⟩
    · exact .inr (.inl ⟨rfl, by rw [if_neg (by decide +kernel), if_pos rfl]⟩)
    · exact .inr (.inr ⟨rfl, by rw [if_neg (by decide +kernel), if_neg (by decide +kernel)]⟩)
  generalize hz : (if op = "+" then x + y else if op = "-" then x - y else x * y) = z
  walk_at "ws"
  refine ⟨true, isT, ?_⟩
  rw [if_neg (by decide)]
  unfold w_law_t5
  refine k_no2 rfl (by rcases hop with rfl | rfl | rfl <;> decide +kernel) (by rcases hop with rfl | rfl | rfl <;> decide +kernel) ?_
  unfold w_law_t4
  walk_at "ws"
  rw [isI, isB]
  refine ⟨true, rfl, ?_⟩
  rw [if_neg (by decide)]
  refine ⟨false, rfl, ?_⟩
  rw [if_neg (by decide)]
  have p : CPow 10 18 := ⟨by decide, by decide, by decide⟩
  have z0 : 0 ≤ z % 1000000000000000000 := Int.emod_nonneg _ (by decide)
  have z1 : z % 1000000000000000000 < 1000000000000000000 := Int.emod_lt_of_pos _ (by decide)
  have z2 : (z - z % 1000000000000000000) % 1000000000000000000 = 0 := by omega
  have fin : w_law_t1 (wpc pr (n + 2)) D [some s0, some (.str op), some (.int x), some (.int y), some (.tup [.str "number", .int (z % 1000000000000000000)]), none, some (.int z)] C := by
    unfold w_law_t1
    walk_at "ws"
    rw [pw18, if_pos z0, if_pos z1, z2]
    exact ⟨p, p, hD _⟩
  unfold w_law_t3
  rcases hop with rfl | rfl | rfl
  · rw [if_pos rfl] at hz
    subst hz
    walk_at "ws"
    unfold w_law_t2
    refine k_no rfl (by decide +kernel) ?_
    exact fin
  · rw [if_neg (by decide +kernel), if_pos rfl] at hz
    subst hz
    walk_at "ws"
    unfold w_law_t2
    refine k_no rfl (by decide +kernel) ?_
    exact fin
  · rw [if_neg (by decide +kernel), if_neg (by decide +kernel)] at hz
    subst hz
    walk_at "ws"
    unfold w_law_t2
    refine k_yes rfl rfl ?_
    walk_at "ws"
    exact ⟨.inl ⟨by omega, by omega⟩, fin⟩
theorem law_true (ns : List Int) (h63 : ns.length ≤ 63) : wpc pr 20 i_law [.cl (ns.map T.int)] (fun _ => none) (fun v _ => v = .bl true) (fun _ _ => False) := by
  refine u_law rfl ?_
  unfold w_law
  walk_at "ws"
  refine s_cell (n := 18) (k := 0) fun c => ?_
  refine ⟨by decide, ?_⟩
  have h0 : 0 ≤ c % 5 := Int.emod_nonneg _ (by decide)
  have h1 : c % 5 < 5 := Int.emod_lt_of_pos _ (by decide)
  have hc : c % 5 = 0 ∨ c % 5 = 1 ∨ c % 5 = 2 ∨ c % 5 = 3 ∨ c % 5 = 4 := by omega
  have key : ∃ op : Str, (∃ ch, atI (Str.ofString "+-*<=").cps.toList (c % 5) = some ch ∧ (⟨#[ch]⟩ : Str) = op) ∧ ((op = "<" ∨ op = "=") ∨ (op = "+" ∨ op = "-" ∨ op = "*")) := by
    rcases hc with e | e | e | e | e <;> rw [e]
    · exact ⟨"+", ⟨_, rfl, rfl⟩, .inr (.inl rfl)⟩
    · exact ⟨"-", ⟨_, rfl, rfl⟩, .inr (.inr (.inl rfl))⟩
    · exact ⟨"*", ⟨_, rfl, rfl⟩, .inr (.inr (.inr rfl))⟩
    · exact ⟨"<", ⟨_, rfl, rfl⟩, .inl (.inl rfl)⟩
    · exact ⟨"=", ⟨_, rfl, rfl⟩, .inl (.inr rfl)⟩
  obtain ⟨op, ⟨ch, e1, rfl⟩, hop⟩ := key
  walk_at "ws"
  refine ⟨_, e1, ?_⟩
  generalize (⟨#[ch]⟩ : Str) = op at hop
  walk_at "ws"
  refine s_cell (n := 18) (k := 1) fun c1 => s_number (n := 18) fun x hx hx' => ?_
  walk_at "ws"
  refine s_cell (n := 18) (k := 2) fun c2 => s_number (n := 18) fun y hy hy' => ?_
  walk_at "ws"
  refine s_cell (n := 18) (k := 0) fun c3 => ?_
  have tl : ∀ (D : We) y, (∀ C, D.rt (.bl true) C) → w_law_t6 (wpc pr 19) D [some (.cl (ns.map T.int)), some (.str op), some (.int x), some (.int y), none, none, none] (fun _ => none) := fun D y hD => by
    rcases hop with hop | hop
    · exact t_cmp (n := 17) hop hD
    · exact t_op (n := 17) hx hx' hop hD
  walk_at "ws"
  refine ⟨⟨by decide, by decide⟩, ?_⟩
  exact ite2 (fun _ => tl _ x fun _ => rfl) fun _ => tl _ y fun _ => rfl
end
end K31
set_option Elab.async false
set_option linter.all false
set_option maxRecDepth 100000
set_option maxHeartbeats 4000000
open PySem PySem.W PyProof.Rows
set_option maxRecDepth 100000 in
set_option maxHeartbeats 0 in
theorem PySem.Challenge.cw_idlegraph_k31_reckoned_holds : PySem.Challenge.rw_idlegraph_k31_reckoned.Holds := by
  w_on; o_law; k_head; (case hw => w_witness2)
  k_fill
  refine L2.walk_ofK (l := PySem.Challenge.rw_idlegraph_k31_reckoned) (n := 63) (k := 20) (x := "_law_script") (CX := L2.CX0) (sp := fun K => WL.spW K K31.pr 20 4) rfl (by decide) rfl ⟨rfl, by decide, by decide⟩ (fun w h Y => PySem.W.kIn_of Y) ?F (fun K H a ns hl hO hS => WL.law_sp hO hS (K31.law_true ns hl)) (fun _ _ _ _ z => z)
  case F =>
    intro w mg fa h KX G hmg
    refine' K31.all_mk KX G hmg ?a0 ?l0 ?c0 ?k0 ?a1 ?l1 ?c1 ?k1 ?a2 ?l2 ?c2 ?k2 ?a3 ?l3 ?c3 ?k3 ?a4 ?l4 ?c4 ?k4 ?z_bool ?z_int ?z_isinstance ?z_len ?z_tuple
    (case a0 => k_is)
    (case l0 => k_is)
    (case c0 => k_is)
    (case k0 => k_is)
    (case a1 => k_is)
    (case l1 => k_is)
    (case c1 => k_is)
    (case k1 => k_is)
    (case a2 => k_is)
    (case l2 => k_is)
    (case c2 => k_is)
    (case k2 => k_is)
    (case a3 => k_is)
    (case l3 => k_is)
    (case c3 => k_is)
    (case k3 => k_is)
    (case a4 => k_is)
    (case l4 => k_is)
    (case c4 => k_is)
    (case k4 => k_is)
    (case z_bool => k_is)
    (case z_int => k_is)
    (case z_isinstance => k_is)
    (case z_len => k_is)
    (case z_tuple => k_is)
#print axioms PySem.Challenge.cw_idlegraph_k31_reckoned_holds