import PyProof.Rows.All
import Wide.All
import OpenK.AllK
import Wide.FinOn
import Lean
import PyProof.EqAt
import PyProof.EqKinds
import PyProof.TupleCall
import KE.KRevIter
import KE.KDictList
import PyProof.StrReplace2
import PyProof.StrCalls6
import PyProof.ZipIter
import PyProof.Draws
import PyProof.DictWalks
import PyProof.Rows.StrIntSpec
import PySem.Challenge.RW_idlegraph_k33_sums
set_option Elab.async false
set_option linter.all false
set_option maxRecDepth 100000
/-! THE HAND LAYER, for ints, bools, texts, own classes, LISTS and tuples (index, slices, in, append, pop ..), calls, loops. Paste it whole ahead of your own text; what your proof does not reach may be deleted. -/
namespace L2
open PySem PySem.Spec PyProof.Rows
/-- a key: an int or a str -/
abbrev Key := Sum Int Str
def keyIs : Key → Value → Bool
  | .inl k, v => Value.isInt k v
  | .inr x, v => Value.isStrOf x v
def keyH (w : World) : Key → Int
  | .inl k => hashInt k
  | .inr x => hashStr w x
theorem keyIs_shape : ∀ {k : Key} {v : Value}, keyIs k v = true → (∃ i t, k = Sum.inl i ∧ v = Value.int i t) ∨ (∃ x t, k = Sum.inr x ∧ v = Value.str x t)
  | .inl i, v, h => by
    obtain ⟨t, e⟩ := Value.isInt_shape (k := i) (v := v) h
    exact .inl ⟨i, t, rfl, e⟩
  | .inr x, v, h => by
    obtain ⟨t, e⟩ := Value.isStrOf_shape (x := x) (v := v) h
    exact .inr ⟨x, t, rfl, e⟩
theorem key_ll (a b : Int) : decide ((Sum.inl a : Key) = Sum.inl b) = (a == b) := by
  by_cases e : a = b
  · subst e; simp
  · have h : ¬ (Sum.inl a : Key) = Sum.inl b := fun q => e (Sum.inl.inj q)
    rw [decide_eq_false h]
    exact (beq_eq_false_iff_ne.mpr e).symm
theorem key_rr (a b : Str) : decide ((Sum.inr a : Key) = Sum.inr b) = decide (a = b) := by
  by_cases e : a = b
  · subst e; simp
  · have h : ¬ (Sum.inr a : Key) = Sum.inr b := fun q => e (Sum.inr.inj q)
    rw [decide_eq_false h, decide_eq_false e]
theorem key_lr (a : Int) (b : Str) : decide ((Sum.inl a : Key) = Sum.inr b) = false := decide_eq_false (fun q => nomatch q)
theorem key_rl (a : Str) (b : Int) : decide ((Sum.inr a : Key) = Sum.inl b) = false := decide_eq_false (fun q => nomatch q)
def mixKind (prog : Program) (w : World) : PySem.KeyKind prog w Key where
  is := keyIs
  hash := keyH w
  inj := fun v a b ha hb => by
    rcases keyIs_shape ha with ⟨i, t, rfl, rfl⟩ | ⟨x, t, rfl, rfl⟩
    · rcases keyIs_shape hb with ⟨j, u, rfl, e⟩ | ⟨y, u, rfl, e⟩
      · injection e with e1 _; rw [e1]
      · exact nomatch e
    · rcases keyIs_shape hb with ⟨j, u, rfl, e⟩ | ⟨y, u, rfl, e⟩
      · exact nomatch e
      · injection e with e1 _; rw [e1]
  byValue := fun k v h => by
    rcases keyIs_shape h with ⟨i, t, rfl, rfl⟩ | ⟨x, t, rfl, rfl⟩ <;> rfl
  pyHash := fun hv h => by
    rcases keyIs_shape hv with ⟨i, t, rfl, rfl⟩ | ⟨x, t, rfl, rfl⟩
    · exact wpAny_pyHash_int h
    · exact wpAny_pyHash_str h
  eqBool := fun hu hv h => by
    rcases keyIs_shape hu with ⟨i, t, rfl, rfl⟩ | ⟨x, t, rfl, rfl⟩
    · rcases keyIs_shape hv with ⟨j, u, rfl, rfl⟩ | ⟨y, u, rfl, rfl⟩
      · rw [key_ll] at h; exact wpAny_eqBool_int h
      · rw [key_lr] at h; exact SeqAt.EqAt.int_str i t y u _ _ _ _ h
    · rcases keyIs_shape hv with ⟨j, u, rfl, rfl⟩ | ⟨y, u, rfl, rfl⟩
      · rw [key_rl] at h; exact SeqAt.EqAt.str_int x t j u _ _ _ _ h
      · rw [key_rr] at h; exact wpAny_eqBool_str h
  «strs» := fun k x t v h => by
    rcases keyIs_shape h with ⟨i, u, rfl, e⟩ | ⟨y, u, rfl, e⟩
    · exact nomatch e
    · injection e with e1 _
      subst e1
      cases v <;> rfl
end L2
namespace L2
open PySem PySem.Spec PyProof.Rows
/-- a value, without the heap -/
inductive V where
  | non | bl (b : Bool) | int (i : Int) | str (x : Str) | byt (b : Array UInt8) | flt (b : UInt64) | ref (a : Addr) | ty (n : String)
  deriving DecidableEq
def RelV : V → Value → Prop
  | .non, u => u = Value.none
  | .bl b, u => u = Value.bool b
  | .int i, u => ∃ t, u = Value.int i t
  | .str x, u => ∃ t, u = Value.str x t
  | .byt b, u => ∃ t, u = Value.bytes b t
  | .flt b, u => ∃ t, u = Value.float b t
  | .ref a, u => u = Value.ref a
  | .ty n, u => u = Value.type n
abbrev Vals : List V → List Value → Prop := Paired RelV
theorem Vals.length {xs : List V} {us : List Value} (r : Vals xs us) : xs.length = us.length := Paired.length r
theorem Vals.get : ∀ {xs : List V} {us : List Value} {i : Nat} {x : V}, Vals xs us → xs[i]? = some x → ∃ u, us[i]? = some u ∧ RelV x u
  | _, _, _, _, .nil, e => by simp at e
  | _, _, 0, _, .cons r _, e => by simp at e; subst e; exact ⟨_, rfl, r⟩
  | _, _, i + 1, x, .cons _ t, e => by
    obtain ⟨u, h1, h2⟩ := Vals.get (i := i) (x := x) t (by simpa using e)
    exact ⟨u, by simpa using h1, h2⟩
theorem Vals.append : ∀ {xs ys : List V} {us ws : List Value}, Vals xs us → Vals ys ws → Vals (xs ++ ys) (us ++ ws)
  | _, _, _, _, .nil, s => s
  | _, _, _, _, .cons r t, s => .cons r (Vals.append t s)
def RelO : Option V → Option Value → Prop
  | some v, some u => RelV v u
  | none, none => True
  | _, _ => False
def KV {κ : Type} : List (κ × V) → List (κ × Value) → Prop := Paired fun (p : κ × V) (q : κ × Value) => p.1 = q.1 ∧ RelV p.2 q.2
/-- a key of a dict (00_mix): an int or a text -/
def kV : Key → V
  | .inl i => .int i
  | .inr x => .str x
/-- what stands at a tracked address -/
inductive HO where
  /-- a list -/
  | lst (xs : List V)
  /-- a tuple (never changes) -/
  | tup (xs : List V)
  /-- a dict whose keys are ints and texts; one whose keys are tuples of ints and texts (the empty one is both) -/
  | dK (kvs : List (Key × V)) | dT (kvs : List (List Key × V))
  /-- a set of ints: its members, its size -/
  | set (S : Int → Bool) (n : Nat)
  /-- an instance of the class at C, its dict at dx, its attributes -/
  | ins (C dx : Addr) (fs : List (Str × V))
  /-- the dict of the instance at x -/
  | own (x : Addr)
  /-- the dict of an exception -/
  | xd (fs : List (Str × V))
  /-- a bound method, f of x -/
  | met (f x : Addr)
  /-- a range object lo, lo + 1, .. below hi -/
  | rng (lo hi : Int)
  /-- a thing that is known to the object (the script; a dict while a loop walks it): read, never written while it is so -/
  | frz (o : Obj) (u : HO)
  /-- a code object's table -/
  | tbl (ps : Array Value)
  /-- any other thing, by what is true of its one object (a def of one's own: SetO a S n := HO.ext fun h => ..) -/
  | ext (φ : Heap → Prop)
abbrev Hp := Addr → Option HO
def upd (H : Hp) (a : Addr) (o : HO) : Hp := fun b => if b = a then some o else H b
theorem upd_same {H : Hp} {a : Addr} {o : HO} : upd H a o a = some o := by unfold upd; rw [if_pos rfl]
theorem upd_ne {H : Hp} {a b : Addr} {o : HO} (h : b ≠ a) : upd H a o b = H b := by unfold upd; rw [if_neg h]
theorem ne_of_none {H : Hp} {a b : Addr} {o : HO} (h : H a = some o) (h' : H b = none) : a ≠ b := by
  intro e; subst e; rw [h] at h'; cases h'
section
variable (P : Program) (w : World)
def ObjOk (H : Hp) (h : Heap) (a : Addr) : HO → Prop
  | .lst xs => xs.length ≤ sizeLine ∧ ∃ (its : List Value) (n : Nat), Vals xs its ∧ h.get? a = some { cls := .type "list", data := .seq its.toArray n }
  | .tup xs => xs.length ≤ sizeLine ∧ ∃ its : List Value, Vals xs its ∧ IsTup h a its.toArray
  | .dK kvs => kvs.length ≤ sizeLine ∧ (a == sysModules) = false ∧ ∃ vs, KV kvs vs ∧ h.DictOf (mixKind P w) a vs
  | .dT kvs => kvs.length ≤ sizeLine ∧ (a == sysModules) = false ∧ ∃ xs : List (List Key × Addr × Value),
      Paired (fun (p : List Key × V) (q : List Key × Addr × Value) => p.1 = q.1 ∧ H q.2.1 = some (.tup (p.1.map kV)) ∧ RelV p.2 q.2.2) kvs xs ∧
      ∃ o es ep, h.get? a = some o ∧ o.ExactDict ∧ o.data = .dict es ep ∧ es.toList = xs.map (entryOfKey (tupleKind (mixKind P w))) ∧ (xs.map (·.1)).Nodup
  | .set S n => h.SetOf (intKind P w) a S n
  | .ins C dx fs => H dx = some (.own a) ∧ fs.length ≤ 1000 ∧ dx ≠ a ∧ h.get? a = some (PySem.W.instObj C dx) ∧
      ∃ mA, h.Ns1 dx mA ∧ (∀ f, RelO (fs.lookup f) (mA f)) ∧ PySem.Within mA (fs.map (·.1))
  | .own _ => ∃ o, h.get? a = some o
  | .xd fs => ∃ mA, h.Ns1 a mA ∧ ∀ f, RelO (fs.lookup f) (mA f)
  | .rng lo hi => ∃ t u v, h.get? a = some { cls := .type "range", data := .fields #[.int lo t, .int hi u, .int 1 v] }
  | .frz o u => h.get? a = some o ∧ ObjOk H h a u
  | .tbl ps => h.get? a = some { cls := .none, data := .fields ps }
  | .met f x => h.get? a = some (PySem.W.methodObj (.ref f) (.ref x))
  | .ext φ => φ h ∧ (∃ o, h.get? a = some o) ∧ ∀ h1 h2 : Heap, φ h1 → (∀ o, h1.get? a = some o → h2.get? a = some o) → φ h2
/-- the abstract heap is held -/
def HOk (H : Hp) (h : Heap) : Prop := ∀ a o, H a = some o → ObjOk P w H h a o
end
section
variable {P : Program} {w : World} {H H' : Hp} {h h' : Heap} {a : Addr} {o : HO}
theorem ObjOk.lt (x : ObjOk P w H h a o) : a < h.objs.size := by
  cases o with
  | lst xs => obtain ⟨_, _, _, _, e⟩ := x; exact Heap.lt_size e
  | tup xs => obtain ⟨_, _, _, p⟩ := x; exact p.lt
  | dK kvs => obtain ⟨_, _, _, _, o, _, _, e, _⟩ := x; exact Heap.lt_size e
  | dT kvs => obtain ⟨_, _, _, _, o, _, _, e, _⟩ := x; exact Heap.lt_size e
  | set S n => obtain ⟨o, _, _, _, e, _⟩ := x; exact Heap.lt_size e
  | ins C dx fs => obtain ⟨_, _, _, e, _⟩ := x; exact Heap.lt_size e
  | own y => obtain ⟨_, e⟩ := x; exact Heap.lt_size e
  | xd fs => obtain ⟨_, ⟨_, _, _, e, _⟩, _⟩ := x; exact Heap.lt_size e
  | rng lo hi => obtain ⟨_, _, _, e⟩ := x; exact Heap.lt_size e
  | frz ob u => obtain ⟨e, _⟩ := x; exact Heap.lt_size e
  | tbl ps => exact Heap.lt_size (show h.get? a = some _ from x)
  | met f y => exact Heap.lt_size (show h.get? a = some _ from x)
  | ext φ => obtain ⟨_, ⟨_, e⟩, _⟩ := x; exact Heap.lt_size e
theorem Paired.mapP {α β : Type} {F G : α → β → Prop} : ∀ {l₁ : List α} {l₂ : List β}, Paired F l₁ l₂ → (∀ a b, F a b → G a b) → Paired G l₁ l₂
  | _, _, .nil, _ => .nil
  | _, _, .cons r t, f => .cons (f _ _ r) (Paired.mapP t f)
/-- what an object's description leans on: its own object, its own dict, the tuples -/
theorem ObjOk.stay (x : ObjOk P w H h a o) (k : ∀ b u, (b = a ∨ H b = some (.own a)) → h.get? b = some u → h'.get? b = some u)
    (ho : ∀ b, H b = some (.own a) → H' b = some (.own a)) (ht : ∀ b xs, H b = some (.tup xs) → H' b = some (.tup xs)) : ObjOk P w H' h' a o := by
  induction o with
  | lst xs => obtain ⟨z, its, n, r, e⟩ := x; exact ⟨z, its, n, r, k _ _ (.inl rfl) e⟩
  | tup xs => obtain ⟨z, its, r, ob, e, c⟩ := x; exact ⟨z, its, r, ob, k _ _ (.inl rfl) e, c⟩
  | dK kvs => obtain ⟨z, y, vs, r, ob, es, ep, e, c⟩ := x; exact ⟨z, y, vs, r, ob, es, ep, k _ _ (.inl rfl) e, c⟩
  | dT kvs =>
    obtain ⟨z, y, xs, r, ob, es, ep, e, c⟩ := x
    exact ⟨z, y, xs, Paired.mapP r fun p q z => ⟨z.1, ht _ _ z.2.1, z.2.2⟩, ob, es, ep, k _ _ (.inl rfl) e, c⟩
  | set S n => obtain ⟨ob, es, ep, t, e, c⟩ := x; exact ⟨ob, es, ep, t, k _ _ (.inl rfl) e, c⟩
  | ins C dx fs =>
    obtain ⟨d, z, ne, e, mA, ⟨od, es, ep, e2, c⟩, r⟩ := x
    exact ⟨ho _ d, z, ne, k _ _ (.inl rfl) e, mA, ⟨od, es, ep, k _ _ (.inr d) e2, c⟩, r⟩
  | own y => obtain ⟨ob, e⟩ := x; exact ⟨ob, k _ _ (.inl rfl) e⟩
  | xd fs => obtain ⟨mA, ⟨od, es, ep, e, c⟩, r⟩ := x; exact ⟨mA, ⟨od, es, ep, k _ _ (.inl rfl) e, c⟩, r⟩
  | rng lo hi => obtain ⟨t, u, v, e⟩ := x; exact ⟨t, u, v, k _ _ (.inl rfl) e⟩
  | frz ob u ih => obtain ⟨e, q⟩ := x; exact ⟨k _ _ (.inl rfl) e, ih q⟩
  | tbl ps =>
    have e : h.get? a = some { cls := .none, data := .fields ps } := x
    show h'.get? a = some { cls := .none, data := .fields ps }
    exact k a _ (.inl rfl) e
  | met f y =>
    have e : h.get? a = some (PySem.W.methodObj (.ref f) (.ref y)) := x
    show h'.get? a = some (PySem.W.methodObj (.ref f) (.ref y))
    exact k a _ (.inl rfl) e
  | ext φ => obtain ⟨p, ⟨o, e⟩, st⟩ := x; exact ⟨st _ _ p fun o q => k _ _ (.inl rfl) q, ⟨o, k _ _ (.inl rfl) e⟩, st⟩
theorem HOk.lt (x : HOk P w H h) (e : H a = some o) : a < h.objs.size := (x a o e).lt
theorem HOk.fresh (x : HOk P w H h) (e : h.objs.size ≤ a) : H a = none := by
  cases q : H a with
  | none => rfl
  | some u => exact absurd (Nat.lt_of_lt_of_le (x.lt q) e) (Nat.lt_irrefl _)
/-- every object of the heap is kept -/
theorem HOk.kept (x : HOk P w H h) (k : ∀ b u, h.get? b = some u → h'.get? b = some u) : HOk P w H h' := fun a o e =>
  (x a o e).stay (fun b u _ q => k b u q) (fun _ q => q) fun _ _ q => q
/-- a new object is laid and tracked -/
theorem HOk.laid (x : HOk P w H h) (k : ∀ b u, h.get? b = some u → h'.get? b = some u) (hp : h.objs.size ≤ a) (new : ObjOk P w (upd H a o) h' a o) : HOk P w (upd H a o) h' := fun b u e => by
  have hn := x.fresh hp
  by_cases hb : b = a
  · subst hb; rw [upd_same] at e; cases e; exact new
  · rw [upd_ne hb] at e
    exact (x b u e).stay (fun c v _ q => k c v q) (fun c q => by rw [upd_ne (ne_of_none q hn)]; exact q) fun c xs q => by rw [upd_ne (ne_of_none q hn)]; exact q
end
/-- what may be read as u: it is u, or a known u -/
def Rd (H : Hp) (a : Addr) (u : HO) : Prop := H a = some u ∨ ∃ o, H a = some (.frz o u)
theorem Rd.ok {P : Program} {w : World} {H : Hp} {h : Heap} {a : Addr} {u : HO} (r : Rd H a u) (x : HOk P w H h) : ObjOk P w H h a u := by
  rcases r with r | ⟨o, r⟩
  · exact x a u r
  · obtain ⟨_, q⟩ := x a _ r
    exact q
/-- what may be written -/
def Mut : Option HO → Prop
  | some (.lst _) => True
  | some (.dK _) => True
  | some (.dT _) => True
  | some (.set _ _) => True
  | some (.ins _ _ _) => True
  | some (.ext _) => True
  | _ => False
section
variable {P : Program} {w : World} {H : Hp} {h h' : Heap} {x e : Addr} {o' : HO}
/-- the object at e is changed: x itself, or the dict of the instance x -/
theorem HOk.write (ok : HOk P w H h) (mu : Mut (H x)) (he : e = x ∨ H e = some (.own x)) (k : ∀ b u, b ≠ e → h.get? b = some u → h'.get? b = some u) (heo : ∃ u, h'.get? e = some u)
    (new : ObjOk P w (upd H x o') h' x o') : HOk P w (upd H x o') h' := fun b u q => by
  have nown : ∀ c y, H c = some (.own y) → c ≠ x := fun c y r z => by subst z; rw [r] at mu; exact mu
  have ntup : ∀ c xs, H c = some (.tup xs) → c ≠ x := fun c xs r z => by subst z; rw [r] at mu; exact mu
  by_cases hb : b = x
  · subst hb; rw [upd_same] at q; cases q; exact new
  · rw [upd_ne hb] at q
    by_cases hbe : b = e
    · have q' : H b = some (.own x) := by
        rcases he with z | z
        · exact absurd (hbe.trans z) hb
        · rw [hbe]; exact z
      rw [q] at q'; cases q'
      obtain ⟨v, hv⟩ := heo
      exact ⟨v, by rw [hbe]; exact hv⟩
    · refine (ok b u q).stay (fun c v hc r => k c v ?_ r) (fun c r => by rw [upd_ne (nown c b r)]; exact r) fun c xs r => by rw [upd_ne (ntup c xs r)]; exact r
      rcases hc with rfl | hc
      · exact hbe
      · rintro rfl
        rcases he with z | z
        · exact nown c b hc z
        · rw [hc] at z; cases z; exact hb rfl
end
/-! ### kept unless tracked; of the frames at fs (the callers') the slots may change (an exception that passes writes there); of the records at ex (iterators) nothing is said -/
structure Un (fs ex : List Addr) (H H' : Hp) (h h' : Heap) : Prop where
  keep : ∀ b o, h.get? b = some o → H b = none → b ∉ fs → b ∉ ex → h'.get? b = some o
  slot : ∀ b o, h.get? b = some o → H b = none → b ∈ fs → b ∉ ex → ∃ sl, h'.get? b = some { o with slots := sl }
  free : ∀ b o, h.get? b = some o → H b = none → b ∉ ex → H' b = none
  there : ∀ b o, h.get? b = some o → b ∉ ex → ∃ o', h'.get? b = some o'
  tups : ∀ b xs, H b = some (.tup xs) → H' b = some (.tup xs)
  frzs : ∀ b o u, H b = some (.frz o u) → H' b = some (.frz o u)
  tbls : ∀ b ps, H b = some (.tbl ps) → ∃ more, H' b = some (.tbl (ps ++ more))
section
variable {fs fs' ex ex' : List Addr} {H H1 H2 : Hp} {h h1 h2 h' : Heap} {a x e : Addr} {o : HO}
theorem Un.any (u : Un fs ex H H1 h h1) {b : Addr} {ob : Obj} (q : h.get? b = some ob) (n : H b = none) (hx : b ∉ ex) : ∃ sl, h1.get? b = some { ob with slots := sl } := by
  by_cases hb : b ∈ fs
  · exact u.slot b ob q n hb hx
  · exact ⟨ob.slots, u.keep b ob q n hb hx⟩
theorem Un.kept (k : ∀ b u, h.get? b = some u → h'.get? b = some u) : Un fs ex H H h h' :=
  ⟨fun b ob q _ _ _ => k b ob q, fun b ob q _ _ _ => ⟨ob.slots, k b ob q⟩, fun _ _ _ n _ => n, fun b ob q _ => ⟨ob, k b ob q⟩, fun _ _ q => q, fun _ _ _ q => q, fun _ ps q => ⟨#[], by rw [q]; simp⟩⟩
theorem Un.refl : Un fs ex H H h h := Un.kept fun _ _ q => q
theorem Un.laid (k : ∀ b u, h.get? b = some u → h'.get? b = some u) (hp : h.objs.size ≤ a) (hn : H a = none) : Un fs ex H (upd H a o) h h' where
  keep := fun b u q _ _ _ => k b u q
  slot := fun b u q _ _ _ => ⟨u.slots, k b u q⟩
  free := fun b u q n _ => by rw [upd_ne (Nat.ne_of_lt (Nat.lt_of_lt_of_le (Heap.lt_size q) hp))]; exact n
  there := fun b u q _ => ⟨u, k b u q⟩
  tups := fun b xs q => by rw [upd_ne (ne_of_none q hn)]; exact q
  frzs := fun b u xs q => by rw [upd_ne (ne_of_none q hn)]; exact q
  tbls := fun b ps q => ⟨#[], by rw [upd_ne (ne_of_none q hn), q]; simp⟩
theorem Un.write (mu : Mut (H x)) (he : e = x ∨ H e = some (.own x)) (k : ∀ b u, b ≠ e → h.get? b = some u → h'.get? b = some u) (heo : ∃ u, h'.get? e = some u) : Un fs ex H (upd H x o) h h' := by
  have hx : ∀ b, H b = none → b ≠ x := fun b n z => by subst z; rw [n] at mu; exact mu
  have hb : ∀ b, H b = none → b ≠ e := fun b n z => by
    subst z
    rcases he with r | r
    · exact hx b n r
    · rw [n] at r; cases r
  have hm : ∀ b u, H b = some u → ¬ Mut (some u) → b ≠ x := fun b u q nm z => by subst z; rw [q] at mu; exact nm mu
  refine ⟨fun b u q n _ _ => k b u (hb b n) q, fun b u q n _ _ => ⟨u.slots, k b u (hb b n) q⟩, fun b u q n _ => by rw [upd_ne (hx b n)]; exact n, fun b u q _ => ?_,
    fun b xs q => by rw [upd_ne (hm b _ q fun z => z)]; exact q, fun b u xs q => by rw [upd_ne (hm b _ q fun z => z)]; exact q, fun b ps q => ⟨#[], by rw [upd_ne (hm b _ q fun z => z), q]; simp⟩⟩
  by_cases hbe : b = e
  · subst hbe; exact heo
  · exact ⟨u, k b u hbe q⟩
end
/-! ### the heap without what is tracked -/
def trk (h : Heap) (H : Hp) : List Addr := (List.range h.objs.size).filter fun a => (H a).isSome
def hidT (h : Heap) (H : Hp) : Heap := PySem.W.hideAll h (trk h H)
theorem hidT_size (h : Heap) (H : Hp) : (hidT h H).objs.size = h.objs.size := PySem.W.hideAll_size _ _
theorem hidT_get {h : Heap} {H : Hp} {b : Addr} {o : Obj} (e : h.get? b = some o) (n : H b = none) : (hidT h H).get? b = some o :=
  PySem.W.hideAll_get _ e fun hm => by
    have q : (H b).isSome = true := (List.mem_filter.mp hm).2
    rw [n] at q; simp at q
theorem of_hidT {h : Heap} {H : Hp} {b : Addr} {o : Obj} (e : (hidT h H).get? b = some o) : h.get? b = some o ∧ H b = none := by
  have e' : h.get? b = some o := PySem.W.of_hideAll (trk h H) e
  refine ⟨e', ?_⟩
  cases q : H b with
  | none => rfl
  | some x =>
    have hm : b ∈ trk h H := List.mem_filter.mpr ⟨List.mem_range.mpr (Heap.lt_size e'), by simp [q]⟩
    have z : (hidT h H).get? b = none := PySem.W.hideAll_none (trk h H) hm
    rw [z] at e; cases e
/-! ### OpenK's ledger, filled with every new object but one -/
def allNews (g h : Heap) (L : Addr) : List (Addr × Obj) := (List.range h.objs.size).filterMap fun a => if a = L ∨ (g.get? a).isSome = true then none else (h.get? a).map fun o => (a, o)
def rest (g h : Heap) (L d : Addr) : List (Addr × Obj) := (allNews g h L).filter fun p => decide (p.1 ≠ d)
end L2
namespace L2
open PySem PySem.Spec PyProof.Rows
/-- the module's facts, over the base: the heap at the law's entry without what is tracked there -/
structure Mod (K : PySem.W.Frag) (mg : Str → Option Value) (base : Heap) : Prop where
  kin : K.In base
  glob : base.Ns mainGlobals mg
  blt : ∃ mb, base.Ns builtinsNs mb ∧ ∀ x : Str, x ≠ "__name__" → mb x = bootBuiltins x
  nolimit : base.NoLimit
/-- the context: a def's body (or a comprehension's block) running. base: fixed through the whole law; s₀, H₀: the entry; outer: the frames whose slots others may change (a def's callers); stack: all frames that run;
   ex: iterators that were made ahead of the entry and are walked here (a comprehension's); fn: the names whose cells were made at the entry (a def: all; a comprehension's block: its own); calm: not within an except suite; pn: pins that every state bears; xe: what is wanted of an exception that leaves the code -/
structure Cx where
  prog : Program
  w : World
  K : PySem.W.Frag
  mg : Str → Option Value
  base : Heap
  A : Around
  N : List Str
  s₀ : Shared
  H₀ : Hp
  env : Env
  outer : List Env
  stack : List Env
  ex : List Addr
  fn : Str → Bool
  calm : Bool
  pn : List (Addr × Obj)
  xe : Value → Shared → Prop
/-- the callers' frames -/
def frs (l : List Env) : List Addr := l.filterMap (·.frame)
abbrev Cx.fs (X : Cx) : List Addr := frs X.outer
def Vis (sc : Scope) (x : Str) : Prop := sc.names.lookup x = some .local ∨ sc.names.lookup x = some .cell ∨ sc.names.lookup x = some .free
def Loc (sc : Scope) (x : Str) : Prop := sc.names.lookup x = some .local ∨ sc.names.lookup x = some .cell
def Look (env : Env) (h : Heap) (m : Str → Option Value) (x : Str) (u : Value) : Prop :=
  (env.kindOf x = some .local ∧ m x = some u) ∨ ((env.kindOf x = some .cell ∨ env.kindOf x = some .free) ∧ ∃ c, env.cells.lookup x = some c ∧ h.IsCell c (some u))
structure Cx.Ok (X : Cx) : Prop where
  mod : Mod X.K X.mg X.base
  kind : X.env.scope.kind = .function
  glob : X.env.globals = mainGlobals
  blt : X.env.builtins = builtinsNs
  above : X.s₀.heap.objs.size ≤ X.env.locals
  inj : ∀ x y c, X.env.cells.lookup x = some c → X.env.cells.lookup y = some c → x = y
  has : ∀ x, (X.env.kindOf x = some .cell ∨ X.env.kindOf x = some .free) → ∃ c, X.env.cells.lookup x = some c
  cab : ∀ x c, X.fn x = true → X.env.cells.lookup x = some c → X.s₀.heap.objs.size ≤ c
  hd : X.calm = true → X.A.handled = none
  frames : X.A.frames = some X.stack
  stk : X.stack = X.outer ∨ (X.stack = X.env :: X.outer ∧ X.env.frame = some X.env.locals)
  exf : ∀ b ∈ X.ex, b ≠ X.env.locals ∧ ∀ x c, X.env.cells.lookup x = some c → c ≠ b
  bs : ∀ b o, X.base.get? b = some o → X.s₀.heap.get? b = some o ∧ X.H₀ b = none
  bsz : X.base.objs.size ≤ X.s₀.heap.objs.size
  noex : ∀ b o, X.base.get? b = some o → b ∉ X.ex
  exfs : ∀ b ∈ X.ex, b ∉ X.fs
  funs : X.s₀.heap.FunFrames X.base X.outer
  frf : ∀ b ∈ X.fs, X.H₀ b = none
structure Inv (X : Cx) (pins : List (Addr × Obj)) (σ : List (Option V)) (H : Hp) (s : Shared) : Prop where
  ok : X.Ok
  os : s.os = X.s₀.os
  bare : AllBare s.gens
  base : Un X.fs X.ex X.H₀ H X.s₀.heap s.heap
  loc : ∃ m, s.heap.Ns X.env.locals m ∧ ∀ (i : Nat) (x : Str) (v : V), X.N[i]? = some x → σ[i]? = some (some v) → Vis X.env.scope x → ∃ u, RelV v u ∧ Look X.env s.heap m x u
  cell : ∀ x c, X.env.cells.lookup x = some c → ∃ v, s.heap.IsCell c v
  free : H X.env.locals = none
  freeC : ∀ x c, X.env.cells.lookup x = some c → H c = none
  pin : ∀ p ∈ X.pn ++ pins, s.heap.get? p.1 = some p.2 ∧ H p.1 = none ∧ p.1 ≠ X.env.locals ∧ p.1 ∉ X.fs ∧ ∀ v, p.2.data ≠ .cell v
  hok : HOk X.prog X.w H s.heap
  len : σ.length = X.N.length
section
variable {X : Cx} {pins : List (Addr × Obj)} {σ : List (Option V)} {H H' : Hp} {s : Shared} {h' : Heap}
theorem Cx.Ok.nofr (ok : X.Ok) {b : Addr} {o : Obj} (e : X.base.get? b = some o) : b ∉ X.fs := fun hb => by
  have := (ok.funs.mem hb).1
  rw [e] at this; cases this
theorem Inv.bs (I : Inv X pins σ H s) : ∀ b o, X.base.get? b = some o → s.heap.get? b = some o ∧ H b = none := fun b o e =>
  ⟨I.base.keep b o (I.ok.bs b o e).1 (I.ok.bs b o e).2 (I.ok.nofr e) (I.ok.noex b o e), I.base.free b o (I.ok.bs b o e).1 (I.ok.bs b o e).2 (I.ok.noex b o e)⟩
theorem Inv.bk (I : Inv X pins σ H s) : ∀ b o, X.base.get? b = some o → s.heap.get? b = some o := fun b o e => (I.bs b o e).1
theorem Inv.mod (I : Inv X pins σ H s) : Mod X.K X.mg X.base := I.ok.mod
theorem Inv.kIn (I : Inv X pins σ H s) : X.K.In s.heap := I.ok.mod.kin.keeps I.bk
theorem Inv.lt (I : Inv X pins σ H s) : X.env.locals < s.heap.objs.size := let ⟨_, hn, _⟩ := I.loc; hn.lt
theorem Inv.sz (I : Inv X pins σ H s) : X.s₀.heap.objs.size ≤ s.heap.objs.size := Nat.le_trans I.ok.above (Nat.le_of_lt I.lt)
theorem Inv.nofs (I : Inv X pins σ H s) {a : Addr} (h : s.heap.objs.size ≤ a) : a ∉ X.fs := fun hb => by
  obtain ⟨_, o, ho, _⟩ := I.ok.funs.mem hb
  exact absurd (Nat.lt_of_lt_of_le (Heap.lt_size ho) (Nat.le_trans I.sz h)) (Nat.lt_irrefl _)
theorem Inv.cne (I : Inv X pins σ H s) : ∀ x c, X.env.cells.lookup x = some c → c ≠ X.env.locals := fun x c e z => by
  obtain ⟨v, o, ho, hd⟩ := I.cell x c e
  obtain ⟨m, ⟨o', es, ep, ho', hd', _⟩, _⟩ := I.loc
  rw [z, ho'] at ho; cases ho; rw [hd'] at hd; cases hd
theorem Inv.funs (I : Inv X pins σ H s) : s.heap.FunFrames X.base X.outer := by
  have all : ∀ (l : List Env), (∀ b ∈ frs l, b ∈ X.fs) → X.s₀.heap.FunFrames X.base l → s.heap.FunFrames X.base l := by
    intro l
    induction l with
    | nil => intro _ _; trivial
    | cons env r ih =>
      intro hs hl
      obtain ⟨hk, ⟨L, o, hf, hn, ho, hd⟩, hr⟩ := hl
      have hL : L ∈ X.fs := hs L (by unfold frs; rw [List.filterMap_cons, hf]; exact List.mem_cons_self)
      obtain ⟨sl, e⟩ := I.base.slot L o ho (I.ok.frf L hL) hL fun z => I.ok.exfs L z hL
      exact ⟨hk, ⟨L, _, hf, hn, e, hd⟩, ih (fun b hb => hs b (by unfold frs; rw [List.filterMap_cons, hf]; exact List.mem_cons_of_mem _ hb)) hr⟩
  exact all X.outer (fun _ hb => hb) I.ok.funs
/-- the frames that run, for a call -/
theorem Inv.stack (I : Inv X pins σ H s) : s.heap.FunFrames X.base X.stack := by
  rcases I.ok.stk with e | ⟨e, hf⟩
  · rw [e]; exact I.funs
  · rw [e]
    obtain ⟨m, hn, _⟩ := I.loc
    refine .cons (by rw [I.ok.kind]; decide) hf hn ?_ I.funs
    exact Heap.get?_none_of_le (Nat.le_trans I.ok.bsz I.ok.above)
theorem Inv.stkSub (I : Inv X pins σ H s) : ∀ b ∈ frs X.stack, b ∈ X.env.locals :: X.fs := fun b hb => by
  rcases I.ok.stk with e | ⟨e, hf⟩
  · rw [e] at hb; exact List.mem_cons_of_mem _ hb
  · rw [e] at hb
    unfold frs at hb
    rw [List.filterMap_cons, hf] at hb
    exact hb
theorem Inv.stkFree (I : Inv X pins σ H s) : ∀ b ∈ frs X.stack, H b = none := fun b hb => by
  rcases List.mem_cons.mp (I.stkSub b hb) with e | hb
  · rw [e]; exact I.free
  · obtain ⟨_, o, ho, _⟩ := I.ok.funs.mem hb
    exact I.base.free b o ho (I.ok.frf b hb) fun z => I.ok.exfs b z hb
/-- THE STEP: the untracked objects but the frame and the records at ch are kept (the callers' frames up to slots), the frame's map is kept, the new abstract heap is held -/
theorem Inv.step {g' : Array GenState} {t' : Nat} {d' : Drawn} {ch : List Addr} (I : Inv X pins σ H s)
    (hch : ∀ b ∈ ch, (b ∈ X.ex ∨ X.s₀.heap.objs.size ≤ b) ∧ b ≠ X.env.locals ∧ (∀ x c, X.env.cells.lookup x = some c → c ≠ b) ∧ ∀ p ∈ X.pn ++ pins, p.1 ≠ b)
    (keep : ∀ b o, b ≠ X.env.locals → b ∉ X.fs → b ∉ ch → s.heap.get? b = some o → H b = none → h'.get? b = some o)
    (slot : ∀ b o, b ≠ X.env.locals → b ∈ X.fs → b ∉ ch → s.heap.get? b = some o → H b = none → ∃ sl, h'.get? b = some { o with slots := sl }) (free : ∀ b o, b ∉ ch → s.heap.get? b = some o → H b = none → H' b = none)
    (there : ∀ b o, b ∉ ch → s.heap.get? b = some o → ∃ o', h'.get? b = some o')
    (tups : ∀ b xs, H b = some (.tup xs) → H' b = some (.tup xs)) (frzs : ∀ b o u, H b = some (.frz o u) → H' b = some (.frz o u)) (tbls : ∀ b ps, H b = some (.tbl ps) → ∃ more, H' b = some (.tbl (ps ++ more)))
    (ns : ∀ m, s.heap.Ns X.env.locals m → h'.Ns X.env.locals m) (hok : HOk X.prog X.w H' h') (hg : AllBare g') :
    Inv X pins σ H' { s with heap := h', gens := g', drawn := d', toks := t' } := by
  have neL : ∀ b o, X.s₀.heap.get? b = some o → b ≠ X.env.locals := fun b o e => Nat.ne_of_lt (Nat.lt_of_lt_of_le (Heap.lt_size e) I.ok.above)
  have neC : ∀ b o, X.s₀.heap.get? b = some o → b ∉ X.ex → b ∉ ch := fun b o e hx hb => by
    rcases (hch b hb).1 with z | z
    · exact hx z
    · exact absurd (Nat.lt_of_lt_of_le (Heap.lt_size e) z) (Nat.lt_irrefl _)
  have cellK : ∀ x c, X.env.cells.lookup x = some c → ∀ v, s.heap.IsCell c v → h'.IsCell c v := fun x c e v ⟨o, ho, hd⟩ => by
    have nch : c ∉ ch := fun z => (hch c z).2.2.1 x c e rfl
    by_cases hc : c ∈ X.fs
    · obtain ⟨sl, q⟩ := slot c o (I.cne x c e) hc nch ho (I.freeC x c e)
      exact ⟨_, q, hd⟩
    · exact ⟨o, keep c o (I.cne x c e) hc nch ho (I.freeC x c e), hd⟩
  refine ⟨I.ok, I.os, hg, ⟨fun b o e n hb hx => ?_, fun b o e n hb hx => ?_, fun b o e n hx => ?_, fun b o e hx => ?_, fun b xs e => tups b xs (I.base.tups b xs e), fun b o xs e => frzs b o xs (I.base.frzs b o xs e), fun b ps e => ?_⟩, ?_, fun x c e => ?_, ?_, fun x c e => ?_, fun p hp => ?_, hok, I.len⟩
  · exact keep b o (neL b o e) hb (neC b o e hx) (I.base.keep b o e n hb hx) (I.base.free b o e n hx)
  · obtain ⟨sl, e1⟩ := I.base.slot b o e n hb hx
    obtain ⟨sl', e2⟩ := slot b _ (neL b o e) hb (neC b o e hx) e1 (I.base.free b o e n hx)
    exact ⟨sl', e2⟩
  · obtain ⟨o', e1⟩ := I.base.there b o e hx
    exact free b o' (neC b o e hx) e1 (I.base.free b o e n hx)
  · obtain ⟨o', e1⟩ := I.base.there b o e hx
    exact there b o' (neC b o e hx) e1
  · obtain ⟨m1, e1⟩ := I.base.tbls b ps e
    obtain ⟨m2, e2⟩ := tbls b _ e1
    exact ⟨m1 ++ m2, by rw [e2, Array.append_assoc]⟩
  · obtain ⟨m, hn, hl⟩ := I.loc
    refine ⟨m, ns m hn, fun i x v e1 e2 e3 => ?_⟩
    obtain ⟨u, r, l⟩ := hl i x v e1 e2 e3
    refine ⟨u, r, ?_⟩
    rcases l with l | ⟨k, c, e, z⟩
    · exact .inl l
    · exact .inr ⟨k, c, e, cellK x c e _ z⟩
  · obtain ⟨v, z⟩ := I.cell x c e
    exact ⟨v, cellK x c e v z⟩
  · obtain ⟨m, ⟨o, _, _, ho, _⟩, _⟩ := I.loc
    exact free _ o (fun z => (hch _ z).2.1 rfl) ho I.free
  · obtain ⟨v, o, ho, hd⟩ := I.cell x c e
    exact free c o (fun z => (hch c z).2.2.1 x c e rfl) ho (I.freeC x c e)
  · obtain ⟨e, n, ne, nf, d⟩ := I.pin p hp
    have nch : p.1 ∉ ch := fun z => (hch p.1 z).2.2.2 p hp rfl
    exact ⟨keep p.1 p.2 ne nf nch e n, free p.1 p.2 nch e n, ne, nf, d⟩
/-- .. where the frame's own object is kept too -/
theorem Inv.un {t' : Nat} (I : Inv X pins σ H s) (u : Un X.fs [] H H' s.heap h') (hok : HOk X.prog X.w H' h') : Inv X pins σ H' { s with heap := h', toks := t' } := by
  obtain ⟨m, ⟨o, es, ep, ho, r⟩, _⟩ := id I.loc
  obtain ⟨sl, hL⟩ := u.any ho I.free (by simp)
  exact I.step (g' := s.gens) (d' := s.drawn) (ch := []) (fun _ z => nomatch z) (fun b o _ hb _ e n => u.keep b o e n hb (by simp)) (fun b o _ hb _ e n => u.slot b o e n hb (by simp)) (fun b o _ e n => u.free b o e n (by simp)) (fun b o _ e => u.there b o e (by simp)) u.tups u.frzs u.tbls (fun m' hm => by
    obtain ⟨o', es', ep', ho', r'⟩ := hm
    rw [ho] at ho'; cases ho'
    exact ⟨_, es', ep', hL, r'⟩) hok I.bare
/-- behind a call (or a comprehension's block): the slots of this frame may have changed too, the records at ch may have turned -/
theorem Inv.call {g' : Array GenState} {t' : Nat} {d' : Drawn} {ch : List Addr} (I : Inv X pins σ H s) (u : Un (frs X.stack) ch H H' s.heap h') (hok : HOk X.prog X.w H' h') (hg : AllBare g')
    (hch : ∀ b ∈ ch, (b ∈ X.ex ∨ X.s₀.heap.objs.size ≤ b) ∧ b ≠ X.env.locals ∧ (∀ x c, X.env.cells.lookup x = some c → c ≠ b) ∧ ∀ p ∈ X.pn ++ pins, p.1 ≠ b) :
    Inv X pins σ H' { s with heap := h', gens := g', drawn := d', toks := t' } := by
  obtain ⟨m, ⟨o, es, ep, ho, r⟩, _⟩ := id I.loc
  obtain ⟨sl, hL⟩ := u.any ho I.free fun z => (hch _ z).2.1 rfl
  exact I.step (ch := ch) hch (fun b o hL hb hc e n => u.keep b o e n (fun z => (List.mem_cons.mp (I.stkSub b z)).elim hL hb) hc) (fun b o _ _ hc e n => u.any e n hc) (fun b o hc e n => u.free b o e n hc) (fun b o hc e => u.there b o e hc) u.tups u.frzs u.tbls (fun m' hm => by
    obtain ⟨o', es', ep', ho', r'⟩ := hm
    rw [ho] at ho'; cases ho'
    exact ⟨_, es', ep', hL, r'⟩) hok hg
/-- an untracked record of ours (an iterator) has turned -/
theorem Inv.turned {t' : Nat} {it : Addr} (I : Inv X pins σ H s) (k : ∀ b o, b ≠ it → s.heap.get? b = some o → h'.get? b = some o) (hn : H it = none) (hL : it ≠ X.env.locals)
    (h1 : it ∈ X.ex ∨ X.s₀.heap.objs.size ≤ it) (h2 : ∀ x c, X.env.cells.lookup x = some c → c ≠ it) (h3 : ∀ p ∈ X.pn ++ pins, p.1 ≠ it) : Inv X pins σ H { s with heap := h', toks := t' } := by
  have nit : ∀ b u, H b = some u → b ≠ it := fun b u e z => by rw [z, hn] at e; cases e
  refine I.step (g' := s.gens) (d' := s.drawn) (ch := [it]) (fun b hb => ?_) (fun b o _ _ hc e _ => k b o (fun z => hc (by simp [z])) e) (fun b o _ _ hc e _ => ⟨o.slots, k b o (fun z => hc (by simp [z])) e⟩) (fun _ _ _ _ n => n)
    (fun b o hc e => ⟨o, k b o (fun z => hc (by simp [z])) e⟩) (fun _ _ e => e) (fun _ _ _ e => e) (fun b ps e => ⟨#[], by rw [e]; simp⟩) (fun m hm => ?_) (fun b u e => ?_) I.bare
  · have e : b = it := by simpa using hb
    subst e
    exact ⟨h1, hL, h2, h3⟩
  · obtain ⟨o, es, ep, ho, r⟩ := hm
    exact ⟨o, es, ep, k _ o (Ne.symm hL) ho, r⟩
  · refine (I.hok b u e).stay (fun c v hc q => k c v ?_ q) (fun _ q => q) fun _ _ q => q
    rcases hc with z | z
    · rw [z]; exact nit b u e
    · exact nit c _ z
theorem Inv.tok (I : Inv X pins σ H s) (t : Nat) : Inv X pins σ H { s with toks := t } := I.un (h' := s.heap) (t' := t) Un.refl I.hok
/-- all objects kept -/
theorem Inv.kept {t' : Nat} (I : Inv X pins σ H s) (k : ∀ b u, s.heap.get? b = some u → h'.get? b = some u) : Inv X pins σ H { s with heap := h', toks := t' } := I.un (Un.kept k) (I.hok.kept k)
/-- a new object laid and tracked -/
theorem Inv.laid {a : Addr} {o : HO} {t' : Nat} (I : Inv X pins σ H s) (k : ∀ b u, s.heap.get? b = some u → h'.get? b = some u) (hp : s.heap.objs.size ≤ a) (new : ObjOk X.prog X.w (upd H a o) h' a o) :
    Inv X pins σ (upd H a o) { s with heap := h', toks := t' } := I.un (Un.laid k hp (I.hok.fresh hp)) (I.hok.laid k hp new)
/-- an object written -/
theorem Inv.write {x e : Addr} {o : HO} {t' : Nat} (I : Inv X pins σ H s) (mu : Mut (H x)) (he : e = x ∨ H e = some (.own x)) (k : ∀ b u, b ≠ e → s.heap.get? b = some u → h'.get? b = some u) (heo : ∃ u, h'.get? e = some u)
    (new : ObjOk X.prog X.w (upd H x o) h' x o) : Inv X pins σ (upd H x o) { s with heap := h', toks := t' } := I.un (Un.write mu he k heo) (I.hok.write mu he k heo new)
theorem Inv.pins_of {pins' : List (Addr × Obj)} (I : Inv X pins σ H s) (h : ∀ p ∈ pins', s.heap.get? p.1 = some p.2 ∧ H p.1 = none ∧ p.1 ≠ X.env.locals ∧ p.1 ∉ X.fs ∧ ∀ v, p.2.data ≠ .cell v) : Inv X pins' σ H s :=
  ⟨I.ok, I.os, I.bare, I.base, I.loc, I.cell, I.free, I.freeC, fun p hp => (List.mem_append.mp hp).elim (fun z => I.pin p (List.mem_append_left _ z)) (h p), I.hok, I.len⟩
theorem nodup_ix {N : List Str} (hN : N.Nodup) {i j : Nat} {x : Str} (a : N[i]? = some x) (b : N[j]? = some x) : i = j := by
  obtain ⟨h1, e1⟩ := List.getElem?_eq_some_iff.mp a
  obtain ⟨h2, e2⟩ := List.getElem?_eq_some_iff.mp b
  exact (List.getElem_inj hN).mp (e1.trans e2.symm)
/-- a name is stored; what changed -/
theorem store_ok2 {M : Model} {A : Around} {E : Value → Shared → Prop} {i : Nat} {x : Str} {v : V} {u : Value} {Q : Unit → Shared → Prop} (I : Inv X pins σ H s) (hN : X.N.Nodup) (hi : X.N[i]? = some x) (hx : Loc X.env.scope x) (r : RelV v u)
    (h : ∀ s', Inv X pins (σ.set i (some v)) H s' → (∃ a, Heap.SameBut a s.heap s'.heap ∧ (a = X.env.locals ∨ X.env.cells.lookup x = some a)) → Q () s') (hf : X.fn x = true ∨ X.env.scope.names.lookup x = some .local := by first | exact .inl rfl | exact .inr rfl | assumption) : wpAny M A (storeName X.env x u) Q E s := by
  obtain ⟨m, hn, hl⟩ := id I.loc
  have hcls : (X.env.scope.kind == .class || (X.env.scope.kind == .module && X.env.locals != X.env.globals)) = false := by rw [I.ok.kind]; rfl
  have hiσ : i < σ.length := by rw [I.len]; exact (List.getElem?_eq_some_iff.mp hi).1
  have cne := I.cne
  have tracked : ∀ {a : Addr} {h' : Heap}, (∃ o, s.heap.get? a = some o ∧ H a = none) → Heap.SameBut a s.heap h' → HOk X.prog X.w H h' := fun {a h'} ha hs b ob e => by
    obtain ⟨_, _, hfree⟩ := ha
    refine (I.hok b ob e).stay (fun c w' hc q => (hs.2 c ?_).trans q) (fun _ q => q) fun _ _ q => q
    rintro rfl
    rcases hc with rfl | hc
    · rw [hfree] at e; cases e
    · rw [hfree] at hc; cases hc
  rcases hx with hk | hk
  · refine wpAny_storeName_local hk hn (fun h' hn' hs => ?_) hcls
    obtain ⟨oL, _, _, hoL, _⟩ := id hn
    refine h _ ⟨I.ok, I.os, I.bare, ⟨fun b o e n hb hx => ?_, fun b o e n hb hx => ?_, I.base.free, fun b o e hx => ?_, I.base.tups, I.base.frzs, I.base.tbls⟩, ⟨_, hn', fun j y v' e1 e2 e3 => ?_⟩, fun y c e => ?_, I.free, I.freeC, fun p hp => ?_, tracked ⟨oL, hoL, I.free⟩ hs, by simpa using I.len⟩ ⟨_, hs, .inl rfl⟩
    · exact (hs.2 b (Nat.ne_of_lt (Nat.lt_of_lt_of_le (Heap.lt_size e) I.ok.above))).trans (I.base.keep b o e n hb hx)
    · obtain ⟨sl, e1⟩ := I.base.slot b o e n hb hx
      exact ⟨sl, (hs.2 b (Nat.ne_of_lt (Nat.lt_of_lt_of_le (Heap.lt_size e) I.ok.above))).trans e1⟩
    · obtain ⟨o', e1⟩ := I.base.there b o e hx
      exact ⟨o', (hs.2 b (Nat.ne_of_lt (Nat.lt_of_lt_of_le (Heap.lt_size e) I.ok.above))).trans e1⟩
    · by_cases hj : j = i
      · subst hj
        rw [hi] at e1; cases e1
        rw [List.getElem?_set_self hiσ] at e2
        cases e2
        exact ⟨u, r, .inl ⟨hk, by simp⟩⟩
      · rw [List.getElem?_set_ne (Ne.symm hj)] at e2
        obtain ⟨u', r', q⟩ := hl j y v' e1 e2 e3
        refine ⟨u', r', ?_⟩
        rcases q with ⟨k, e⟩ | ⟨k, c, e, z⟩
        · refine .inl ⟨k, ?_⟩
          have : y ≠ x := fun e => hj (nodup_ix hN e1 (e ▸ hi))
          simp [this, e]
        · exact .inr ⟨k, c, e, z.sameBut hs (cne y c e)⟩
    · obtain ⟨w', z⟩ := I.cell y c e
      exact ⟨w', z.sameBut hs (cne y c e)⟩
    · obtain ⟨e, n, ne, nf, d⟩ := I.pin p hp
      exact ⟨(hs.2 p.1 ne).trans e, n, ne, nf, d⟩
  · have hfn : X.fn x = true := by
      rcases hf with z | z
      · exact z
      · rw [z] at hk; cases hk
    obtain ⟨c, hc⟩ := I.ok.has x (.inl hk)
    obtain ⟨w', z⟩ := I.cell x c hc
    refine wpAny_storeName_cell I.ok.kind hk hc z (fun h' hc' hs => ?_)
    obtain ⟨oc, hoc, hocd⟩ := id z
    refine h { s with heap := h' } ⟨I.ok, I.os, I.bare, ⟨fun b o e n hb hx => ?_, fun b o e n hb hx => ?_, I.base.free, fun b o e hx => ?_, I.base.tups, I.base.frzs, I.base.tbls⟩, ⟨m, hn.sameBut hs (Ne.symm (cne x c hc)), fun j y v' e1 e2 e3 => ?_⟩, fun y c' e => ?_, I.free, I.freeC, fun p hp => ?_, tracked ⟨oc, hoc, I.freeC x c hc⟩ hs, by simpa using I.len⟩ ⟨c, hs, .inr hc⟩
    · exact (hs.2 b (Nat.ne_of_lt (Nat.lt_of_lt_of_le (Heap.lt_size e) (I.ok.cab x c hfn hc)))).trans (I.base.keep b o e n hb hx)
    · obtain ⟨sl, e1⟩ := I.base.slot b o e n hb hx
      exact ⟨sl, (hs.2 b (Nat.ne_of_lt (Nat.lt_of_lt_of_le (Heap.lt_size e) (I.ok.cab x c hfn hc)))).trans e1⟩
    · obtain ⟨o', e1⟩ := I.base.there b o e hx
      exact ⟨o', (hs.2 b (Nat.ne_of_lt (Nat.lt_of_lt_of_le (Heap.lt_size e) (I.ok.cab x c hfn hc)))).trans e1⟩
    · by_cases hj : j = i
      · subst hj
        rw [hi] at e1; cases e1
        rw [List.getElem?_set_self hiσ] at e2
        cases e2
        exact ⟨u, r, .inr ⟨.inl hk, c, hc, hc'⟩⟩
      · rw [List.getElem?_set_ne (Ne.symm hj)] at e2
        obtain ⟨u', r', q⟩ := hl j y v' e1 e2 e3
        refine ⟨u', r', ?_⟩
        rcases q with q | ⟨k, c', e, z'⟩
        · exact .inl q
        · refine .inr ⟨k, c', e, z'.sameBut hs ?_⟩
          rintro rfl
          exact hj (nodup_ix hN e1 (I.ok.inj _ _ _ e hc ▸ hi))
    · by_cases hcc : c' = c
      · subst hcc; exact ⟨_, hc'⟩
      · obtain ⟨w2, z2⟩ := I.cell y c' e
        exact ⟨w2, z2.sameBut hs hcc⟩
    · obtain ⟨e, n, ne, nf, d⟩ := I.pin p hp
      refine ⟨(hs.2 p.1 ?_).trans e, n, ne, nf, d⟩
      intro q
      rw [q, hoc] at e
      have q' : oc = p.2 := Option.some.inj e
      exact d w' (by rw [← q']; exact hocd)
theorem store_ok {M : Model} {A : Around} {E : Value → Shared → Prop} {i : Nat} {x : Str} {v : V} {u : Value} {Q : Unit → Shared → Prop} (I : Inv X pins σ H s) (hN : X.N.Nodup) (hi : X.N[i]? = some x) (hx : Loc X.env.scope x) (r : RelV v u)
    (h : ∀ s', Inv X pins (σ.set i (some v)) H s' → Q () s') (hf : X.fn x = true ∨ X.env.scope.names.lookup x = some .local := by first | exact .inl rfl | exact .inr rfl | assumption) : wpAny M A (storeName X.env x u) Q E s :=
  store_ok2 I hN hi hx r (fun s' I' _ => h s' I') hf
end
/-! ### the judgements -/
/-- an exception: its class, its own dict's address (where it has one), the abstract heap behind it -/
abbrev XK := Value → Option Addr → Hp → Prop
abbrev St := List (Option V)
abbrev VK := V → Hp → Prop
/-- an expression's reading; a test's; an argument list's -/
abbrev TE := St → Hp → VK → Prop
abbrev TT := St → Hp → (Bool → Hp → Prop) → Prop
abbrev TA := St → Hp → (List V → Hp → Prop) → Prop
/-- what is wanted behind a statement -/
structure Ends where
  nx : St → Hp → Prop
  rt : VK
  bk : St → Hp → Prop := fun _ _ => False
  ct : St → Hp → Prop := fun _ _ => False
abbrev TS := Ends → St → Hp → Prop
def EP (X : Cx) (pins : List (Addr × Obj)) (σ : St) (Q : VK) (u : Value) (s' : Shared) : Prop := ∃ v H', Inv X pins σ H' s' ∧ RelV v u ∧ Q v H'
def TP (X : Cx) (pins : List (Addr × Obj)) (σ : St) (Q : Bool → Hp → Prop) (b : Bool) (s' : Shared) : Prop := ∃ H', Inv X pins σ H' s' ∧ Q b H'
def AP (X : Cx) (pins : List (Addr × Obj)) (σ : St) (Q : List V → Hp → Prop) (us : List Value) (s' : Shared) : Prop := ∃ vs H', Inv X pins σ H' s' ∧ Vals vs us ∧ Q vs H'
def SP (X : Cx) (pins : List (Addr × Obj)) (D : Ends) (f : Flow) (s' : Shared) : Prop :=
  match f with
  | .next => ∃ σ' H', Inv X pins σ' H' s' ∧ D.nx σ' H'
  | .brk => ∃ σ' H', Inv X pins σ' H' s' ∧ D.bk σ' H'
  | .cont => ∃ σ' H', Inv X pins σ' H' s' ∧ D.ct σ' H'
  | .ret u => ∃ v σ' H', Inv X pins σ' H' s' ∧ RelV v u ∧ D.rt v H'
def PE (X : Cx) (e : Expr) (t : TE) : Prop :=
  ∀ (pins : List (Addr × Obj)) (s : Shared) (σ : St) (H : Hp) (Q : VK), Inv X pins σ H s → t σ H Q → wpAny (model X.prog X.w) X.A (eval e X.env) (EP X pins σ Q) X.xe s
def PT (X : Cx) (e : Expr) (t : TT) : Prop :=
  ∀ (pins : List (Addr × Obj)) (s : Shared) (σ : St) (H : Hp) (Q : Bool → Hp → Prop), Inv X pins σ H s → t σ H Q → wpAny (model X.prog X.w) X.A (isTrue e X.env (eval e X.env)) (TP X pins σ Q) X.xe s
/-- a test whatever its 'whole' is (and, or) -/
def PW (X : Cx) (e : Expr) (t : TT) : Prop :=
  ∀ (whole : Sem Value) (pins : List (Addr × Obj)) (s : Shared) (σ : St) (H : Hp) (Q : Bool → Hp → Prop), Inv X pins σ H s → t σ H Q → wpAny (model X.prog X.w) X.A (isTrue e X.env whole) (TP X pins σ Q) X.xe s
theorem PW.pt {X : Cx} {e : Expr} {t : TT} (h : PW X e t) : PT X e t := h _
/-- an argument list (no star), from the left -/
def PA (X : Cx) (es : List Expr) (t : TA) : Prop :=
  ∀ (pos : Pos) (pins : List (Addr × Obj)) (s : Shared) (σ : St) (H : Hp) (Q : List V → Hp → Prop), Inv X pins σ H s → t σ H Q → wpAny (model X.prog X.w) X.A (spliced (backTo pos (starEach es X.env))) (AP X pins σ Q) X.xe s
def PS (X : Cx) (st : Stmt) (t : TS) : Prop :=
  ∀ (pins : List (Addr × Obj)) (s : Shared) (σ : St) (H : Hp) (D : Ends), Inv X pins σ H s → t D σ H → wpAny (model X.prog X.w) X.A (exec st X.env) (SP X pins D) X.xe s
def PSs (X : Cx) (st : List Stmt) (t : TS) : Prop :=
  ∀ (pins : List (Addr × Obj)) (s : Shared) (σ : St) (H : Hp) (D : Ends), Inv X pins σ H s → t D σ H → wpAny (model X.prog X.w) X.A (execs st X.env) (SP X pins D) X.xe s
/-- weaken the end -/
theorem thn {α : Type} {t : Sem α} {Q Q' : α → Shared → Prop} {M : Model} {A : Around} {E : Value → Shared → Prop} {s : Shared} (h : wpAny M A t Q E s) (hQ : ∀ a s, Q a s → Q' a s) : wpAny M A t Q' E s := wpAny_mono h hQ fun _ _ x => x
end L2
namespace L2
open PySem PySem.Spec PyProof.Rows
section
variable {X : Cx}
/-! ### names and constants -/
def tVar (i : Nat) : TE := fun σ H Q => ∃ v, σ[i]? = some (some v) ∧ Q v H
def tC (v : V) : TE := fun _ H Q => Q v H
theorem pe_var {i : Nat} {x : Str} {pos : Pos} (hN : X.N[i]? = some x) (hv : Vis X.env.scope x) (hd : (x == ("__debug__" : Str)) = false := by decide) (hcd : (x == ("__classdict__" : Str)) = false := by decide) : PE X (.Name x pos) (tVar i) := by
  intro pins s σ H Q I h
  obtain ⟨v, e, h⟩ := h
  obtain ⟨m, hn, hl⟩ := I.loc
  obtain ⟨u, r, l⟩ := hl i x v hN e hv
  have fin : EP X pins σ Q u s := ⟨v, H, I, r, h⟩
  rcases l with ⟨hk, hm⟩ | ⟨hk, c, hc, hcell⟩
  · exact wpAny_Name (wpAny_loadName_local I.ok.kind hk hn hm fin) hd
  · rcases hk with hk | hk
    · exact wpAny_Name (wpAny_loadName_cell I.ok.kind hk hc hcell fin) hd
    · exact wpAny_Name (wpAny_loadName_free I.ok.kind hk hc hcell fin hcd) hd
theorem pe_int {i j pos} : PE X (.Constant (.int i) j pos) (tC (.int i)) := fun _ _ _ H _ I h => wpAny_Constant_int ⟨.int i, H, I.tok _, ⟨_, rfl⟩, h⟩
theorem pe_bl {b j pos} : PE X (.Constant (.bool b) j pos) (tC (.bl b)) := fun _ _ _ H _ I h => Constant_bool ⟨.bl b, H, I, rfl, h⟩
theorem pe_non {j pos} : PE X (.Constant .none j pos) (tC .non) := fun _ _ _ H _ I h => Constant_none ⟨.non, H, I, rfl, h⟩
theorem pe_str {x j pos} : PE X (.Constant (.str x) j pos) (tC (.str x)) := fun _ _ _ H _ I h => Calls.Constant_str ⟨.str x, H, I.tok _, ⟨_, rfl⟩, h⟩
/-- a global name of the def -/
def Gl (X : Cx) (x : Str) : Prop := X.env.kindOf x = some .globalImplicit
theorem ld_glob {E : Value → Shared → Prop} {pins : List (Addr × Obj)} {s : Shared} {σ : St} {H : Hp} {x : Str} {u : Value} {pos : Pos} {Q : Value → Shared → Prop} (I : Inv X pins σ H s) (hg : Gl X x) (hm : X.mg x = some u) (h : Q u s)
    (hd : (x == ("__debug__" : Str)) = false := by decide) : wpAny (model X.prog X.w) X.A (eval (.Name x pos) X.env) Q E s :=
  Calls.Name_function_global I.ok.kind hg (Calls.loadGlobal_global (by rw [I.ok.glob]; exact I.mod.glob.keeps I.bk) hm h) hd
theorem ld_blt {E : Value → Shared → Prop} {pins : List (Addr × Obj)} {s : Shared} {σ : St} {H : Hp} {x : Str} {u : Value} {pos : Pos} {Q : Value → Shared → Prop} (I : Inv X pins σ H s) (hg : Gl X x) (hm : X.mg x = none) (hv : bootBuiltins x = some u) (h : Q u s)
    (hn : x ≠ "__name__" := by decide) (hd : (x == ("__debug__" : Str)) = false := by decide) : wpAny (model X.prog X.w) X.A (eval (.Name x pos) X.env) Q E s := by
  obtain ⟨mb, h1, h2⟩ := I.mod.blt
  exact Calls.Name_function_global I.ok.kind hg (Calls.loadGlobal_builtin (by rw [I.ok.glob]; exact I.mod.glob.keeps I.bk) hm (by rw [I.ok.blt]; exact h1.keeps I.bk) ((h2 x hn).trans hv) h) hd
/-- a module's constant, a class, a function, as a value -/
theorem pe_glob {x : Str} {v : V} {u : Value} {pos : Pos} (hg : Gl X x) (hm : X.mg x = some u) (r : RelV v u) (hd : (x == ("__debug__" : Str)) = false := by decide) : PE X (.Name x pos) (tC v) :=
  fun _ _ _ H _ I h => ld_glob I hg hm ⟨v, H, I, r, h⟩ hd
theorem pe_bltn {x : Str} {v : V} {u : Value} {pos : Pos} (hg : Gl X x) (hm : X.mg x = none) (hv : bootBuiltins x = some u) (r : RelV v u) (hn : x ≠ "__name__" := by decide) (hd : (x == ("__debug__" : Str)) = false := by decide) : PE X (.Name x pos) (tC v) :=
  fun _ _ _ H _ I h => ld_blt I hg hm hv ⟨v, H, I, r, h⟩ hn hd
/-! ### arithmetic -/
/-- two ints -/
def t2I (ta tb : TE) (k : Int → Int → Hp → Prop) : St → Hp → Prop := fun σ H => ta σ H fun x H1 => tb σ H1 fun y H2 => ∃ i j, x = .int i ∧ y = .int j ∧ k i j H2
def tAdd (ta tb : TE) : TE := fun σ H Q => t2I ta tb (fun i j H2 => Q (.int (i + j)) H2) σ H
def tSub (ta tb : TE) : TE := fun σ H Q => t2I ta tb (fun i j H2 => Q (.int (i - j)) H2) σ H
/-- the left factor below 2^64 -/
def tMul (ta tb : TE) : TE := fun σ H Q => t2I ta tb (fun i j H2 => (-(2 ^ 64) < i ∧ i < 2 ^ 64) ∧ Q (.int (i * j)) H2) σ H
variable {a b : Expr} {ta tb : TE} {pos : Pos}
/-! ### comparisons -/
def PC (X : Cx) (op : CmpOp) (a b : Expr) (t : TE) : Prop :=
  ∀ (pins : List (Addr × Obj)) (s : Shared) (σ : St) (H : Hp) (Q : VK), Inv X pins σ H s → t σ H Q →
    wpAny (model X.prog X.w) X.A (eval a X.env) (fun v s₁ => wpAny (model X.prog X.w) X.A (eval b X.env) (fun u s₂ => wpAny (model X.prog X.w) X.A (compareOp op v u) (EP X pins σ Q) X.xe s₂) X.xe s₁) X.xe s
def tCmp (p : Int → Int → Bool) (ta tb : TE) : TE := fun σ H Q => t2I ta tb (fun i j H2 => Q (.bl (p i j)) H2) σ H
abbrev tLt : TE → TE → TE := tCmp fun i j => decide (i < j)
abbrev tLe : TE → TE → TE := tCmp fun i j => decide (i ≤ j)
abbrev tGt : TE → TE → TE := tCmp fun i j => decide (j < i)
abbrev tGe : TE → TE → TE := tCmp fun i j => decide (j ≤ i)
abbrev tEqI : TE → TE → TE := tCmp fun i j => decide (i = j)
abbrev tNeI : TE → TE → TE := tCmp fun i j => !decide (i = j)
/-- is None -/
def tIsN (ta : TE) : TE := fun σ H Q => ta σ H fun x H1 => Q (.bl (decide (x = .non))) H1
def tNotN (ta : TE) : TE := fun σ H Q => ta σ H fun x H1 => Q (.bl (!decide (x = .non))) H1
/-- a comparison as a value, as a test -/
def tB (t : TE) : TT := fun σ H Q => t σ H fun x H1 => ∃ c, x = .bl c ∧ Q c H1
/-! ### and, or, not -/
variable {tA tB' : TT} {rest : List Expr}
def tAnd (t u : TT) : TT := fun σ H Q => t σ H fun c H1 => if c = true then u σ H1 Q else Q false H1
def tOr (t u : TT) : TT := fun σ H Q => t σ H fun c H1 => if c = true then Q true H1 else u σ H1 Q
def tNot (t : TT) : TT := fun σ H Q => t σ H fun c H1 => Q (!c) H1
theorem pw_and1 (ha : PT X a tA) : PW X (.BoolOp .And [a] pos) tA := by
  intro wh pins s σ H Q I h
  refine isTrue_and (thn (ha pins s σ H Q I h) fun c s1 e => ?_)
  cases c with
  | true => exact isTrue_and_nil e
  | false => exact e
theorem pw_or1 (ha : PT X a tA) : PW X (.BoolOp .Or [a] pos) tA := by
  intro wh pins s σ H Q I h
  refine isTrue_or (thn (ha pins s σ H Q I h) fun c s1 e => ?_)
  cases c with
  | false => exact isTrue_or_nil e
  | true => exact e
theorem pw_and (ha : PT X a tA) (hb : PW X (.BoolOp .And (b :: rest) pos) tB') : PW X (.BoolOp .And (a :: b :: rest) pos) (tAnd tA tB') := by
  intro wh pins s σ H Q I h
  refine isTrue_and (thn (ha pins s σ H _ I h) fun c s1 ⟨H1, I1, q1⟩ => ?_)
  cases c with
  | true => exact hb wh pins s1 σ H1 Q I1 q1
  | false => exact ⟨H1, I1, q1⟩
theorem pw_or (ha : PT X a tA) (hb : PW X (.BoolOp .Or (b :: rest) pos) tB') : PW X (.BoolOp .Or (a :: b :: rest) pos) (tOr tA tB') := by
  intro wh pins s σ H Q I h
  refine isTrue_or (thn (ha pins s σ H _ I h) fun c s1 ⟨H1, I1, q1⟩ => ?_)
  cases c with
  | true => exact ⟨H1, I1, q1⟩
  | false => exact hb wh pins s1 σ H1 Q I1 q1
theorem pt_not (ha : PT X a tA) : PT X (.UnaryOp .Not a pos) (tNot tA) := by
  intro pins s σ H Q I h
  exact isTrue_not (ha pins s σ H (fun c H1 => Q (!c) H1) I h)
/-- .. as values (bools) -/
def tAndV (ta tb : TE) : TE := fun σ H Q => ta σ H fun x H1 => ∃ c, x = .bl c ∧ if c = true then tb σ H1 Q else Q (.bl false) H1
def tOrV (ta tb : TE) : TE := fun σ H Q => ta σ H fun x H1 => ∃ c, x = .bl c ∧ if c = true then Q (.bl true) H1 else tb σ H1 Q
def tNotV (ta : TE) : TE := fun σ H Q => ta σ H fun x H1 => ∃ c, x = .bl c ∧ Q (.bl (!c)) H1
theorem pe_one {op} {t : TE} (h : PE X a t) : PE X (.BoolOp op [a] pos) t := fun pins s σ H Q I hw => BoolOp_one (h pins s σ H Q I hw)
theorem pe_and (ha : PE X a ta) (hb : PE X (.BoolOp .And (b :: rest) pos) tb) : PE X (.BoolOp .And (a :: b :: rest) pos) (tAndV ta tb) := by
  intro pins s σ H Q I h
  refine BoolOp_and (thn (ha pins s σ H _ I h) fun v s1 ⟨x, H1, I1, r1, q1⟩ => ?_)
  obtain ⟨c, rfl, q1⟩ := q1
  cases r1
  refine wpAny_truthy_bool ?_
  cases c with
  | true => exact hb pins s1 σ H1 Q I1 q1
  | false => exact ⟨.bl false, H1, I1, rfl, q1⟩
theorem pe_or (ha : PE X a ta) (hb : PE X (.BoolOp .Or (b :: rest) pos) tb) : PE X (.BoolOp .Or (a :: b :: rest) pos) (tOrV ta tb) := by
  intro pins s σ H Q I h
  refine BoolOp_or (thn (ha pins s σ H _ I h) fun v s1 ⟨x, H1, I1, r1, q1⟩ => ?_)
  obtain ⟨c, rfl, q1⟩ := q1
  cases r1
  refine wpAny_truthy_bool ?_
  cases c with
  | false => exact hb pins s1 σ H1 Q I1 q1
  | true => exact ⟨.bl true, H1, I1, rfl, q1⟩
/-- a if t else b -/
def tIf (t : TT) (ta tb : TE) : TE := fun σ H Q => t σ H fun c H1 => if c = true then ta σ H1 Q else tb σ H1 Q
theorem pe_ifExp {c : Expr} (hc : PT X c tA) (ha : PE X a ta) (hb : PE X b tb) : PE X (.IfExp c a b pos) (tIf tA ta tb) := by
  intro pins s σ H Q I h
  refine wpAny_IfExp (thn (hc pins s σ H _ I h) fun d s1 ⟨H1, I1, q1⟩ => ?_)
  cases d with
  | true => exact ha pins s1 σ H1 Q I1 q1
  | false => exact hb pins s1 σ H1 Q I1 q1
end
end L2
namespace L2
open PySem PySem.Spec PyProof.Rows
/-! ### a list, a tuple that is read: tracked, frozen, or an object of the module -/
def SqL (K : PySem.W.Frag) (H : Hp) (a : Addr) (xs : List V) : Prop :=
  Rd H a (.lst xs) ∨
    ∃ (o : Obj) (its : Array Value) (n : Nat), K.lookup a = some o ∧ o.cls = .type "list" ∧ o.dict = none ∧ o.data = .seq its n ∧ its.size ≤ sizeLine ∧ Vals xs its.toList
def SqT (K : PySem.W.Frag) (H : Hp) (a : Addr) (xs : List V) : Prop :=
  Rd H a (.tup xs) ∨
    ∃ (o : Obj) (its : Array Value) (n : Nat), K.lookup a = some o ∧ o.cls = .type "tuple" ∧ o.data = .seq its n ∧ its.size ≤ sizeLine ∧ Vals xs its.toList
def absV : Value → Option V
  | .none => some .non
  | .bool b => some (.bl b)
  | .int i _ => some (.int i)
  | .str x _ => some (.str x)
  | .bytes b _ => some (.byt b)
  | .float b _ => some (.flt b)
  | .ref a => some (.ref a)
  | .type n => some (.ty n)
  | _ => none
theorem RelV.abs {x : V} {u : Value} (r : RelV x u) : absV u = some x := by
  cases x with
  | non => cases r; rfl
  | bl _ => cases r; rfl
  | int _ => obtain ⟨t, rfl⟩ := r; rfl
  | str _ => obtain ⟨t, rfl⟩ := r; rfl
  | byt _ => obtain ⟨t, rfl⟩ := r; rfl
  | flt _ => obtain ⟨t, rfl⟩ := r; rfl
  | ref _ => cases r; rfl
  | ty _ => cases r; rfl
theorem RelV.inj {x y : V} {u : Value} (r : RelV x u) (q : RelV y u) : x = y := Option.some.inj (r.abs.symm.trans q.abs)
theorem Vals.inj : ∀ {xs ys : List V} {us : List Value}, Vals xs us → Vals ys us → xs = ys
  | _, _, _, .nil, .nil => rfl
  | _, _, _, .cons r t, .cons r' t' => by rw [r.inj r', Vals.inj t t']
section
variable {X : Cx} {pins : List (Addr × Obj)} {σ : St} {H : Hp} {s : Shared} {a : Addr} {xs ys : List V}
theorem SqL.of {K : PySem.W.Frag} (h : H a = some (.lst xs)) : SqL K H a xs := .inl (.inl h)
theorem SqT.of {K : PySem.W.Frag} (h : H a = some (.tup xs)) : SqT K H a xs := .inl (.inl h)
theorem Inv.list (I : Inv X pins σ H s) (h : SqL X.K H a xs) : ∃ its : List Value, Vals xs its ∧ PlainL s.heap a its.toArray ∧ xs.length ≤ sizeLine := by
  rcases h with h | ⟨o, its, n, hk, hc, hd, hs, hz, r⟩
  · obtain ⟨z, its, n, r, e⟩ := h.ok I.hok
    exact ⟨its, r, ⟨_, n, e, rfl, rfl, rfl⟩, z⟩
  · refine ⟨its.toList, r, ⟨o, n, I.kIn a o hk, hc, hd, by simpa using hs⟩, ?_⟩
    have e := r.length
    simp only [Array.length_toList] at e
    omega
theorem Inv.tuple (I : Inv X pins σ H s) (h : SqT X.K H a xs) : ∃ its : List Value, Vals xs its ∧ IsTup s.heap a its.toArray ∧ xs.length ≤ sizeLine := by
  rcases h with h | ⟨o, its, n, hk, hc, hs, hz, r⟩
  · obtain ⟨z, its, r, p⟩ := h.ok I.hok
    exact ⟨its, r, p, z⟩
  · refine ⟨its.toList, r, ⟨o, I.kIn a o hk, hc, n, by simpa using hs⟩, ?_⟩
    have e := r.length
    simp only [Array.length_toList] at e
    omega
theorem Inv.list_inj (I : Inv X pins σ H s) (h : SqL X.K H a xs) (h' : SqL X.K H a ys) : xs = ys := by
  obtain ⟨its, r, ⟨o, n, e, _, _, d⟩, _⟩ := I.list h
  obtain ⟨its', r', ⟨o', n', e', _, _, d'⟩, _⟩ := I.list h'
  rw [e] at e'; cases e'
  rw [d] at d'
  injection d' with d1 _
  have : its = its' := by simpa using congrArg Array.toList d1
  subst this
  exact r.inj r'
theorem Inv.tuple_inj (I : Inv X pins σ H s) (h : SqT X.K H a xs) (h' : SqT X.K H a ys) : xs = ys := by
  obtain ⟨its, r, ⟨o, e, _, n, d⟩, _⟩ := I.tuple h
  obtain ⟨its', r', ⟨o', e', _, n', d'⟩, _⟩ := I.tuple h'
  rw [e] at e'; cases e'
  rw [d] at d'
  injection d' with d1 _
  have : its = its' := by simpa using congrArg Array.toList d1
  subst this
  exact r.inj r'
end
/-! ### another wish about exceptions -/
abbrev Cx.wish (X : Cx) (E : Value → Shared → Prop) : Cx := { X with xe := E }
/-- no exception leaves -/
abbrev Cx.nox (X : Cx) : Cx := X.wish fun _ _ => False
theorem Cx.Ok.wish {X : Cx} (ok : X.Ok) (E : Value → Shared → Prop) : (X.wish E).Ok :=
  ⟨ok.mod, ok.kind, ok.glob, ok.blt, ok.above, ok.inj, ok.has, ok.cab, ok.hd, ok.frames, ok.stk, ok.exf, ok.bs, ok.bsz, ok.noex, ok.exfs, ok.funs, ok.frf⟩
theorem Cx.Ok.unwish {X : Cx} {E : Value → Shared → Prop} (ok : (X.wish E).Ok) : X.Ok :=
  ⟨ok.mod, ok.kind, ok.glob, ok.blt, ok.above, ok.inj, ok.has, ok.cab, ok.hd, ok.frames, ok.stk, ok.exf, ok.bs, ok.bsz, ok.noex, ok.exfs, ok.funs, ok.frf⟩
section
variable {X : Cx} {pins : List (Addr × Obj)} {σ : St} {H : Hp} {s : Shared} {E : Value → Shared → Prop}
theorem Inv.wish (I : Inv X pins σ H s) (E : Value → Shared → Prop) : Inv (X.wish E) pins σ H s := ⟨I.ok.wish E, I.os, I.bare, I.base, I.loc, I.cell, I.free, I.freeC, I.pin, I.hok, I.len⟩
theorem Inv.unwish (I : Inv (X.wish E) pins σ H s) : Inv X pins σ H s := ⟨I.ok.unwish, I.os, I.bare, I.base, I.loc, I.cell, I.free, I.freeC, I.pin, I.hok, I.len⟩
theorem SP.unwish {D : Ends} {f : Flow} {s' : Shared} (h : SP (X.wish E) pins D f s') : SP X pins D f s' := by
  cases f with
  | next => obtain ⟨σ', H', I, q⟩ := h; exact ⟨σ', H', I.unwish, q⟩
  | brk => obtain ⟨σ', H', I, q⟩ := h; exact ⟨σ', H', I.unwish, q⟩
  | cont => obtain ⟨σ', H', I, q⟩ := h; exact ⟨σ', H', I.unwish, q⟩
  | ret u => obtain ⟨v, σ', H', I, r, q⟩ := h; exact ⟨v, σ', H', I.unwish, r, q⟩
theorem PSs.nox {st : List Stmt} {t : TS} (h : PSs X.nox st t) : PSs X st t := fun pins s σ H D I hw =>
  wpAny_mono (h pins s σ H D (I.wish _) hw) (fun _ _ q => q.unwish) fun _ _ z => False.elim z
end
/-! ### blocks and small statements -/
section
variable {X : Cx} {st : Stmt} {rest : List Stmt} {t u : TS} {e : Expr} {te : TE} {pos : Pos}
def tNext : TS := fun D σ H => D.nx σ H
def tSeq (t u : TS) : TS := fun D σ H => t { D with nx := u D } σ H
theorem pss_nil : PSs X [] tNext := fun _ _ σ H _ I h => wpAny_execs_nil ⟨σ, H, I, h⟩
theorem pss_cons (h1 : PS X st t) (h2 : PSs X rest u) : PSs X (st :: rest) (tSeq t u) := by
  intro pins s σ H D I h
  refine wpAny_execs_cons (thn (h1 pins s σ H { D with nx := u D } I h) fun f s1 q => ?_)
  cases f with
  | next =>
    obtain ⟨σ', H', I', q⟩ := q
    exact h2 pins s1 σ' H' D I' q
  | ret v => exact q
  | brk => exact q
  | cont => exact q
theorem pss_one (h1 : PS X st t) : PSs X [st] t := by
  intro pins s σ H D I h
  refine wpAny_execs_cons (thn (h1 pins s σ H D I h) fun f s1 q => ?_)
  cases f with
  | next => exact wpAny_execs_nil q
  | ret v => exact q
  | brk => exact q
  | cont => exact q
def tBreak : TS := fun D σ H => D.bk σ H
def tCont : TS := fun D σ H => D.ct σ H
/-- in a def's body nothing is shown -/
theorem Inv.quiet {pins : List (Addr × Obj)} {σ : St} {H : Hp} {s : Shared} (I : Inv X pins σ H s) : interactive X.env = false := by simp [interactive, I.ok.kind]
/-- an expression whose value is dropped -/
def tDrop (te : TE) : TS := fun D σ H => te σ H fun _ H1 => D.nx σ H1
theorem ps_expr (he : PE X e te) (hs : swapsWith e none pos.line X.env = pure false := by rfl) : PS X (.Expr e pos) (tDrop te) := by
  intro pins s σ H D I h
  exact wpAny_Expr_any (thn (he pins s σ H _ I h) fun v s1 ⟨x, H1, I1, r1, q1⟩ => ⟨σ, H1, I1, q1⟩) I.quiet hs
def tRet (te : TE) : TS := fun D σ H => te σ H D.rt
theorem ps_ret (he : PE X e te) : PS X (.Return (some e) pos) (tRet te) := by
  intro pins s σ H D I h
  exact wpAny_Return_some (thn (he pins s σ H _ I h) fun v s1 ⟨x, H1, I1, r1, q1⟩ => ⟨x, σ, H1, I1, r1, q1⟩)
def tRetN : TS := fun D _ H => D.rt .non H
theorem ps_retN : PS X (.Return none pos) tRetN := fun _ _ σ H _ I h => wpAny_Return_none ⟨.non, σ, H, I, rfl, h⟩
def tIfS (c : TT) (t u : TS) : TS := fun D σ H => c σ H fun b H1 => if b = true then t D σ H1 else u D σ H1
theorem ps_if {c : Expr} {a b : List Stmt} {tc : TT} (hc : PT X c tc) (ha : PSs X a t) (hb : PSs X b u) : PS X (.If c a b pos) (tIfS tc t u) := by
  intro pins s σ H D I h
  refine wpAny_If (thn (hc pins s σ H _ I h) fun d s1 ⟨H1, I1, q1⟩ => ?_)
  cases d with
  | true => exact ha pins s1 σ H1 D I1 q1
  | false => exact hb pins s1 σ H1 D I1 q1
/-- code that the proof never comes to -/
def tNever : TS := fun _ _ _ => False
end
/-! ### targets -/
abbrev TG := V → St → Hp → (St → Hp → Prop) → Prop
abbrev TGs := List V → St → Hp → (St → Hp → Prop) → Prop
def PG (X : Cx) (target : Expr) (t : TG) : Prop :=
  ∀ (pins : List (Addr × Obj)) (s : Shared) (σ : St) (H : Hp) (v : V) (u : Value) (Q : St → Hp → Prop), Inv X pins σ H s → RelV v u → t v σ H Q →
    wpAny (model X.prog X.w) X.A (assign target X.env u) (fun _ s' => ∃ σ' H', Inv X pins σ' H' s' ∧ Q σ' H') X.xe s
/-- several targets, one after another -/
def PGs (X : Cx) (ts : List Expr) (t : TGs) : Prop :=
  ∀ (pins : List (Addr × Obj)) (s : Shared) (σ : St) (H : Hp) (vs : List V) (us : List Value) (Q : St → Hp → Prop), Inv X pins σ H s → Vals vs us → t vs σ H Q →
    wpAny (model X.prog X.w) X.A (assignInOrder ((assignEach ts X.env).map (·.2)) us) (fun _ s' => ∃ σ' H', Inv X pins σ' H' s' ∧ Q σ' H') X.xe s
/-- o[i] = v, by values -/
abbrev TSet := V → V → V → Hp → (Hp → Prop) → Prop
def PSet (X : Cx) (t : TSet) : Prop :=
  ∀ (pins : List (Addr × Obj)) (s : Shared) (σ : St) (H : Hp) (o i v : V) (ov iv u : Value) (Q : Hp → Prop), Inv X pins σ H s → RelV o ov → RelV i iv → RelV v u → t o i v H Q →
    wpAny (model X.prog X.w) X.A (setItem ov iv u) (fun _ s' => ∃ H', Inv X pins σ H' s' ∧ Q H') X.xe s
/-- a op= b, by values -/
abbrev TIp := V → V → Hp → VK → Prop
def PIp (X : Cx) (op : Operator) (t : TIp) : Prop :=
  ∀ (pins : List (Addr × Obj)) (s : Shared) (σ : St) (H : Hp) (x y : V) (v u : Value) (Q : VK), Inv X pins σ H s → RelV x v → RelV y u → t x y H Q →
    wpAny (model X.prog X.w) X.A (inplaceOp op v u) (EP X pins σ Q) X.xe s
section
variable {X : Cx} {pos : Pos}
def gName (i : Nat) : TG := fun v σ H Q => Q (σ.set i (some v)) H
theorem pg_name {i : Nat} {x : Str} (hN : X.N.Nodup) (hi : X.N[i]? = some x) (hx : Loc X.env.scope x) (hf : X.fn x = true ∨ X.env.scope.names.lookup x = some .local := by first | exact .inl rfl | exact .inr rfl | assumption) : PG X (.Name x pos) (gName i) := by
  intro pins s σ H v u Q I r h
  exact wpAny_assign_Name (store_ok I hN hi hx r (fun s' I' => ⟨_, H, I', h⟩) hf)
def gNil : TGs := fun vs σ H Q => vs = [] ∧ Q σ H
def gCons (t : TG) (u : TGs) : TGs := fun vs σ H Q => ∃ v r, vs = v :: r ∧ t v σ H fun σ' H' => u r σ' H' Q
/-- (a, b, ..) = a tuple of that length -/
def gTup (K : PySem.W.Frag) (n : Nat) (t : TGs) : TG := fun v σ H Q => ∃ a xs, v = .ref a ∧ SqT K H a xs ∧ xs.length = n ∧ t xs σ H Q
/-- o[i] = .. -/
def gSub (to ti : TE) (t : TSet) : TG := fun v σ H Q => to σ H fun o H1 => ti σ H1 fun i H2 => t o i v H2 fun H3 => Q σ H3
/-- target = value -/
def tAsg (te : TE) (g : TG) : TS := fun D σ H => te σ H fun x H1 => g x σ H1 D.nx
/-- name = value -/
theorem ps_set {i : Nat} {x : Str} {e : Expr} {te : TE} {pos' : Pos} (hN : X.N.Nodup) (hi : X.N[i]? = some x) (hx : Loc X.env.scope x) (he : PE X e te) (hs : swapsWith e (some (.Name x pos')) pos.line X.env = pure false := by rfl) (hf : X.fn x = true ∨ X.env.scope.names.lookup x = some .local := by first | exact .inl rfl | exact .inr rfl | assumption) :
    PS X (.Assign [.Name x pos'] e pos) (tAsg te (gName i)) := by
  intro pins s σ H D I h
  refine wpAny_Assign_Name (thn (he pins s σ H _ I h) fun v s1 ⟨y, H1, I1, r1, q1⟩ => ?_) hs
  exact store_ok I1 hN hi hx r1 (fun s2 I2 => ⟨_, H1, I2, q1⟩) hf
/-- a, b = x, y with plain local names: stored from the right; the pair itself is not tracked (the opening rows as in PyProof/Rows/TupAssign.lean:23) -/
def tPar (i j : Nat) (ta : TA) : TS := fun D σ H => ta σ H fun vs H1 => ∃ v w, vs = [v, w] ∧ D.nx ((σ.set i (some v)).set j (some w)) H1
/-- name op= e -/
def tAug (i : Nat) (te : TE) (ti : TIp) : TS := fun D σ H => ∃ x, σ[i]? = some (some x) ∧ te σ H fun y H1 => ti x y H1 fun z H2 => D.nx (σ.set i (some z)) H2
/-- o[i] op= e -/
def tAugS (to ti te : TE) (tget : V → V → Hp → VK → Prop) (tip : TIp) (tset : TSet) : TS := fun D σ H => to σ H fun o H1 => ti σ H1 fun i H2 => tget o i H2 fun x H3 => te σ H3 fun y H4 => tip x y H4 fun z H5 => tset o i z H5 fun H6 => D.nx σ H6
/-- o[i], by values -/
def PGet (X : Cx) (t : V → V → Hp → VK → Prop) : Prop :=
  ∀ (pins : List (Addr × Obj)) (s : Shared) (σ : St) (H : Hp) (o i : V) (ov iv : Value) (Q : VK), Inv X pins σ H s → RelV o ov → RelV i iv → t o i H Q →
    wpAny (model X.prog X.w) X.A (getItem ov iv) (EP X pins σ Q) X.xe s
/-- ints -/
def ipI (f : Int → Int → Int) : TIp := fun x y H Q => ∃ i j, x = .int i ∧ y = .int j ∧ Q (.int (f i j)) H
end
/-! ### while -/
section
variable {X : Cx} {pos : Pos}
/-- the invariant W with its measure -/
def tWhile (c : TT) (tb : TS) : TS := fun D σ H => ∃ W : Nat → St → Hp → Prop, (∃ m, W m σ H) ∧ ∀ m σ H, W m σ H →
  c σ H fun b H1 => if b = true then ∃ N : St → Hp → Prop, (∀ σ' H', N σ' H' → ∃ m', m' < m ∧ W m' σ' H') ∧ tb { D with nx := N, ct := N, bk := D.nx } σ H1 else D.nx σ H1
theorem ps_while {c : Expr} {body : List Stmt} {tc : TT} {tb : TS} (hp : PassesOwn (model X.prog X.w) X.A X.env X.xe) (hc : PT X c tc) (hb : PSs X body tb) : PS X (.While c body [] pos) (tWhile tc tb) := by
  intro pins s σ H D I h
  obtain ⟨W, ⟨m0, w0⟩, turn⟩ := h
  refine wpAny_While (codeAny_whileLoop (fun n s' => ∃ σ' H', Inv X pins σ' H' s' ∧ W n σ' H') ?_ m0 ⟨σ, H, I, w0⟩)
  rintro n s1 ⟨σ1, H1, I1, w1⟩
  refine wpAny_passesOwn hp (thn (hc pins s1 σ1 H1 _ I1 (turn n σ1 H1 w1)) fun b s2 ⟨H2, I2, q2⟩ => ?_)
  cases b with
  | true =>
    obtain ⟨N, hN, q2⟩ := q2
    rw [if_pos rfl]
    refine wpAny_passesOwn hp (thn (hb pins s2 σ1 H2 _ I2 q2) fun f s3 q3 => ?_)
    cases f with
    | next =>
      obtain ⟨σ3, H3, I3, n3⟩ := q3
      obtain ⟨m', hm, w3⟩ := hN σ3 H3 n3
      exact ⟨m', hm, σ3, H3, I3, w3⟩
    | cont =>
      obtain ⟨σ3, H3, I3, n3⟩ := q3
      obtain ⟨m', hm, w3⟩ := hN σ3 H3 n3
      exact ⟨m', hm, σ3, H3, I3, w3⟩
    | brk => exact q3
    | ret v => exact q3
  | false =>
    rw [if_neg Bool.false_ne_true]
    exact wpAny_execs_nil ⟨σ1, H2, I2, q2⟩
end
/-! ### what a loop or a comprehension walks -/
/-- at turn i: it yields x (the heap may grow), or it stops -/
structure It where
  go : Nat → Hp → Prop
  yld : Nat → Hp → V → Hp → Prop
  stop : Nat → Hp → Prop
/-- the iterator's own objects may turn: they are not the frame's, not pinned, younger than the entry (or a comprehension's own) -/
def FpOk (X : Cx) (pins : List (Addr × Obj)) (H : Hp) (b : Addr) : Prop :=
  H b = none ∧ b ≠ X.env.locals ∧ b ∉ X.fs ∧ (b ∈ X.ex ∨ X.s₀.heap.objs.size ≤ b) ∧ (∀ x c, X.env.cells.lookup x = some c → c ≠ b) ∧ ∀ p ∈ X.pn ++ pins, p.1 ≠ b
theorem Inv.fpOk {X : Cx} {pins : List (Addr × Obj)} {σ : St} {H H' : Hp} {s : Shared} {b : Addr} (I : Inv X pins σ H s) (hb : s.heap.objs.size ≤ b) (hn : H' b = none) : FpOk X pins H' b := by
  refine ⟨hn, Nat.ne_of_gt (Nat.lt_of_lt_of_le I.lt hb), I.nofs hb, .inr (Nat.le_trans I.sz hb), fun x c e z => ?_, fun p hp z => ?_⟩
  · obtain ⟨v, q⟩ := I.cell x c e
    exact absurd (Nat.lt_of_lt_of_le q.lt (by rw [z]; exact hb)) (Nat.lt_irrefl _)
  · exact absurd (Nat.lt_of_lt_of_le (Heap.lt_size (I.pin p hp).1) (by rw [z]; exact hb)) (Nat.lt_irrefl _)
structure Turn (P : Program) (w : World) (K : PySem.W.Frag) (tg : Expr) (J : It) (fp : List Addr) (it : Addr) (tn : Nat → Heap → Prop) : Prop where
  mem : it ∈ fp
  obj : ∀ i h, tn i h → ∀ b ∈ fp, ∃ o, h.get? b = some o ∧ ∀ v, o.data ≠ .cell v
  keep : ∀ i h h', tn i h → (∀ b ∈ fp, ∀ o, h.get? b = some o → h'.get? b = some o) → tn i h'
  item : ∀ (X : Cx), X.prog = P → X.w = w → X.K = K → X.calm = true → ∀ (i : Nat) (pins : List (Addr × Obj)) (s : Shared) (σ : St) (H : Hp) (E : Value → Shared → Prop), Inv X pins σ H s → (∀ b ∈ fp, FpOk X pins H b) → tn i s.heap → J.go i H →
    wpAny (model P w) X.A (pyNext (.ref it)) (fun r s1 => ∃ u, r = some u ∧
      wpAny (model P w) X.A (letOwnedTupleGo tg (.ref it) u) (fun _ s2 => ∃ x H', Inv X pins σ H' s2 ∧ RelV x u ∧ J.yld i H x H' ∧ tn (i + 1) s2.heap ∧ ∀ b ∈ fp, H' b = none) E s1) E s
  done : ∀ (X : Cx), X.prog = P → X.w = w → X.K = K → X.calm = true → ∀ (i : Nat) (pins : List (Addr × Obj)) (s : Shared) (σ : St) (H : Hp) (E : Value → Shared → Prop), Inv X pins σ H s → (∀ b ∈ fp, FpOk X pins H b) → tn i s.heap → J.stop i H →
    wpAny (model P w) X.A (pyNext (.ref it)) (fun r s1 => r = none ∧ Inv X pins σ H s1) E s
  self : ∀ (A : Around) (i : Nat) (s : Shared) (Q : Value → Shared → Prop) (E : Value → Shared → Prop), tn i s.heap → Q (.ref it) s → wpAny (model P w) A (pyIter (.ref it)) Q E s
abbrev TI := St → Hp → (It → Hp → Prop) → Prop
/-- an iterator has come -/
def PIE (X : Cx) (pins : List (Addr × Obj)) (σ : St) (tg : Expr) (R : It → Hp → Prop) (itv : Value) (s2 : Shared) : Prop :=
  ∃ (it : Addr) (fp : List Addr) (tn : Nat → Heap → Prop) (J : It) (H' : Hp), itv = .ref it ∧ Inv X pins σ H' s2 ∧ Turn X.prog X.w X.K tg J fp it tn ∧ tn 0 s2.heap ∧ (∀ b ∈ fp, FpOk X pins H' b) ∧ R J H'
def PI (X : Cx) (tg iter : Expr) (wi : TI) : Prop :=
  ∀ (pins : List (Addr × Obj)) (s : Shared) (σ : St) (H : Hp) (R : It → Hp → Prop), Inv X pins σ H s → wi σ H R →
    wpAny (model X.prog X.w) X.A (eval iter X.env) (fun v s1 => wpAny (model X.prog X.w) X.A (pyIter v) (PIE X pins σ tg R) X.xe s1) X.xe s
/-- the step ahead of the store is nothing for an iterator that keeps no tuple -/
theorem go_of {M : Model} {A : Around} {E : Value → Shared → Prop} {s : Shared} {tg : Expr} {it : Addr} {u : Value} {o : Obj} {n : String} {vs : Array Value} {Q : Unit → Shared → Prop} (ho : s.heap.get? it = some o) (hc : o.cls = .type n) (hd : o.data = .fields vs)
    (hn : ["enumerate", "zip", "dict_itemiterator", "dict_reverseitemiterator", "odict_iterator", "itertools.zip_longest", "itertools.pairwise"].contains n = false) (hQ : Q () s) : wpAny M A (letOwnedTupleGo tg (.ref it) u) Q E s := by
  unfold letOwnedTupleGo
  cases tg <;> first
    | exact wpAny_pure hQ
    | (cases u <;> first
        | exact wpAny_pure hQ
        | (refine wpAny_bind (wpAny_load ho ?_)
           rw [hc, hd]
           show wpAny M A (if (["enumerate", "zip", "dict_itemiterator", "dict_reverseitemiterator", "odict_iterator", "itertools.zip_longest", "itertools.pairwise"].contains n && vs[0]? == some (rawInt _)) = true then _ else _) Q E s
           rw [if_neg (by intro h; rw [hn, Bool.false_and] at h; cases h)]
           exact wpAny_pure hQ))
/-- the list at a, as it stands at each turn (a loop may append to it) -/
def Itl (K : PySem.W.Frag) (a : Addr) : It :=
  ⟨fun i H => ∃ xs x, SqL K H a xs ∧ xs[i]? = some x, fun i H x H' => H' = H ∧ ∀ xs, SqL K H a xs → xs[i]? = some x, fun i H => ∃ xs, SqL K H a xs ∧ xs.length ≤ i⟩
def Itt (K : PySem.W.Frag) (a : Addr) : It :=
  ⟨fun i H => ∃ xs x, SqT K H a xs ∧ xs[i]? = some x, fun i H x H' => H' = H ∧ ∀ xs, SqT K H a xs → xs[i]? = some x, fun i H => ∃ xs, SqT K H a xs ∧ xs.length ≤ i⟩
/-- lo, lo + 1, .. (n of them) -/
def Itr (lo : Int) (n : Nat) : It := ⟨fun i _ => i < n, fun i H x H' => H' = H ∧ x = .int (lo + i), fun i _ => n ≤ i⟩
theorem turn_list {P : Program} {w : World} {K : PySem.W.Frag} {tg : Expr} (a it : Addr) : Turn P w K tg (Itl K a) [it] it (fun i h => h.IsListIter it a i) where
  mem := by simp
  obj := fun i h st b hb => by
    have e : b = it := by simpa using hb
    subst e
    obtain ⟨o, e, c, d⟩ := st
    exact ⟨o, e, fun v z => by rw [d] at z; cases z⟩
  keep := fun i h h' st k => st.at fun o e => k it (by simp) o e
  item := by
    intro X hP hw hK hc i pins s σ H E I hf st hg
    subst hP hw hK
    obtain ⟨xs, x, hq, hx⟩ := hg
    obtain ⟨its, rv, p, hz⟩ := I.list hq
    obtain ⟨u, hu, ru⟩ := rv.get hx
    obtain ⟨f0, f1, f2, f3, f4, f5⟩ := hf it (by simp)
    refine wpAny_pyNext_list_item st p.isList (x := u) (by simpa using hu) fun h' st' sb => ?_
    have I1 : Inv X pins σ H { s with heap := h' } := I.turned (t' := s.toks) (fun b o hb e => (sb.2 b hb).trans e) f0 f1 f3 f4 f5
    obtain ⟨o, e, c, d⟩ := id st'
    exact ⟨u, rfl, go_of (s := { s with heap := h' }) e c d (by decide) ⟨x, H, I1, ru, ⟨rfl, fun ys hy => by rw [I.list_inj hy hq]; exact hx⟩, st', fun b hb => (hf b hb).1⟩⟩
  done := by
    intro X hP hw hK hc i pins s σ H E I hf st hg
    subst hP hw hK
    obtain ⟨xs, hq, hx⟩ := hg
    obtain ⟨its, rv, p, hz⟩ := I.list hq
    obtain ⟨f0, f1, f2, f3, f4, f5⟩ := hf it (by simp)
    have hl := rv.length
    exact wpAny_pyNext_list_end (I.ok.hd hc) st p.isList (by simp; omega) fun h' eb => ⟨rfl, I.turned (t' := s.toks) (fun b o hb e => eb b o hb e) f0 f1 f3 f4 f5⟩
  self := fun _ _ _ _ _ st h => wpAny_pyIter_listiter st h
theorem turn_tuple {P : Program} {w : World} {K : PySem.W.Frag} {tg : Expr} (a it : Addr) : Turn P w K tg (Itt K a) [it] it (fun i h => h.IsTupleIter it a i) where
  mem := by simp
  obj := fun i h st b hb => by
    have e : b = it := by simpa using hb
    subst e
    obtain ⟨o, e, c, d⟩ := st
    exact ⟨o, e, fun v z => by rw [d] at z; cases z⟩
  keep := fun i h h' st k => st.at fun o e => k it (by simp) o e
  item := by
    intro X hP hw hK hc i pins s σ H E I hf st hg
    subst hP hw hK
    obtain ⟨xs, x, hq, hx⟩ := hg
    obtain ⟨its, rv, p, hz⟩ := I.tuple hq
    obtain ⟨u, hu, ru⟩ := rv.get hx
    obtain ⟨f0, f1, f2, f3, f4, f5⟩ := hf it (by simp)
    refine wpAny_pyNext_tuple_item st (show s.heap.IsTuple a its.toArray from p) (x := u) (by simpa using hu) fun h' st' sb => ?_
    have I1 : Inv X pins σ H { s with heap := h' } := I.turned (t' := s.toks) (fun b o hb e => (sb.2 b hb).trans e) f0 f1 f3 f4 f5
    obtain ⟨o, e, c, d⟩ := id st'
    exact ⟨u, rfl, go_of (s := { s with heap := h' }) e c d (by decide) ⟨x, H, I1, ru, ⟨rfl, fun ys hy => by rw [I.tuple_inj hy hq]; exact hx⟩, st', fun b hb => (hf b hb).1⟩⟩
  done := by
    intro X hP hw hK hc i pins s σ H E I hf st hg
    subst hP hw hK
    obtain ⟨xs, hq, hx⟩ := hg
    obtain ⟨its, rv, p, hz⟩ := I.tuple hq
    obtain ⟨f0, f1, f2, f3, f4, f5⟩ := hf it (by simp)
    have hl := rv.length
    exact wpAny_pyNext_tuple_end (I.ok.hd hc) st (show s.heap.IsTuple a its.toArray from p) (by simp; omega) fun h' eb => ⟨rfl, I.turned (t' := s.toks) (fun b o hb e => eb b o hb e) f0 f1 f3 f4 f5⟩
  self := fun _ _ _ _ _ st h => wpAny_pyIter_tupleiter st h
theorem turn_range {P : Program} {w : World} {K : PySem.W.Frag} {tg : Expr} (it : Addr) (lo : Int) (n : Nat) : Turn P w K tg (Itr lo n) [it] it (fun i h => IsRangeIter h it (lo + (i : Nat) * 1) ((n : Int) - (i : Nat)) 1) where
  mem := by simp
  obj := fun i h st b hb => by
    have e : b = it := by simpa using hb
    subst e
    exact ⟨_, st, fun v z => by
      have z' : Data.fields _ = Data.cell v := z
      cases z'⟩
  keep := fun i h h' st k => k it (by simp) _ st
  item := by
    intro X hP hw hK hc i pins s σ H E I hf st hg
    subst hP hw hK
    obtain ⟨f0, f1, f2, f3, f4, f5⟩ := hf it (by simp)
    have W := Walks.range (prog := X.prog) (w := X.w) (I.ok.hd hc) it lo 1 n
    refine W.item i s _ _ hg st fun v h' tk hv st' kk => ?_
    obtain ⟨t, rfl⟩ := hv
    have I1 : Inv X pins σ H { s with heap := h', toks := tk } := I.turned (fun b o hb e => kk b o (by simpa using hb) e) f0 f1 f3 f4 f5
    refine ⟨_, rfl, go_of (s := { s with heap := h', toks := tk }) (n := "range_iterator") st' rfl rfl (by decide) ⟨.int (lo + i), H, I1, ⟨t, ?_⟩, ⟨rfl, rfl⟩, st', fun b hb => (hf b hb).1⟩⟩
    rw [Int.mul_one]
  done := by
    intro X hP hw hK hc i pins s σ H E I hf st hg
    subst hP hw hK
    obtain ⟨f0, f1, f2, f3, f4, f5⟩ := hf it (by simp)
    exact wpAny_pyNext_range_end (I.ok.hd hc) st (by have : n ≤ i := hg; omega) fun h' eb => ⟨rfl, I.turned (t' := s.toks) (fun b o hb e => eb b o hb e) f0 f1 f3 f4 f5⟩
  self := fun _ _ _ _ _ st h => wpAny_pyIter_rangeiter st h
end L2
namespace L2
open PySem PySem.Spec PyProof.Rows
section
variable {X : Cx} {tg : Expr}
def iList (K : PySem.W.Frag) (tl : TE) : TI := fun σ H R => tl σ H fun x H1 => ∃ a, x = .ref a ∧ (∃ xs, SqL K H1 a xs) ∧ R (Itl K a) H1
def iTup (K : PySem.W.Frag) (tl : TE) : TI := fun σ H R => tl σ H fun x H1 => ∃ a, x = .ref a ∧ (∃ xs, SqT K H1 a xs) ∧ R (Itt K a) H1
/-- a range object just made, walked -/
theorem range_it {pins : List (Addr × Obj)} {σ : St} {H : Hp} {s : Shared} {R : It → Hp → Prop} {E : Value → Shared → Prop} {lo hi : Int} {t u v : Tok} {tk : Nat} (I : Inv X pins σ H s) (h1 : -(2 ^ 62) ≤ lo) (h2 : lo < 2 ^ 62) (h3 : -(2 ^ 62) ≤ hi) (h4 : hi < 2 ^ 62)
    (q : R (Itr lo (hi - lo).toNat) H) : wpAny (model X.prog X.w) X.A (pyIter (.ref s.heap.objs.size)) (PIE X pins σ tg R) E { s with heap := s.heap.push { cls := .type "range", data := .fields #[.int lo t, .int hi u, .int 1 v] }, toks := tk } := by
  refine wpAny_pyIter_range (IsRange.new ..) (small_one h1 h2 h3 h4) ?_
  have I1 : Inv X pins σ H { s with heap := s.heap.push { cls := .type "range", data := .fields #[.int lo t, .int hi u, .int 1 v] }, toks := tk } := I.kept fun b o e => Heap.get?_push_of_some _ e
  refine ⟨(s.heap.push { cls := .type "range", data := .fields #[.int lo t, .int hi u, .int 1 v] }).objs.size, [(s.heap.push { cls := .type "range", data := .fields #[.int lo t, .int hi u, .int 1 v] }).objs.size], _, _, H, rfl,
    I1.kept (t' := tk) fun b o e => Heap.get?_push_of_some _ e, turn_range _ lo (hi - lo).toNat, ?_, fun b hb => ?_, q⟩
  · have e1 : lo + ((0 : Nat) : Int) * 1 = lo := by simp
    have e2 : (((hi - lo).toNat : Nat) : Int) - ((0 : Nat) : Int) = Builtin.Range.rangeSize lo hi 1 := by rw [rangeSize_one]; split <;> omega
    show IsRangeIter _ _ (lo + ((0 : Nat) : Int) * 1) ((((hi - lo).toNat : Nat) : Int) - ((0 : Nat) : Int)) 1
    rw [e1, e2]
    exact Heap.get?_push_size _ rfl
  · have e : b = (s.heap.push { cls := .type "range", data := .fields #[.int lo t, .int hi u, .int 1 v] }).objs.size := by simpa using hb
    subst e
    exact I1.fpOk (Nat.le_refl _) (I1.hok.fresh (Nat.le_refl _))
def iRng1 (ta : TA) : TI := fun σ H R => ta σ H fun vs H1 => ∃ j : Int, vs = [.int j] ∧ -(2 ^ 62) ≤ j ∧ j < 2 ^ 62 ∧ R (Itr 0 j.toNat) H1
def iRng2 (ta : TA) : TI := fun σ H R => ta σ H fun vs H1 => ∃ i j : Int, vs = [.int i, .int j] ∧ (-(2 ^ 62) ≤ i ∧ i < 2 ^ 62 ∧ -(2 ^ 62) ≤ j ∧ j < 2 ^ 62) ∧ R (Itr i (j - i).toNat) H1
theorem pi_range1 {a : Expr} {ta : TA} {p pos : Pos} (hg : Gl X "range") (hm : X.mg "range" = none) (ha : PA X [a] ta) (hs : starEach [a] X.env = [(false, eval a X.env)] := by rfl) : PI X tg (.Call (.Name "range" p) [a] [] pos) (iRng1 ta) := by
  intro pins s σ H R I h
  refine Call_ (ld_blt I hg hm boot_range (PyProof.Rows.callWith_type1 (thn (ha pos pins s σ H _ I h) fun us s1 ⟨vs, H1, I1, r1, q1⟩ => ?_) hs rfl))
  obtain ⟨j, e, q1, q2, q⟩ := q1
  subst e
  cases r1 with
  | cons r rr =>
    cases rr
    obtain ⟨t, rfl⟩ := r
    exact call_range_1 (range_it I1 (by omega) (by omega) q1 q2 (by simpa using q))
/-! ### for -/
/-- W: the invariant by the turn and a measure; N: what the body is to reach -/
def tFor (wi : TI) (g : TG) (tb : TS) : TS := fun D σ H => wi σ H fun J H1 => ∃ W : Nat → Nat → St → Hp → Prop, (∃ m, W 0 m σ H1) ∧ ∀ i m σ H, W i m σ H →
  (J.stop i H ∧ D.nx σ H) ∨ (J.go i H ∧ ∃ N : St → Hp → Prop, (∀ σ' H', N σ' H' → ∃ m', m' < m ∧ W (i + 1) m' σ' H') ∧ ∀ x H', J.yld i H x H' → g x σ H' fun σ2 H2 => tb { D with nx := N, ct := N, bk := D.nx } σ2 H2)
/-- the records at fp as they stand -/
def pinsAt (fp : List Addr) (h : Heap) : List (Addr × Obj) := fp.filterMap fun b => (h.get? b).map fun o => (b, o)
theorem mem_pinsAt {fp : List Addr} {h : Heap} {b : Addr} {o : Obj} (hb : b ∈ fp) (e : h.get? b = some o) : (b, o) ∈ pinsAt fp h := List.mem_filterMap.mpr ⟨b, hb, by rw [e]; rfl⟩
theorem of_pinsAt {fp : List Addr} {h : Heap} {p : Addr × Obj} (hp : p ∈ pinsAt fp h) : p.1 ∈ fp ∧ h.get? p.1 = some p.2 := by
  obtain ⟨b, hb, e⟩ := List.mem_filterMap.mp hp
  cases q : h.get? b with
  | none => rw [q] at e; cases e
  | some o =>
    rw [q] at e
    have e' : (b, o) = p := Option.some.inj e
    subst e'
    exact ⟨hb, q⟩
theorem Inv.pinned {pins : List (Addr × Obj)} {σ : St} {H : Hp} {s : Shared} {fp : List Addr} (I : Inv X pins σ H s) (hf : ∀ b ∈ fp, FpOk X pins H b) (ho : ∀ b ∈ fp, ∃ o, s.heap.get? b = some o ∧ ∀ v, o.data ≠ .cell v) : Inv X (pins ++ pinsAt fp s.heap) σ H s :=
  I.pins_of fun p hp => (List.mem_append.mp hp).elim (fun z => I.pin p (List.mem_append_right _ z)) fun z => by
    obtain ⟨hb, e⟩ := of_pinsAt z
    obtain ⟨f0, f1, f2, _⟩ := hf p.1 hb
    obtain ⟨o, e', d⟩ := ho p.1 hb
    rw [e] at e'; cases e'
    exact ⟨e, f0, f1, f2, d⟩
theorem Inv.unpinned {pins pl : List (Addr × Obj)} {σ : St} {H : Hp} {s : Shared} (I : Inv X (pins ++ pl) σ H s) : Inv X pins σ H s := I.pins_of fun p hp => I.pin p (List.mem_append_right _ (List.mem_append_left _ hp))
theorem ps_for {iter : Expr} {body : List Stmt} {wi : TI} {g : TG} {tb : TS} {pos : Pos} (hp : PassesOwn (model X.prog X.w) X.A X.env X.xe) (hc : X.calm = true) (hi : PI X tg iter wi) (hg : PG X tg g) (hb : PSs X body tb)
    (hs : ∀ x, foldedSetIterable iter X.env x = pure x := by intro _; rfl) : PS X (.For tg iter body [] pos) (tFor wi g tb) := by
  intro pins s σ H D I h
  refine wpAny_For (thn (hi pins s σ H _ I h) fun v s1 h1 => thn h1 fun itv s2 h2 => ?_) hs
  obtain ⟨it, fp, tn, J, H2, e, I2, T, st2, f2, W, ⟨m0, w0⟩, turn⟩ := h2
  subst e
  -- what stays true of the iterator's objects through the loop
  have stat : ∀ {H' : Hp}, (∀ b ∈ fp, H' b = none) → ∀ b ∈ fp, FpOk X pins H' b := fun hn b hb => ⟨hn b hb, (f2 b hb).2⟩
  refine codeAny_forLoop_any (fun n s' => ∃ i σ' H', Inv X pins σ' H' s' ∧ tn i s'.heap ∧ (∀ b ∈ fp, H' b = none) ∧ W i n σ' H') ?_ m0 ⟨0, σ, H2, I2, st2, fun b hb => (f2 b hb).1, w0⟩
  rintro n s3 ⟨i, σ3, H3, I3, st3, fr3, w3⟩
  rcases turn i n σ3 H3 w3 with ⟨stop, qn⟩ | ⟨go, N, hN, step⟩
  · refine wpAny_passesOwn hp (thn (T.done X rfl rfl rfl hc i pins s3 σ3 H3 X.xe I3 (stat fr3) st3 stop) fun r s4 ⟨hr, I4⟩ => ?_)
    subst hr
    exact wpAny_execs_nil ⟨σ3, H3, I4, qn⟩
  · refine wpAny_passesOwn hp (thn (T.item X rfl rfl rfl hc i pins s3 σ3 H3 X.xe I3 (stat fr3) st3 go) fun r s4 ⟨u, hr, h4⟩ => ?_)
    subst hr
    refine wpAny_passesOwn hp (thn h4 fun _ s5 ⟨x, H5, I5, r5, y5, st5, fr5⟩ => ?_)
    have I5' := I5.pinned (stat fr5) (T.obj _ _ st5)
    refine wpAny_passesOwn hp (thn (hg _ s5 σ3 H5 x u _ I5' r5 (step x H5 y5)) fun _ s6 ⟨σ6, H6, I6, q6⟩ => ?_)
    refine wpAny_passesOwn hp (thn (hb _ s6 σ6 H6 _ I6 q6) fun f s7 q7 => ?_)
    have again : ∀ {σ7 : St} {H7 : Hp}, Inv X (pins ++ pinsAt fp s5.heap) σ7 H7 s7 → N σ7 H7 → ∃ m, m < n ∧ ∃ i σ' H', Inv X pins σ' H' s7 ∧ tn i s7.heap ∧ (∀ b ∈ fp, H' b = none) ∧ W i m σ' H' := fun {σ7 H7} I7 n7 => by
      obtain ⟨m', hm, w7⟩ := hN σ7 H7 n7
      refine ⟨m', hm, i + 1, σ7, H7, I7.unpinned, T.keep _ _ _ st5 fun b hb o e => (I7.pin (b, o) (List.mem_append_right _ (List.mem_append_right _ (mem_pinsAt hb e)))).1, fun b hb => ?_, w7⟩
      obtain ⟨o, e, d⟩ := T.obj _ _ st5 b hb
      exact (I7.pin (b, o) (List.mem_append_right _ (List.mem_append_right _ (mem_pinsAt hb e)))).2.1
    cases f with
    | next => obtain ⟨σ7, H7, I7, n7⟩ := q7; exact again I7 n7
    | cont => obtain ⟨σ7, H7, I7, n7⟩ := q7; exact again I7 n7
    | brk => obtain ⟨σ7, H7, I7, q7⟩ := q7; exact ⟨σ7, H7, I7.unpinned, q7⟩
    | ret v => obtain ⟨x7, σ7, H7, I7, r7, q7⟩ := q7; exact ⟨x7, σ7, H7, I7.unpinned, r7, q7⟩
end
/-! ### the forms one uses -/
end L2
namespace L2
open PySem PySem.Spec PyProof.Rows
abbrev R2 := V → V → Hp → VK → Prop
/-- a two-place operation on values: f is binaryOp op, inplaceOp op or compareOp op -/
def OpR (X : Cx) (f : Value → Value → Sem Value) (r : R2) : Prop :=
  ∀ (pins : List (Addr × Obj)) (s : Shared) (σ : St) (H : Hp) (x y : V) (v u : Value) (Q : VK), Inv X pins σ H s → RelV x v → RelV y u → r x y H Q →
    wpAny (model X.prog X.w) X.A (f v u) (EP X pins σ Q) X.xe s
/-- a one-place operation -/
def UnR (X : Cx) (f : Value → Sem Value) (r : V → Hp → VK → Prop) : Prop :=
  ∀ (pins : List (Addr × Obj)) (s : Shared) (σ : St) (H : Hp) (x : V) (v : Value) (Q : VK), Inv X pins σ H s → RelV x v → r x H Q →
    wpAny (model X.prog X.w) X.A (f v) (EP X pins σ Q) X.xe s
/-- a call of a value that is known (a builtin, a type) with values -/
def CallR (X : Cx) (f : Value) (r : List V → Hp → VK → Prop) : Prop :=
  ∀ (pins : List (Addr × Obj)) (s : Shared) (σ : St) (H : Hp) (xs : List V) (us : List Value) (Q : VK), Inv X pins σ H s → Vals xs us → r xs H Q →
    wpAny (model X.prog X.w) X.A (call f us) (EP X pins σ Q) X.xe s
/-- a value's truth -/
def TruR (X : Cx) (r : V → Hp → (Bool → Hp → Prop) → Prop) : Prop :=
  ∀ (pins : List (Addr × Obj)) (s : Shared) (σ : St) (H : Hp) (x : V) (v : Value) (Q : Bool → Hp → Prop), Inv X pins σ H s → RelV x v → r x H Q →
    wpAny (model X.prog X.w) X.A (truthy v) (TP X pins σ Q) X.xe s
def tOp (r : R2) (ta tb : TE) : TE := fun σ H Q => ta σ H fun x H1 => tb σ H1 fun y H2 => r x y H2 Q
def tUn (r : V → Hp → VK → Prop) (ta : TE) : TE := fun σ H Q => ta σ H fun x H1 => r x H1 Q
/-- ints in, under C, and a value out -/
def rI (C : Int → Int → Prop) (g : Int → Int → V) : R2 := fun x y H Q => ∃ i j, x = .int i ∧ y = .int j ∧ C i j ∧ Q (g i j) H
def rI0 (g : Int → Int → V) : R2 := fun x y H Q => ∃ i j, x = .int i ∧ y = .int j ∧ Q (g i j) H
def rU (g : Int → V) : V → Hp → VK → Prop := fun x H Q => ∃ i, x = .int i ∧ Q (g i) H
section
variable {X : Cx} {a b c : Expr} {ta tb tc : TE} {pos : Pos}
theorem binT (ha : PE X a ta) (hb : PE X b tb) {pins : List (Addr × Obj)} {s : Shared} {σ : St} {H : Hp} {R : V → V → Hp → Prop} (I : Inv X pins σ H s)
    (h : ta σ H fun x H1 => tb σ H1 fun y H2 => R x y H2) {Q : Value → Shared → Prop} {f : Value → Value → Sem Value}
    (hf : ∀ v u s2 x y H2, Inv X pins σ H2 s2 → RelV x v → RelV y u → R x y H2 → wpAny (model X.prog X.w) X.A (f v u) Q X.xe s2) :
    wpAny (model X.prog X.w) X.A (eval a X.env) (fun v s₁ => wpAny (model X.prog X.w) X.A (eval b X.env) (fun u s₂ => wpAny (model X.prog X.w) X.A (f v u) Q X.xe s₂) X.xe s₁) X.xe s := by
  refine thn (ha pins s σ H _ I h) fun v s1 ⟨x, H1, I1, r1, q1⟩ => ?_
  refine thn (hb pins s1 σ H1 _ I1 q1) fun u s2 ⟨y, H2, I2, r2, q2⟩ => ?_
  exact hf v u s2 x y H2 I2 r1 r2 q2
theorem pe_op {op : Operator} {r : R2} (ho : OpR X (binaryOp op) r) (ha : PE X a ta) (hb : PE X b tb) : PE X (.BinOp a op b pos) (tOp r ta tb) := by
  intro pins s σ H Q I h
  exact wpAny_BinOp (binT ha hb I h fun v u s2 x y H2 I2 rx ry q => ho pins s2 σ H2 x y v u Q I2 rx ry q)
theorem pe_un {op : UnaryOp} {r : V → Hp → VK → Prop} (ho : UnR X (unaryOp op) r) (ha : PE X a ta) : PE X (.UnaryOp op a pos) (tUn r ta) := by
  intro pins s σ H Q I h
  exact UnaryOp_ (thn (ha pins s σ H _ I h) fun v s1 ⟨x, H1, I1, r1, q1⟩ => ho pins s1 σ H1 x v Q I1 r1 q1)
/-! ### ints -/
theorem opI {f : Value → Value → Sem Value} {C : Int → Int → Prop} {g : Int → Int → Int}
    (rule : ∀ (i j : Int) (t u : Tok) (s : Shared) (Q : Value → Shared → Prop) (E : Value → Shared → Prop), C i j → Q (.int (g i j) s.toks) { s with toks := s.toks + 1 } → wpAny (model X.prog X.w) X.A (f (.int i t) (.int j u)) Q E s) :
    OpR X f (rI C fun i j => .int (g i j)) := by
  intro pins s σ H x y v u Q I rx ry h
  obtain ⟨i, j, rfl, rfl, hc, q⟩ := h
  obtain ⟨t, rfl⟩ := rx
  obtain ⟨t', rfl⟩ := ry
  exact rule i j t t' s _ _ hc ⟨.int (g i j), H, I.tok _, ⟨_, rfl⟩, q⟩
theorem opI0 {f : Value → Value → Sem Value} {g : Int → Int → Int}
    (rule : ∀ (i j : Int) (t u : Tok) (s : Shared) (Q : Value → Shared → Prop) (E : Value → Shared → Prop), Q (.int (g i j) s.toks) { s with toks := s.toks + 1 } → wpAny (model X.prog X.w) X.A (f (.int i t) (.int j u)) Q E s) :
    OpR X f (rI0 fun i j => .int (g i j)) := by
  intro pins s σ H x y v u Q I rx ry h
  obtain ⟨i, j, rfl, rfl, q⟩ := h
  obtain ⟨t, rfl⟩ := rx
  obtain ⟨t', rfl⟩ := ry
  exact rule i j t t' s _ _ ⟨.int (g i j), H, I.tok _, ⟨_, rfl⟩, q⟩
theorem opB0 {f : Value → Value → Sem Value} {g : Int → Int → Bool}
    (rule : ∀ (i j : Int) (t u : Tok) (s : Shared) (Q : Value → Shared → Prop) (E : Value → Shared → Prop), Q (.bool (g i j)) s → wpAny (model X.prog X.w) X.A (f (.int i t) (.int j u)) Q E s) :
    OpR X f (rI0 fun i j => .bl (g i j)) := by
  intro pins s σ H x y v u Q I rx ry h
  obtain ⟨i, j, rfl, rfl, q⟩ := h
  obtain ⟨t, rfl⟩ := rx
  obtain ⟨t', rfl⟩ := ry
  exact rule i j t t' s _ _ ⟨.bl (g i j), H, I, rfl, q⟩
def CDiv (i j : Int) : Prop := 0 < j ∧ j < 1073741824
def CDivN (i j : Int) : Prop := j ≠ 0 ∧ j.natAbs < 1073741824
def CPow (i j : Int) : Prop := 0 ≤ j ∧ j ≤ 1000000 ∧ i.natAbs < 2 ^ 64
def CMul (i j : Int) : Prop := (-(2 ^ 64) < i ∧ i < 2 ^ 64) ∨ (-(2 ^ 64) < j ∧ j < 2 ^ 64)
theorem CMul.ok {i j : Int} (h : CMul i j) : IntMulOk i j := by
  rcases h with ⟨h1, h2⟩ | ⟨h1, h2⟩
  · exact .of_left (intBits_le_64 h1 h2)
  · exact .of_right (intBits_le_64 h1 h2)
theorem op_add : OpR X (binaryOp .Add) (rI0 fun i j => .int (i + j)) := opI0 fun _ _ _ _ _ _ _ q => add_int q
theorem op_sub : OpR X (binaryOp .Sub) (rI0 fun i j => .int (i - j)) := opI0 fun _ _ _ _ _ _ _ q => sub_int q
theorem op_mul : OpR X (binaryOp .Mult) (rI CMul fun i j => .int (i * j)) := opI fun _ _ _ _ _ _ _ hc q => mul_int q hc.ok
/-- // by a positive divisor -/
theorem op_fdiv : OpR X (binaryOp .FloorDiv) (rI CDiv fun i j => .int (i / j)) := opI fun i j _ _ _ _ _ hc q => by
  have h1 : (0 : Int) < j := hc.1
  have h2 : j < 1073741824 := hc.2
  exact floordiv_int (by omega) (by rw [Int.fdiv_eq_ediv_of_nonneg i (by omega)]; exact q) (.inl (PyProof.noPylong_small (by omega)))
/-- % by a positive divisor of any size -/
theorem op_mod : OpR X (binaryOp .Mod) (rI (fun _ j => 0 < j) fun i j => .int (i % j)) := opI fun i j _ _ _ _ _ hc q => by
  have h1 : (0 : Int) < j := hc
  exact mod_int' (by omega) (by rw [Int.fmod_eq_emod_of_nonneg i (by omega)]; exact q)
theorem op_pow : OpR X (binaryOp .Pow) (rI CPow fun i j => .int (i ^ j.toNat)) := opI fun _ _ _ _ _ _ _ hc q => pow_int_small hc.1 hc.2.1 hc.2.2 q
theorem unI {f : Value → Sem Value} {g : Int → Int}
    (rule : ∀ (i : Int) (t : Tok) (s : Shared) (Q : Value → Shared → Prop) (E : Value → Shared → Prop), Q (.int (g i) s.toks) { s with toks := s.toks + 1 } → wpAny (model X.prog X.w) X.A (f (.int i t)) Q E s) :
    UnR X f (rU fun i => .int (g i)) := by
  intro pins s σ H x v Q I rx h
  obtain ⟨i, rfl, q⟩ := h
  obtain ⟨t, rfl⟩ := rx
  exact rule i t s _ _ ⟨.int (g i), H, I.tok _, ⟨_, rfl⟩, q⟩
theorem un_neg : UnR X (unaryOp .USub) (rU fun i => .int (-i)) := unI fun _ _ _ _ _ q => neg_int q
/-! ### bools among ints: n += (a < b) -/
end
/-! ### comparisons -/
/-- the scalars that == tells apart as data does -/
def scal : V → V → Bool
  | .non, .non => true | .non, .int _ => true | .int _, .non => true | .non, .bl _ => true | .bl _, .non => true | .non, .str _ => true | .str _, .non => true
  | .int _, .int _ => true | .bl _, .bl _ => true | .str _, .str _ => true | .byt _, .byt _ => true
  | .int _, .str _ => true | .str _, .int _ => true | .bl _, .str _ => true | .str _, .bl _ => true
  | _, _ => false
def rEq : R2 := fun x y H Q => scal x y = true ∧ Q (.bl (decide (x = y))) H
def rNe : R2 := fun x y H Q => scal x y = true ∧ Q (.bl (!decide (x = y))) H
section
variable {X : Cx} {a b c : Expr} {ta tb tc : TE} {pos : Pos}
theorem fin_bl {pins : List (Addr × Obj)} {σ : St} {H : Hp} {s : Shared} {Q : VK} {k k' : Bool} (I : Inv X pins σ H s) (q : Q (.bl k) H) (e : k = k') : EP X pins σ Q (.bool k') s := by
  subst e
  exact ⟨.bl k, H, I, rfl, q⟩
theorem op_lt : OpR X (compareOp .Lt) (rI0 fun i j => .bl (decide (i < j))) := opB0 fun _ _ _ _ _ _ _ q => lt_int q
theorem op_le : OpR X (compareOp .LtE) (rI0 fun i j => .bl (decide (i ≤ j))) := opB0 fun _ _ _ _ _ _ _ q => le_int q
theorem op_gt : OpR X (compareOp .Gt) (rI0 fun i j => .bl (decide (j < i))) := opB0 fun _ _ _ _ _ _ _ q => gt_int q
theorem op_lt_str : OpR X (compareOp .Lt) (fun x y H Q => ∃ i j, x = .str i ∧ y = .str j ∧ Q (.bl (decide (i.cps.toList < j.cps.toList))) H) := by
  intro pins s σ H x y v u Q I rx ry h
  obtain ⟨i, j, rfl, rfl, q⟩ := h
  obtain ⟨t, rfl⟩ := rx
  obtain ⟨t', rfl⟩ := ry
  exact lt_str (fin_bl I q rfl)
/-- is None, is not None: the right side a value none -/
theorem op_isN : OpR X (compareOp .Is) (fun x y H Q => y = .non ∧ Q (.bl (decide (x = .non))) H) := by
  intro pins s σ H x y v u Q I rx ry h
  obtain ⟨rfl, q⟩ := h
  cases ry
  refine is_none_gen (fin_bl I q ?_)
  cases x <;> first
    | (cases rx; rfl)
    | (obtain ⟨t, rfl⟩ := rx; rfl)
theorem op_notN : OpR X (compareOp .IsNot) (fun x y H Q => y = .non ∧ Q (.bl (!decide (x = .non))) H) := by
  intro pins s σ H x y v u Q I rx ry h
  obtain ⟨rfl, q⟩ := h
  cases ry
  refine isnot_none_gen (fin_bl I q ?_)
  cases x <;> first
    | (cases rx; rfl)
    | (obtain ⟨t, rfl⟩ := rx; rfl)
/-- is, is not of two objects that are tracked lists or instances -/
def isObj : HO → Bool
  | .lst _ => true
  | .ins _ _ _ => true
  | _ => false
/-- two rules for one operation: by cases -/
theorem OpR.or {f : Value → Value → Sem Value} {r r' : R2} (h : OpR X f r) (h' : OpR X f r') : OpR X f (fun x y H Q => r x y H Q ∨ r' x y H Q) := by
  intro pins s σ H x y v u Q I rx ry q
  rcases q with q | q
  · exact h pins s σ H x y v u Q I rx ry q
  · exact h' pins s σ H x y v u Q I rx ry q
theorem nomark (b : Expr) {op : CmpOp} (h : op ≠ .In := by decide) (h2 : op ≠ .NotIn := by decide) : behindInMarks op b = false := by
  have e1 : (op == CmpOp.In) = false := by cases op <;> first | rfl | exact absurd rfl h
  have e2 : (op == CmpOp.NotIn) = false := by cases op <;> first | rfl | exact absurd rfl h2
  cases b <;> simp [behindInMarks, e1, e2]
/-- a comparison as a value; hm: nomark b, or (for in, not in) by with_unfolding_all rfl -/
theorem pe_cmpR {op : CmpOp} {r : R2} (ho : OpR X (compareOp op) r) (ha : PE X a ta) (hb : PE X b tb) (hm : behindInMarks op b = false) : PE X (.Compare a [op] [b] pos) (tOp r ta tb) := by
  intro pins s σ H Q I h
  exact wpAny_Compare1 (binT ha hb I h fun v u s2 x y H2 I2 rx ry q => ho pins s2 σ H2 x y v u Q I2 rx ry q) hm
/-- a reading of a value as a test -/
def tTest (t : TE) : TT := fun σ H Q => t σ H fun x H' => ∃ k, x = .bl k ∧ Q k H'
theorem pt_cmpR {op : CmpOp} {r : R2} (ho : OpR X (compareOp op) r) (ha : PE X a ta) (hb : PE X b tb) (hm : behindInMarks op b = false) : PT X (.Compare a [op] [b] pos) (tTest (tOp r ta tb)) := by
  intro pins s σ H Q I h
  refine wpAny_isTrue_Compare1 (thn (ha pins s σ H _ I h) fun v s1 ⟨x, H1, I1, r1, q1⟩ => thn (hb pins s1 σ H1 _ I1 q1) fun u s2 ⟨y, H2, I2, r2, q2⟩ =>
    thn (ho pins s2 σ H2 x y v u _ I2 r1 r2 q2) fun c s3 ⟨z, H3, I3, r3, k, e, q3⟩ => ?_) hm
  subst e
  cases r3
  exact wpAny_truthy_bool ⟨H3, I3, q3⟩
/-- a op1 b op2 c -/
def tChain (r r' : R2) (ta tb tc : TE) : TE := fun σ H Q => ta σ H fun x H1 => tb σ H1 fun y H2 => r x y H2 fun z H3 => ∃ k, z = .bl k ∧
  (if k = true then tc σ H3 fun w' H4 => r' y w' H4 Q else Q (.bl false) H3)
/-! ### truth -/
/-- a value's truth by the abstract heap -/
def TruV (K : PySem.W.Frag) (x : V) (H : Hp) (k : Bool) : Prop :=
  match x with
  | .non => k = false
  | .bl b => k = b
  | .int i => k = (i != 0)
  | .str y => y.length ≤ sizeLine ∧ k = ((y.length : Int) != 0)
  | .byt y => y.size ≤ sizeLine ∧ k = ((y.size : Int) != 0)
  | .ref p => (∃ xs, SqL K H p xs ∧ k = !xs.isEmpty) ∨ (∃ xs, SqT K H p xs ∧ k = !xs.isEmpty) ∨ ∃ kvs, H p = some (.dK kvs) ∧ k = !kvs.isEmpty
  | _ => False
theorem isEmpty_kv {κ : Type} {kvs : List (κ × V)} {vs : List (κ × Value)} (r : KV kvs vs) : (!vs.isEmpty) = !kvs.isEmpty := by
  cases r <;> rfl
theorem isEmpty_of {xs : List V} {its : List Value} (r : Vals xs its) : (!its.toArray.isEmpty) = !xs.isEmpty := by
  cases r <;> simp
theorem line63 : (sizeLine : Nat) < 2 ^ 63 := by rw [sizeLine_eq]; decide
theorem tru_ok : TruR X (fun x H Q => ∃ k, TruV X.K x H k ∧ Q k H) := by
  intro pins s σ H x v Q I rx h
  obtain ⟨k, e, q⟩ := h
  have hl := line63
  have hs : sizeLine = 16777216 := sizeLine_eq
  cases x with
  | non =>
    cases rx
    have e' : k = false := e
    subst e'
    exact truthy_none ⟨H, I, q⟩
  | bl b =>
    cases rx
    have e' : k = b := e
    subst e'
    exact wpAny_truthy_bool ⟨H, I, q⟩
  | int i =>
    obtain ⟨t, rfl⟩ := rx
    have e' : k = (i != 0) := e
    subst e'
    exact PySem.P.truthy_int ⟨H, I, q⟩
  | str y =>
    obtain ⟨t, rfl⟩ := rx
    obtain ⟨hy, e'⟩ : y.length ≤ sizeLine ∧ k = ((y.length : Int) != 0) := e
    subst e'
    exact PySem.P.truthy_str (by omega) ⟨H, I.tok _, q⟩
  | byt y =>
    obtain ⟨t, rfl⟩ := rx
    obtain ⟨hy, e'⟩ : y.size ≤ sizeLine ∧ k = ((y.size : Int) != 0) := e
    subst e'
    exact PySem.W.truthy_bytes (by omega) ⟨H, I.tok _, q⟩
  | ref p =>
    cases rx
    have e' : (∃ xs, SqL X.K H p xs ∧ k = !xs.isEmpty) ∨ (∃ xs, SqT X.K H p xs ∧ k = !xs.isEmpty) ∨ ∃ kvs, H p = some (.dK kvs) ∧ k = !kvs.isEmpty := e
    rcases e' with ⟨xs, hx, e'⟩ | ⟨xs, hx, e'⟩ | ⟨kvs, hx, e'⟩
    · subst e'
      obtain ⟨its, r, pl, hz⟩ := I.list hx
      have hlen := r.length
      exact wpAny_truthy_list pl.isList (by simp only [List.size_toArray]; omega) ⟨H, I.tok _, by rw [isEmpty_of r]; exact q⟩
    · subst e'
      obtain ⟨its, r, pl, hz⟩ := I.tuple hx
      have hlen := r.length
      exact truthy_tuple pl (by simp only [List.size_toArray]; omega) ⟨H, I.tok _, by rw [isEmpty_of r]; exact q⟩
    · subst e'
      obtain ⟨hz, hS, vs, r, m⟩ : kvs.length ≤ sizeLine ∧ (p == sysModules) = false ∧ ∃ vs, KV kvs vs ∧ s.heap.DictOf (mixKind X.prog X.w) p vs := I.hok p _ hx
      have hlen : kvs.length = vs.length := Paired.length r
      exact wpAny_truthy_dict hS m (by omega) ⟨H, I.tok _, by rw [isEmpty_kv r]; exact q⟩
  | _ => exact (show False from e).elim
/-- any expression whose test is its value's truth (a name, a call, a subscript, a field ..: he by fun _ => rfl) -/
theorem pt_truth (ha : PE X a ta) (he : ∀ whole, isTrue a X.env whole = (do let v ← whole; standAt a.pos; holding [v] (truthy v))) :
    PT X a (fun σ H Q => ta σ H fun x H' => ∃ k, TruV X.K x H' k ∧ Q k H') := by
  intro pins s σ H Q I h
  exact isTrue_plain (thn (ha pins s σ H _ I h) fun v s1 ⟨x, H1, I1, r1, q1⟩ => tru_ok pins s1 σ H1 x v Q I1 r1 q1) (he _)
/-! ### strs and bytes -/
theorem op_add_str : OpR X (binaryOp .Add) (fun x y H Q => ∃ i j, x = .str i ∧ y = .str j ∧ i.length + j.length ≤ sizeLine ∧ Q (.str (i ++ j)) H) := by
  intro pins s σ H x y v u Q I rx ry h
  obtain ⟨i, j, rfl, rfl, hz, q⟩ := h
  obtain ⟨t, rfl⟩ := rx
  obtain ⟨t', rfl⟩ := ry
  exact add_str (fun t' tk => ⟨.str (i ++ j), H, I.tok _, ⟨_, rfl⟩, q⟩) hz
def PlainIxT (b : Expr) : Prop := ∀ o i, subscripted b false o i = operate [o, i] (getItem o i)
/-! ### scalar builtins, by CallR -/
theorem vals1 {x : V} {us : List Value} (r : Vals [x] us) : ∃ u, us = [u] ∧ RelV x u := by
  cases r with
  | cons r1 r2 => cases r2; exact ⟨_, rfl, r1⟩
theorem vals2 {x y : V} {us : List Value} (r : Vals [x, y] us) : ∃ u w', us = [u, w'] ∧ RelV x u ∧ RelV y w' := by
  cases r with
  | cons r1 r2 =>
    cases r2 with
    | cons r3 r4 => cases r4; exact ⟨_, _, rfl, r1, r3⟩
theorem call_max2 (hc : X.calm = true) : CallR X (.builtin "max") (fun xs H Q => ∃ i j, xs = [.int i, .int j] ∧ Q (.int (if j > i then j else i)) H) := by
  intro pins s σ H xs us Q I r h
  obtain ⟨i, j, rfl, q⟩ := h
  obtain ⟨u, w', rfl, ⟨t, rfl⟩, ⟨t', rfl⟩⟩ := vals2 r
  refine max_two_ints (I.ok.hd hc) fun h' tk k => ⟨_, H, I.kept k, ?_, q⟩
  by_cases hj : j > i
  · rw [if_pos hj, if_pos hj]; exact ⟨_, rfl⟩
  · rw [if_neg hj, if_neg hj]; exact ⟨_, rfl⟩
theorem call_int1 : CallR X (.type "int") (fun xs H Q => (∃ i, xs = [.int i] ∧ Q (.int i) H) ∨ ∃ k, xs = [.bl k] ∧ Q (.int (if k then 1 else 0)) H) := by
  intro pins s σ H xs us Q I r h
  rcases h with ⟨i, rfl, q⟩ | ⟨k, rfl, q⟩
  · obtain ⟨u, rfl, t, rfl⟩ := vals1 r
    exact call_int_int ⟨.int i, H, I, ⟨_, rfl⟩, q⟩
  · obtain ⟨u, rfl, r1⟩ := vals1 r
    cases r1
    exact call_int_bool ⟨.int (if k then 1 else 0), H, I.tok _, ⟨_, rfl⟩, q⟩
theorem call_str_int : CallR X (.type "str") (fun xs H Q => ∃ i, xs = [.int i] ∧ i.natAbs.log2 < 1920 ∧ Q (.str (toString i)) H) := by
  intro pins s σ H xs us Q I r h
  obtain ⟨i, rfl, hz, q⟩ := h
  obtain ⟨u, rfl, t, rfl⟩ := vals1 r
  exact PySem.P.str_of_int hz ⟨.str _, H, I.tok _, ⟨_, rfl⟩, q⟩
/-- len of a str, a bytes, a list, a tuple -/
def LenV (K : PySem.W.Frag) (x : V) (H : Hp) (n : Nat) : Prop :=
  match x with
  | .str y => y.length ≤ sizeLine ∧ n = y.length
  | .byt y => y.size ≤ sizeLine ∧ n = y.size
  | .ref p => (∃ xs, SqL K H p xs ∧ n = xs.length) ∨ ∃ xs, SqT K H p xs ∧ n = xs.length
  | _ => False
end
end L2
namespace L2
open PySem PySem.Spec PyProof.Rows
/-! ### an instance, its attributes a map -/
structure ObjM (h : Heap) (x dx C : Addr) (mA : Str → Option Value) : Prop where
  obj : h.get? x = some (PySem.W.instObj C dx)
  ns : h.Ns1 dx mA
  ne : dx ≠ x
theorem lookIn_ns {h : Heap} {dx : Addr} {mA : Str → Option Value} (n : h.Ns1 dx mA) : ∃ od, h.get? dx = some od ∧ ∀ name, PySem.W.lookIn name od = some (mA name) := by
  obtain ⟨o, es, ep, ho, hd, hk, _, hm⟩ := n
  refine ⟨o, ho, fun name => ?_⟩
  have e := hm name
  unfold nsFind findBy at e
  rw [← Array.find?_toList] at e
  unfold PySem.W.lookIn
  rw [hd]
  dsimp only
  split
  · rename_i y q
    rw [q] at e
    exact congrArg some e
  · rename_i q
    rw [q] at e
    have a : es.toList.any (·.refKey) = false := by
      rw [List.any_eq_false]
      intro y hy
      obtain ⟨z, t, hkey⟩ := hk y (Array.mem_toList_iff.mp hy)
      simp [DictEntry.refKey, hkey]
    have a' : ¬ es.toList.any (·.refKey) = true := by rw [a]; exact Bool.false_ne_true
    rw [if_neg a']
    exact congrArg some e
theorem ObjM.look {h : Heap} {x dx C : Addr} {mA : Str → Option Value} (I : ObjM h x dx C mA) : ∃ od, PySem.W.InstAt h x (PySem.W.instObj C dx) C (some od) ∧ ∀ name, PySem.W.lookIn name od = some (mA name) :=
  let ⟨od, ho, hl⟩ := lookIn_ns I.ns
  ⟨od, ⟨I.obj, rfl, rfl, ho⟩, hl⟩
section
variable {prog : Program} {w : World} {A : Around} {E : Value → Shared → Prop} {s : Shared} {K : PySem.W.Frag} {x dx C f : Addr} {mA : Str → Option Value} {name : Str} {v : Value}
theorem get_map {expr : Bool} {Q : Value → Shared → Prop} (X : K.In s.heap) (I : ObjM s.heap x dx C mA) (hg : PySem.W.plainGet K C name = true) (hh : PySem.W.hasDictIn K C = true)
    (ha : PySem.W.findIn K (.ref C) name = some none) (hv : mA name = some v) (hv' : PySem.W.handedIn v = true) (h : Q v { s with toks := s.toks + 1 }) :
    wpAny (model prog w) A (getAttr (.ref x) name expr) Q E s := by
  obtain ⟨od, J, hl⟩ := I.look
  exact PySem.W.get_value X J (PySem.W.plainGet_of hg).1 (PySem.W.findObj_own hh ha rfl (by rw [hl, hv])) hv' h
theorem get_meth {pl : Sem Bool} {Q : Value × List Value → Shared → Prop} (X : K.In s.heap) (I : ObjM s.heap x dx C mA) (hg : PySem.W.plainGet K C name = true)
    (hf : PySem.W.findIn K (.ref C) name = some (some (.ref f))) (ht : PySem.W.isFn K (.ref f) = true) (hv : mA name = none) (h : Q (.ref f, [.ref x]) s) :
    wpAny (model prog w) A (getMethod (.ref x) name pl) Q E s := by
  obtain ⟨od, J, hl⟩ := I.look
  exact PySem.W.method_fn X J (PySem.W.plainGet_of hg).1 (PySem.W.plainGet_of hg).2 hf (beq_iff_eq.mp ht) (by show (PySem.W.lookIn name od).map (·.isSome) = some false; rw [hl, hv]; rfl) h
theorem set_map {ns : List Str} {Q : Unit → Shared → Prop} (X : K.In s.heap) (I : ObjM s.heap x dx C mA)
    (hs : PySem.W.findIn K (.ref C) "__setattr__" = some (some (.builtin "object.__setattr__"))) (hp : PySem.W.plainOver K C = true) (ht : PySem.W.takerIn K C name = some none) (hh : PySem.W.hasDictIn K C = true)
    (hw : PySem.Within mA ns) (hsz : ns.length ≤ sizeLine)
    (h : ∀ h', ObjM h' x dx C (fun y => if y = name then some v else mA y) → Heap.SameBut dx s.heap h' → Q () { s with heap := h', toks := s.toks + 2 }) :
    wpAny (model prog w) A (setAttr (.ref x) name v) Q E s := by
  obtain ⟨od, J, hl⟩ := I.look
  refine PySem.W.set_plain X J hs (PySem.W.osa_open (s := { s with toks := s.toks + 1 }) (r := none) X J hp ht fun b => ?_)
  obtain ⟨cd, hc, hd'⟩ := PySem.W.any_some hh
  have hx : s.heap.get? x = some ⟨.ref C, some dx, .plain, #[]⟩ := I.obj
  refine wpAny_bind (wpAny_pure (wpAny_bind (wpAny_bind (wpAny_loadPart hx (wpAny_bind (PySem.W.Looks.here (s := { s with toks := s.toks + 1 }) (PySem.W.looks_clsIn X hc) ?_))))))
  rw [hd']
  refine wpAny_pure (a := some dx) (wpAny_bind (wpAny_pure (wpAny_bind ?_)))
  refine wpAny_nsSet1 (s := { s with toks := s.toks + 1 }) I.ns fun h' hn2 hs2 => ?_
  obtain ⟨oD, esD, epD, hoD, hdD, hcD⟩ := hn2.count (PySem.Within.cons name v hw)
  refine wpAny_bind (wpAny_lookBehind hoD (by rw [hdD]; exact pastItsLine_dict (Nat.le_trans hcD (by rw [List.length_cons]; omega))) ?_)
  exact wpAny_pure (h _ ⟨(hs2.2 _ (Ne.symm I.ne)).trans I.obj, hn2, I.ne⟩ hs2)
/-- C(..): the dict at the heap's end, the instance behind it; then its __init__ -/
theorem make_map {R : Result → Shared → Prop} {vs : List Value} {kw : List (Str × Value)} (X : K.In s.heap) (hm : PySem.W.makesIn K C = true)
    (hi : PySem.W.findIn K (.ref C) "__init__" = some (some (.ref f))) (hf : PySem.W.typeIn K (.ref f) = some (.type "function"))
    (h : codeAny (model prog w) (A.under (.builtin "type.__call__" ⟨.ref C :: vs, kw⟩)) (.call (.ref f) ⟨.ref (s.heap.objs.size + 1) :: vs, kw⟩) (PySem.W.InitBack (s.heap.objs.size + 1) R)
      { s with heap := (s.heap.push PySem.W.emptyDict).push (PySem.W.instObj C s.heap.objs.size) }) :
    codeAny (model prog w) A (.call (.ref C) ⟨vs, kw⟩) R s := by
  obtain ⟨hh, g, d, t, os⟩ := s
  exact PySem.W.make_core (PySem.W.makes_of X hm) (PySem.W.looks_findIn X hi) (fun self => PySem.W.bind_fn X self hf) (.inl rfl) h
end
/-! ### the attributes as a list of pairs -/
def putF (f : Str) (v : V) : List (Str × V) → List (Str × V)
  | [] => [(f, v)]
  | (g, x) :: r => if g = f then (g, v) :: r else (g, x) :: putF f v r
theorem lookup_putF (f g : Str) (v : V) : ∀ fs : List (Str × V), (putF f v fs).lookup g = if g = f then some v else fs.lookup g
  | [] => by
    show List.lookup g [(f, v)] = _
    by_cases h : g = f
    · have hb : (g == f) = true := beq_iff_eq.mpr h
      simp only [List.lookup, hb, if_pos h]
    · have hb : (g == f) = false := beq_eq_false_iff_ne.mpr h
      simp only [List.lookup, hb, if_neg h]
  | (k, x) :: r => by
    have ih := lookup_putF f g v r
    rw [show putF f v ((k, x) :: r) = (if k = f then (k, v) :: r else (k, x) :: putF f v r) from rfl]
    by_cases hk : k = f
    · rw [if_pos hk]
      by_cases h : g = k
      · have hb : (g == k) = true := beq_iff_eq.mpr h
        simp only [List.lookup, hb, if_pos (h.trans hk)]
      · have hb : (g == k) = false := beq_eq_false_iff_ne.mpr h
        simp only [List.lookup, hb, if_neg (fun e : g = f => h (e.trans hk.symm))]
    · rw [if_neg hk]
      by_cases h : g = k
      · have hb : (g == k) = true := beq_iff_eq.mpr h
        simp only [List.lookup, hb, if_neg (fun e : g = f => hk (h.symm.trans e))]
      · have hb : (g == k) = false := beq_eq_false_iff_ne.mpr h
        simp only [List.lookup, hb]
        exact ih
theorem keys_putF (f : Str) (v : V) : ∀ fs : List (Str × V), f ∈ (putF f v fs).map (·.1) ∧ ∀ g, g ∈ fs.map (·.1) → g ∈ (putF f v fs).map (·.1)
  | [] => ⟨by simp [putF], fun g h => by simp at h⟩
  | (k, x) :: r => by
    obtain ⟨i1, i2⟩ := keys_putF f v r
    rw [show putF f v ((k, x) :: r) = (if k = f then (k, v) :: r else (k, x) :: putF f v r) from rfl]
    by_cases hk : k = f
    · rw [if_pos hk]
      subst hk
      exact ⟨by simp, fun g h => by simpa using h⟩
    · rw [if_neg hk]
      refine ⟨?_, fun g h => ?_⟩
      · rw [List.map_cons]
        exact List.mem_cons_of_mem _ i1
      · rw [List.map_cons] at h ⊢
        rcases List.mem_cons.mp h with e | e
        · exact List.mem_cons.mpr (.inl e)
        · exact List.mem_cons_of_mem _ (i2 g e)
theorem length_putF (f : Str) (v : V) : ∀ fs : List (Str × V), (putF f v fs).length ≤ fs.length + 1
  | [] => by simp [putF]
  | (k, x) :: r => by
    have ih := length_putF f v r
    rw [show putF f v ((k, x) :: r) = (if k = f then (k, v) :: r else (k, x) :: putF f v r) from rfl]
    by_cases hk : k = f
    · rw [if_pos hk, List.length_cons, List.length_cons]; omega
    · rw [if_neg hk, List.length_cons, List.length_cons]; omega
theorem RelO.some_of {v : V} {o : Option Value} (r : RelO (some v) o) : ∃ u, o = some u ∧ RelV v u := by
  cases o with
  | none => exact (show False from r).elim
  | some u => exact ⟨u, rfl, r⟩
theorem RelO.none_of {o : Option Value} (r : RelO none o) : o = none := by
  cases o with
  | none => rfl
  | some u => exact (show False from r).elim
theorem handed_of {v : V} {u : Value} (r : RelV v u) : PySem.W.handedIn u = true := by
  cases v with
  | non => cases (show u = Value.none from r); rfl
  | bl b => cases (show u = Value.bool b from r); rfl
  | int i => obtain ⟨t, e⟩ := (show ∃ t, u = Value.int i t from r); cases e; rfl
  | str x => obtain ⟨t, e⟩ := (show ∃ t, u = Value.str x t from r); cases e; rfl
  | byt b => obtain ⟨t, e⟩ := (show ∃ t, u = Value.bytes b t from r); cases e; rfl
  | flt b => obtain ⟨t, e⟩ := (show ∃ t, u = Value.float b t from r); cases e; rfl
  | ref a => cases (show u = Value.ref a from r); rfl
  | ty n => cases (show u = Value.type n from r); rfl
section
variable {P : Program} {w : World} {H H' : Hp} {h h' : Heap} {a C dx : Addr} {fs fs' : List (Str × V)}
theorem ins_get (hok : HOk P w H h) (e : H a = some (.ins C dx fs)) : ∃ mA, ObjM h a dx C mA ∧ (∀ f, RelO (fs.lookup f) (mA f)) ∧ PySem.Within mA (fs.map (·.1)) ∧ fs.length ≤ 1000 ∧ H dx = some (.own a) := by
  obtain ⟨d, z, ne, ob, mA, n, r, q⟩ := (show ObjOk P w H h a (.ins C dx fs) from hok a _ e)
  exact ⟨mA, ⟨ob, n, ne⟩, r, q, z, d⟩
end
/-! ### what of the text a class must have -/
structure Cls (K : PySem.W.Frag) (C : Addr) : Prop where
  pg : PySem.W.plainGet K C Str.empty = true
  hd : PySem.W.hasDictIn K C = true
  po : PySem.W.plainOver K C = true
  sa : PySem.W.findIn K (.ref C) "__setattr__" = some (some (.builtin "object.__setattr__"))
theorem Cls.get {K : PySem.W.Frag} {C : Addr} (c : Cls K C) (f : Str) : PySem.W.plainGet K C f = true := c.pg
/-- no class of it has the name -/
def NoAttr (K : PySem.W.Frag) (C : Addr) (f : Str) : Prop := PySem.W.findIn K (.ref C) f = some none
theorem NoAttr.taker {K : PySem.W.Frag} {C : Addr} {f : Str} (n : NoAttr K C f) : PySem.W.takerIn K C f = some none := by
  unfold PySem.W.takerIn
  rw [show PySem.W.findIn K (.ref C) f = some none from n]
  rfl
/-- a constant of the class -/
structure Con (K : PySem.W.Frag) (C : Addr) (f : Str) (v : V) (u : Value) : Prop where
  at_ : PySem.W.findIn K (.ref C) f = some (some u)
  rel : RelV v u
  get : PySem.W.specialIn K u "__get__" = some none
  cp : PySem.W.copiedNames.contains f = false
/-- a method: a plain def of the class or of one above it -/
structure Meth (K : PySem.W.Frag) (C : Addr) (m : Str) (f : Addr) : Prop where
  at_ : PySem.W.findIn K (.ref C) m = some (some (.ref f))
  fn : PySem.W.isFn K (.ref f) = true
  kp : PySem.W.keepIn K (.ref f) = true
section
variable {X : Cx} {pins : List (Addr × Obj)} {σ : St} {H : Hp} {s : Shared} {a C dx : Addr} {fs : List (Str × V)} {f : Str} {v : V} {A : Around} {E : Value → Shared → Prop}
theorem getattr_ok {b : Bool} {Q : Value → Shared → Prop} (I : Inv X pins σ H s) (e : H a = some (.ins C dx fs)) (c : Cls X.K C) (n : NoAttr X.K C f) (l : fs.lookup f = some v)
    (h : ∀ u s', Inv X pins σ H s' → RelV v u → Q u s') : wpAny (model X.prog X.w) A (getAttr (.ref a) f b) Q E s := by
  obtain ⟨mA, O, r, _, _, _⟩ := ins_get I.hok e
  obtain ⟨u, hu, ru⟩ := RelO.some_of (v := v) (o := mA f) (by rw [← l]; exact r f)
  exact get_map I.kIn O (c.get f) c.hd n hu (handed_of ru) (h u _ (I.tok _) ru)
theorem getmeth_ok {m : Str} {g : Addr} {pl : Sem Bool} {Q : Value × List Value → Shared → Prop} (I : Inv X pins σ H s) (e : H a = some (.ins C dx fs)) (c : Cls X.K C) (k : Meth X.K C m g) (l : fs.lookup m = none)
    (h : Q (.ref g, [.ref a]) s) : wpAny (model X.prog X.w) A (getMethod (.ref a) m pl) Q E s := by
  obtain ⟨mA, O, r, _, _, _⟩ := ins_get I.hok e
  have hn : mA m = none := RelO.none_of (by rw [← l]; exact r m)
  exact get_meth I.kIn O (c.get m) k.at_ k.fn hn h
theorem setattr_ok {y : V} {u : Value} {Q : Unit → Shared → Prop} (I : Inv X pins σ H s) (e : H a = some (.ins C dx fs)) (c : Cls X.K C) (n : NoAttr X.K C f) (hl : fs.length < 1000) (ry : RelV y u)
    (h : ∀ s', Inv X pins σ (upd H a (.ins C dx (putF f y fs))) s' → Q () s') : wpAny (model X.prog X.w) A (setAttr (.ref a) f u) Q E s := by
  obtain ⟨mA, O, r, wi, _, ho⟩ := ins_get I.hok e
  have hz : (fs.map (·.1)).length ≤ sizeLine := by rw [List.length_map, sizeLine_eq]; omega
  refine set_map I.kIn O c.sa c.po n.taker c.hd wi hz fun h' O' sb => h _ ?_
  have hd : ∃ o, h'.get? dx = some o := let ⟨o, _, _, e', _⟩ := O'.ns; ⟨o, e'⟩
  refine I.write (x := a) (e := dx) (by rw [e]; exact True.intro) (.inr ho) (fun b q hb z => (sb.2 b hb).trans z) hd ?_
  refine ⟨by rw [upd_ne O.ne]; exact ho, ?_, O.ne, O'.obj, _, O'.ns, fun g => ?_, fun g hg => ?_⟩
  · have := length_putF f y fs; omega
  · show RelO ((putF f y fs).lookup g) (if g = f then some u else mA g)
    rw [lookup_putF]
    by_cases q : g = f
    · rw [if_pos q, if_pos q]; exact ry
    · rw [if_neg q, if_neg q]; exact r g
  · by_cases q : g = f
    · rw [q]; exact (keys_putF f y fs).1
    · refine (keys_putF f y fs).2 g (wi g fun z => hg ?_)
      show (if g = f then some u else mA g) = none
      rw [if_neg q]; exact z
/-- a new instance, tracked, without attributes -/
theorem Inv.made (I : Inv X pins σ H s) : Inv X pins σ (upd (upd H s.heap.objs.size (.own (s.heap.objs.size + 1))) (s.heap.objs.size + 1) (.ins C s.heap.objs.size []))
    { s with heap := (s.heap.push PySem.W.emptyDict).push (PySem.W.instObj C s.heap.objs.size) } := by
  have e1 : (s.heap.push PySem.W.emptyDict).get? s.heap.objs.size = some PySem.W.emptyDict := Heap.get?_push_size s.heap rfl
  have e2 : ((s.heap.push PySem.W.emptyDict).push (PySem.W.instObj C s.heap.objs.size)).get? (s.heap.objs.size + 1) = some (PySem.W.instObj C s.heap.objs.size) := by
    have := Heap.get?_push_size (s.heap.push PySem.W.emptyDict) (o := PySem.W.instObj C s.heap.objs.size) rfl
    rwa [Heap.size_push] at this
  have e3 : (s.heap.push PySem.W.emptyDict).Ns s.heap.objs.size (fun _ => none) := ⟨PySem.W.emptyDict, #[], _, e1, rfl, (fun e he => absurd he (by simp)), fun _ => rfl⟩
  have I1 := I.laid (a := s.heap.objs.size) (o := .own (s.heap.objs.size + 1)) (h' := s.heap.push PySem.W.emptyDict) (t' := s.toks) (fun b u q => Heap.get?_push_of_some _ q) (Nat.le_refl _) ⟨_, e1⟩
  refine I1.laid (a := s.heap.objs.size + 1) (o := .ins C s.heap.objs.size []) (t' := s.toks) (fun b u q => Heap.get?_push_of_some _ q) (Nat.le_of_eq (Heap.size_push _ _)) ?_
  have ne : s.heap.objs.size ≠ s.heap.objs.size + 1 := Nat.ne_of_lt (Nat.lt_succ_self _)
  refine ⟨by rw [upd_ne ne, upd_same], Nat.zero_le _, ne, e2, fun _ => none, (Heap.Ns1.of_empty e3).at fun o q => Heap.get?_push_of_some _ q, fun _ => True.intro, fun y hy => absurd rfl hy⟩
/-- e.f where nothing but the object is asked: through attributeBase (super) and the last hold -/
theorem attr_of {prog : Program} {w : World} {env : Env} {e : Expr} {f : Str} {pos : Pos} {s : Shared} {Q : Value → Shared → Prop} (hb : attributeBase e f env (eval e env) = eval e env)
    (h : wpAny (model prog w) A (eval e env) (fun o s₁ => wpAny (model prog w) A (getAttr o f true) Q E s₁) E s) : wpAny (model prog w) A (eval (.Attribute e f pos) env) Q E s :=
  Attribute_any_ h (by rw [arm_eval_Attribute, hb])
end
/-! ### readings and rules -/
/-- e.f, an attribute of the instance -/
def tFld (K : PySem.W.Frag) (ta : TE) (f : Str) : TE := fun σ H Q => ta σ H fun x H1 => ∃ a C dx fs v, x = .ref a ∧ H1 a = some (.ins C dx fs) ∧ Cls K C ∧ NoAttr K C f ∧ fs.lookup f = some v ∧ Q v H1
/-- e.f, a constant of the class -/
def tCon (K : PySem.W.Frag) (ta : TE) (f : Str) : TE := fun σ H Q => ta σ H fun x H1 => ∃ a C dx fs v u, x = .ref a ∧ H1 a = some (.ins C dx fs) ∧ Cls K C ∧ Con K C f v u ∧ fs.lookup f = none ∧ Q v H1
/-- e.f = value -/
def sFld (K : PySem.W.Frag) (ta tv : TE) (f : Str) : TS := fun D σ H => tv σ H fun y H1 => ta σ H1 fun x H2 => ∃ a C dx fs, x = .ref a ∧ H2 a = some (.ins C dx fs) ∧ Cls K C ∧ NoAttr K C f ∧ fs.length < 1000 ∧
  D.nx σ (upd H2 a (.ins C dx (putF f y fs)))
/-- an augmented operator on two values -/
def InOp (X : Cx) (op : Operator) (rd : V → V → Hp → VK → Prop) : Prop :=
  ∀ (pins : List (Addr × Obj)) (s : Shared) (σ : St) (H : Hp) (x y : V) (u v : Value) (Q : VK), Inv X pins σ H s → RelV x u → RelV y v → rd x y H Q → wpAny (model X.prog X.w) X.A (inplaceOp op u v) (EP X pins σ Q) X.xe s
/-- e.f op= value -/
def sFldAug (K : PySem.W.Frag) (ta tv : TE) (rd : V → V → Hp → VK → Prop) (f : Str) : TS := fun D σ H => ta σ H fun x H1 => ∃ a C dx fs v, x = .ref a ∧ H1 a = some (.ins C dx fs) ∧ Cls K C ∧ NoAttr K C f ∧ fs.lookup f = some v ∧
  tv σ H1 fun y H2 => rd v y H2 fun z H3 => ∃ dx' fs', H3 a = some (.ins C dx' fs') ∧ fs'.length < 1000 ∧ D.nx σ (upd H3 a (.ins C dx' (putF f z fs')))
section
variable {X : Cx} {o e value : Expr} {f : Str} {pos pos' tpos : Pos} {ta tv : TE}
theorem pe_fld (he : PE X e ta) (hb : attributeBase e f X.env (eval e X.env) = eval e X.env) : PE X (.Attribute e f pos) (tFld X.K ta f) := by
  intro pins s σ H Q I h
  refine attr_of hb (thn (he pins s σ H _ I h) fun u s1 ⟨x, H1, I1, rx, a, C, dx, fs, v, ex, ea, c, n, l, q⟩ => ?_)
  subst ex
  obtain rfl : u = Value.ref a := rx
  exact getattr_ok I1 ea c n l fun u' s2 I2 ru => ⟨v, H1, I2, ru, q⟩
theorem ps_fld (ha : PE X o ta) (hv : PE X value tv) (hs : swapsWith value (some (.Attribute o f pos')) pos.line X.env = pure false) : PS X (.Assign [.Attribute o f pos'] value pos) (sFld X.K ta tv f) := by
  intro pins s σ H D I h
  refine plainObj_wpAny_Assign_Attribute (thn (hv pins s σ H _ I h) fun u s1 ⟨y, H1, I1, ry, q⟩ => thn (ha pins s1 σ H1 _ I1 q) fun ov s2 ⟨x, H2, I2, rx, a, C, dx, fs, ex, ea, c, n, l, q2⟩ => ?_) hs
  subst ex
  obtain rfl : ov = Value.ref a := rx
  exact setattr_ok I2 ea c n l ry fun s3 I3 => ⟨σ, _, I3, q2⟩
def rAdd : V → V → Hp → VK → Prop := fun x y H Q => ∃ i j, x = .int i ∧ y = .int j ∧ Q (.int (i + j)) H
def rSub : V → V → Hp → VK → Prop := fun x y H Q => ∃ i j, x = .int i ∧ y = .int j ∧ Q (.int (i - j)) H
end
/-! ### isinstance -/
section
variable {X : Cx} {pins : List (Addr × Obj)} {σ : St} {H : Hp} {s : Shared} {A : Around} {E : Value → Shared → Prop} {Q : Value → Shared → Prop} {c : Value} {b : Bool}
/-- the type of a value, as the fragment's deciders take it; for an instance its class -/
inductive TyOf (K : PySem.W.Frag) (H : Hp) : V → Value → Prop where
  | non : TyOf K H .non (.type "NoneType")
  | bl (x : Bool) : TyOf K H (.bl x) (.type "bool")
  | int (i : Int) : TyOf K H (.int i) (.type "int")
  | str (x : Str) : TyOf K H (.str x) (.type "str")
  | flt (x : UInt64) : TyOf K H (.flt x) (.type "float")
  | lst {a : Addr} {xs : List V} (e : H a = some (.lst xs)) : TyOf K H (.ref a) (.type "list")
  | frz {a : Addr} {o : Obj} {xs : List V} (e : H a = some (.frz o (.lst xs))) : TyOf K H (.ref a) (.type "list")
  | tup {a : Addr} {xs : List V} (e : H a = some (.tup xs)) : TyOf K H (.ref a) (.type "tuple")
  | dK {a : Addr} {kvs : List (Key × V)} (e : H a = some (.dK kvs)) : TyOf K H (.ref a) (.type "dict")
  | dT {a : Addr} {kvs : List (List Key × V)} (e : H a = some (.dT kvs)) : TyOf K H (.ref a) (.type "dict")
  | ins {a C dx : Addr} {fs : List (Str × V)} (e : H a = some (.ins C dx fs)) (cl : Cls K C) (ha : PySem.W.findIn K (.ref C) "__class__" = some (some (.builtin "object.__class__")))
      (hn : PySem.W.specialIn K (.builtin "object.__class__") "__get__" = some (some (.builtin "getset_descriptor.__get__"))) (htk : PySem.W.takesIn K (.builtin "object.__class__") = some true)
      (hm : PySem.W.mroIn K C (.type "object") = some true) : TyOf K H (.ref a) (.ref C)
/-- isinstance(x, c) for one class c, a built-in or an own one: kitOne's answer -/
theorem isinst_ok {x : V} {u t : Value} (I : Inv X pins σ H s) (rx : RelV x u) (ty : TyOf X.K H x t) (e : PySem.W.kitOne X.K t c = some b) (h : ∀ tk, Q (.bool b) { s with toks := tk }) :
    wpAny (model X.prog X.w) A (call (.builtin "isinstance") [u, c]) Q E s := by
  cases ty with
  | non => cases (show u = Value.none from rx); exact PySem.W.kia_one PySem.W.kitx_none I.kIn True.intro e (fun z => nomatch z) h
  | bl y => cases (show u = Value.bool y from rx); exact PySem.W.kia_one PySem.W.kitx_bool I.kIn True.intro e (fun z => nomatch z) h
  | int i => obtain ⟨t, q⟩ := (show ∃ t, u = Value.int i t from rx); cases q; exact PySem.W.kia_one PySem.W.kitx_int I.kIn True.intro e (fun z => nomatch z) h
  | str y => obtain ⟨t, q⟩ := (show ∃ t, u = Value.str y t from rx); cases q; exact PySem.W.kia_one PySem.W.kitx_str I.kIn True.intro e (fun z => nomatch z) h
  | flt y => obtain ⟨t, q⟩ := (show ∃ t, u = Value.float y t from rx); cases q; exact PySem.W.kia_one PySem.W.kitx_float I.kIn True.intro e (fun z => nomatch z) h
  | @lst a xs ea =>
    cases (show u = Value.ref a from rx)
    obtain ⟨_, _, n, _, h1⟩ := (show ObjOk X.prog X.w H s.heap a (.lst xs) from I.hok a _ ea)
    exact PySem.W.kia_one PySem.W.kitx_list I.kIn ⟨_, h1, rfl⟩ e (fun z => nomatch z) h
  | @frz a ob xs ea =>
    cases (show u = Value.ref a from rx)
    obtain ⟨_, _, _, n, _, h1⟩ := (show ObjOk X.prog X.w H s.heap a (.frz ob (.lst xs)) from I.hok a _ ea)
    exact PySem.W.kia_one PySem.W.kitx_list I.kIn ⟨_, h1, rfl⟩ e (fun z => nomatch z) h
  | @tup a xs ea =>
    cases (show u = Value.ref a from rx)
    obtain ⟨_, _, _, p⟩ := (show ObjOk X.prog X.w H s.heap a (.tup xs) from I.hok a _ ea)
    obtain ⟨o, h1, h2, _⟩ := p
    exact PySem.W.kia_one PySem.W.kitx_tuple I.kIn ⟨o, h1, h2⟩ e (fun z => nomatch z) h
  | @dK a kvs ea =>
    cases (show u = Value.ref a from rx)
    obtain ⟨_, _, vs, _, p⟩ := (show ObjOk X.prog X.w H s.heap a (.dK kvs) from I.hok a _ ea)
    obtain ⟨o, es, ep, h1, h2, _⟩ := p
    exact PySem.W.kia_one PySem.W.kitx_dict I.kIn ⟨o, h1, h2.1⟩ e (fun z => nomatch z) h
  | @dT a kvs ea =>
    cases (show u = Value.ref a from rx)
    obtain ⟨_, _, xs, _, o, es, ep, h1, h2, _⟩ := (show ObjOk X.prog X.w H s.heap a (.dT kvs) from I.hok a _ ea)
    exact PySem.W.kia_one PySem.W.kitx_dict I.kIn ⟨o, h1, h2.1⟩ e (fun z => nomatch z) h
  | @ins a C dx fs ea cl ha hn htk hm =>
    cases (show u = Value.ref a from rx)
    obtain ⟨mA, O, _⟩ := ins_get I.hok ea
    obtain ⟨od, J, _⟩ := O.look
    exact PySem.W.kia_one (PySem.W.kitx_own (cl.get _) cl.hd ha hn htk hm) I.kIn J e (fun z => nomatch z) h
end
end L2
namespace L2
open PySem PySem.Spec PyProof.Rows
/-! ### room -/
structure Room (k : Nat) (A : Around) : Prop where
  hd : A.handled = none
  dp : A.depth + 3 * k + 5 < recursionLimit
  un : A.units + 16 * k + 200 < cLine
theorem Room.deeper {k : Nat} {A : Around} (r : Room (k + 1) A) (env : Env) : Room k (A.deeper env) :=
  ⟨r.hd, by have := r.dp; show A.depth + 1 + 3 * k + 5 < _; omega, by have := r.un; show A.units + 3 + 16 * k + 200 < _; omega⟩
theorem make_depth {A : Around} {C : Addr} {us : List Value} {kw : List (Str × Value)} : (A.under (.builtin "type.__call__" ⟨.ref C :: us, kw⟩)).depth = A.depth + 1 := by
  first | rfl | simp [Around.under, Code.weight, Code.isCreation, Code.isGuard, Code.isCaller, Code.frames, Code.isFrame, guardIds]
theorem make_units {A : Around} {C : Addr} {us : List Value} {kw : List (Str × Value)} : (A.under (.builtin "type.__call__" ⟨.ref C :: us, kw⟩)).units = A.units + 1 := by
  first | rfl | simp [Around.under, Code.cUnits, Code.frames, Code.isFrame]
theorem Room.make {k : Nat} {A : Around} (r : Room (k + 1) A) (C : Addr) (us : List Value) (kw : List (Str × Value)) : Room k (A.under (.builtin "type.__call__" ⟨.ref C :: us, kw⟩)) :=
  ⟨r.hd, by have := r.dp; rw [make_depth]; omega, by have := r.un; rw [make_units]; omega⟩
theorem Room.depth {k : Nat} {A : Around} (r : Room k A) : A.depth < recursionLimit := by have := r.dp; omega
/-! ### argument lists and displays -/
def tNil : TA := fun _ H Q => Q [] H
def tCons (ta : TE) (tr : TA) : TA := fun σ H Q => ta σ H fun x H1 => tr σ H1 fun xs H2 => Q (x :: xs) H2
section
variable {X : Cx} {e : Expr} {es : List Expr} {te : TE} {t : TA} {pos : Pos}
theorem pa_nil : PA X [] tNil := fun _ _ _ _ H Q I h => Calls.spliced_nil ⟨[], H, I, .nil, h⟩
theorem pa_cons (ha : PE X e te) (hr : PA X es t) (hs : starEach (e :: es) X.env = (false, eval e X.env) :: starEach es X.env := by rfl) : PA X (e :: es) (tCons te t) := by
  intro pos pins s σ H Q I h
  rw [hs]
  show wpAny _ _ (spliced ((false, eval e X.env) :: backTo pos (starEach es X.env))) _ _ s
  refine Calls.spliced_cons (thn (ha pins s σ H _ I h) fun u s1 ⟨x, H1, I1, r1, q1⟩ => ?_)
  exact thn (hr pos pins s1 σ H1 _ I1 q1) fun us s2 ⟨xs, H2, I2, r2, q2⟩ => ⟨x :: xs, H2, I2, .cons r1 r2, q2⟩
/-- a tuple, a list of written items -/
def tTup (t : TA) : TE := fun σ H Q => t σ H fun xs H1 => xs.length ≤ sizeLine ∧ ∀ p, H1 p = none → Q (.ref p) (upd H1 p (.tup xs))
def tLst (t : TA) : TE := fun σ H Q => t σ H fun xs H1 => xs.length ≤ sizeLine ∧ ∀ p, H1 p = none → Q (.ref p) (upd H1 p (.lst xs))
theorem pe_tup {x1} (h : PA X es t) : PE X (.Tuple es x1 pos) (tTup t) := by
  intro pins s σ H Q I hq
  refine wpAny_Tuple_spliced (thn (h pos pins s σ H _ I hq) fun us s1 ⟨xs, H1, I1, r, z, q⟩ => ⟨by rw [← r.length]; exact z, ?_⟩)
  have hf : H1 s1.heap.objs.size = none := I1.hok.fresh (Nat.le_refl _)
  refine ⟨.ref s1.heap.objs.size, upd H1 s1.heap.objs.size (.tup xs), I1.laid (t' := s1.toks) (fun b u e => Heap.get?_push_of_some _ e) (Nat.le_refl _) ?_, rfl, q _ hf⟩
  exact ⟨z, us, r, ⟨_, Heap.get?_push_size _ rfl, rfl, _, rfl⟩⟩
theorem pe_lst (h : PA X es t) : PE X (.List es pos) (tLst t) := by
  intro pins s σ H Q I hq
  refine wpAny_List_spliced (thn (h pos pins s σ H _ I hq) fun us s1 ⟨xs, H1, I1, r, z, q⟩ => ⟨by rw [← r.length]; exact z, ?_⟩)
  have hf : H1 s1.heap.objs.size = none := I1.hok.fresh (Nat.le_refl _)
  refine ⟨.ref s1.heap.objs.size, upd H1 s1.heap.objs.size (.lst xs), I1.laid (t' := s1.toks) (fun b u e => Heap.get?_push_of_some _ e) (Nat.le_refl _) ?_, rfl, q _ hf⟩
  exact ⟨z, us, 0, r, Heap.get?_push_size _ rfl⟩
end
/-! ### what a def promises -/
/-- a def's promise: the bound arguments in the parameters' order, the heap, the wanted end, the wanted exception -/
abbrev Sp := List V → Hp → VK → XK → Prop
/-- how an exception lies behind a call (file 08 gives it): the callers' frames, abstract heap and state ahead of the call, the wish, the exception, the state -/
abbrev CXT := List Env → Hp → Shared → XK → Value → Shared → Prop
/-- the state at a call -/
structure Env0 (P : Program) (w : World) (K : PySem.W.Frag) (mg : Str → Option Value) (base : Heap) (A : Around) (outer : List Env) (s : Shared) (H : Hp) : Prop where
  frames : A.frames = some outer
  mod : Mod K mg base
  bs : ∀ b o, base.get? b = some o → s.heap.get? b = some o ∧ H b = none
  bsz : base.objs.size ≤ s.heap.objs.size
  funs : s.heap.FunFrames base outer
  frf : ∀ b ∈ frs outer, H b = none
  hok : HOk P w H s.heap
  bare : AllBare s.gens
/-- a call's end -/
def CE (outer : List Env) (P : Program) (w : World) (H : Hp) (s : Shared) (Q : VK) (u : Value) (s' : Shared) : Prop :=
  ∃ v H', s'.os = s.os ∧ AllBare s'.gens ∧ Un (frs outer) [] H H' s.heap s'.heap ∧ HOk P w H' s'.heap ∧ RelV v u ∧ Q v H'
def CR (CX : CXT) (outer : List Env) (P : Program) (w : World) (H : Hp) (s : Shared) (Q : VK) (E : XK) (r : Result) (s' : Shared) : Prop :=
  match r with
  | .ok (.ret u) => CE outer P w H s Q u s'
  | .ok _ => False
  | .error e => CX outer H s E e s'
structure FnOk (P : Program) (w : World) (K : PySem.W.Frag) (mg : Str → Option Value) (base : Heap) (CX : CXT) (k : Nat) (f : Addr) (fd : FuncData) (ps : List Str) (sp : Sp) : Prop where
  len : ∀ vs H Q E, sp vs H Q E → vs.length = ps.length
  run : ∀ (A : Around) (outer : List Env) (s : Shared) (H : Hp) (args : Args) (us : List Value) (vs : List V) (Q : VK) (E : XK), Room k A → Env0 P w K mg base A outer s H → BindsTo s fd args (ps.zip us) → Vals vs us → sp vs H Q E →
    codeAny (model P w) A (.call (.ref f) args) (CR CX outer P w H s Q E) s
theorem Env0.make {P : Program} {w : World} {K : PySem.W.Frag} {mg : Str → Option Value} {base : Heap} {A : Around} {outer : List Env} {s : Shared} {H : Hp} (e : Env0 P w K mg base A outer s H) (C : Addr) (us : List Value) (kw : List (Str × Value)) :
    Env0 P w K mg base (A.under (.builtin "type.__call__" ⟨.ref C :: us, kw⟩)) outer s H := ⟨by first | exact e.frames | (simpa [Around.under, Code.envs, Code.isFrame, pushEnvs] using e.frames), e.mod, e.bs, e.bsz, e.funs, e.frf, e.hok, e.bare⟩
section
variable {X : Cx} {pins : List (Addr × Obj)} {σ : St} {H : Hp} {s s' : Shared}
/-- from a body: what a callee wants -/
theorem Inv.env0 (I : Inv X pins σ H s) : Env0 X.prog X.w X.K X.mg X.base X.A X.stack s H :=
  ⟨I.ok.frames, I.ok.mod, I.bs, Nat.le_trans I.ok.bsz I.sz, I.stack, I.stkFree, I.hok, I.bare⟩
/-- behind a call -/
theorem Inv.after {Q : VK} {u : Value} (I : Inv X pins σ H s) (h : CE X.stack X.prog X.w H s Q u s') : EP X pins σ Q u s' := by
  obtain ⟨v, H', os, bare, un, hok, r, q⟩ := h
  obtain ⟨hh, g, d, t, os'⟩ := s'
  obtain rfl : os' = s.os := os
  exact ⟨v, H', I.call (h' := hh) (g' := g) (d' := d) (t' := t) (ch := []) un hok bare (fun b z => absurd z (by simp)), r, q⟩
end
/-! ### calls -/
/-- f(..): the written arguments, then the defaults dvs; E: what is wanted of an exception -/
def tCall (sp : Sp) (dvs : List V) (E : XK) (t : TA) : TE := fun σ H Q => t σ H fun vs H1 => sp (vs ++ dvs) H1 Q E
/-- o.m(..) of an instance of the class at C -/
def tMeth (C : Addr) (m : Str) (sp : Sp) (dvs : List V) (E : XK) (ta : TE) (t : TA) : TE := fun σ H Q => ta σ H fun x H1 => ∃ a dx fs, x = .ref a ∧ H1 a = some (.ins C dx fs) ∧ fs.lookup m = none ∧
  t σ H1 fun vs H2 => sp (x :: (vs ++ dvs)) H2 Q E
/-- C(..): a new instance and its dict, then __init__ -/
def tMake (C : Addr) (sp : Sp) (dvs : List V) (E : XK) (t : TA) : TE := fun σ H Q => t σ H fun vs H1 => ∀ x dx, H1 x = none → H1 dx = none → dx ≠ x →
  sp (.ref x :: (vs ++ dvs)) (upd (upd H1 dx (.own x)) x (.ins C dx [])) (fun v H2 => v = .non ∧ Q (.ref x) H2) E
/-- how the parameters are bound: us the positional arguments, kw the keywords' values by name, ds the defaults that fill up -/
def Binds (K : PySem.W.Frag) (fd : FuncData) (ps : List Str) (ds : List Value) : Prop :=
  ∀ (s : Shared) (us : List Value), K.In s.heap → (us ++ ds).length = ps.length → BindsTo s fd ⟨us, []⟩ (ps.zip (us ++ ds))
/-- every parameter is given -/
theorem Binds.all {K : PySem.W.Frag} {fd : FuncData} {ps : List Str} (h : ∀ us : List Value, us.length = ps.length → bindArgs fd ⟨us, []⟩ = pure (ps.zip us)) : Binds K fd ps [] := fun s us _ hl => by
  rw [List.append_nil] at hl ⊢
  exact .of_eq (h us hl)
/-- an exception of a callee reaches what this body wants of exceptions -/
def Passes (CX : CXT) (X : Cx) (E : XK) : Prop := ∀ (pins : List (Addr × Obj)) (σ : St) (H : Hp) (s : Shared) (e : Value) (s' : Shared), Inv X pins σ H s → CX X.stack H s E e s' → X.xe e s'
section
variable {X : Cx} {CX : CXT} {k : Nat} {f C : Addr} {fd : FuncData} {ps : List Str} {sp : Sp} {dvs : List V} {ds : List Value} {E : XK} {x m : Str} {p pos apos : Pos} {e o : Expr} {es : List Expr} {ta : TE} {t : TA}
/-- the callee runs -/
theorem run_fn {pins : List (Addr × Obj)} {σ : St} {H : Hp} {s : Shared} {Q : VK} {us : List Value} {vs : List V} (F : FnOk X.prog X.w X.K X.mg X.base CX k f fd ps sp) (hr : Room k X.A) (hb : Binds X.K fd ps ds) (hd : Vals dvs ds) (hx : Passes CX X E)
    (I : Inv X pins σ H s) (r : Vals vs us) (h : sp (vs ++ dvs) H Q E) : wpAny (model X.prog X.w) X.A (call (.ref f) us) (EP X pins σ Q) X.xe s := by
  have r2 : Vals (vs ++ dvs) (us ++ ds) := r.append hd
  have hl : (us ++ ds).length = ps.length := by rw [← r2.length]; exact F.len _ _ _ _ h
  refine wpAny_call (codeAny_mono (F.run X.A X.stack s H ⟨us, []⟩ (us ++ ds) (vs ++ dvs) Q E hr I.env0 (hb s us I.kIn hl) r2 h) fun r s' hq => ?_)
  cases r with
  | error e => exact hx pins σ H s e s' I hq
  | ok fl =>
    cases fl with
    | ret u => exact I.after hq
    | next => exact False.elim hq
    | brk => exact False.elim hq
    | cont => exact False.elim hq
theorem pe_call (F : FnOk X.prog X.w X.K X.mg X.base CX k f fd ps sp) (hr : Room k X.A) (hg : Gl X x) (hm : X.mg x = some (.ref f)) (hk : PySem.W.keepIn X.K (.ref f) = true) (hb : Binds X.K fd ps ds) (hd : Vals dvs ds) (hx : Passes CX X E)
    (ha : PA X (e :: es) t) (hdb : (x == ("__debug__" : Str)) = false := by decide) (he : starEach (e :: es) X.env = (false, eval e X.env) :: starEach es X.env := by rfl) (hpl : (backTo pos (starEach es X.env)).any (·.1) = false := by rfl) :
    PE X (.Call (.Name x p) (e :: es) [] pos) (tCall sp dvs E t) := by
  intro pins s σ H Q I h
  refine wpAny_Call_Name_kw (ld_glob I hg hm ?_ hdb)
  refine PySem.W.callWith_K (h₀ := X.base) I.ok.mod.kin hk (thn (ha pos pins s σ H _ I h) fun us s1 ⟨vs, H1, I1, r, q⟩ => ⟨I1.kIn, ?_⟩) he hpl
  exact run_fn F hr hb hd hx I1 r q
/-- what a class must have to be made -/
structure Mk (K : PySem.W.Frag) (C f : Addr) : Prop where
  makes : PySem.W.makesIn K C = true
  init : PySem.W.findIn K (.ref C) "__init__" = some (some (.ref f))
  fn : PySem.W.isFn K (.ref f) = true
  kp : PySem.W.keepIn K (.ref C) = true
theorem run_make {pins : List (Addr × Obj)} {σ : St} {H : Hp} {s : Shared} {Q : VK} {us : List Value} {vs : List V} (M : Mk X.K C f) (F : FnOk X.prog X.w X.K X.mg X.base CX k f fd ps sp) (hr : Room (k + 1) X.A) (hb : Binds X.K fd ps ds) (hd : Vals dvs ds)
    (hx : Passes CX X E) (I : Inv X pins σ H s) (r : Vals vs us)
    (h : ∀ x dx, H x = none → H dx = none → dx ≠ x → sp (.ref x :: (vs ++ dvs)) (upd (upd H dx (.own x)) x (.ins C dx [])) (fun v H2 => v = .non ∧ Q (.ref x) H2) E) :
    wpAny (model X.prog X.w) X.A (call (.ref C) us) (EP X pins σ Q) X.xe s := by
  have hq := h (s.heap.objs.size + 1) s.heap.objs.size (I.hok.fresh (Nat.le_succ _)) (I.hok.fresh (Nat.le_refl _)) (Nat.ne_of_lt (Nat.lt_succ_self _))
  have I2 := Inv.made (C := C) I
  have r2 : Vals (V.ref (s.heap.objs.size + 1) :: (vs ++ dvs)) (Value.ref (s.heap.objs.size + 1) :: (us ++ ds)) := .cons rfl (r.append hd)
  have hl : (Value.ref (s.heap.objs.size + 1) :: us ++ ds).length = ps.length := by
    have e := r2.length
    rw [F.len _ _ _ _ hq] at e
    exact e.symm
  refine wpAny_call (make_map (f := f) I.kIn M.makes M.init (beq_iff_eq.mp M.fn) (codeAny_mono (F.run _ X.stack _ _ ⟨Value.ref (s.heap.objs.size + 1) :: us, []⟩ (Value.ref (s.heap.objs.size + 1) :: (us ++ ds)) _ _ E (hr.make C us [])
    (I2.env0.make C us []) (hb _ (Value.ref (s.heap.objs.size + 1) :: us) I2.kIn hl) r2 hq) fun r s' hq' => ?_))
  cases r with
  | error e => exact hx pins σ _ _ e s' I2 hq'
  | ok fl =>
    cases fl with
    | ret u =>
      obtain ⟨v, H', I3, rv, ev, q3⟩ := I2.after hq'
      subst ev
      exact ⟨rv, ⟨V.ref (s.heap.objs.size + 1), H', I3, rfl, q3⟩⟩
    | next => exact False.elim hq'
    | brk => exact False.elim hq'
    | cont => exact False.elim hq'
theorem pe_make (M : Mk X.K C f) (F : FnOk X.prog X.w X.K X.mg X.base CX k f fd ps sp) (hr : Room (k + 1) X.A) (hg : Gl X x) (hm : X.mg x = some (.ref C)) (hb : Binds X.K fd ps ds) (hd : Vals dvs ds) (hx : Passes CX X E)
    (ha : PA X (e :: es) t) (hdb : (x == ("__debug__" : Str)) = false := by decide) (he : starEach (e :: es) X.env = (false, eval e X.env) :: starEach es X.env := by rfl) (hpl : (backTo pos (starEach es X.env)).any (·.1) = false := by rfl) :
    PE X (.Call (.Name x p) (e :: es) [] pos) (tMake C sp dvs E t) := by
  intro pins s σ H Q I h
  refine wpAny_Call_Name_kw (ld_glob I hg hm ?_ hdb)
  refine PySem.W.callWith_K (h₀ := X.base) I.ok.mod.kin M.kp (thn (ha pos pins s σ H _ I h) fun us s1 ⟨vs, H1, I1, r, q⟩ => ⟨I1.kIn, ?_⟩) he hpl
  exact run_make M F hr hb hd hx I1 r q
end
/-! ### keywords -/
/-- the values of the keywords, from the left -/
def PK (X : Cx) (kws : List Keyword) (t : TA) : Prop :=
  ∀ (pos : Pos) (pins : List (Addr × Obj)) (s : Shared) (σ : St) (H : Hp) (Q : List V → Hp → Prop), Inv X pins σ H s → t σ H Q → wpAny (model X.prog X.w) X.A (evalAll ((backToKw pos (keywordEach kws X.env)).map (·.2))) (AP X pins σ Q) X.xe s
section
variable {X : Cx} {CX : CXT} {k : Nat} {f C : Addr} {fd : FuncData} {ps ks : List Str} {sp : Sp} {E : XK} {x m : Str} {p pos apos kpos : Pos} {e o : Expr} {es : List Expr} {kws : List Keyword} {te ta : TE} {t tk : TA} {nm : Option Str}
/-- how a call with keywords binds: g puts the positional values us and the keywords' values ws (names ks) in the parameters' order, defaults among them -/
structure KBinds (K : PySem.W.Frag) (fd : FuncData) (ps ks : List Str) (g : List Value → List Value → List Value) (gV : List V → List V → List V) : Prop where
  to : ∀ (s : Shared) (us ws : List Value), K.In s.heap → (g us ws).length = ps.length → BindsTo s fd ⟨us, ks.zip ws⟩ (ps.zip (g us ws))
  rel : ∀ {vs : List V} {us : List Value} {zs : List V} {ws : List Value}, Vals vs us → Vals zs ws → Vals (gV vs zs) (g us ws)
def tCallK (sp : Sp) (gV : List V → List V → List V) (E : XK) (t tk : TA) : TE := fun σ H Q => t σ H fun vs H1 => tk σ H1 fun zs H2 => sp (gV vs zs) H2 Q E
variable {g : List Value → List Value → List Value} {gV : List V → List V → List V}
end
/-! ### a def's body keeps its promise -/
/-- names: the parameters first -/
structure FnScope (N P : List Str) (sc : Scope) : Prop where
  kind : sc.kind = .function
  co : sc.isCoroutine = false
  gen : sc.isGenerator = false
  nd : N.Nodup
  pre : N.take P.length = P
  par : ∀ x ∈ P, sc.names.lookup x = some .local ∨ sc.names.lookup x = some .cell
  nofree : ∀ y ∈ sc.names, y.2 ≠ .free
theorem bindL_out {kindOf : Str → Option NameKind} {x : Str} : ∀ {binds : List (Str × Value)} {m : Str → Option Value}, (∀ v, (x, v) ∉ binds) → bindL kindOf binds m x = m x
  | [], _, _ => rfl
  | (n, v) :: r, m, h => by
    unfold bindL
    rw [bindL_out fun w hw => h w (List.mem_cons_of_mem _ hw)]
    split
    · have : x ≠ n := by rintro rfl; exact h v List.mem_cons_self
      simp [this]
    · rfl
theorem bindC_out {kindOf : Str → Option NameKind} {x : Str} : ∀ {binds : List (Str × Value)} {m : Str → Option Value}, (∀ v, (x, v) ∉ binds) → bindC kindOf binds m x = m x
  | [], _, _ => rfl
  | (n, v) :: r, m, h => by
    unfold bindC
    rw [bindC_out fun w hw => h w (List.mem_cons_of_mem _ hw)]
    split
    · rfl
    · have : x ≠ n := by rintro rfl; exact h v List.mem_cons_self
      simp [this]
theorem bindL_get {kindOf : Str → Option NameKind} {x : Str} {v : Value} : ∀ {P : List Str} {vs : List Value} {i : Nat} {m : Str → Option Value}, P.Nodup → P[i]? = some x → vs[i]? = some v → kindOf x = some .local →
    bindL kindOf (P.zip vs) m x = some v
  | [], _, _, _, _, h, _, _ => by simp at h
  | _ :: _, [], _, _, _, _, h, _ => by simp at h
  | p :: P, w :: vs, 0, m, nd, h1, h2, hk => by
    simp at h1 h2; subst h1; subst h2
    show bindL kindOf ((p, w) :: P.zip vs) m p = _
    unfold bindL
    rw [bindL_out fun v hv => (List.nodup_cons.mp nd).1 (List.of_mem_zip hv).1, if_pos hk]
    simp
  | p :: P, w :: vs, i + 1, m, nd, h1, h2, hk => by
    show bindL kindOf ((p, w) :: P.zip vs) m x = _
    unfold bindL
    exact bindL_get (i := i) (List.nodup_cons.mp nd).2 (by simpa using h1) (by simpa using h2) hk
theorem bindC_get {kindOf : Str → Option NameKind} {x : Str} {v : Value} : ∀ {P : List Str} {vs : List Value} {i : Nat} {m : Str → Option Value}, P.Nodup → P[i]? = some x → vs[i]? = some v → kindOf x ≠ some .local →
    bindC kindOf (P.zip vs) m x = some v
  | [], _, _, _, _, h, _, _ => by simp at h
  | _ :: _, [], _, _, _, _, h, _ => by simp at h
  | p :: P, w :: vs, 0, m, nd, h1, h2, hk => by
    simp at h1 h2; subst h1; subst h2
    show bindC kindOf ((p, w) :: P.zip vs) m p = _
    unfold bindC
    rw [bindC_out fun v hv => (List.nodup_cons.mp nd).1 (List.of_mem_zip hv).1, if_neg hk]
    simp
  | p :: P, w :: vs, i + 1, m, nd, h1, h2, hk => by
    show bindC kindOf ((p, w) :: P.zip vs) m x = _
    unfold bindC
    exact bindC_get (i := i) (List.nodup_cons.mp nd).2 (by simpa using h1) (by simpa using h2) hk
/-- the names' values at the entry -/
def start (N : List Str) (vs : List V) : St := vs.map some ++ List.replicate (N.length - vs.length) none
/-- the context of a def's body, at its entry; an exception leaves the frame, then lies as CX says -/
def cxOf (CX : CXT) (P : Program) (w : World) (K : PySem.W.Frag) (mg : Str → Option Value) (base : Heap) (N : List Str) (qual : Str) (scope : Scope) (f : Addr) (cd : Value) (A : Around) (outer : List Env) (s : Shared) (H : Hp) (E : XK) : Cx where
  prog := P
  w := w
  K := K
  mg := mg
  base := base
  A := A.deeper (envOfC qual scope s.heap.objs.size f cd)
  N := N
  s₀ := s
  H₀ := H
  env := envOfC qual scope s.heap.objs.size f cd
  outer := outer
  stack := envOfC qual scope s.heap.objs.size f cd :: outer
  ex := []
  calm := true
  fn := fun _ => true
  pn := []
  xe := fun e s' => wpAny (model P w) (A.deeper (envOfC qual scope s.heap.objs.size f cd)) (leaving (envOfC qual scope s.heap.objs.size f cd) e) (fun _ s'' => CX outer H s E e s'') (fun e' s'' => CX outer H s E e' s'') s'
theorem cell_has {sc : Scope} {n : Nat} {x : Str} (h : sc.names.lookup x = some .cell) : ∃ c, (cellsFrom n sc.names []).lookup x = some c := by
  have q := PySem.W.cellsFrom_some sc.names n [] (.inl h)
  exact Option.isSome_iff_exists.mp q
theorem inv_start {CX : CXT} {P : Program} {w : World} {K : PySem.W.Frag} {mg : Str → Option Value} {base : Heap} {N ps : List Str} {qual : Str} {scope : Scope} {f : Addr} {cd : Value} {A : Around} {outer : List Env} {s s1 : Shared} {H : Hp} {E : XK} {us : List Value} {vs : List V}
    (S : FnScope N ps scope) (hd : A.handled = none) (e0 : Env0 P w K mg base A outer s H) (hl : vs.length = ps.length) (r : Vals vs us)
    (x : InCallC s s.heap.objs.size (bindL (envOfC qual scope s.heap.objs.size f cd).kindOf (ps.zip us) fun _ => none) (cellsFrom (s.heap.objs.size + 1) scope.names []) (bindC (envOfC qual scope s.heap.objs.size f cd).kindOf (ps.zip us) fun _ => none) s1) :
    Inv (cxOf CX P w K mg base N qual scope f cd A outer s H E) [] (start N vs) H s1 := by
  have hpl : ps.length ≤ N.length := by have := congrArg List.length S.pre; rw [List.length_take] at this; omega
  obtain ⟨h1, tk, rfl, hk⟩ := x.done
  have noA : ∀ b : Addr, b ∉ (cxOf CX P w K mg base N qual scope f cd A outer s H E).ex := fun b z => absurd (show b ∈ ([] : List Addr) from z) (by simp)
  refine ⟨⟨e0.mod, S.kind, rfl, rfl, Nat.le_refl _, fun y z c h1 h2 => ?_, fun y hy => ?_, fun y c _ h => ?_, fun _ => hd, Around.frames_deeper e0.frames, .inr ⟨rfl, rfl⟩, fun b z => absurd z (noA b), e0.bs, e0.bsz, fun b _ _ => noA b, fun b z => absurd z (noA b), e0.funs, e0.frf⟩,
    rfl, e0.bare, Un.kept hk, ⟨_, x.toInCall.ns, fun i y v h1 h2 h3 => ?_⟩, fun y c h => ⟨_, x.cell y c h⟩, e0.hok.fresh (Nat.le_refl _), fun y c h => ?_, fun p hp => absurd (show p ∈ ([] : List (Addr × Obj)) from hp) (by simp), e0.hok.kept hk, ?_⟩
  · exact name_of_addr x.apart (PySem.mem_of_lookup h1) (PySem.mem_of_lookup h2)
  · have hy : scope.names.lookup y = some .cell ∨ scope.names.lookup y = some .free := hy
    rcases hy with hy | hy
    · exact cell_has hy
    · exact absurd rfl (S.nofree _ (PySem.mem_of_lookup hy))
  · exact Nat.le_of_lt (x.above y c (PySem.mem_of_lookup h))
  · have hi : i < vs.length := by
      unfold start at h2
      by_cases hi : i < vs.length
      · exact hi
      · rw [List.getElem?_append_right (by simpa using hi)] at h2
        rw [List.getElem?_replicate] at h2
        split at h2 <;> cases h2
    have ha : vs[i]? = some v := by
      unfold start at h2
      rw [List.getElem?_append_left (by simpa using hi), List.getElem?_map] at h2
      cases e : vs[i]? with
      | none => rw [e] at h2; cases h2
      | some a => rw [e] at h2; cases h2; rfl
    obtain ⟨u, hu, rv⟩ := r.get ha
    have hp : ps[i]? = some y := by
      rw [← S.pre, List.getElem?_take_of_lt (by omega)]; exact h1
    have ndP : ps.Nodup := by rw [← S.pre]; exact S.nd.sublist (List.take_sublist _ _)
    refine ⟨u, rv, ?_⟩
    rcases S.par y (List.mem_of_getElem? hp) with k | k
    · exact .inl ⟨k, bindL_get ndP hp hu k⟩
    · obtain ⟨c, e⟩ := cell_has (n := s.heap.objs.size + 1) k
      refine .inr ⟨.inl k, c, e, ?_⟩
      have q := x.cell y c e
      rw [bindC_get ndP hp hu (by show scope.names.lookup y ≠ _; rw [k]; decide)] at q
      exact q
  · exact e0.hok.fresh (Nat.le_of_lt (x.above y c (PySem.mem_of_lookup h)))
  · unfold start
    show _ = N.length
    rw [List.length_append, List.length_map, List.length_replicate]
    omega
/-- THE RULE: a def (or a method) of the text, by its body. The body's reading t is chosen for each entry; it is run at the parameters' values -/
theorem fn_of {CX : CXT} {P : Program} {w : World} {K : PySem.W.Frag} {mg : Str → Option Value} {base : Heap} {k : Nat} {f : Addr} {name qual : Str} {params : Arguments} {body : List Stmt} {scope : Scope} {dV kV doc pm cdv ct oc : Value} {an od : Option Addr}
    {osl : Array (Option Value)} {N ps : List Str} {sp : Sp} (lk : K.lookup f = some ⟨oc, od, .func (PySem.W.fnOf name qual params body scope dV kV doc pm an cdv ct), osl⟩) (hcd : PySem.W.codeIn K cdv qual = true) (S : FnScope N ps scope)
    (len : ∀ vs H Q E, sp vs H Q E → vs.length = ps.length)
    (hbody : ∀ (A : Around) (outer : List Env) (s : Shared) (H : Hp) (vs : List V) (Q : VK) (E : XK), Room k (A.deeper (envOfC qual scope s.heap.objs.size f cdv)) → sp vs H Q E →
      ∃ t, PSs (cxOf CX P w K mg base N qual scope f cdv A outer s H E) body t ∧ t { nx := fun _ H' => Q .non H', rt := Q } (start N vs) H) :
    FnOk P w K mg base CX (k + 1) f (PySem.W.fnOf name qual params body scope dV kV doc pm an cdv ct) ps sp := by
  refine ⟨len, fun A outer s H args us vs Q E hr e0 hb r hsp => ?_⟩
  have hl := len _ _ _ _ hsp
  have KX : K.In s.heap := e0.mod.kin.keeps fun b o e => (e0.bs b o e).1
  have lim : s.heap.NoLimit := e0.mod.nolimit.keeps fun b o e => (e0.bs b o e).1
  have hkind : ∀ y ∈ ps.zip us, scope.names.lookup y.1 = some .local ∨ (scope.names.lookup y.1 = some .cell ∧ ((cellsFrom (s.heap.objs.size + 1) scope.names []).lookup y.1).isSome = true) := fun ⟨n, v⟩ hy => by
    rcases S.par n (List.of_mem_zip hy).1 with q | q
    · exact .inl q
    · exact .inr ⟨q, PySem.W.cellsFrom_some _ _ _ (.inl q)⟩
  refine codeAny_call_function hr.depth (KX _ _ lk) rfl S.co S.gen rfl (PySem.W.codeRec_of KX hcd) (hb _ _ _ _ ?_)
  refine wpAny_newFunctionEnv_cells S.kind hkind fun env he s1 x => ?_
  subst he
  refine ⟨lim.keeps x.toInCall.keep, codeAny_func ?_⟩
  obtain ⟨t, ht, hq⟩ := hbody A outer s H vs Q E (hr.deeper _) hsp
  have I : Inv (cxOf CX P w K mg base N qual scope f cdv A outer s H E) [] (start N vs) H s1 := inv_start S hr.hd e0 hl r x
  refine wpAny_mono (ht [] s1 (start N vs) H _ I hq) (fun fl s' hs => ?_) fun e s' hs => hs
  have fin : ∀ {σ' : St} {H' : Hp} {v : V} {u : Value}, Inv (cxOf CX P w K mg base N qual scope f cdv A outer s H E) [] σ' H' s' → RelV v u → Q v H' → CE outer P w H s Q u s' :=
    fun {σ' H' v u} J rv q => ⟨v, H', J.os, J.bare, J.base, J.hok, rv, q⟩
  cases fl with
  | ret u =>
    obtain ⟨v, σ', H', J, rv, q⟩ := hs
    exact fin J rv q
  | next =>
    obtain ⟨σ', H', J, q⟩ := hs
    exact fin (v := V.non) (u := Value.none) J rfl q
  | brk =>
    obtain ⟨_, _, _, q⟩ := hs
    exact False.elim q
  | cont =>
    obtain ⟨_, _, _, q⟩ := hs
    exact False.elim q
end L2
namespace L2
open PySem PySem.Spec PyProof.Rows
section
variable {X : Cx} {x : Str} {p pos : Pos} {e : Expr} {es : List Expr} {t : TA} {id T : String} {r : List V → Hp → VK → Prop}
def tCB (r : List V → Hp → VK → Prop) (t : TA) : TE := fun σ H Q => t σ H fun vs H1 => r vs H1 Q
/-- f(e, ..), f a built-in function -/
theorem pe_callB (hc : CallR X (.builtin id) r) (hg : Gl X x) (hm : X.mg x = none) (hv : bootBuiltins x = some (.builtin id)) (ha : PA X (e :: es) t) (hn : x ≠ "__name__" := by decide) (hdb : (x == ("__debug__" : Str)) = false := by decide)
    (he : starEach (e :: es) X.env = (false, eval e X.env) :: starEach es X.env := by rfl) (hpl : (backTo pos (starEach es X.env)).any (·.1) = false := by rfl) : PE X (.Call (.Name x p) (e :: es) [] pos) (tCB r t) := by
  intro pins s σ H Q I h
  refine wpAny_Call_Name_kw (ld_blt I hg hm hv ?_ hn hdb)
  exact PyProof.Rows.callWith_builtin1 (thn (ha pos pins s σ H _ I h) fun us s1 ⟨vs, H1, I1, r1, q1⟩ => hc pins s1 σ H1 vs us Q I1 r1 q1) he hpl
/-- T(e, ..), T a built-in type -/
theorem pe_callTy (hc : CallR X (.type T) r) (hg : Gl X x) (hm : X.mg x = none) (hv : bootBuiltins x = some (.type T)) (ha : PA X (e :: es) t) (hn : x ≠ "__name__" := by decide) (hdb : (x == ("__debug__" : Str)) = false := by decide)
    (he : starEach (e :: es) X.env = (false, eval e X.env) :: starEach es X.env := by rfl) (hpl : (backTo pos (starEach es X.env)).any (·.1) = false := by rfl) : PE X (.Call (.Name x p) (e :: es) [] pos) (tCB r t) := by
  intro pins s σ H Q I h
  refine wpAny_Call_Name_kw (ld_blt I hg hm hv ?_ hn hdb)
  exact PyProof.Rows.callWith_type1 (thn (ha pos pins s σ H _ I h) fun us s1 ⟨vs, H1, I1, r1, q1⟩ => hc pins s1 σ H1 vs us Q I1 r1 q1) he hpl
end
end L2
namespace HT
open PySem PyProof.Rows
/-- t < u of tuples of ints -/
def lexLt : List Int → List Int → Bool
  | [], [] => false
  | [], _ :: _ => true
  | _ :: _, [] => false
  | x :: xs, y :: ys => if x = y then lexLt xs ys else decide (x < y)
section
open PySem.SeqAt
open PySem.AutoSeq1 (wpAny_loadPart')
open PySem.MeetsSeq PySem.MeetsSeq2 PySem.MeetsSeq3
end
section
variable {prog : Program} {w : World} {A : Around} {E : Value → Shared → Prop} {s : Shared}
/-- t + u, t not empty -/
theorem cat_tup {t b : Addr} {vs ws : List Value} {Q : Value → Shared → Prop} (ht : IsTup s.heap t vs.toArray) (hb : IsTup s.heap b ws.toArray) (hv : vs ≠ [])
    (h1 : ws = [] → Q (.ref t) s) (h2 : ws ≠ [] → Q (.ref s.heap.objs.size) { s with heap := s.heap.push { cls := .type "tuple", data := .seq (vs ++ ws).toArray } })
    (hsz : vs.length + ws.length ≤ sizeLine) : wpAny (model prog w) A (binaryOp .Add (.ref t) (.ref b)) Q E s := by
  obtain ⟨⟨cls, dd, data, sl⟩, ho, hc, n, hd⟩ := id ht
  obtain ⟨⟨cls2, dd2, data2, sl2⟩, ho2, hc2, n2, hd2⟩ := id hb
  simp only at hc hd hc2 hd2
  subst hc hd hc2 hd2
  have e : vs.toArray ++ ws.toArray = (vs ++ ws).toArray := by simp
  by_cases hw : ws = []
  · exact concat_meets ⟨_, ho, rfl⟩ ⟨_, ho2, rfl⟩ noFill_tuple_add seq_tuple_add PySem.F.slot_tuple_add PySem.F.entry_tuple_add (PySem.F.args_tuple_add_2 _ _)
      (tuple_addW1 t b vs.toArray ws.toArray n n2 dd dd2 sl sl2 (by simpa using hv) (by simp [hw])) ⟨ho, ho2, h1 hw⟩
  · refine concat_meets ⟨_, ho, rfl⟩ ⟨_, ho2, rfl⟩ noFill_tuple_add seq_tuple_add PySem.F.slot_tuple_add PySem.F.entry_tuple_add (PySem.F.args_tuple_add_2 _ _)
      (tuple_addW2 t b vs.toArray ws.toArray n n2 dd dd2 sl sl2 (by simpa using hv) (by simpa using hw) (by rw [List.size_toArray, List.size_toArray]; exact hsz)) ⟨ho, ho2, ?_⟩
    rw [e]
    exact h2 hw
/-! ### t[a:b], not the whole -/
/-- a slice's bound as a place among n (d where it is left out) -/
def sIx (n d : Nat) : Option Int → Nat
  | none => d
  | some v => if v < 0 then (v + (n : Int)).toNat else min v.toNat n
end
end HT
namespace L2
open PySem PySem.Spec PyProof.Rows
/-! ### the parts of a slice -/
abbrev TO := St → Hp → (Option Int → Hp → Prop) → Prop
/-- a slice's part (left out, or an int) -/
def PO (X : Cx) (e : Option Expr) (t : TO) : Prop :=
  ∀ (pins : List (Addr × Obj)) (s : Shared) (σ : St) (H : Hp) (Q : Option Int → Hp → Prop), Inv X pins σ H s → t σ H Q →
    wpAny (model X.prog X.w) X.A (evalPart e X.env) (fun u s' => ∃ o H', Inv X pins σ H' s' ∧ IsPart u o ∧ Q o H') X.xe s
def tNoPart : TO := fun _ H Q => Q none H
def tPart (t : TE) : TO := fun σ H Q => t σ H fun x H1 => ∃ i, x = .int i ∧ Q (some i) H1
section
variable {X : Cx} {e : Expr} {te : TE} {lo hi : Option Expr} {tl th : TO} {pos p2 : Pos}
/-- what a slice of a value is, by values: the slice object stands at sl -/
def SlR (X : Cx) (r : V → Option Int → Option Int → Hp → VK → Prop) : Prop :=
  ∀ (pins : List (Addr × Obj)) (s : Shared) (σ : St) (H : Hp) (x : V) (v vl vu : Value) (lo hi : Option Int) (sl : Addr) (Q : VK), Inv X pins σ H s → RelV x v → s.heap.IsSliceOf sl vl vu .none → IsPart vl lo → IsPart vu hi → r x lo hi H Q →
    ∃ T id, typeLookup (.type T) "__getitem__" = pure (some (.builtin id)) ∧ s.TypeIs v T ∧ wpAny (model X.prog X.w) X.A (getItem v (.ref sl)) (EP X pins σ Q) X.xe s
def tSl (r : V → Option Int → Option Int → Hp → VK → Prop) (te : TE) (tl th : TO) : TE := fun σ H Q => te σ H fun x H1 => tl σ H1 fun l H2 => th σ H2 fun u H3 => r x l u H3 Q
/-- the items of xs[lo:hi] -/
def cutV (xs : List V) (lo hi : Option Int) : List V := (xs.drop (HT.sIx xs.length 0 lo)).take (HT.sIx xs.length xs.length hi - HT.sIx xs.length 0 lo)
/-- t[lo:hi], not the whole of it (the whole would be t itself) -/
def rSlT (K : PySem.W.Frag) : V → Option Int → Option Int → Hp → VK → Prop := fun x lo hi H Q => ∃ a xs, x = .ref a ∧ SqT K H a xs ∧
  ¬ (HT.sIx xs.length 0 lo = 0 ∧ HT.sIx xs.length xs.length hi = xs.length) ∧ ∀ p, H p = none → Q (.ref p) (upd H p (.tup (cutV xs lo hi)))
/-! ### t < u, t + u -/
def rLtT (K : PySem.W.Frag) : R2 := fun x y H Q => ∃ a b ns ms, x = .ref a ∧ y = .ref b ∧ SqT K H a (ns.map V.int) ∧ SqT K H b (ms.map V.int) ∧ Q (.bl (HT.lexLt ns ms)) H
/-- t + u, t not empty: u empty gives t itself -/
def rCatT (K : PySem.W.Frag) : R2 := fun x y H Q => ∃ a b xs ys, x = .ref a ∧ y = .ref b ∧ SqT K H a xs ∧ SqT K H b ys ∧ xs ≠ [] ∧ xs.length + ys.length ≤ sizeLine ∧
  (ys = [] → Q (.ref a) H) ∧ (ys ≠ [] → ∀ p, H p = none → Q (.ref p) (upd H p (.tup (xs ++ ys))))
theorem Vals.nil_iff {xs : List V} {us : List Value} (r : Vals xs us) : us = [] ↔ xs = [] := by
  cases r with
  | nil => simp
  | cons _ _ => simp
theorem op_catT : OpR X (binaryOp .Add) (rCatT X.K) := by
  intro pins s σ H x y v u Q I rx ry h
  obtain ⟨a, b, xs, ys, rfl, rfl, ha, hb, hx, hz, q1, q2⟩ := h
  cases rx
  cases ry
  obtain ⟨its, r1, p1, _⟩ := I.tuple ha
  obtain ⟨its2, r2, p2, _⟩ := I.tuple hb
  refine HT.cat_tup p1 p2 (fun z => hx (r1.nil_iff.mp z)) (fun z => ⟨.ref a, H, I, rfl, q1 (r2.nil_iff.mp z)⟩) (fun z => ?_) (by rw [← r1.length, ← r2.length]; exact hz)
  refine ⟨.ref s.heap.objs.size, _, I.laid (t' := s.toks) (o := .tup (xs ++ ys)) (fun b ob q => Heap.get?_push_of_some _ q) (Nat.le_refl _) ?_, rfl, q2 (fun w => z (r2.nil_iff.mpr w)) _ (I.hok.fresh (Nat.le_refl _))⟩
  exact ⟨by rw [List.length_append]; exact hz, _, r1.append r2, IsTup.new _ _⟩
end
end L2
namespace L2
open PySem PySem.Spec PyProof.Rows
/-! ### places -/
/-- the place that an index of any sign means -/
def ixN (n : Nat) (i : Int) : Option Nat := if 0 ≤ i then (if i < n then some i.toNat else none) else if -(n : Int) ≤ i then some (i + n).toNat else none
def atI {α : Type} (xs : List α) (i : Int) : Option α := (ixN xs.length i).bind fun j => xs[j]?
theorem ixN_seq {n : Nat} {i : Int} {j : Nat} (h : ixN n i = some j) : seqIndex? i n = some j ∧ j < n ∧ -(n : Int) ≤ i ∧ i < n := by
  unfold ixN at h
  by_cases h0 : 0 ≤ i
  · rw [if_pos h0] at h
    by_cases h1 : i < n
    · rw [if_pos h1] at h
      have e : i.toNat = j := Option.some.inj h
      exact ⟨by rw [seqIndex_of h0 h1, e], by omega, by omega, h1⟩
    · rw [if_neg h1] at h; cases h
  · rw [if_neg h0] at h
    by_cases h1 : -(n : Int) ≤ i
    · rw [if_pos h1] at h
      have e : (i + n).toNat = j := Option.some.inj h
      exact ⟨by rw [seqIndex_neg (by omega) h1, e], by omega, h1, by omega⟩
    · rw [if_neg h1] at h; cases h
theorem atI_get {α : Type} {xs : List α} {i : Int} {v : α} (h : atI xs i = some v) : ∃ j, seqIndex? i xs.length = some j ∧ xs[j]? = some v ∧ j < xs.length ∧ -(xs.length : Int) ≤ i ∧ i < xs.length := by
  unfold atI at h
  cases e : ixN xs.length i with
  | none => rw [e] at h; cases h
  | some j =>
    rw [e] at h
    obtain ⟨h1, h2, h3, h4⟩ := ixN_seq e
    exact ⟨j, h1, h, h2, h3, h4⟩
theorem atI_nat {α : Type} {xs : List α} {j : Nat} {v : α} (h : xs[j]? = some v) : atI xs (j : Int) = some v := by
  have hj : j < xs.length := (List.getElem?_eq_some_iff.mp h).1
  have e : ixN xs.length (j : Int) = some j := by
    unfold ixN
    rw [if_pos (by omega), if_pos (by omega)]; simp
  unfold atI; rw [e]; exact h
/-! ### what may be subscripted -/
/-- what stands as an index of a plain subscript -/
def PlainIx (b : Expr) : Prop := ∀ o i, subscripted b false o i = operate [o, i] (getItem o i)
/-- a subscript by values -/
def IxR (X : Cx) (r : R2) : Prop :=
  ∀ (value slice : Expr) (pins : List (Addr × Obj)) (s : Shared) (σ : St) (H : Hp) (x y : V) (v u : Value) (Q : VK), Inv X pins σ H s → RelV x v → RelV y u → r x y H Q →
    subscripted slice false v u = operate [v, u] (getItem v u) → wpAny (model X.prog X.w) X.A (subscriptTail value slice v u) (EP X pins σ Q) X.xe s
/-- a call of a builtin's method by values: the receiver, the arguments -/
def MtR (X : Cx) (id : String) (r : V → List V → Hp → VK → Prop) : Prop :=
  ∀ (pins : List (Addr × Obj)) (s : Shared) (σ : St) (H : Hp) (x : V) (xs : List V) (v : Value) (us : List Value) (Q : VK), Inv X pins σ H s → RelV x v → Vals xs us → r x xs H Q →
    wpAny (model X.prog X.w) X.A (call (.builtin id) (v :: us)) (EP X pins σ Q) X.xe s
section
variable {X : Cx} {a b : Expr} {ta tb : TE} {pos : Pos}
theorem IxR.or {r r' : R2} (h : IxR X r) (h' : IxR X r') : IxR X (fun x y H Q => r x y H Q ∨ r' x y H Q) := by
  intro value slice pins s σ H x y v u Q I rx ry q hs
  rcases q with q | q
  · exact h value slice pins s σ H x y v u Q I rx ry q hs
  · exact h' value slice pins s σ H x y v u Q I rx ry q hs
/-- a[b] -/
theorem pe_ix {r : R2} (hr : IxR X r) (ha : PE X a ta) (hb : PE X b tb) (hs : PlainIx b) : PE X (.Subscript a b pos) (tOp r ta tb) := by
  intro pins s σ H Q I h
  exact Subscript_ (binT ha hb I h fun v u s2 x y H2 I2 rx ry q => hr a b pins s2 σ H2 x y v u Q I2 rx ry q (hs _ _))
def rIxL (K : PySem.W.Frag) : R2 := fun x y H Q => ∃ p xs i v, x = .ref p ∧ y = .int i ∧ SqL K H p xs ∧ atI xs i = some v ∧ Q v H
def rIxT (K : PySem.W.Frag) : R2 := fun x y H Q => ∃ p xs i v, x = .ref p ∧ y = .int i ∧ SqT K H p xs ∧ atI xs i = some v ∧ Q v H
def rIxS : R2 := fun x y H Q => ∃ z i c, x = .str z ∧ y = .int i ∧ z.length ≤ sizeLine ∧ atI z.cps.toList i = some c ∧ Q (.str ⟨#[c]⟩) H
theorem ix_list : IxR X (rIxL X.K) := by
  intro value slice pins s σ H x y v u Q I rx ry h hs
  obtain ⟨p, xs, i, z, rfl, rfl, hq, he, q⟩ := h
  cases rx
  obtain ⟨t, rfl⟩ := ry
  obtain ⟨its, r, pl, hz⟩ := I.list hq
  obtain ⟨j, h1, h2, h3, h4, h5⟩ := atI_get he
  obtain ⟨w, ew, rw'⟩ := r.get h2
  have hl := r.length
  have hn := line63
  have fin : EP X pins σ Q w s := ⟨z, H, I, rw', q⟩
  by_cases h0 : 0 ≤ i
  · have hj : i.toNat = j := by
      rw [seqIndex_of h0 h5] at h1
      exact Option.some.inj h1
    exact item_listR pl.isList h0 (by omega) (by rw [hj]; simpa using ew) fin hs
  · have hj : (i + (its.toArray.size : Int)).toNat = j := by
      rw [seqIndex_neg (by omega) h4] at h1
      rw [List.size_toArray, ← hl]
      exact Option.some.inj h1
    exact subscriptTail_builtinR (x := w) pl.isList.typeIs slot_list_getitem.lookup
      (wpAny_getItem_list_neg (Q := fun r s' => r = w ∧ EP X pins σ Q r s') pl.isList (by omega) (by rw [List.size_toArray] <;> omega) (by omega) (by rw [hj]; simpa using ew) ⟨rfl, fin⟩) hs
theorem ix_tup : IxR X (rIxT X.K) := by
  intro value slice pins s σ H x y v u Q I rx ry h hs
  obtain ⟨p, xs, i, z, rfl, rfl, hq, he, q⟩ := h
  cases rx
  obtain ⟨t, rfl⟩ := ry
  obtain ⟨its, r, pl, hz⟩ := I.tuple hq
  obtain ⟨j, h1, h2, h3, h4, h5⟩ := atI_get he
  obtain ⟨w, ew, rw'⟩ := r.get h2
  have hl := r.length
  have hn := line63
  have fin : EP X pins σ Q w s := ⟨z, H, I, rw', q⟩
  exact subscriptTail_builtinR (x := w) pl.typeIs slot_tuple_getitem.lookup
    (getItem_tuple (j := j) (Q := fun r s' => r = w ∧ EP X pins σ Q r s') pl (by omega) (by omega) (by rw [List.size_toArray, ← hl]; exact h1) (by simpa using ew) ⟨rfl, fin⟩) hs
theorem ix_str : IxR X rIxS := by
  intro value slice pins s σ H x y v u Q I rx ry h hs
  obtain ⟨z, i, c, rfl, rfl, hz, he, q⟩ := h
  obtain ⟨t, rfl⟩ := rx
  obtain ⟨t', rfl⟩ := ry
  obtain ⟨j, h1, h2, h3, h4, h5⟩ := atI_get he
  have hl : z.cps.toList.length = z.length := by simp [Str.length]
  rw [hl] at h1 h4 h5
  have hn := line63
  exact tail_any (typeIs_str s z t) slot_str_getitem.lookup (getItem_str (c := c) (by
    have e1 : decide (i < -(2 ^ 63 : Int)) = false := decide_eq_false (by omega)
    have e2 : decide (i ≥ 2 ^ 63) = false := decide_eq_false (by omega)
    rw [e1, e2, Bool.or_false]) (by rw [h1]; simpa using h2) ⟨.str ⟨#[c]⟩, H, I.tok _, ⟨_, rfl⟩, q⟩) hs
/-- list, tuple or str -/
def rIx (K : PySem.W.Frag) : R2 := fun x y H Q => rIxL K x y H Q ∨ rIxT K x y H Q ∨ rIxS x y H Q
theorem ix_seq : IxR X (rIx X.K) := ix_list.or (ix_tup.or ix_str)
/-! ### xs[i] = v, any sign -/
theorem Inv.lst {pins : List (Addr × Obj)} {σ : St} {H : Hp} {s : Shared} {p : Addr} {xs : List V} (I : Inv X pins σ H s) (h : H p = some (.lst xs)) :
    ∃ (its : List Value) (n : Nat), Vals xs its ∧ s.heap.get? p = some { cls := .type "list", data := .seq its.toArray n } ∧ xs.length ≤ sizeLine := by
  obtain ⟨z, its, n, r, e⟩ := I.hok p _ h
  exact ⟨its, n, r, e, z⟩
def rSetL : V → V → V → Hp → (Hp → Prop) → Prop := fun o i v H Q => ∃ p xs k j, o = .ref p ∧ i = .int k ∧ H p = some (.lst xs) ∧ ixN xs.length k = some j ∧ Q (upd H p (.lst (xs.set j v)))
/-! ### slices -/
/-- xs[lo:hi] of a list: a new list -/
def rSlL (K : PySem.W.Frag) : V → Option Int → Option Int → Hp → VK → Prop := fun x lo hi H Q => ∃ a xs, x = .ref a ∧ SqL K H a xs ∧ ∀ p, H p = none → Q (.ref p) (upd H p (.lst (cutV xs lo hi)))
/-! ### in, not in: flat items -/
def flatV : V → Bool
  | .non => true
  | .bl _ => true
  | .int _ => true
  | .str _ => true
  | _ => false
/-- == of flat values -/
def eqV : V → V → Bool
  | .non, .non => true
  | .bl a, .bl b => a == b
  | .bl a, .int b => (if a then 1 else 0) == b
  | .int a, .bl b => a == (if b then 1 else 0)
  | .int a, .int b => a == b
  | .str a, .str b => a == b
  | _, _ => false
theorem eqAt_V {A : Around} {s : Shared} {y x : V} {u v : Value} (ry : RelV y u) (rx : RelV x v) (fy : flatV y = true) (fx : flatV x = true) : SeqAt.EqAt A s u v (eqV y x) := by
  cases y with
  | non =>
    cases ry
    cases x with
    | non => cases rx; exact SeqAt.EqAt.same _
    | bl b => cases rx; exact SeqAt.EqAt.none_bool b
    | int b => obtain ⟨t, rfl⟩ := rx; exact SeqAt.EqAt.none_int b t
    | str b => obtain ⟨t, rfl⟩ := rx; exact SeqAt.EqAt.none_str b t
    | _ => exact absurd (show false = true from fx) Bool.false_ne_true
  | bl a =>
    cases ry
    cases x with
    | non => cases rx; exact SeqAt.EqAt.bool_none a
    | bl b => cases rx; exact SeqAt.EqAt.bool_bool a b
    | int b => obtain ⟨t, rfl⟩ := rx; exact SeqAt.EqAt.bool_int a b t
    | str b => obtain ⟨t, rfl⟩ := rx; exact SeqAt.EqAt.bool_str a b t
    | _ => exact absurd (show false = true from fx) Bool.false_ne_true
  | int a =>
    obtain ⟨t', rfl⟩ := ry
    cases x with
    | non => cases rx; exact SeqAt.EqAt.int_none a t'
    | bl b => cases rx; exact SeqAt.EqAt.int_bool a t' b
    | int b => obtain ⟨t, rfl⟩ := rx; exact SeqAt.EqAt.int_int a t' b t
    | str b => obtain ⟨t, rfl⟩ := rx; exact SeqAt.EqAt.int_str a t' b t
    | _ => exact absurd (show false = true from fx) Bool.false_ne_true
  | str a =>
    obtain ⟨t', rfl⟩ := ry
    cases x with
    | non => cases rx; exact SeqAt.EqAt.str_none a t'
    | bl b => cases rx; exact SeqAt.EqAt.str_bool a t' b
    | int b => obtain ⟨t, rfl⟩ := rx; exact SeqAt.EqAt.str_int a t' b t
    | str b => obtain ⟨t, rfl⟩ := rx; exact SeqAt.EqAt.str_str a t' b t
    | _ => exact absurd (show false = true from fx) Bool.false_ne_true
  | _ => exact absurd (show false = true from fy) Bool.false_ne_true
/-- the items' answers, read off the values (a value's own answer does not lean on its token) -/
def eqU (x : V) (u : Value) : Bool := match u with
  | .none => eqV .non x
  | .bool b => eqV (.bl b) x
  | .int i _ => eqV (.int i) x
  | .str z _ => eqV (.str z) x
  | _ => false
def inV (x : V) (xs : List V) : Bool := xs.any fun y => eqV y x
/-- x in a list or tuple of flat items -/
def rIn (K : PySem.W.Frag) (neg : Bool) : R2 := fun x y H Q => ∃ p xs, y = .ref p ∧ (SqL K H p xs ∨ SqT K H p xs) ∧ flatV x = true ∧ xs.all flatV = true ∧ Q (.bl (if neg then !inV x xs else inV x xs)) H
/-! ### len, list(x), tuple(x) of any list or tuple that is read -/
theorem call_len_seq : CallR X (.builtin "len") (fun xs H Q => ∃ p ys, xs = [.ref p] ∧ (SqL X.K H p ys ∨ SqT X.K H p ys) ∧ Q (.int ys.length) H) := by
  intro pins s σ H xs us Q I r h
  obtain ⟨p, ys, rfl, hq, q⟩ := h
  obtain ⟨u, rfl, rx⟩ := vals1 r
  cases rx
  have hn := line63
  rcases hq with hq | hq
  · obtain ⟨its, r', pl, hz⟩ := I.list hq
    have hlen := r'.length
    exact Calls.call_len_list pl.isList (by simp only [List.size_toArray] <;> omega) ⟨.int ys.length, H, I.tok _, ⟨s.toks + 1, by rw [List.size_toArray, hlen]⟩, q⟩
  · obtain ⟨its, r', pl, hz⟩ := I.tuple hq
    have hlen := r'.length
    exact len_tuple pl (by simp only [List.size_toArray] <;> omega) ⟨.int ys.length, H, I.tok _, ⟨s.toks + 1, by rw [List.size_toArray, hlen]⟩, q⟩
theorem call_len_str : CallR X (.builtin "len") (fun xs H Q => ∃ z, xs = [.str z] ∧ z.length ≤ sizeLine ∧ Q (.int z.length) H) := by
  intro pins s σ H xs us Q I r h
  obtain ⟨z, rfl, hz, q⟩ := h
  obtain ⟨u, rfl, t, rfl⟩ := vals1 r
  have hn := line63
  exact len_str (by omega) ⟨.int z.length, H, I.tok _, ⟨_, rfl⟩, q⟩
theorem CallR.or {f : Value} {r r' : List V → Hp → VK → Prop} (h : CallR X f r) (h' : CallR X f r') : CallR X f (fun xs H Q => r xs H Q ∨ r' xs H Q) := by
  intro pins s σ H xs us Q I rs q
  rcases q with q | q
  · exact h pins s σ H xs us Q I rs q
  · exact h' pins s σ H xs us Q I rs q
theorem call_list_of : CallR X (.type "list") (fun xs H Q => ∃ p ys, xs = [.ref p] ∧ (SqL X.K H p ys ∨ SqT X.K H p ys) ∧ ∀ l, H l = none → Q (.ref l) (upd H l (.lst ys))) := by
  intro pins s σ H xs us Q I r h
  obtain ⟨p, ys, rfl, hq, q⟩ := h
  obtain ⟨u, rfl, rx⟩ := vals1 r
  cases rx
  have fin : ∀ (its : List Value), Vals ys its → ys.length ≤ sizeLine → ∀ (h' : Heap) (c' : Nat), (∀ b o', s.heap.get? b = some o' → h'.get? b = some o') →
      h'.get? s.heap.objs.size = some { cls := .type "list", dict := none, data := .seq its.toArray c', slots := #[] } → EP X pins σ Q (.ref s.heap.objs.size) { s with heap := h' } := fun its r' hz h' c' kp e =>
    ⟨.ref s.heap.objs.size, _, I.laid (t' := s.toks) kp (Nat.le_refl _) (show ObjOk X.prog X.w _ h' _ (.lst ys) from ⟨hz, its, c', r', e⟩), rfl, q _ (I.hok.fresh (Nat.le_refl _))⟩
  rcases hq with hq | hq
  · obtain ⟨its, r', pl, hz⟩ := I.list hq
    have hlen := r'.length
    obtain ⟨o, ho, hc, n, hd⟩ := pl.isList
    exact call_list_seq p (.inl rfl) ho hc hd (fun h' c' kp e => fin its r' hz h' c' kp e) (by simp only [List.size_toArray] <;> omega)
  · obtain ⟨its, r', pl, hz⟩ := I.tuple hq
    have hlen := r'.length
    obtain ⟨o, ho, hc, n, hd⟩ := pl
    exact call_list_seq p (.inr rfl) ho hc hd (fun h' c' kp e => fin its r' hz h' c' kp e) (by simp only [List.size_toArray] <;> omega)
/-! ### the call of a builtin's method: o.m(..) -/
/-- the value is of that builtin type -/
def tyV (K : PySem.W.Frag) (T : String) (x : V) (H : Hp) : Prop := match x with
  | .str _ => T = "str"
  | .int _ => T = "int"
  | .ref p => (T = "list" ∧ ∃ xs, SqL K H p xs) ∨ (T = "tuple" ∧ ∃ o, K.lookup p = some o ∧ o.cls = .type "tuple" ∧ o.dict = none) ∨
      (T = "dict" ∧ ((∃ kvs, H p = some (.dK kvs)) ∨ ∃ kvs, H p = some (.dT kvs))) ∨ (T = "set" ∧ ∃ S n, H p = some (.set S n))
  | _ => False
theorem tyV_is {pins : List (Addr × Obj)} {σ : St} {H : Hp} {s : Shared} {T : String} {x : V} {v : Value} (I : Inv X pins σ H s) (r : RelV x v) (ty : tyV X.K T x H) :
    s.TypeIs v T ∧ ∀ a, v = .ref a → ∃ ob, s.heap.get? a = some ob ∧ ob.dict = none := by
  cases x with
  | str z =>
    obtain ⟨t, rfl⟩ := r
    cases (show T = "str" from ty)
    exact ⟨typeIs_str s z t, fun _ e => nomatch e⟩
  | int i =>
    obtain ⟨t, rfl⟩ := r
    cases (show T = "int" from ty)
    exact ⟨typeIs_int s i t, fun _ e => nomatch e⟩
  | ref p =>
    cases r
    rcases ty with ⟨rfl, xs, hq⟩ | ⟨rfl, o, hk, hc, hd⟩ | ⟨rfl, hk⟩ | ⟨rfl, S, n, hk⟩
    · obtain ⟨its, _, pl, _⟩ := I.list hq
      refine ⟨pl.isList.typeIs, fun a e => ?_⟩
      cases e
      obtain ⟨o, n, e, c, hd, _⟩ := pl
      exact ⟨o, e, hd⟩
    · refine ⟨⟨o, I.kIn p o hk, hc⟩, fun a e => ?_⟩
      cases e
      exact ⟨o, I.kIn _ o hk, hd⟩
    · have z : ∃ o, s.heap.get? p = some o ∧ o.ExactDict := by
        rcases hk with ⟨kvs, hk⟩ | ⟨kvs, hk⟩
        · obtain ⟨_, _, _, _, o, _, _, e, ex, _⟩ := I.hok p _ hk
          exact ⟨o, e, ex⟩
        · obtain ⟨_, _, _, _, o, _, _, e, ex, _⟩ := I.hok p _ hk
          exact ⟨o, e, ex⟩
      obtain ⟨o, e, ex⟩ := z
      refine ⟨⟨o, e, ex.1⟩, fun a e2 => ?_⟩
      cases e2
      exact ⟨o, e, ex.2.1⟩
    · obtain ⟨o, _, _, _, e, ex, _⟩ := I.hok p _ hk
      refine ⟨⟨o, e, ex.1⟩, fun a e2 => ?_⟩
      cases e2
      exact ⟨o, e, ex.2.1⟩
  | _ => exact False.elim ty
def tBM0 (K : PySem.W.Frag) (T : String) (r : V → List V → Hp → VK → Prop) (to : TE) : TE := fun σ H Q => to σ H fun x H1 => tyV K T x H1 ∧ r x [] H1 Q
def tBM (K : PySem.W.Frag) (T : String) (r : V → List V → Hp → VK → Prop) (to : TE) (t : TA) : TE := fun σ H Q => to σ H fun x H1 => tyV K T x H1 ∧ t σ H1 fun xs H2 => r x xs H2 Q
variable {o e : Expr} {es : List Expr} {to : TE} {t : TA} {name : Str} {apos cpos : Pos} {T id : String} {r : V → List V → Hp → VK → Prop}
theorem pe_bm0 (pa : PlainAttrs T) (slot : Slot T name id) (hty : typeOf (.builtin id) = pure (.type "method_descriptor")) (hm : MtR X id r) (ho : PE X o to)
    (hbase : attributeBase o name X.env (eval o X.env) = eval o X.env := by rfl) (hline : (apos.endLine == cpos.line) = true := by rfl) : PE X (.Call (.Attribute o name apos) [] [] cpos) (tBM0 X.K T r to) := by
  intro pins s σ H Q I h
  refine wpAny_Call_method0_late hbase hline (thn (ho pins s σ H _ I h) fun v s1 ⟨x, H1, I1, r1, ty, q1⟩ => ?_)
  obtain ⟨h1, h2⟩ := tyV_is I1 r1 ty
  exact ⟨T, id, pa, slot, hty, h1, h2, Calls.callWith_builtin rfl (PySem.evalArgs_none (hm pins s1 σ H1 x [] v [] Q I1 r1 .nil q1))⟩
theorem pe_bm (pa : PlainAttrs T) (slot : Slot T name id) (hty : typeOf (.builtin id) = pure (.type "method_descriptor")) (hm : MtR X id r) (ho : PE X o to) (ha : PA X (e :: es) t)
    (hbase : attributeBase o name X.env (eval o X.env) = eval o X.env := by rfl)
    (hfew : ((backTo cpos (starEach (e :: es) X.env)).all (fun x => !x.1) && (backToKw cpos (keywordEach [] X.env)).all (fun x => x.1.isSome)
      && decide ((e :: es).length + ([] : List Keyword).length + (if ([] : List Keyword).isEmpty then 0 else 1) < 30)) = true := by rfl)
    (hline : (apos.endLine == cpos.line) = true := by rfl) (hs : starEach (e :: es) X.env = (false, eval e X.env) :: starEach es X.env := by rfl) (hplain : (backTo cpos (starEach es X.env)).any (·.1) = false := by rfl) :
    PE X (.Call (.Attribute o name apos) (e :: es) [] cpos) (tBM X.K T r to t) := by
  intro pins s σ H Q I h
  refine wpAny_Call_method_late hbase hfew hline rfl (thn (ho pins s σ H _ I h) fun v s1 ⟨x, H1, I1, r1, ty, q1⟩ => ?_)
  obtain ⟨h1, h2⟩ := tyV_is I1 r1 ty
  refine ⟨T, id, pa, slot, hty, h1, h2, ?_⟩
  have hA := ha cpos pins s1 σ H1 _ I1 q1
  rw [hs] at hA ⊢
  refine Calls.callWith_builtin (by show (false || (backTo cpos (starEach es X.env)).any (·.1)) = false; rw [hplain] <;> rfl) (Calls.evalArgs_plain ?_)
  exact thn hA fun us s2 ⟨vs, H2, I2, r2, q2⟩ => hm pins s2 σ H2 x vs v us Q I2 r1 r2 q2
/- xs.append(e), list.index on a module's tuple .. are MtR facts of 06m -/
end
end L2
namespace L2
open PySem PySem.Spec PyProof.Rows
def MtM (X : Cx) (id : String) (r : V → List V → Hp → VK → Prop) : Prop :=
  ∀ (pins : List (Addr × Obj)) (s : Shared) (σ : St) (H : Hp) (x : V) (xs : List V) (v : Value) (us : List Value) (Q : VK), Inv X pins σ H s → RelV x v → Vals xs us → r x xs H Q →
    wpAny (model X.prog X.w) X.A (call (.builtin id) (v :: us)) (EP X pins σ Q) X.xe s
/-! ### lists of values -/
theorem Vals.one : ∀ {x : V} {us : List Value}, Vals [x] us → ∃ u, us = [u] ∧ RelV x u
  | _, _, .cons r .nil => ⟨_, rfl, r⟩
theorem Vals.two : ∀ {x y : V} {us : List Value}, Vals [x, y] us → ∃ u v, us = [u, v] ∧ RelV x u ∧ RelV y v
  | _, _, _, .cons r (.cons q .nil) => ⟨_, _, rfl, r, q⟩
theorem Vals.zero : ∀ {us : List Value}, Vals [] us → us = []
  | _, .nil => rfl
theorem Vals.dropLast {xs : List V} {us : List Value} (h : Vals xs us) : Vals xs.dropLast us.dropLast := by
  induction h with
  | nil => exact .nil
  | cons r t ih =>
    cases t with
    | nil => exact .nil
    | cons q t' => exact .cons r ih
theorem Vals.eraseIdx : ∀ {xs : List V} {us : List Value} (i : Nat), Vals xs us → Vals (xs.eraseIdx i) (us.eraseIdx i)
  | _, _, _, .nil => .nil
  | _, _, 0, .cons _ t => t
  | _, _, i + 1, .cons r t => .cons r (Vals.eraseIdx i t)
theorem erase_last {α : Type} (l : List α) : l.eraseIdx (l.length - 1) = l.dropLast := by
  induction l with
  | nil => rfl
  | cons a r ih =>
    cases r with
    | nil => rfl
    | cons b r =>
      have e : (a :: b :: r).length - 1 = ((b :: r).length - 1) + 1 := by
        have h1 : (a :: b :: r).length = r.length + 2 := rfl
        have h2 : (b :: r).length = r.length + 1 := rfl
        omega
      rw [e, List.eraseIdx_cons_succ, ih]
      all_goals rfl
theorem len_erase {α : Type} : ∀ (l : List α) (i : Nat), (l.eraseIdx i).length ≤ l.length
  | [], _ => Nat.le_refl _
  | _ :: _, 0 => Nat.le_succ _
  | _ :: r, i + 1 => Nat.succ_le_succ (len_erase r i)
section
variable {X : Cx} {pins : List (Addr × Obj)} {σ : St} {H : Hp} {s : Shared} {l b : Addr} {xs ys zs : List V}
/-! ### the two steps: a tracked list is rewritten, a new list is laid -/
theorem Inv.lset {its its' : List Value} {n : Nat} {f : Array Value → Array Value} {t' : Nat} (I : Inv X pins σ H s) (hH : H l = some (.lst xs))
    (e : s.heap.get? l = some { cls := .type "list", data := .seq its.toArray n }) (hf : f its.toArray = its'.toArray) (hv : Vals ys its') (hz : ys.length ≤ sizeLine) :
    Inv X pins σ (upd H l (.lst ys)) { s with heap := s.heap.update l (Obj.mapSeq f), toks := t' } := by
  have q := PySem.IsL.update e f
  rw [hf] at q
  refine I.write (x := l) (e := l) (by rw [hH]; exact trivial) (.inl rfl) (fun b' u hb hu => (Heap.get?_update_other s.heap (Obj.mapSeq f) (Ne.symm hb)).trans hu) ⟨_, q⟩ ?_
  exact ⟨hz, its', _, hv, q⟩
theorem Inv.lnew {its : List Value} {t' : Nat} (I : Inv X pins σ H s) (hv : Vals ys its) (hz : ys.length ≤ sizeLine) :
    Inv X pins σ (upd H s.heap.objs.size (.lst ys)) { s with heap := s.heap.push { cls := .type "list", data := .seq its.toArray }, toks := t' } :=
  I.laid (fun _ _ q => Heap.get?_push_of_some _ q) (Nat.le_refl _) ⟨hz, its, 0, hv, Heap.get?_push_size _ rfl⟩
theorem Inv.fresh (I : Inv X pins σ H s) : H s.heap.objs.size = none := I.hok.fresh (Nat.le_refl _)
theorem Inv.lstM (I : Inv X pins σ H s) (hH : H l = some (.lst xs)) : xs.length ≤ sizeLine ∧ ∃ (its : List Value) (n : Nat), Vals xs its ∧ xs.length = its.length ∧ s.heap.get? l = some { cls := .type "list", data := .seq its.toArray n } := by
  obtain ⟨z, its, n, r, e⟩ := I.hok l _ hH
  exact ⟨z, its, n, r, r.length, e⟩
theorem notLongL {n : Nat} (h : n ≤ sizeLine) : Builtin.List.listTooLong n = false := by
  unfold Builtin.List.listTooLong
  exact decide_eq_false (by omega)
end
section
variable {X : Cx}
/-! ### methods -/
def rAppend : V → List V → Hp → VK → Prop := fun x vs H Q => ∃ l xs y, x = .ref l ∧ vs = [y] ∧ H l = some (.lst xs) ∧ xs.length < sizeLine ∧ Q .non (upd H l (.lst (xs ++ [y])))
theorem mt_append : MtM X "list.append" rAppend := by
  intro pins s σ H x vs v us Q I rx rv h
  obtain ⟨l, xs, y, rfl, rfl, hH, hz, q⟩ := h
  cases rx
  obtain ⟨u, rfl, ru⟩ := rv.one
  obtain ⟨z, its, n, r, hl, e⟩ := I.lstM hH
  refine call_meets F.slot_list_append ⟨_, e, rfl⟩ F.entry_list_append (F.args_list_append_2 _ _) (PySem.list_append l its.toArray n u (by rw [List.size_toArray]; omega)) ⟨e, ?_⟩
  refine ⟨.non, _, I.lset (its' := its ++ [u]) hH e (by simp) (r.append (.cons ru .nil)) ?_, rfl, q⟩
  rw [List.length_append, List.length_singleton]
  omega
def rExtend : V → List V → Hp → VK → Prop := fun x vs H Q => ∃ l b xs zs, x = .ref l ∧ vs = [.ref b] ∧ H l = some (.lst xs) ∧ H b = some (.lst zs) ∧ xs.length + zs.length ≤ sizeLine ∧ Q .non (upd H l (.lst (xs ++ zs)))
theorem mt_extend : MtM X "list.extend" rExtend := by
  intro pins s σ H x vs v us Q I rx rv h
  obtain ⟨l, b, xs, zs, rfl, rfl, hH, hB, hz, q⟩ := h
  cases rx
  obtain ⟨u, rfl, ru⟩ := rv.one
  cases ru
  obtain ⟨z, its, n, r, hl, e⟩ := I.lstM hH
  obtain ⟨z2, its2, n2, r2, hl2, e2⟩ := I.lstM hB
  have hsz : its.toArray.size + its2.toArray.size ≤ sizeLine := by rw [List.size_toArray, List.size_toArray]; omega
  have hlong : ¬ (!its.toArray.isEmpty && Builtin.List.listTooLong (its.toArray.size + its2.toArray.size)) = true := by
    rw [notLongL hsz, Bool.and_false]
    exact Bool.false_ne_true
  refine call_meets F.slot_list_extend ⟨_, e, rfl⟩ F.entry_list_extend (F.args_list_extend_2 _ _)
    (AutoSeq1.list_extend_list_list_0 l its.toArray n b its2.toArray n2 hlong (by rw [List.size_toArray]; omega) (by omega)) ⟨e, e2, ?_⟩
  refine ⟨.non, _, I.lset (its' := its ++ its2) hH e (by simp) (r.append r2) ?_, rfl, q⟩
  rw [List.length_append]
  omega
def rPop : V → List V → Hp → VK → Prop := fun x vs H Q => ∃ l xs y, x = .ref l ∧ vs = [] ∧ H l = some (.lst xs) ∧ xs[xs.length - 1]? = some y ∧ Q y (upd H l (.lst xs.dropLast))
theorem mt_pop : MtM X "list.pop" rPop := by
  intro pins s σ H x vs v us Q I rx rv h
  obtain ⟨l, xs, y, rfl, rfl, hH, hy, q⟩ := h
  cases rx
  have hus := rv.zero
  subst hus
  obtain ⟨z, its, n, r, hl, e⟩ := I.lstM hH
  obtain ⟨u, hu, ru⟩ := r.get hy
  have hy' : its.toArray[its.toArray.size - 1]? = some u := by
    show its.toArray[its.length - 1]? = some u
    rw [← Array.getElem?_toList, ← hl]
    exact hu
  refine call_meets F.slot_list_pop ⟨_, e, rfl⟩ F.entry_list_pop (F.args_list_pop_1 _) (MeetsSeq.list_pop_last l its.toArray n u hy' (by rw [List.size_toArray]; omega)) ⟨e, ?_⟩
  refine ⟨y, _, I.lset (its' := its.dropLast) hH e ?_ r.dropLast ?_, ru, q⟩
  · show its.toArray.eraseIdxIfInBounds (its.toArray.size - 1) = its.dropLast.toArray
    rw [List.size_toArray, List.eraseIdxIfInBounds_toArray, erase_last]
  · rw [List.length_dropLast]
    omega
def rPopAt : V → List V → Hp → VK → Prop := fun x vs H Q => ∃ l xs i k y, x = .ref l ∧ vs = [.int i] ∧ H l = some (.lst xs) ∧ -(2 ^ 63) ≤ i ∧ i < 2 ^ 63 ∧ seqIndex? i xs.length = some k ∧ xs[k]? = some y ∧ Q y (upd H l (.lst (xs.eraseIdx k)))
theorem mt_popAt : MtM X "list.pop" rPopAt := by
  intro pins s σ H x vs v us Q I rx rv h
  obtain ⟨l, xs, i, k, y, rfl, rfl, hH, h1, h2, hk, hy, q⟩ := h
  cases rx
  obtain ⟨u, rfl, ru⟩ := rv.one
  obtain ⟨t, rfl⟩ := ru
  obtain ⟨z, its, n, r, hl, e⟩ := I.lstM hH
  obtain ⟨w, hw, rw'⟩ := r.get hy
  refine call_meets F.slot_list_pop ⟨_, e, rfl⟩ F.entry_list_pop (F.args_list_pop_2 _ _)
    (MeetsSeq.list_pop_at l its.toArray n i t k w (fitsIndex_both h1 h2) (by rw [List.size_toArray, ← hl]; exact hk) (by rw [← Array.getElem?_toList]; exact hw) (by rw [List.size_toArray]; omega)) ⟨e, ?_⟩
  refine ⟨y, _, I.lset (its' := its.eraseIdx k) hH e ?_ (r.eraseIdx k) ?_, rw', q⟩
  · show its.toArray.eraseIdxIfInBounds k = (its.eraseIdx k).toArray
    rw [List.eraseIdxIfInBounds_toArray]
  · have := len_erase xs k
    omega
def rReverse : V → List V → Hp → VK → Prop := fun x vs H Q => ∃ l xs, x = .ref l ∧ vs = [] ∧ H l = some (.lst xs) ∧ Q .non (upd H l (.lst xs.reverse))
def rClear : V → List V → Hp → VK → Prop := fun x vs H Q => ∃ l xs, x = .ref l ∧ vs = [] ∧ H l = some (.lst xs) ∧ Q .non (upd H l (.lst []))
/-! ### list + list, list += list, list * int -/
def rCat : R2 := fun x y H Q => ∃ l b xs zs, x = .ref l ∧ y = .ref b ∧ H l = some (.lst xs) ∧ H b = some (.lst zs) ∧ xs.length + zs.length ≤ sizeLine ∧ ∀ p, H p = none → Q (.ref p) (upd H p (.lst (xs ++ zs)))
theorem op_cat : OpR X (binaryOp .Add) rCat := by
  intro pins s σ H x y v u Q I rx ry h
  obtain ⟨l, b, xs, zs, rfl, rfl, hH, hB, hz, q⟩ := h
  cases rx
  cases ry
  obtain ⟨z, its, n, r, hl, e⟩ := I.lstM hH
  obtain ⟨z2, its2, n2, r2, hl2, e2⟩ := I.lstM hB
  refine PySem.P.add_list e e2 ?_ (by rw [List.size_toArray, List.size_toArray]; omega)
  have ea : its.toArray ++ its2.toArray = (its ++ its2).toArray := by simp
  rw [ea]
  exact ⟨.ref _, _, I.lnew (t' := s.toks) (r.append r2) (by rw [List.length_append]; omega), rfl, q _ I.fresh⟩
/-- a list times an int (a negative one is nothing) -/
def rRep : R2 := fun x y H Q => ∃ l k xs, x = .ref l ∧ y = .int k ∧ H l = some (.lst xs) ∧ -(2 ^ 63) ≤ k ∧ k < 2 ^ 63 ∧ xs.length * k.toNat ≤ sizeLine ∧
  ∀ p, H p = none → Q (.ref p) (upd H p (.lst (List.replicate k.toNat xs).flatten))
/-! ### del xs[i] -/
end
/-! ### xs[a:b] = ys -/
section
variable {prog : Program} {w : World} {A : Around} {E : Value → Shared → Prop} {s : Shared}
end
section
variable {X : Cx}
end
end L2
namespace Att
open PySem PySem.W PySem.Calls PyProof.Rows
/-! ### the script -/
theorem ints_of_wellAll {P : Params} {h : Heap} : ∀ (ns : List Int) (vs : List Value), WellAll P h vs (ns.map WData.int) → IntsAre vs ns := by
  intro ns
  induction ns with
  | nil =>
    intro vs w
    rw [List.map_nil] at w
    cases w
    exact .nil
  | cons n ns ih =>
    intro vs w
    rw [List.map_cons] at w
    cases w with
    | cons a b =>
      cases a
      exact .cons _ _ (ih _ b)
theorem script_of {l : OpenLaw} {n : Nat} (hn : l.most = some n) {P : Params} {h : Heap} {args : List WData} {vals : List Value}
    (hpre : l.row.toRowW.claim.pre args = true) (hwl : WellAll P h vals args) :
    ∃ a vs ns, vals = [Value.ref a] ∧ args = [WData.list (ns.map WData.int)] ∧ h.get? a = some { cls := .type "list", data := .seq vs.toArray } ∧ IntsAre vs ns ∧ ns.length ≤ n := by
  have hsh : WShape.hasAll [] args [.list .int] = true := (pre_splitW hpre).1
  have hc : l.pre.holds [] { args := args } = true := (pre_splitW hpre).2
  obtain ⟨d, r, rfl, h1, h2⟩ := hasAllW_cons hsh
  obtain rfl := hasAllW_nil h2
  obtain ⟨xs, rfl, h3⟩ := hasW_list h1
  obtain ⟨ns, rfl⟩ := items_int h3
  have hlen : ns.length ≤ n := by
    unfold OpenLaw.pre at hc
    have h4 : (WTm.not (.lt (.lit (.int (n : Int))) (.len (.arg 0)))).holds [] { args := [.list (ns.map .int)] } = true := by
      have h4 := (holds_andW hc).1
      rw [hn] at h4
      exact h4
    have h5 := condW_of h4 (w_not (w_lt w_lit (w_len_list (w_arg rfl))))
    rw [List.length_map] at h5
    refine Nat.le_of_not_lt fun q => ?_
    have q' : (n : Int) < ((ns.length : Nat) : Int) := by omega
    first
      | (rw [decide_eq_true q'] at h5; exact absurd h5 (by decide))
      | (simp at h5; omega)
  cases hwl with
  | cons w1 w2 =>
    cases w2
    cases w1 with
    | list ho hall => exact ⟨_, _, ns, rfl, rfl, ho, ints_of_wellAll ns _ hall, hlen⟩
theorem post_true (l : OpenLaw) (args : List WData) : l.row.toRowW.claim.post args (.bool true) args = true :=
  postW_of (r := l.row.toRowW) (X := (true == true))
    (show WShape.has [] (.bool true) .bool = true by first | rfl | decide | simp [WShape.has, WShape.arms, WShape.armsAll])
    (show (WTm.eq .res (.lit (.bool true))).value [] { args := args, res := some (.bool true), after := args } = some (.bool (true == true)) from w_eq_bool (w_res rfl) w_lit) rfl
/-! ### the attachment: holds_open's last premise (the goal 'hc' behind k_head) from a wpAny of the law's body -/
/-- the same from a codeAny of the CALL (for a layer whose function contracts speak of calls) -/
theorem attach_call {l : OpenLaw} {n : Nat} {q : Program} {loose : List Str} {XP : (Str → Option Value) → Heap → Prop} {YP : World → Heap → Prop} {d : DefRec}
    (hn : l.most = some n) (hdf : d.params.defaults = [])
    (call : ∀ (w : World) (s₀ s₁ : Shared) (mg mb : Str → Option Value) (fa : Addr) (o : Obj) (pm cd doc : Value) (a : Addr) (vs : List Value) (ns : List Int),
      Ground q loose [] XP w s₀ mg mb s₁.heap → YP w s₁.heap →
      s₁.heap.get? fa = some o → o.data = .func (docDef d.name d.params d.body d.scope pm cd doc) → s₁.heap.CodeRec cd d.name → mg d.name = some (.ref fa) →
      s₁.heap.get? a = some { cls := .type "list", data := .seq vs.toArray } → IntsAre vs ns → ns.length ≤ n → s₁.gens = #[] →
      codeAny (model l.prog w) callerA (.call (.ref fa) ⟨[.ref a], []⟩) (fun r s' => r = .ok (.ret (.bool true)) ∧ OldK s₁.heap s'.heap ∧ s'.os = s₁.os ∧ AllBare s'.gens) s₁) :
    WalkO q loose XP YP l.row.toRowW d [] (fun f vs => PySem.call f vs) := by
  intro w s₀ s₁ mg mb G Y fa o pm cd doc dV kV ho hd hcd hD hmg hg args vals as hpre hlay hrd hwl hlo
  obtain rfl : dV = .none := Dflts.none hD hdf
  obtain rfl : kV = .none := Dflts.noKw hD
  obtain ⟨a, vs, ns, rfl, rfl, hobj, hints, hlen⟩ := script_of hn hpre hwl
  refine enter_call (codeAny_mono (call w s₀ s₁ mg mb fa o pm cd doc a vs ns G Y ho (fd_plain hd) hcd hmg hobj hints hlen hg) fun r s' hq => ?_)
  obtain ⟨rfl, h2, h3, h4⟩ := hq
  exact ⟨.inl ⟨.bool true, .bool true, [], rfl, fun _ => rfl, .bool true, post_true l _, fun _ => ⟨List.Pairwise.nil, fun _ hm => (nomatch hm)⟩⟩, h2, h3, h4⟩
/-! ### rules over ANY heap (no ledger) from facts about the written part K: the library's own take a ledger (News) for what they write -/
section
variable {prog : Program} {w : World} {A : Around} {E : Value → Shared → Prop} {s : Shared} {K : Frag}
/-! the whole heap as the ledger: makes every rule that writes through a ledger a rule over any heap -/
def noObjs (h : Heap) : Heap := { h with objs := #[] }
def ledger (h : Heap) (L d : Addr) : List (Addr × Obj) := (List.range h.objs.size).filterMap fun a => if a = L ∨ a = d then none else (h.get? a).map fun o => (a, o)
end
end Att
namespace L2
open PySem PySem.Spec PyProof.Rows
theorem vals_ints : ∀ {vs : List Value} {ns : List Int}, IntsAre vs ns → Vals (ns.map V.int) vs
  | _, _, .nil => .nil
  | _, _, .cons n t h => .cons ⟨t, rfl⟩ (vals_ints h)
/-- nothing is tracked but the script, known to the object (or it is an object of the module) -/
def Only (H : Hp) : Prop := ∀ b, H b = none ∨ ∃ o xs, H b = some (.frz o (.lst xs))
/-- THE HEAD: the law's promise, at the heap behind the top. F, the promise of the law's def, may use that base is part of the heap (so K.In base, base.Ns mainGlobals mg stand in Mod) -/
theorem law_call {P : Program} {w : World} {K : PySem.W.Frag} {mg mb : Str → Option Value} {CX : CXT} {k : Nat} {fa a : Addr} {fd : FuncData} {x : Str} {sp : Sp} {s₁ : Shared} {vs : List Value} {ns : List Int}
    (KX : K.In s₁.heap) (hns : s₁.heap.Ns mainGlobals mg) (hb : s₁.heap.Ns builtinsNs mb) (hbb : ∀ x : Str, x ≠ "__name__" → mb x = bootBuiltins x) (hlim : s₁.heap.NoLimit) (hg : s₁.gens = #[])
    (ha : s₁.heap.get? a = some { cls := .type "list", data := .seq vs.toArray }) (hi : IntsAre vs ns) (hl : ns.length ≤ sizeLine) (hr : Room k callerA)
    (F : ∀ base : Heap, K.In base → base.Ns mainGlobals mg → FnOk P w K mg base CX k fa fd [x] sp) (hbind : ∀ (s : Shared) (u : Value), BindsTo s fd ⟨[u], []⟩ [(x, u)])
    (hsp : ∀ H : Hp, Only H → SqL K H a (ns.map V.int) → sp [.ref a] H (fun v _ => v = .bl true) fun _ _ _ => False)
    (hCX : ∀ H e s', CX [] H s₁ (fun _ _ _ => False) e s' → False) :
    codeAny (model P w) callerA (.call (.ref fa) ⟨[.ref a], []⟩) (fun r s' => r = .ok (.ret (.bool true)) ∧ OldK s₁.heap s'.heap ∧ s'.os = s₁.os ∧ AllBare s'.gens) s₁ := by
  have rv := vals_ints hi
  have lenV := hi.length
  -- from an abstract heap in which nothing but the script may be tracked
  have core : ∀ H : Hp, Only H → SqL K H a (ns.map V.int) → HOk P w H s₁.heap → (∀ b, H b ≠ none → b = a) → (H a ≠ none → K.lookup a = none) →
      codeAny (model P w) callerA (.call (.ref fa) ⟨[.ref a], []⟩) (fun r s' => r = .ok (.ret (.bool true)) ∧ OldK s₁.heap s'.heap ∧ s'.os = s₁.os ∧ AllBare s'.gens) s₁ := by
    intro H hO hS hok hA hK
    have base_of : ∀ {b : Addr} {o : Obj}, s₁.heap.get? b = some o → H b = none → (hidT s₁.heap H).get? b = some o := fun e n => hidT_get e n
    have noA : ∀ {b : Addr} {o : Obj} {es : Array DictEntry} {ep : Nat}, s₁.heap.get? b = some o → o.data = .dict es ep → H b = none := fun {b o es ep} e d => by
      cases q : H b with
      | none => rfl
      | some u =>
        have e' : b = a := hA b (by rw [q]; simp)
        subst e'
        rw [ha] at e; cases e
        have d' : Data.seq vs.toArray _ = Data.dict es ep := d
        cases d'
    have nsK : ∀ {b : Addr} {m : Str → Option Value}, s₁.heap.Ns b m → (hidT s₁.heap H).Ns b m := fun {b m} ⟨o, es, ep, e, d, r⟩ => ⟨o, es, ep, base_of e (noA e d), d, r⟩
    have hKb : K.In (hidT s₁.heap H) := fun b o e => base_of (KX b o e) (by
      cases q : H b with
      | none => rfl
      | some u =>
        have e' : b = a := hA b (by rw [q]; simp)
        subst e'
        rw [hK (by rw [q]; simp)] at e; cases e)
    have hM : Mod K mg (hidT s₁.heap H) := ⟨hKb, nsK hns, ⟨mb, nsK hb, hbb⟩, let ⟨mc, h1, h2⟩ := hlim; ⟨mc, nsK h1, h2⟩⟩
    have e0 : Env0 P w K mg (hidT s₁.heap H) callerA [] s₁ H := ⟨rfl, hM, fun b o e => of_hidT e, Nat.le_of_eq (hidT_size _ _), trivial, fun b hb => absurd (show b ∈ ([] : List Addr) from hb) (by simp), hok, .of_eq hg⟩
    refine codeAny_mono ((F _ hKb (nsK hns)).run callerA [] s₁ H ⟨[.ref a], []⟩ [.ref a] [.ref a] _ _ hr e0 (hbind s₁ (.ref a)) (.cons rfl .nil) (hsp H hO hS)) fun r s' h => ?_
    cases r with
    | error e => exact (hCX H e s' h).elim
    | ok fl =>
      cases fl with
      | next => exact False.elim h
      | brk => exact False.elim h
      | cont => exact False.elim h
      | ret u =>
        obtain ⟨v, H', os, bare, un, hok', r', q⟩ := h
        have q' : v = .bl true := q
        subst q'
        obtain rfl : u = Value.bool true := r'
        refine ⟨rfl, OldK.of_keep fun b o e => ?_, os, bare⟩
        cases q : H b with
        | none => exact un.keep b o e q (by intro z; exact absurd (show b ∈ ([] : List Addr) from z) (by simp)) (by simp)
        | some u =>
          rcases hO b with z | ⟨ob, xs, z⟩
          · rw [q] at z; cases z
          · have z2 := un.frzs b ob _ z
            obtain ⟨e1, _⟩ := hok b _ z
            obtain ⟨e2, _⟩ := hok' b _ z2
            rw [e] at e1; cases e1
            exact e2
  cases hk : K.lookup a with
  | some o =>
    -- the script is one of the module's own objects
    have e := KX a o hk
    rw [ha] at e
    cases e
    refine core (fun _ => none) (fun _ => .inl rfl) (.inr ⟨_, vs.toArray, _, hk, rfl, rfl, rfl, by rw [List.size_toArray, lenV]; exact hl, by simpa using rv⟩) (fun b u z => by have z' : (none : Option HO) = some u := z; cases z') (fun b z => absurd rfl z) fun z => absurd rfl z
  | none =>
    refine core (fun b => if b = a then some (.frz { cls := .type "list", data := .seq vs.toArray } (.lst (ns.map V.int))) else none) (fun b => ?_) (.inl (.inr ⟨{ cls := .type "list", data := .seq vs.toArray }, if_pos rfl⟩)) (fun b u z => ?_) (fun b z => ?_) fun _ => hk
    · by_cases hb : b = a
      · exact .inr ⟨_, _, if_pos hb⟩
      · exact .inl (if_neg hb)
    · by_cases hb : b = a
      · have z' := (if_pos hb).symm.trans z
        cases z'
        subst hb
        exact ⟨ha, by rw [List.length_map]; exact hl, vs, _, rv, ha⟩
      · have z' := (if_neg hb).symm.trans z
        cases z'
    · by_cases hb : b = a
      · exact hb
      · exact absurd (if_neg hb) z
end L2
namespace L2
open PySem PySem.Spec PyProof.Rows
abbrev KOf {K : PySem.W.Frag} {h : Heap} (_ : K.In h) : PySem.W.Frag := K
/-- the goal that k_head leaves (case hc), from the law's promise. F gives the function object fd (K's own) once, then the promise over every base -/
theorem walk_of {l : PySem.W.OpenLaw} {n k : Nat} {q : Program} {loose : List Str} {XP : (Str → Option Value) → Heap → Prop} {YP : World → Heap → Prop} {d : DefRec} {K : Params → PySem.W.Frag} {CX : World → CXT} {sp : World → Sp} {x : Str}
    (hn : l.most = some n) (hn2 : n ≤ sizeLine) (hdf : d.params.defaults = []) (hr : Room k callerA)
    (hY : ∀ (w : World) (h : Heap), YP w h → (K w.params).In h)
    (F : ∀ (w : World) (mg : Str → Option Value) (fa : Addr) (h : Heap), (K w.params).In h → h.Ns mainGlobals mg → mg d.name = some (.ref fa) →
      ∃ fd : FuncData, (∀ (s : Shared) (u : Value), BindsTo s fd ⟨[u], []⟩ [(x, u)]) ∧
        ∀ base : Heap, (K w.params).In base → base.Ns mainGlobals mg → FnOk l.prog w (K w.params) mg base (CX w) k fa fd [x] (sp w))
    (hsp : ∀ (w : World) (H : Hp) (a : Addr) (ns : List Int), ns.length ≤ n → Only H → SqL (K w.params) H a (ns.map V.int) → sp w [.ref a] H (fun v _ => v = .bl true) fun _ _ _ => False)
    (hCX : ∀ (w : World) (H : Hp) (s : Shared) (e : Value) (s' : Shared), CX w [] H s (fun _ _ _ => False) e s' → False) :
    PySem.W.WalkO q loose XP YP l.row.toRowW d [] (fun f vs => PySem.call f vs) := by
  refine Att.attach_call hn hdf fun w s₀ s₁ mg mb fa o pm cd doc a vs ns G Y ho hd hcd hmg hobj hints hlen hg => ?_
  have KX := hY w _ Y
  obtain ⟨fd, hb, hF⟩ := F w mg fa _ KX G.T.g hmg
  exact law_call KX G.T.g G.T.b G.T.builtins G.T.nolimit hg hobj hints (Nat.le_trans hlen hn2) hr hF hb (fun H hO hS => hsp w H a ns hlen hO hS) fun H e s' => hCX w H s₁ e s'
/-- the same where the promise hangs on the written part alone: (sp := My.sp_law), no hole under a binder -/
theorem walk_ofK {l : PySem.W.OpenLaw} {n k : Nat} {q : Program} {loose : List Str} {XP : (Str → Option Value) → Heap → Prop} {YP : World → Heap → Prop} {d : DefRec} {K : Params → PySem.W.Frag} {CX : CXT} {sp : PySem.W.Frag → Sp} {x : Str}
    (hn : l.most = some n) (hn2 : n ≤ sizeLine) (hdf : d.params.defaults = []) (hr : Room k callerA)
    (hY : ∀ (w : World) (h : Heap), YP w h → (K w.params).In h)
    (F : ∀ (w : World) (mg : Str → Option Value) (fa : Addr) (h : Heap), (K w.params).In h → h.Ns mainGlobals mg → mg d.name = some (.ref fa) →
      ∃ fd : FuncData, (∀ (s : Shared) (u : Value), BindsTo s fd ⟨[u], []⟩ [(x, u)]) ∧
        ∀ base : Heap, (K w.params).In base → base.Ns mainGlobals mg → FnOk l.prog w (K w.params) mg base CX k fa fd [x] (sp (K w.params)))
    (hsp : ∀ (K : PySem.W.Frag) (H : Hp) (a : Addr) (ns : List Int), ns.length ≤ n → Only H → SqL K H a (ns.map V.int) → sp K [.ref a] H (fun v _ => v = .bl true) fun _ _ _ => False)
    (hCX : ∀ (H : Hp) (s : Shared) (e : Value) (s' : Shared), CX [] H s (fun _ _ _ => False) e s' → False) :
    PySem.W.WalkO q loose XP YP l.row.toRowW d [] (fun f vs => PySem.call f vs) :=
  walk_of (K := K) (CX := fun _ => CX) (sp := fun w => sp (K w.params)) hn hn2 hdf hr hY F (fun w H a ns h1 h2 h3 => hsp (K w.params) H a ns h1 h2 h3) fun _ H s e s' => hCX H s e s'
end L2
/- THE LAST THEOREM (shape; LID, My.* are yours):
   My.Adr: a structure of the addresses that your layer names (classes, functions); My.Txt K t: a structure (Prop) of the equations over K;
   My.txt_mk : {K} {implicit addresses ..} (e1 : nsIn K mainGlobals "law" = some (some (.ref f))) (e2 : K.lookup f = some ⟨oc, od, .func (fnOf "law" "law" params body scope dV kV doc pm an cdv ct), sl⟩) (e3 : codeIn K cdv "law" = true) .. : ∃ t, My.Txt K t
set_option maxRecDepth 100000 in
set_option maxHeartbeats 0 in
theorem PySem.Challenge.cw_LID_holds : PySem.Challenge.rw_LID.Holds := by
  w_on; o_law; k_head; (case hw => w_witness2)
  k_fill
  refine L2.walk_of (l := PySem.Challenge.rw_LID) (n := 63) (k := 40) (x := "script") (CX := fun w => ..) (sp := fun _ => My.sp_law) rfl (by decide) rfl ⟨rfl, by decide, by decide⟩ (fun w h Y => PySem.W.kIn_of Y) ?F ?S ?C
  case F =>
    intro w mg fa h KX G hmg
    have T : ∃ t, My.Txt (L2.KOf KX) t := by
      dsimp only [L2.KOf]                          -- K must stand as «<heap const> w.params» for k_is
      refine' My.txt_mk ?e1 ?e2 ?e3 ..
      (case e1 => PySem.W.k_is)                    -- in the order: a name -> its address -> its object -> its parts
      (case e2 => PySem.W.k_is)
      ..
    obtain ⟨t, T⟩ := T
    have e0 := hmg.symm.trans (PySem.W.mg_of KX G T.law)
    cases e0                                       -- fa is the law's own address
    exact ⟨_, fun s u => .of_eq rfl, fun base kb nb => My.law_fn T kb nb⟩     -- if «.of_eq rfl» comes too early: refine' ⟨_, ?b, fun base kb nb => My.law_fn T kb nb⟩; exact fun s u => .of_eq rfl
  case S => exact fun w H a ns hl hO hS => ..
  case C => exact ..
(the tactic k_is has no namespace: write k_is) -/
/-! SHORT WORDS over the layer: a def of the text, its body, what a loop and a test want. -/
namespace L2
open PySem PySem.Spec PyProof.Rows
/-! ### the text by places -/
/-- the j-th statement of a class's body -/
def inClass (s : Stmt) (j : Nat) : Stmt := match s with
  | .ClassDef _ _ _ body _ _ _ _ _ _ _ => body.getD j (.Pass ⟨0, 0, 0, 0⟩)
  | _ => .Pass ⟨0, 0, 0, 0⟩
def defArgs (s : Stmt) : Arguments := match s with
  | .FunctionDef _ a _ _ _ _ _ _ _ _ => a
  | _ => { posonlyargs := [], args := [], vararg := none, kwonlyargs := [], kw_defaults := [], kwarg := none, defaults := [] }
def defBody (s : Stmt) : List Stmt := match s with
  | .FunctionDef _ _ b _ _ _ _ _ _ _ => b
  | _ => []
def defScope (s : Stmt) : Scope := match s with
  | .FunctionDef _ _ _ _ _ _ sc _ _ _ => sc
  | _ => { kind := .function, names := [], isGenerator := false, isCoroutine := false }
/-! ### no exception leaves a def -/
abbrev CX0 : CXT := fun _ _ _ _ _ _ => False
abbrev E0 : XK := fun _ _ _ => False
theorem pass0 {X : Cx} : Passes CX0 X E0 := fun _ _ _ _ _ _ _ h => h.elim
/-! ### a def (or method) of the text as it stands behind the top -/
structure Fun (K : PySem.W.Frag) (x qual : Str) (st : Stmt) (f : Addr) (fd : FuncData) : Prop where
  ex : ∃ (oc : Value) (od : Option Addr) (kV doc pm : Value) (an : Option Addr) (cdv ct : Value) (osl : Array (Option Value)),
    fd = PySem.W.fnOf x qual (defArgs st) (defBody st) (defScope st) .none kV doc pm an cdv ct ∧ K.lookup f = some ⟨oc, od, .func fd, osl⟩ ∧ PySem.W.codeIn K cdv qual = true
  kp : PySem.W.keepIn K (.ref f) = true
section
variable {P : Program} {w : World} {K : PySem.W.Frag} {mg : Str → Option Value} {base : Heap}
/-- THE RULE for a def: its body as a term of rules, and the reading of that term -/
theorem Fun.ok {x qual : Str} {st : Stmt} {f : Addr} {fd : FuncData} {N ps : List Str} {k : Nat} {sp : Sp} (F : Fun K x qual st f fd) (S : FnScope N ps (defScope st)) (len : ∀ vs H Q E, sp vs H Q E → vs.length = ps.length)
    (hbody : ∀ (cdv : Value) (A : Around) (outer : List Env) (s : Shared) (H : Hp) (vs : List V) (Q : VK) (E : XK), Room k (A.deeper (envOfC qual (defScope st) s.heap.objs.size f cdv)) → sp vs H Q E →
      ∃ t, PSs (cxOf CX0 P w K mg base N qual (defScope st) f cdv A outer s H E).nox (defBody st) t ∧ t { nx := fun _ H' => Q .non H', rt := Q } (start N vs) H) : FnOk P w K mg base CX0 (k + 1) f fd ps sp := by
  obtain ⟨oc, od, kV, doc, pm, an, cdv, ct, osl, rfl, lk, hcd⟩ := F.ex
  refine fn_of lk hcd S len fun A outer s H vs Q E hr hsp => ?_
  obtain ⟨t, h, q⟩ := hbody cdv A outer s H vs Q E hr hsp
  exact ⟨t, h.nox, q⟩
/-- how its arguments bind (no defaults): h is «fun _ _ _ _ _ _ us hl => match us, hl with | [_, _], _ => rfl», one _ a parameter -/
theorem Fun.binds {x qual : Str} {st : Stmt} {f : Addr} {fd : FuncData} {ps : List Str} (F : Fun K x qual st f fd)
    (h : ∀ (kV doc pm : Value) (an : Option Addr) (cdv ct : Value) (us : List Value), us.length = ps.length → bindArgs (PySem.W.fnOf x qual (defArgs st) (defBody st) (defScope st) .none kV doc pm an cdv ct) ⟨us, []⟩ = pure (ps.zip us)) : Binds K fd ps [] := by
  obtain ⟨oc, od, kV, doc, pm, an, cdv, ct, osl, rfl, lk, hcd⟩ := F.ex
  exact .all (h kV doc pm an cdv ct)
theorem fun_mk {x qual : Str} {st : Stmt} {f : Addr} {oc : Value} {od an : Option Addr} {osl : Array (Option Value)} {kV doc pm cdv ct : Value} (l : K.lookup f = some ⟨oc, od, .func (PySem.W.fnOf x qual (defArgs st) (defBody st) (defScope st) .none kV doc pm an cdv ct), osl⟩)
    (c : PySem.W.codeIn K cdv qual = true) (k : PySem.W.keepIn K (.ref f) = true) : Fun K x qual st f (PySem.W.fnOf x qual (defArgs st) (defBody st) (defScope st) .none kV doc pm an cdv ct) := ⟨⟨oc, od, kV, doc, pm, an, cdv, ct, osl, rfl, l, c⟩, k⟩
end
/-! ### expressions in short: the name that stands in the i-th slot -/
section
variable {X : Cx}
end
/-! ### tests -/
/-! ### heaps -/
/-- all that was tracked is as it was -/
def Same (H H' : Hp) : Prop := ∀ b o, H b = some o → H' b = some o
end L2
set_option Elab.async false
set_option linter.all false
set_option maxRecDepth 100000
set_option maxHeartbeats 4000000
/-! list comprehensions over the layer -/
namespace L2
open PySem PySem.Spec PyProof.Rows
section
variable {X : Cx}
/-- the block's slots: those that stand in the frame around, by their places there -/
def capS (cap : List (Option Nat)) (σ : St) : St := cap.map fun o => o.bind fun i => (σ[i]?).join
/-- the block's context -/
def cxComp (X : Cx) (cN : List Str) (scope : Scope) (cl : List (Str × Addr)) (fp : List Addr) (s : Shared) (H : Hp) : Cx :=
  { X with N := cN, s₀ := s, H₀ := H, env := compEnvC scope cl s.heap.objs.size X.env, outer := X.stack, ex := fp, fn := fun _ => false, pn := [], xe := fun _ _ => False }
/-- the tests of a clause -/
def PIfs (X : Cx) (ifs : List Expr) (c : TT) : Prop :=
  ∀ (pins : List (Addr × Obj)) (s : Shared) (σ : St) (H : Hp) (Q : Bool → Hp → Prop), Inv X pins σ H s → c σ H Q →
    wpAny (model X.prog X.w) X.A (forIn ifs true fun c r => if r = true then do let ok ← isTrue c X.env (eval c X.env); pure (ForInStep.yield ok) else pure (ForInStep.yield r)) (TP X pins σ Q) X.xe s
def tNoIf : TT := fun _ H Q => Q true H
/-- a target stores nowhere but at js -/
def GKeep (js : List Nat) (g : TG) : Prop := ∀ x σ H Q, g x σ H Q → g x σ H fun σ' H' => Q σ' H' ∧ σ'.length = σ.length ∧ ∀ i, i ∉ js → σ'[i]? = σ[i]?
def GsKeep (js : List Nat) (g : TGs) : Prop := ∀ x σ H Q, g x σ H Q → g x σ H fun σ' H' => Q σ' H' ∧ σ'.length = σ.length ∧ ∀ i, i ∉ js → σ'[i]? = σ[i]?
def TGmono (g : TG) : Prop := ∀ x σ H (Q Q' : St → Hp → Prop), (∀ σ' H', Q σ' H' → Q' σ' H') → g x σ H Q → g x σ H Q'
def TGsmono (g : TGs) : Prop := ∀ x σ H (Q Q' : St → Hp → Prop), (∀ σ' H', Q σ' H' → Q' σ' H') → g x σ H Q → g x σ H Q'
/-- a comprehension's turns: p is the new list -/
def tGo (cap : List (Option Nat)) (g : TG) (c : TT) (te : TE) (σ : St) (Q : Addr → Hp → Prop) (J : It) (H1 : Hp) : Prop := ∀ p, H1 p = none → ∃ W : Nat → Nat → Hp → Prop, (∃ m, W 0 m (upd H1 p (.lst []))) ∧ ∀ i m H, W i m H →
  (J.stop i H ∧ Q p H) ∨ (J.go i H ∧ ∃ N : Hp → Prop, (∀ H', N H' → ∃ m', m' < m ∧ W (i + 1) m' H') ∧ ∀ x H', J.yld i H x H' → g x (capS cap σ) H' fun σ2 H2 => c σ2 H2 fun b H3 =>
    if b = true then te σ2 H3 fun v H4 => ∃ xs, H4 p = some (.lst xs) ∧ xs.length < sizeLine ∧ N (upd H4 p (.lst (xs ++ [v]))) else N H3)
/-- a comprehension's reading -/
def tCompL (cap : List (Option Nat)) (wi : TI) (g : TG) (c : TT) (te : TE) : St → Hp → (Addr → Hp → Prop) → Prop := fun σ H Q => wi σ H fun J H1 => tGo cap g c te σ Q J H1
structure CompOk (X : Cx) (cN : List Str) (cap : List (Option Nat)) (scope : Scope) (cl : List (Str × Addr)) : Prop where
  clos : closureFor scope X.env = pure cl
  sub : ∀ n a, cl.lookup n = some a → X.env.cells.lookup n = some a
  cell : ∀ y ∈ scope.names, y.2 ≠ .cell
  kind : scope.kind = .function
  names : ∀ x ∈ scope.names, x.2 = .local → scope.names.lookup x.1 = some .local
  len : cap.length = cN.length
  has : ∀ x, ((relabel scope X.env).names.lookup x = some .cell ∨ (relabel scope X.env).names.lookup x = some .free) → ∃ a, cl.lookup x = some a
  capd : ∀ (i j : Nat) (x : Str), cap[i]? = some (some j) → cN[i]? = some x → X.N[j]? = some x ∧ Vis X.env.scope x ∧ X.env.scope.names.lookup x ≠ some .local ∧ ((relabel scope X.env).names.lookup x = some .cell ∨ (relabel scope X.env).names.lookup x = some .free)
section
variable {X : Cx} {tg iter elt : Expr} {ifs : List Expr} {scope : Scope} {pos : Pos} {cN : List Str} {cap : List (Option Nat)} {cl : List (Str × Addr)} {js : List Nat} {wi : TI} {g : TG} {c : TT} {te : TE}
/-- what a comprehension's parts must be -/
structure CompP (X : Cx) (tg iter elt : Expr) (ifs : List Expr) (scope : Scope) (cN : List Str) (cap : List (Option Nat)) (cl : List (Str × Addr)) (js : List Nat) (wi : TI) (g : TG) (c : TT) (te : TE) : Prop where
  calm : X.calm = true
  ok : X.Ok → CompOk X cN cap scope cl
  it : PI X tg iter wi
  tgt : ∀ fp s H, PG (cxComp X cN scope cl fp s H) tg g
  gm : TGmono g
  gk : GKeep js g
  js0 : ∀ j ∈ js, (cap[j]?).join = none
  ts : ∀ fp s H, PIfs (cxComp X cN scope cl fp s H) ifs c
  tm : ∀ σ H (Q Q' : Bool → Hp → Prop), (∀ b H', Q b H' → Q' b H') → c σ H Q → c σ H Q'
  el : ∀ fp s H, PE (cxComp X cN scope cl fp s H) elt te
  fold : ∀ x, foldedSetIterable iter X.env x = pure x
def tComp (cap : List (Option Nat)) (wi : TI) (g : TG) (c : TT) (te : TE) : TE := fun σ H Q => tCompL cap wi g c te σ H fun p H' => Q (.ref p) H'
/-- x = [.. for ..], x a plain local: stored ahead of the block's end -/
def tSetComp (i : Nat) (cap : List (Option Nat)) (wi : TI) (g : TG) (c : TT) (te : TE) : TS := fun D σ H => tCompL cap wi g c te σ H fun p H' => D.nx (σ.set i (some (.ref p))) H'
end
end
end L2
set_option Elab.async false
set_option linter.all false
set_option maxRecDepth 100000
set_option maxHeartbeats 4000000
/-! more rules over the layer: texts walked, enumerate, all, isinstance, lists compared, slices of texts, () + t -/
namespace L2
open PySem PySem.Spec PyProof.Rows
/-! ### for c in a text -/
def Its (z : Str) : It := ⟨fun i _ => i < z.cps.size, fun i H x H' => H' = H ∧ ∃ c, z.cps[i]? = some c ∧ x = .str ⟨#[c]⟩, fun i _ => i = z.cps.size⟩
theorem turn_walks {P : Program} {w : World} {K : PySem.W.Frag} {tg : Expr} {ty : String} {it : Addr} {z : Str} {t : Tok} (hty : ["enumerate", "zip", "dict_itemiterator", "dict_reverseitemiterator", "odict_iterator", "itertools.zip_longest", "itertools.pairwise"].contains ty = false)
    (W : ∀ A : Around, A.handled = none → Walks P w A it [it] [it] z.cps.size (SignAt z) (fun i h => h.IsStrIter it ty z t i))
    (self : ∀ (A : Around) (i : Nat) (s : Shared) (Q : Value → Shared → Prop) (E : Value → Shared → Prop), s.heap.IsStrIter it ty z t i → Q (.ref it) s → wpAny (model P w) A (pyIter (.ref it)) Q E s) :
    Turn P w K tg (Its z) [it] it (fun i h => h.IsStrIter it ty z t i) where
  mem := by simp
  obj := fun i h st b hb => by
    have e : b = it := by simpa using hb
    subst e
    obtain ⟨o, e, c, d⟩ := st
    exact ⟨o, e, fun v z => by rw [d] at z; cases z⟩
  keep := fun i h h' st k => let ⟨o, e, r⟩ := st; ⟨o, k it (by simp) o e, r⟩
  item := by
    intro X hP hw hK hc i pins s σ H E I hf st hg
    subst hP hw hK
    obtain ⟨f0, f1, f2, f3, f4, f5⟩ := hf it (by simp)
    refine (W X.A (I.ok.hd hc)).item i s _ _ hg st fun v h' tk hv st' kk => ?_
    obtain ⟨c, u, hcp, rfl⟩ := hv
    have I1 : Inv X pins σ H { s with heap := h', toks := tk } := I.turned (fun b o hb e => kk b o (by simpa using hb) e) f0 f1 f3 f4 f5
    obtain ⟨o, e, c', d⟩ := id st'
    exact ⟨_, rfl, go_of (s := { s with heap := h', toks := tk }) e c' d hty ⟨.str ⟨#[c]⟩, H, I1, ⟨u, rfl⟩, ⟨rfl, c, hcp, rfl⟩, st', fun b hb => (hf b hb).1⟩⟩
  done := by
    intro X hP hw hK hc i pins s σ H E I hf st hg
    subst hP hw hK
    obtain ⟨f0, f1, f2, f3, f4, f5⟩ := hf it (by simp)
    have e : i = z.cps.size := hg
    subst e
    exact (W X.A (I.ok.hd hc)).done s _ _ st fun h' tk kk => ⟨rfl, I.turned (fun b o hb e => kk b o (by simpa using hb) e) f0 f1 f3 f4 f5⟩
  self := self
section
variable {X : Cx} {tg : Expr}
def iStr (tl : TE) : TI := fun σ H R => tl σ H fun x H1 => ∃ z, x = .str z ∧ R (Its z) H1
end
/-! ### for k, c in enumerate(a text) -/
def Ite (z : Str) : It := ⟨fun i _ => i < z.cps.size, fun i H x H' => ∃ c T, z.cps[i]? = some c ∧ x = .ref T ∧ H T = none ∧ H' = upd H T (.tup [.int i, .str ⟨#[c]⟩]), fun i _ => i = z.cps.size⟩
section
variable {X : Cx} {elts : List Expr} {ek : Nat} {epos : Pos}
def iEnum (ta : TA) : TI := fun σ H R => ta σ H fun vs H1 => ∃ z, vs = [.str z] ∧ R (Ite z) H1
end
section
variable {X : Cx}
/-! ### all of a list of truths -/
/-! ### isinstance of a built-in class -/
/-! ### two lists of the very same items -/
def okV : V → Bool
  | .flt _ => false
  | .byt _ => false
  | _ => true
def rEqL (K : PySem.W.Frag) (k : Bool) : R2 := fun x y H Q => ∃ p q xs, x = .ref p ∧ y = .ref q ∧ SqL K H p xs ∧ SqL K H q xs ∧ xs.all okV = true ∧ Q (.bl k) H
/-! ### () + t -/
def rCatT0 (K : PySem.W.Frag) : R2 := fun x y H Q => ∃ a b ys, x = .ref a ∧ y = .ref b ∧ SqT K H a [] ∧ SqT K H b ys ∧ Q (.ref b) H
theorem op_catT0 : OpR X (binaryOp .Add) (rCatT0 X.K) := by
  intro pins s σ H x y v u Q I rx ry h
  obtain ⟨a, b, ys, rfl, rfl, ha, hb, q⟩ := h
  cases rx
  cases ry
  obtain ⟨its, r1, p1, _⟩ := I.tuple ha
  obtain ⟨its2, r2, p2, _⟩ := I.tuple hb
  cases r1
  obtain ⟨⟨cls, dd, data, sl⟩, ho, hc, n, hd⟩ := id p1
  obtain ⟨⟨cls2, dd2, data2, sl2⟩, ho2, hc2, n2, hd2⟩ := id p2
  simp only at hc hd hc2 hd2
  subst hc hd hc2 hd2
  exact concat_meets ⟨_, ho, rfl⟩ ⟨_, ho2, rfl⟩ noFill_tuple_add seq_tuple_add PySem.F.slot_tuple_add PySem.F.entry_tuple_add (PySem.F.args_tuple_add_2 _ _)
    (tuple_addW0 a b _ _ n n2 dd dd2 sl sl2 (by simp)) ⟨ho, ho2, ⟨.ref b, H, I, rfl, q⟩⟩
/-! ### a text's slice -/
def rSlS : V → Option Int → Option Int → Hp → VK → Prop := fun x lo hi H Q => ∃ z, x = .str z ∧ z.length ≤ sizeLine ∧ Q (.str (Txt.slice z lo hi)) H
end
end L2
set_option Elab.async false
set_option linter.all false
set_option maxRecDepth 100000
set_option maxHeartbeats 4000000
namespace L2
open PySem PySem.Spec PyProof.Rows
theorem bt_max : bootBuiltins "max" = some (.builtin "max") := by decide +kernel
theorem bt_isinstance : bootBuiltins "isinstance" = some (.builtin "isinstance") := by decide +kernel
theorem bt_int : bootBuiltins "int" = some (.type "int") := by decide +kernel
theorem bt_str : bootBuiltins "str" = some (.type "str") := by decide +kernel
theorem bt_list : bootBuiltins "list" = some (.type "list") := by decide +kernel
section
variable {X : Cx}
/-- a def that keeps its promise, whatever its address -/
structure Ca (P : Program) (w : World) (K : PySem.W.Frag) (mg : Str → Option Value) (base : Heap) (k : Nat) (x : Str) (ps : List Str) (sp : Sp) : Prop where
  ex : ∃ (f : Addr) (fd : FuncData), FnOk P w K mg base CX0 k f fd ps sp ∧ Binds K fd ps [] ∧ PySem.W.keepIn K (.ref f) = true ∧ mg x = some (.ref f)
theorem pe_ca {k : Nat} {x : Str} {ps : List Str} {sp : Sp} {p pos : Pos} {e : Expr} {es : List Expr} {t : TA} (C : Ca X.prog X.w X.K X.mg X.base k x ps sp) (hr : Room k X.A) (hg : Gl X x) (ha : PA X (e :: es) t)
    (hdb : (x == ("__debug__" : Str)) = false := by decide) (he : starEach (e :: es) X.env = (false, eval e X.env) :: starEach es X.env := by rfl) (hpl : (backTo pos (starEach es X.env)).any (·.1) = false := by rfl) :
    PE X (.Call (.Name x p) (e :: es) [] pos) (tCall sp [] E0 t) := by
  obtain ⟨f, fd, F, B, kp, m⟩ := C.ex
  exact pe_call F hr hg m kp B .nil pass0 ha hdb he hpl
/-! the names of a block -/
/-- the cells that a block takes -/
def closOf (cells : List (Str × Addr)) : List (Str × NameKind) → List (Str × Addr) → List (Str × Addr)
  | [], cs => cs
  | (n, k) :: r, cs => closOf cells r (if k == .free then (n, (cells.lookup n).getD 0) :: cs else cs)
/-- the block's names stand at these places of the frame around, as cells -/
def capOk (N : List Str) (outer inner : List (Str × NameKind)) : List (Option Nat) → List Str → Bool
  | [], _ => true
  | _, [] => true
  | none :: r, _ :: xs => capOk N outer inner r xs
  | some j :: r, x :: xs => N[j]? == some x && outer.lookup x == some .cell && inner.lookup x == some .free && capOk N outer inner r xs
end
end L2
set_option Elab.async false
set_option linter.all false
set_option maxRecDepth 100000
set_option maxHeartbeats 4000000
namespace L2
open PySem PySem.Spec PyProof.Rows
/-- the list grown so far, and what holds of it -/
def CN (p : Addr) (Pv : Nat → List V → Hp → Prop) (i : Nat) (H : Hp) : Prop := ∃ ys, H p = some (.lst ys) ∧ ys.length ≤ i ∧ Pv i ys H
section
variable {K : PySem.W.Frag} {cap : List (Option Nat)} {g : TG} {c : TT} {te : TE} {σ : St} {Q : Addr → Hp → Prop} {H : Hp}
end
/-- a for's turns -/
def tForGo (g : TG) (tb : TS) (D : Ends) (σ : St) (J : It) (H1 : Hp) : Prop := ∃ W : Nat → Nat → St → Hp → Prop, (∃ m, W 0 m σ H1) ∧ ∀ i m σ H, W i m σ H →
  (J.stop i H ∧ D.nx σ H) ∨ (J.go i H ∧ ∃ N : St → Hp → Prop, (∀ σ' H', N σ' H' → ∃ m', m' < m ∧ W (i + 1) m' σ' H') ∧ ∀ x H', J.yld i H x H' → g x σ H' fun σ2 H2 => tb { D with nx := N, ct := N, bk := D.nx } σ2 H2)
section
variable {K : PySem.W.Frag} {a : Addr} {xs : List V} {g : TG} {tb : TS} {D : Ends} {σ : St} {H : Hp} {z : Str}
end
theorem tyL {K : PySem.W.Frag} {H : Hp} {r : Addr} {xs : List V} (h : H r = some (.lst xs)) : tyV K "list" (.ref r) H := by
  unfold tyV
  exact .inl ⟨rfl, xs, SqL.of h⟩
theorem atI_in {α : Type} {xs : List α} {i : Int} (h0 : 0 ≤ i) (h1 : i < (xs.length : Int)) : ∃ v, atI xs i = some v ∧ v ∈ xs := by
  have hk : i.toNat < xs.length := by omega
  have ek : ((i.toNat : Nat) : Int) = i := by omega
  have q : atI xs ((i.toNat : Nat) : Int) = some xs[i.toNat] := atI_nat (by simp [hk])
  rw [ek] at q
  exact ⟨xs[i.toNat], q, List.getElem_mem hk⟩
end L2
set_option Elab.async false
set_option linter.all false
set_option maxRecDepth 100000
set_option maxHeartbeats 4000000
namespace L2
open PySem PySem.Spec PyProof.Rows
/-! ### lists of pairs as tables -/
section
variable {κ : Type} [DecidableEq κ]
def valV (kvs : List (κ × V)) (k : κ) : Option V := (kvs.find? fun kv => decide (kv.1 = k)).map (·.2)
/-- in its place, or at the end -/
def putK (kvs : List (κ × V)) (k : κ) (v : V) : List (κ × V) :=
  if (kvs.any fun kv => decide (kv.1 = k)) = true then kvs.map (fun kv => if kv.1 = k then (kv.1, v) else kv) else kvs ++ [(k, v)]
def dropK (kvs : List (κ × V)) (k : κ) : List (κ × V) := kvs.filter fun kv => decide (kv.1 ≠ k)
end
/-! ### a tracked dict, its keys ints and texts or tuples of these -/
/-- raw entries of a dict with tuple keys -/
abbrev KT (H : Hp) : List (List Key × V) → List (List Key × Addr × Value) → Prop := Paired fun p q => p.1 = q.1 ∧ H q.2.1 = some (.tup (p.1.map kV)) ∧ RelV p.2 q.2.2
section
variable {P : Program} {w : World} {H : Hp} {h : Heap} {a : Addr}
end
/-- what the dict at a holds at the key y -/
def DGet (H : Hp) (a : Addr) (y : V) (r : Option V) : Prop :=
  (∃ kvs k, Rd H a (.dK kvs) ∧ y = kV k ∧ r = valV kvs k) ∨ ∃ kvs k b, Rd H a (.dT kvs) ∧ y = .ref b ∧ H b = some (.tup (k.map kV)) ∧ r = valV kvs k
/-- the heap behind a[y] = v -/
def DPut (H : Hp) (a : Addr) (y v : V) (H' : Hp) : Prop :=
  (∃ kvs k, H a = some (.dK kvs) ∧ y = kV k ∧ kvs.length < sizeLine ∧ H' = upd H a (.dK (putK kvs k v))) ∨
  ∃ kvs k b, H a = some (.dT kvs) ∧ y = .ref b ∧ H b = some (.tup (k.map kV)) ∧ kvs.length < sizeLine ∧ H' = upd H a (.dT (putK kvs k v))
section
variable {X : Cx} {pins : List (Addr × Obj)} {σ : St} {H : Hp} {s : Shared} {a : Addr} {y v : V} {u r : Value} {o : Option V} {A : Around} {E : Value → Shared → Prop}
theorem Inv.big (I : Inv X pins σ H s) : sysModules < s.heap.objs.size := by
  have h : mainGlobals < s.heap.objs.size := (I.mod.glob.keeps I.bk).lt
  exact Nat.lt_trans (by decide) h
end
section
variable {X : Cx} {pins : List (Addr × Obj)} {σ : St} {H : Hp} {s : Shared} {a : Addr} {kvs : List (Key × V)} {k : Key} {u : Value} {A : Around} {E : Value → Shared → Prop}
end
/-! ### readings and rules -/
/-- the element of a subscription, not a slice -/
def NoSl (i : Expr) : Prop := ∀ ov iv, subscripted i false ov iv = operate [ov, iv] (getItem ov iv)
/-- d[y] -/
def tDGet (td ty : TE) : TE := fun σ H Q => td σ H fun x H1 => ty σ H1 fun y H2 => ∃ a v, x = .ref a ∧ DGet H2 a y (some v) ∧ Q v H2
/-- y in d, y not in d -/
def tDIn (ty td : TE) : TE := fun σ H Q => ty σ H fun y H1 => td σ H1 fun x H2 => ∃ a o, x = .ref a ∧ DGet H2 a y o ∧ Q (.bl o.isSome) H2
def tDNotIn (ty td : TE) : TE := fun σ H Q => ty σ H fun y H1 => td σ H1 fun x H2 => ∃ a o, x = .ref a ∧ DGet H2 a y o ∧ Q (.bl (!o.isSome)) H2
/-- d[y] = v -/
def sDPut (td ty tv : TE) : TS := fun D σ H => tv σ H fun v H1 => td σ H1 fun x H2 => ty σ H2 fun y H3 => ∃ a H4, x = .ref a ∧ DPut H3 a y v H4 ∧ D.nx σ H4
/-- d[y] op= v -/
def sDAug (td ty tv : TE) (rd : V → V → Hp → VK → Prop) : TS := fun D σ H => td σ H fun x H1 => ty σ H1 fun y H2 => ∃ a v, x = .ref a ∧ DGet H2 a y (some v) ∧
  tv σ H2 fun y2 H3 => rd v y2 H3 fun z H4 => ∃ H5, DPut H4 a y z H5 ∧ D.nx σ H5
/-- del d[y] -/
def sDDel (td ty : TE) : TS := fun D σ H => td σ H fun x H1 => ty σ H1 fun y H2 => ∃ a kvs k, x = .ref a ∧ H2 a = some (.dK kvs) ∧ y = kV k ∧ (valV kvs k).isSome = true ∧ D.nx σ (upd H2 a (.dK (dropK kvs k)))
section
variable {X : Cx} {o i e value : Expr} {pos pos' tpos : Pos} {td ty tv : TE}
end
/-! ### displays -/
theorem dk_empty {P : Program} {w : World} {H : Hp} (h : Heap) (hb : sysModules < h.objs.size) : ObjOk P w H (h.push { cls := .type "dict", data := .dict #[] }) h.objs.size (.dK []) :=
  ⟨Nat.zero_le _, beq_eq_false_iff_ne.mpr (Ne.symm (Nat.ne_of_lt hb)), [], .nil, Heap.DictOf.new h⟩
/-- {}, to be a dict of the kind that is wanted -/
def tDNewK : TE := fun _ H Q => ∀ p, H p = none → Q (.ref p) (upd H p (.dK []))
def tDNewT : TE := fun _ H Q => ∀ p, H p = none → Q (.ref p) (upd H p (.dT []))
section
variable {X : Cx} {pos : Pos}
theorem pe_dnewK : PE X (.Dict [] [] pos) tDNewK := fun pins s σ H Q I h =>
  wpAny_Dict_empty ⟨.ref s.heap.objs.size, _, I.laid (a := s.heap.objs.size) (o := .dK []) (t' := s.toks) (fun _ _ q => Heap.get?_push_of_some _ q) (Nat.le_refl _) (dk_empty s.heap I.big), rfl, h _ (I.hok.fresh (Nat.le_refl _))⟩
end
/-- the pairs of a display, from the left -/
def tPairs : List (TE × TE) → St → Hp → (List (V × V) → Hp → Prop) → Prop
  | [], _, H, Q => Q [] H
  | (tk, tv) :: r, σ, H, Q => tk σ H fun x H1 => tv σ H1 fun y H2 => tPairs r σ H2 fun ps H3 => Q ((x, y) :: ps) H3
abbrev VV : List (V × V) → List (Value × Value) → Prop := Paired fun p q => RelV p.1 q.1 ∧ RelV p.2 q.2
def PPs (X : Cx) (pos : Pos) (keys : List (Option Expr)) (values : List Expr) (trs : List (TE × TE)) : Prop :=
  ∀ (pins : List (Addr × Obj)) (s : Shared) (σ : St) (H : Hp) (Q : List (V × V) → Hp → Prop), Inv X pins σ H s → tPairs trs σ H Q →
    wpAny (model X.prog X.w) X.A (evalPairs (pairTrees keys values X.env pos)) (fun vs s' => ∃ ps H', Inv X pins σ H' s' ∧ VV ps vs ∧ Q ps H') X.xe s
def mergeK (kvs more : List (Key × V)) : List (Key × V) := more.foldl (fun acc kv => putK acc kv.1 kv.2) kvs
/-- {k: v, ..} with keys ints and texts; the new dict stands empty while the pairs are made -/
def tDisp (trs : List (TE × TE)) : TE := fun σ H Q => ∀ p, H p = none → tPairs trs σ (upd H p (.dK [])) fun ps H2 => H2 p = some (.dK []) ∧ ∃ kvs : List (Key × V), ps = kvs.map (fun kv => (kV kv.1, kv.2)) ∧ kvs.length ≤ 15 ∧ Q (.ref p) (upd H2 p (.dK (mergeK [] kvs)))
/-! ### methods -/
/-- a method call o.m(e) of a built-in, with one argument: what must be seen of the text -/
structure M1 (X : Cx) (o : Expr) (m : Str) (apos : Pos) (e : Expr) (cpos : Pos) : Prop where
  base : attributeBase o m X.env (eval o X.env) = eval o X.env
  few : ((backTo cpos (starEach [e] X.env)).all (fun x => !x.1) && (backToKw cpos (keywordEach [] X.env)).all (fun x => x.1.isSome)
    && decide (([e] : List Expr).length + ([] : List Keyword).length + (if ([] : List Keyword).isEmpty then 0 else 1) < 30)) = true
  line : (apos.endLine == cpos.line) = true
  trees : backTo cpos (starEach [e] X.env) = [(false, eval e X.env)]
structure M2 (X : Cx) (o : Expr) (m : Str) (apos : Pos) (e f : Expr) (cpos : Pos) : Prop where
  base : attributeBase o m X.env (eval o X.env) = eval o X.env
  few : ((backTo cpos (starEach [e, f] X.env)).all (fun x => !x.1) && (backToKw cpos (keywordEach [] X.env)).all (fun x => x.1.isSome)
    && decide (([e, f] : List Expr).length + ([] : List Keyword).length + (if ([] : List Keyword).isEmpty then 0 else 1) < 30)) = true
  line : (apos.endLine == cpos.line) = true
  trees : backTo cpos (starEach [e, f] X.env) = [(false, eval e X.env), (false, eval f X.env)]
/-- a is a dict, whatever its keys -/
def IsD (H : Hp) (a : Addr) : Prop := (∃ kvs, Rd H a (.dK kvs)) ∨ ∃ kvs, Rd H a (.dT kvs)
section
variable {X : Cx} {pins : List (Addr × Obj)} {σ : St} {H : Hp} {s : Shared} {a : Addr} {y d : V} {u r : Value} {o : Option V} {A : Around} {E : Value → Shared → Prop}
end
def tDGet1 (td ty : TE) : TE := fun σ H Q => td σ H fun x H1 => ∃ a, x = .ref a ∧ IsD H1 a ∧ ty σ H1 fun y H2 => ∃ o, DGet H2 a y o ∧ Q (o.getD .non) H2
def tDGet2 (td ty tx : TE) : TE := fun σ H Q => td σ H fun x H1 => ∃ a, x = .ref a ∧ IsD H1 a ∧ ty σ H1 fun y H2 => tx σ H2 fun z H3 => ∃ o, DGet H3 a y o ∧ Q (o.getD z) H3
/-- d.pop(k): there; d.pop(k, x): there or not -/
def tDPop1 (td ty : TE) : TE := fun σ H Q => td σ H fun x H1 => ∃ a, x = .ref a ∧ IsD H1 a ∧ ty σ H1 fun y H2 => ∃ kvs k v, H2 a = some (.dK kvs) ∧ y = kV k ∧ valV kvs k = some v ∧ Q v (upd H2 a (.dK (dropK kvs k)))
def tDPop2 (td ty tx : TE) : TE := fun σ H Q => td σ H fun x H1 => ∃ a, x = .ref a ∧ IsD H1 a ∧ ty σ H1 fun y H2 => tx σ H2 fun z H3 => ∃ kvs k, H3 a = some (.dK kvs) ∧ y = kV k ∧
  (∀ v, valV kvs k = some v → Q v (upd H3 a (.dK (dropK kvs k)))) ∧ (valV kvs k = none → Q z H3)
section
variable {X : Cx} {o e f : Expr} {apos cpos : Pos} {td ty tx : TE}
end
/-! ### dict(d): a copy -/
section
variable {X : Cx} {pins : List (Addr × Obj)} {σ : St} {H : Hp} {s : Shared} {a : Addr} {kvs : List (Key × V)} {A : Around} {E : Value → Shared → Prop}
end
section
variable {X : Cx} {pins : List (Addr × Obj)} {σ : St} {H : Hp} {s : Shared} {a : Addr} {y : V} {u : Value} {A : Around} {E : Value → Shared → Prop}
end
end L2
set_option Elab.async false
set_option linter.all false
set_option maxRecDepth 100000
set_option maxHeartbeats 4000000
namespace L2
open PySem PySem.Spec PyProof.Rows
/-! ### for x in reversed(a list), the list as long as it was -/
def Itv (K : PySem.W.Frag) (a : Addr) (n : Nat) : It :=
  ⟨fun i H => i < n ∧ ∃ xs x, SqL K H a xs ∧ xs[n - 1 - i]? = some x, fun i H x H' => H' = H ∧ ∀ xs, SqL K H a xs → xs[n - 1 - i]? = some x, fun i H => i = n⟩
section
variable {X : Cx} {tg : Expr}
def iRev (K : PySem.W.Frag) (ta : TA) : TI := fun σ H R => ta σ H fun vs H1 => ∃ a xs, vs = [.ref a] ∧ SqL K H1 a xs ∧ R (Itv K a xs.length) H1
end
end L2
set_option Elab.async false
set_option linter.all false
set_option maxRecDepth 100000
set_option maxHeartbeats 4000000
/-! texts joined -/
namespace L2
open PySem PySem.Spec PyProof.Rows
section
variable {X : Cx}
theorem strs_of : ∀ {zs : List Str} {us : List Value}, Vals (zs.map V.str) us → StrsAre us zs
  | [], us, h => by rw [h.zero]; exact .nil
  | z :: zs, us, h => by
    cases h with
    | cons a b => obtain ⟨t, rfl⟩ := a; exact .cons z t (strs_of b)
def rJoin (K : PySem.W.Frag) : V → List V → Hp → VK → Prop := fun x vs H Q => ∃ z p zs, x = .str z ∧ vs = [.ref p] ∧ SqL K H p (zs.map V.str) ∧ z.length ≤ 16 ∧ (zs.map (·.length)).sum + zs.length ≤ 1048576 ∧ Q (.str (Txt.join z zs)) H
theorem mt_join : MtR X "str.join" (rJoin X.K) := by
  intro pins s σ H x vs v us Q I rx rv h
  obtain ⟨z, p, zs, rfl, rfl, hq, h1, h2, q⟩ := h
  obtain ⟨t, rfl⟩ := rx
  obtain ⟨u, rfl, ru⟩ := vals1 rv
  cases ru
  obtain ⟨its, rI, pl, hz⟩ := I.list hq
  exact join_listW pl.isList (strs_of rI) h1 h2 fun t' k => ⟨.str _, H, I.tok _, ⟨_, rfl⟩, q⟩
end
end L2
set_option Elab.async false
set_option linter.all false
set_option maxRecDepth 100000
set_option maxHeartbeats 4000000
/-! list(reversed(a list)) -/
namespace L2
open PySem PySem.Spec PyProof.Rows
theorem rv_len : typeLookup (.type "list_reverseiterator") "__len__" = pure none := by
  rw [typeLookup_type]; rw [builtinLookup_eq_fast]; kernel_rfl
theorem rv_hint : typeLookup (.type "list_reverseiterator") "__length_hint__" = pure (some (.builtin "list_reverseiterator.__length_hint__")) := by
  rw [typeLookup_type]; rw [builtinLookup_eq_fast]; kernel_rfl
section
variable {prog : Program} {w : World} {A : Around} {E : Value → Shared → Prop} {s : Shared} {it l : Addr} {i : Int}
theorem hint_rev {Q : Bool → Shared → Prop} (hit : s.heap.IsRevIter it l i) (h : Q false s) : wpAny (model prog w) A (Builtin.List.listLengthHint (.ref it)) Q E s := by
  have hT := hit.typeIs
  unfold Builtin.List.listLengthHint
  refine wpAny_bind (wpAny_specialOf hT rv_len ?_)
  show wpAny _ A (specialOf (Value.ref it) (Str.ofString "__length_hint__") >>= _) _ _ _
  refine wpAny_bind (wpAny_specialOf hT rv_hint ?_)
  generalize hid : ("list_reverseiterator.__length_hint__" : String) = id0
  wp_delta
  rw [show splitId id0 = some ("list_reverseiterator", "__length_hint__") from by subst hid; decide +kernel]
  subst hid
  refine wpAny_bind (wpAny_isInstance (T := "list_reverseiterator") (b := true) hT (by rw [isSubtype_type]; kernel_rfl) ?_)
  refine wpAny_ite_split (fun z => absurd z (by decide)) (fun _ => ?_)
  refine wpAny_ite_split (fun _ => ?_) (fun z => absurd (by decide +kernel) z)
  refine wpAny_ite_split (fun z => absurd z (by decide +kernel)) (fun _ => ?_)
  exact wpAny_pure h
theorem init_rev {R : Result → Shared → Prop} {items : Array Value} (hh : A.handled = none) (n : Nat) (hn : items.size = n) (hsz : n ≤ sizeLine) (S : Addr) (hSi : S ≠ it) (hSl : S ≠ l) (hil : l ≠ it)
    (hit : s.heap.IsRevIter it l ((n : Int) - 1)) (hl : s.heap.IsList l items) (hS : s.heap.get? S = some { cls := .type "list", data := .seq #[] })
    (hR : ∀ s' acc' c', Moved [S, it] (fun a b => b = a) s s' → s'.heap.get? S = some { cls := .type "list", dict := none, data := .seq acc' c', slots := #[] } → ItemsOf (fun i v => items[items.size - 1 - i]? = some v) acc' n → R (.ok (.ret .none)) s') :
    wpAny (model prog w) A.in1 (Builtin.«list.__init__» ⟨[.ref S, .ref it], []⟩)
      (fun fin s2 => match fin with | .done f => R (.ok f) s2 | .again c2 => c2.quiet = true ∧ codeAny (model prog w) A c2 R s2) (fun e s2 => R (.error e) s2) s := by
  have W := (Walks.listRev (prog := prog) (w := w) (A := A.in1) hh it l hil items).toS
  rw [hn] at W
  have hSf : S ∉ [it, l] := by simp [hSi, hSl]
  show wpAny _ A.in1 (Builtin.List.listItems (.ref S) >>= fun old => Builtin.List.listUpdate (.ref S) (fun _ => #[]) >>= fun _ => letGo old.toList.reverse >>= fun _ => Builtin.List.listExtendWith (.ref S) (.ref it) .none) _ _ s
  unfold Builtin.List.listItems
  refine wpAny_bind ?_
  refine wpAny_bind (wpAny_seqItems hS rfl (wpAny_pure ?_))
  show wpAny _ A.in1 (updateSeq S (fun _ => #[]) >>= fun _ => letGo (#[] : Array Value).toList.reverse >>= fun _ => Builtin.List.listExtendWith (.ref S) (.ref it) .none) _ _ s
  refine wpAny_bind (wpAny_updateSeq hS rfl ?_)
  have hS2 := Heap.get?_update_self (Obj.mapSeq (fun _ => (#[] : Array Value))) hS rfl
  have oth : ∀ b o, b ≠ S → s.heap.get? b = some o → (s.heap.update S (Obj.mapSeq (fun _ => (#[] : Array Value)))).get? b = some o := fun b o hb e =>
    (Heap.get?_update_other _ _ (Ne.symm hb)).trans e
  refine wpAny_bind (wpAny_letGo ?_)
  unfold Builtin.List.listExtendWith
  have hit2 : (s.heap.update S (Obj.mapSeq (fun _ => (#[] : Array Value)))).IsRevIter it l ((n : Int) - 1) := hit.at fun o e => oth it o hSi.symm e
  have hl2 : (s.heap.update S (Obj.mapSeq (fun _ => (#[] : Array Value)))).IsList l items := hl.at fun o e => oth l o hSl.symm e
  refine wpAny_bind (wpAny_typeOf (T := "list_reverseiterator") (Heap.IsRevIter.typeIs (s := { s with heap := _ }) hit2) ?_)
  have h1 : Builtin.List.listSameRef (.ref S) (.ref it) = false := by simp [Builtin.List.listSameRef, hSi]
  have h2 : (Value.type "list_reverseiterator" == Value.type "list") = false := by decide
  have h3 : (Value.type "list_reverseiterator" == Value.type "tuple") = false := by decide
  simp only [h1, h2, h3, Bool.or_false, Bool.false_eq_true, if_false]
  refine wpAny_bind (wpAny_pyIter_revIter hit2 ?_)
  refine wpAny_bind (wpAny_holding (hint_rev hit2 ?_))
  have st : (fun i (h : Heap) => i ≤ n ∧ h.IsRevIter it l ((n : Int) - 1 - (i : Int)) ∧ h.IsList l items) 0 (s.heap.update S (Obj.mapSeq (fun _ => (#[] : Array Value)))) := ⟨Nat.zero_le _, by simpa using hit2, hl2⟩
  refine wpAny_ite_split (fun z => absurd z (by decide +kernel)) (fun _ => ?_)
  refine wpAny_pure ⟨plainId_quiet PySem.F.plain_extend_loop _, ?_⟩
  refine codeAny_extend_loopS W hsz S hSf .none n 0 _ #[] _ rfl (Nat.zero_le _) st hS2 (ItemsOf.nil _) fun s3 acc3 c3 hm hS3 hacc => ?_
  refine hR s3 acc3 c3 ⟨fun b o hb e => ?_, hm.gens, hm.drawn, hm.os, hm.toks⟩ hS3 (by rw [hn]; exact hacc)
  exact hm.heap b o hb (oth b o (fun z => hb (by rw [z]; simp)) e)
theorem call_listrev {Q : Value → Shared → Prop} {items : Array Value} (hh : A.handled = none) (hsz : items.size ≤ sizeLine) (hil : l ≠ it) (hit : s.heap.IsRevIter it l ((items.size : Int) - 1)) (hl : s.heap.IsList l items)
    (hQ : ∀ h2 t2 acc2 c2, (∀ b o, b ≠ it → s.heap.get? b = some o → h2.get? b = some o) → h2.get? s.heap.objs.size = some { cls := .type "list", dict := none, data := .seq acc2 c2, slots := #[] } → ItemsOf (fun i v => items[items.size - 1 - i]? = some v) acc2 items.size → Q (.ref s.heap.objs.size) { s with heap := h2, toks := t2 }) :
    wpAny (model prog w) A (call (.type "list") [.ref it]) Q E s := by
  refine callType_codes (Q₁ := fun ob s1 => ob = .ref s.heap.objs.size ∧ s1 = { s with heap := s.heap.push { cls := .type "list", data := .seq #[] } }) PySem.F.called_list (PySem.F.typeCall_list_1 _) PySem.F.entry_list_init (code_list_new _ ⟨rfl, rfl⟩) fun ob s1 h1 => ?_
  obtain ⟨rfl, rfl⟩ := h1
  have hS : (s.heap.push { cls := .type "list", data := .seq #[] }).get? s.heap.objs.size = some { cls := .type "list", data := .seq #[] } := Heap.get?_push_size _ rfl
  have ltI : it < s.heap.objs.size := by obtain ⟨_, e, _⟩ := hit; exact Heap.lt_size e
  have ltL : l < s.heap.objs.size := by obtain ⟨_, e, _⟩ := hl; exact Heap.lt_size e
  refine ⟨⟨_, hS, rfl⟩, PySem.F.args_list_init_2 _ _, init_rev (A := A.in1) hh items.size rfl hsz _ (Nat.ne_of_gt ltI) (Nat.ne_of_gt ltL) hil (hit.at fun o e => Heap.get?_push_of_some _ e) (hl.at fun o e => Heap.get?_push_of_some _ e) hS fun s3 acc3 c3 hm hS3 hacc => ⟨rfl, ?_⟩⟩
  rw [Moved.eq_with hm]
  exact hQ s3.heap s3.toks acc3 c3 (fun b o hb e => hm.heap b o (by simp only [List.mem_cons, List.not_mem_nil, or_false, not_or]; exact ⟨Nat.ne_of_lt (Heap.lt_size e), hb⟩) (Heap.get?_push_of_some _ e)) hS3 hacc
end
section
variable {X : Cx}
theorem vals_rev : ∀ {xs : List V} {us : List Value}, Vals xs us → Vals xs.reverse us.reverse
  | _, _, .nil => .nil
  | _, _, .cons r t => by rw [List.reverse_cons, List.reverse_cons]; exact (vals_rev t).append (.cons r .nil)
theorem items_rev {its : List Value} {acc : Array Value} (h : ItemsOf (fun i v => its.toArray[its.toArray.size - 1 - i]? = some v) acc its.toArray.size) : acc.toList = its.reverse := by
  obtain ⟨h1, h2⟩ := h
  have hl : its.toArray.size = its.length := by simp
  refine List.ext_getElem? fun j => ?_
  by_cases c : j < acc.size
  · have e : acc[j]? = some acc[j] := by simp [c]
    have h3 := h2 j _ e
    rw [Array.getElem?_toList, e, ← h3, hl]
    rw [List.getElem?_reverse (by omega)]
    simp
  · rw [List.getElem?_eq_none (by simp; omega), List.getElem?_eq_none (by simp; omega)]
def tLRev (K : PySem.W.Frag) (ta : TE) : TE := fun σ H Q => ta σ H fun x H1 => ∃ a xs, x = .ref a ∧ SqL K H1 a xs ∧ ∀ p, H1 p = none → Q (.ref p) (upd H1 p (.lst xs.reverse))
theorem pe_listrev {a : Expr} {ta : TE} {p pos p2 pos2 : Pos} (hc : X.calm = true) (hg : Gl X "list") (hm : X.mg "list" = none) (hg2 : Gl X "reversed") (hm2 : X.mg "reversed" = none) (ha : PE X a ta) (hs : starEach [a] X.env = [(false, eval a X.env)] := by rfl)
    (hs2 : starEach [.Call (.Name "reversed" p2) [a] [] pos2] X.env = [(false, eval (.Call (.Name "reversed" p2) [a] [] pos2) X.env)] := by rfl) (hb : bootBuiltins "reversed" = some (.type "reversed") := by decide +kernel) (hb2 : bootBuiltins "list" = some (.type "list") := by decide +kernel) :
    PE X (.Call (.Name "list" p) [.Call (.Name "reversed" p2) [a] [] pos2] [] pos) (tLRev X.K ta) := by
  intro pins s σ H Q I h
  refine Call_ (ld_blt I hg hm hb2 (PyProof.Rows.callWith_type1 ?_ hs2 rfl))
  rw [hs2]
  show wpAny _ _ (spliced ((false, eval (.Call (.Name "reversed" p2) [a] [] pos2) X.env) :: backTo pos [])) _ _ s
  refine Calls.spliced_cons (Call_ (ld_blt I hg2 hm2 hb (PyProof.Rows.callWith_type1 ?_ hs rfl)))
  have pa : PA X [a] (tCons ta tNil) := pa_cons ha pa_nil hs
  refine thn (pa pos2 pins s σ H (fun xs H1 => match xs with | [x] => ∃ a ys, x = .ref a ∧ SqL X.K H1 a ys ∧ ∀ p, H1 p = none → Q (.ref p) (upd H1 p (.lst ys.reverse)) | _ => False) I h) fun us s1 ⟨vs, H1, I1, r1, q1⟩ => ?_
  have one : ∃ x, vs = [x] := by
    match vs, q1 with
    | [x], _ => exact ⟨x, rfl⟩
    | [], q1 => exact q1.elim
    | _ :: _ :: _, q1 => exact q1.elim
  obtain ⟨x, rfl⟩ := one
  obtain ⟨l, ys, rfl, hq, q⟩ := q1
  obtain ⟨u, rfl, ru⟩ := vals1 r1
  cases ru
  obtain ⟨its, rv, pl, hz⟩ := I1.list hq
  have hlen := rv.length
  refine call_reversed_list pl.isList ?_
  have ltL : l < s1.heap.objs.size := by obtain ⟨_, e, _⟩ := pl.isList; exact Heap.lt_size e
  refine Calls.spliced_nil ?_
  have hit : (s1.heap.push (revObj l ((its.toArray.size : Int) - 1))).IsRevIter s1.heap.objs.size l ((its.toArray.size : Int) - 1) := ⟨_, Heap.get?_push_size _ rfl, rfl, rfl⟩
  have hl2 : (s1.heap.push (revObj l ((its.toArray.size : Int) - 1))).IsList l its.toArray := pl.isList.at fun o e => Heap.get?_push_of_some _ e
  refine call_listrev (s := { s1 with heap := s1.heap.push (revObj l ((its.toArray.size : Int) - 1)) }) (I.ok.hd hc) (by simp only [List.size_toArray]; omega) (Nat.ne_of_lt ltL) hit hl2 fun h2 t2 acc c2 kp hN hI => ?_
  have hp : s1.heap.objs.size ≤ (s1.heap.push (revObj l ((its.toArray.size : Int) - 1))).objs.size := by rw [Heap.size_push]; omega
  refine ⟨.ref _, _, I1.laid (h' := h2) (t' := t2) (fun b o e => kp b o (Nat.ne_of_lt (Heap.lt_size e)) (Heap.get?_push_of_some _ e)) hp (show ObjOk X.prog X.w _ h2 _ (.lst ys.reverse) from ⟨by rw [List.length_reverse]; exact hz, its.reverse, c2, vals_rev rv, ?_⟩), rfl, q _ (I1.hok.fresh hp)⟩
  rw [← items_rev hI]
  exact hN
end
end L2
set_option Elab.async false
set_option linter.all false
set_option maxRecDepth 100000
set_option maxHeartbeats 4000000
/-! texts: join of a written text, replace by written texts -/
namespace L2
open PySem PySem.Spec PyProof.Rows
section
variable {X : Cx}
/-- as PE, and some token was given by then -/
def PEp (X : Cx) (e : Expr) (t : TE) : Prop :=
  ∀ (pins : List (Addr × Obj)) (s : Shared) (σ : St) (H : Hp) (Q : VK), Inv X pins σ H s → t σ H Q → wpAny (model X.prog X.w) X.A (eval e X.env) (fun v s' => 1 ≤ s'.toks ∧ EP X pins σ Q v s') X.xe s
variable {o e : Expr} {es : List Expr} {to : TE} {t : TA} {apos cpos : Pos} {z y : Str} {k k1 k2 : Nat} {lp lp1 lp2 : Pos}
end
end L2
set_option Elab.async false
set_option linter.all false
set_option maxRecDepth 100000
set_option maxHeartbeats 4000000
/-! a text of two signs replaced, sign by sign -/
namespace WL
open PySem PySem.Builtin PySem.Builtin.Str PySem.StrLaws
def rep2 (a b : Nat) (z : List Nat) : List Nat → List Nat
  | x :: y :: r => if x = a ∧ y = b then z ++ rep2 a b z r else x :: rep2 a b z (y :: r)
  | [x] => [x]
  | [] => []
def occL (a b : Nat) : Nat → List Nat → List Nat
  | i, x :: y :: r => if x = a ∧ y = b then i :: occL a b (i + 2) r else occL a b (i + 1) (y :: r)
  | _, [_] => []
  | _, [] => []
section
variable {x y : Str} {a b : Nat}
theorem sub_at {i : Nat} (hy : y.cps.toList = [a, b]) : subAt x y i = true ↔ ∃ r, x.cps.toList.drop i = a :: b :: r := by
  have h2 : y.length = 2 := by show y.cps.size = 2; rw [← Array.length_toList, hy]; rfl
  rw [subAt_eq, hy, h2, beq_iff_eq]
  match x.cps.toList.drop i with
  | [] => simp
  | [u] => simp
  | u :: v :: r => simp
theorem occ_run (hy : y.cps.toList = [a, b]) : ∀ (m i : Nat) (acc : Array Nat) (free : Nat), x.length + 1 - i = m → i ≤ x.length + 1 → free ≤ i → acc.size ≤ i →
    (forIn (List.range' i (x.length + 1 - i)) (acc, free) (occBody x y x.length (x.length + 1))).run.fst.toList = acc.toList ++ occL a b i (x.cps.toList.drop i) := by
  have h2 : y.length = 2 := by show y.cps.size = 2; rw [← Array.length_toList, hy]; rfl
  have hL : x.cps.toList.length = x.length := by simp [Str.length]
  intro m
  induction m using Nat.strongRecOn with
  | _ m ih =>
    intro i acc free hm hi hf ha
    by_cases h0 : x.length + 1 - i = 0
    · rw [h0]
      have : x.cps.toList.drop i = [] := List.drop_eq_nil_of_le (by omega)
      rw [this]
      simp [occL]
    · obtain ⟨k, hk⟩ : ∃ k, x.length + 1 - i = k + 1 := ⟨x.length - i, by omega⟩
      rw [hk, List.range'_succ, List.forIn_cons]
      have hk' : x.length + 1 - (i + 1) = k := by omega
      by_cases hs : subAt x y i = true
      · obtain ⟨r, hr⟩ := (sub_at hy).mp hs
        have hlen : i + 2 ≤ x.length := by
          have := congrArg List.length hr
          rw [List.length_drop, hL, List.length_cons, List.length_cons] at this
          omega
        have hb : occBody x y x.length (x.length + 1) i (acc, free) = pure (ForInStep.yield (acc.push i, i + 2)) := by
          unfold occBody
          rw [if_pos ⟨⟨⟨by show acc.size < _; omega, hf⟩, by rw [h2]; omega⟩, hs⟩, h2]
        rw [hb]
        obtain ⟨k2, hk2⟩ : ∃ k2, k = k2 + 1 := ⟨k - 1, by omega⟩
        have hb2 : occBody x y x.length (x.length + 1) (i + 1) (acc.push i, i + 2) = pure (ForInStep.yield (acc.push i, i + 2)) := by
          unfold occBody
          rw [if_neg (fun h => by have := h.1.1.2; dsimp only at this; omega)]
        show (forIn (List.range' (i + 1) k) (acc.push i, i + 2) (occBody x y x.length (x.length + 1))).run.fst.toList = _
        rw [hk2, List.range'_succ, List.forIn_cons, hb2]
        show (forIn (List.range' (i + 1 + 1) k2) (acc.push i, i + 2) (occBody x y x.length (x.length + 1))).run.fst.toList = _
        have e := ih (x.length + 1 - (i + 2)) (by omega) (i + 2) (acc.push i) (i + 2) rfl (by omega) (Nat.le_refl _) (by simp; omega)
        rw [show x.length + 1 - (i + 2) = k2 by omega] at e
        rw [show i + 1 + 1 = i + 2 from rfl, e, hr]
        have hd : x.cps.toList.drop (i + 2) = r := by
          rw [← List.drop_drop, hr]; rfl
        rw [hd]
        simp [occL]
      · have hb : occBody x y x.length (x.length + 1) i (acc, free) = pure (ForInStep.yield (acc, free)) := by
          unfold occBody
          rw [if_neg (fun h => hs h.2)]
        rw [hb]
        show (forIn (List.range' (i + 1) k) (acc, free) (occBody x y x.length (x.length + 1))).run.fst.toList = _
        have e := ih (x.length + 1 - (i + 1)) (by omega) (i + 1) acc free rfl (by omega) (by omega) (by omega)
        rw [hk'] at e
        rw [e]
        have hn : ¬ ∃ r, x.cps.toList.drop i = a :: b :: r := fun h => hs ((sub_at hy).mpr h)
        have hd : x.cps.toList.drop (i + 1) = (x.cps.toList.drop i).drop 1 := by rw [List.drop_drop]
        rw [hd]
        match hx : x.cps.toList.drop i with
        | [] => simp [occL]
        | [u] => simp [occL]
        | u :: v :: r =>
          have : ¬ (u = a ∧ v = b) := fun ⟨h1, h3⟩ => hn ⟨r, by rw [hx, h1, h3]⟩
          show _ = acc.toList ++ (if u = a ∧ v = b then _ else _)
          rw [if_neg this]; rfl
theorem occ_all (hy : y.cps.toList = [a, b]) : occurrences x y 0 x.length (x.length + 1) = occL a b 0 x.cps.toList := by
  rw [occ_eq]
  have := occ_run (x := x) hy (x.length + 1) 0 #[] 0 rfl (Nat.zero_le _) (Nat.le_refl _) (Nat.le_refl _)
  simpa using this
theorem glue_cons {z p : Str} {q : Str} {r : List Str} : (glued z (p :: q :: r)).cps.toList = p.cps.toList ++ z.cps.toList ++ (glued z (q :: r)).cps.toList := by
  rw [glued_eq_join, glued_eq_join]
  show (p ++ z ++ Str.join z (q :: r)).cps.toList = _
  rw [Str.cps_append, Str.cps_append]; simp
theorem glue_rep {z : Str} : ∀ (m i lo : Nat), x.length - i = m → lo ≤ i → i ≤ x.length →
    (glued z (partsFrom x 2 lo (occL a b i (x.cps.toList.drop i)))).cps.toList = (x.cps.toList.drop lo).take (i - lo) ++ rep2 a b z.cps.toList (x.cps.toList.drop i) := by
  have hL : x.cps.toList.length = x.length := by simp [Str.length]
  intro m
  induction m using Nat.strongRecOn with
  | _ m ih =>
    intro i lo hm hlo hi
    have whole : ∀ q, (x.cps.toList.drop i = q) → rep2 a b z.cps.toList q = q → (glued z (partsFrom x 2 lo [])).cps.toList = (x.cps.toList.drop lo).take (i - lo) ++ rep2 a b z.cps.toList q := fun q hq hr => by
      rw [hr]
      show (strSub x lo x.length).cps.toList = _
      rw [strSub_toList, ← hq]
      rw [List.take_of_length_le (by rw [List.length_drop]; omega)]
      have := List.take_append_drop (i - lo) (x.cps.toList.drop lo)
      rw [List.drop_drop, show lo + (i - lo) = i by omega] at this
      exact this.symm
    match hx : x.cps.toList.drop i with
    | [] => exact whole [] hx rfl
    | [u] => exact whole [u] hx rfl
    | u :: v :: r =>
      have hlen : i + 2 ≤ x.length := by
        have := congrArg List.length hx
        rw [List.length_drop, hL, List.length_cons, List.length_cons] at this
        omega
      have hd1 : x.cps.toList.drop (i + 1) = v :: r := by rw [← List.drop_drop, hx]; rfl
      have hd2 : x.cps.toList.drop (i + 2) = r := by rw [← List.drop_drop, hx]; rfl
      by_cases c : u = a ∧ v = b
      · have e1 : occL a b i (u :: v :: r) = i :: occL a b (i + 2) r := by simp [occL, c]
        have e2 : rep2 a b z.cps.toList (u :: v :: r) = z.cps.toList ++ rep2 a b z.cps.toList r := by simp [rep2, c]
        rw [e1, e2]
        have e3 := ih (x.length - (i + 2)) (by omega) (i + 2) (i + 2) rfl (Nat.le_refl _) hlen
        rw [hd2] at e3
        show (glued z (strSub x lo i :: partsFrom x 2 (i + 2) (occL a b (i + 2) r))).cps.toList = _
        obtain ⟨q, q', hq⟩ := partsFrom_ne x 2 (i + 2) (occL a b (i + 2) r)
        rw [hq] at e3 ⊢
        rw [glue_cons, e3, strSub_toList]
        simp
      · have e1 : occL a b i (u :: v :: r) = occL a b (i + 1) (v :: r) := by
          show (if u = a ∧ v = b then _ else _) = _
          rw [if_neg c]
        have e2 : rep2 a b z.cps.toList (u :: v :: r) = u :: rep2 a b z.cps.toList (v :: r) := by
          show (if u = a ∧ v = b then _ else _) = _
          rw [if_neg c]
        rw [e1, e2]
        have e3 := ih (x.length - (i + 1)) (by omega) (i + 1) lo rfl (by omega) (by omega)
        rw [hd1] at e3
        rw [e3]
        have : (x.cps.toList.drop lo).take (i + 1 - lo) = (x.cps.toList.drop lo).take (i - lo) ++ [u] := by
          rw [show i + 1 - lo = (i - lo) + 1 by omega, List.take_add_one, List.getElem?_drop, show lo + (i - lo) = i by omega]
          have hu : x.cps.toList[i]? = some u := by
            have := congrArg (·[0]?) hx
            simpa using this
          rw [hu]; rfl
        rw [this]; simp
theorem replace_rep2 {z : Str} (hy : y.cps.toList = [a, b]) : (Txt.replace x y z).cps.toList = rep2 a b z.cps.toList x.cps.toList := by
  have h2 : y.length = 2 := by show y.cps.size = 2; rw [← Array.length_toList, hy]; rfl
  have hg := glue_rep (x := x) (a := a) (b := b) (z := z) x.length 0 0 rfl (Nat.le_refl _) (Nat.zero_le _)
  simp only [List.drop_zero, Nat.sub_self, List.take_zero, List.nil_append] at hg
  unfold Txt.replace
  rw [occ_all hy]
  have h20 : (y.length == 0 && z.length == 0) = false := by rw [h2]; rfl
  rw [h20, Bool.or_false]
  split
  · rename_i h
    have hn : occL a b 0 x.cps.toList = [] := List.isEmpty_iff.mp h
    rw [hn] at hg
    rw [← hg]
    show x.cps.toList = (strSub x 0 x.length).cps.toList
    rw [strSub_toList, List.drop_zero, List.take_of_length_le (by simp [Str.length])]
  · rw [partsBetween_eq, h2]; exact hg
end
end WL
set_option Elab.async false
set_option linter.all false
set_option maxRecDepth 100000
set_option maxHeartbeats 4000000
/-! words laid together -/
namespace WL
open PySem PySem.Builtin PySem.Builtin.Str PySem.StrLaws
def okc (c : Nat) : Bool := c != 32 && c != 40 && c != 41
/-- a word: a bracket, or signs that are neither blanks nor brackets -/
def gw (w : Str) : Bool := w == "(" || w == ")" || (decide (1 ≤ w.length) && decide (w.length ≤ 20) && w.cps.toList.all okc)
def J : List Str → List Nat
  | [] => []
  | [w] => w.cps.toList
  | w :: v :: r => w.cps.toList ++ 32 :: J (v :: r)
def J1 : List Str → List Nat
  | [] => []
  | [w] => w.cps.toList
  | w :: v :: r => w.cps.toList ++ (if w = "(" then [] else [32]) ++ J1 (v :: r)
def J2 : List Str → List Nat
  | [] => []
  | [w] => w.cps.toList
  | w :: v :: r => w.cps.toList ++ (if w = "(" ∨ v = ")" then [] else [32]) ++ J2 (v :: r)
theorem join_J : ∀ ws : List Str, (Txt.join (" " : Str) ws).cps.toList = J ws := by
  intro ws
  show (glued (" " : Str) ws).cps.toList = J ws
  rw [glued_eq_join]
  induction ws with
  | nil => rfl
  | cons w r ih =>
    cases r with
    | nil => rfl
    | cons v r =>
      show (w ++ (" " : Str) ++ Str.join (" " : Str) (v :: r)).cps.toList = _
      rw [Str.cps_append, Str.cps_append]
      simp only [Array.toList_append, List.append_assoc]
      rw [ih]; rfl
theorem str_ext {a b : Str} (h : a.cps.toList = b.cps.toList) : a = b := Str.ext' (Array.toList_inj.mp h)
theorem op_cps : ("(" : Str).cps.toList = [40] := rfl
theorem cl_cps : (")" : Str).cps.toList = [41] := rfl
theorem gw_cases {w : Str} (h : gw w = true) : w = "(" ∨ w = ")" ∨ (w.cps.toList ≠ [] ∧ ∀ c ∈ w.cps.toList, c ≠ 32 ∧ c ≠ 40 ∧ c ≠ 41) := by
  unfold gw at h
  rw [Bool.or_eq_true, Bool.or_eq_true] at h
  rcases h with (h | h) | h
  · exact .inl (eq_of_beq h)
  · exact .inr (.inl (eq_of_beq h))
  · rw [Bool.and_eq_true, Bool.and_eq_true, decide_eq_true_eq, List.all_eq_true] at h
    refine .inr (.inr ⟨fun e => ?_, fun c hc => ?_⟩)
    · have : w.length = 0 := by show w.cps.size = 0; rw [← Array.length_toList, e]; rfl
      omega
    · have := h.2 c hc
      unfold okc at this
      simp at this
      exact ⟨this.1.1, this.1.2, this.2⟩
theorem gw_len {w : Str} (h : gw w = true) : w.length ≤ 20 := by
  unfold gw at h
  rw [Bool.or_eq_true, Bool.or_eq_true] at h
  rcases h with (h | h) | h
  · rw [eq_of_beq h]; decide
  · rw [eq_of_beq h]; decide
  · rw [Bool.and_eq_true, Bool.and_eq_true, decide_eq_true_eq, decide_eq_true_eq] at h; exact h.1.2
theorem gw_ne {w : Str} (h : gw w = true) : w.cps.toList ≠ [] := by
  rcases gw_cases h with rfl | rfl | h
  · rw [op_cps]; simp
  · rw [cl_cps]; simp
  · exact h.1
theorem rep_pass {a b : Nat} {z : List Nat} : ∀ {l r : List Nat}, (∀ c ∈ l, c ≠ a) → rep2 a b z (l ++ r) = l ++ rep2 a b z r
  | [], _, _ => rfl
  | c :: l, r, h => by
    have hc := h c (by simp)
    have ih := rep_pass (b := b) (z := z) (l := l) (r := r) fun d hd => h d (by simp [hd])
    show rep2 a b z (c :: (l ++ r)) = c :: (l ++ rep2 a b z r)
    rw [← ih]
    match e : l ++ r with
    | [] => rfl
    | d :: q =>
      show (if c = a ∧ d = b then _ else _) = _
      rw [if_neg fun z => hc z.1]
theorem rep_1 {w : Str} (h : gw w = true) (hw : w ≠ "(") : ∀ c ∈ w.cps.toList, c ≠ 40 := by
  rcases gw_cases h with rfl | rfl | h
  · exact absurd rfl hw
  · rw [cl_cps]; simp
  · exact fun c hc => (h.2 c hc).2.1
theorem rep_2 {w : Str} (h : gw w = true) : ∀ c ∈ w.cps.toList, c ≠ 32 := by
  rcases gw_cases h with rfl | rfl | h
  · rw [op_cps]; simp
  · rw [cl_cps]; simp
  · exact fun c hc => (h.2 c hc).1
theorem rep_J : ∀ {ws : List Str}, (∀ w ∈ ws, gw w = true) → rep2 40 32 [40] (J ws) = J1 ws
  | [], _ => rfl
  | [w], h => by
    have hw := h w (by simp)
    by_cases c : w = "("
    · subst c; rfl
    · have := rep_pass (a := 40) (b := 32) (z := [40]) (l := w.cps.toList) (r := []) (rep_1 hw c)
      rw [List.append_nil] at this
      show rep2 40 32 [40] w.cps.toList = w.cps.toList
      rw [this]; simp [rep2]
  | w :: v :: r, h => by
    have hw := h w (by simp)
    have ih := rep_J (ws := v :: r) fun u hu => h u (by simp [hu])
    by_cases c : w = "("
    · subst c
      show rep2 40 32 [40] (40 :: 32 :: J (v :: r)) = _
      have e : rep2 40 32 [40] (40 :: 32 :: J (v :: r)) = [40] ++ rep2 40 32 [40] (J (v :: r)) := by simp [rep2]
      rw [e, ih]; rfl
    · show rep2 40 32 [40] (w.cps.toList ++ 32 :: J (v :: r)) = w.cps.toList ++ (if w = "(" then [] else [32]) ++ J1 (v :: r)
      rw [if_neg c, rep_pass (rep_1 hw c)]
      have := rep_pass (a := 40) (b := 32) (z := [40]) (l := [32]) (r := J (v :: r)) (by simp)
      rw [show 32 :: J (v :: r) = [32] ++ J (v :: r) from rfl, this, ih]; simp
theorem J1_head : ∀ {v : Str} {r : List Str}, ∃ q, J1 (v :: r) = v.cps.toList ++ q
  | v, [] => ⟨[], by simp [J1]⟩
  | v, u :: r => ⟨_, by rw [J1, List.append_assoc]⟩
theorem rep_J1 : ∀ {ws : List Str}, (∀ w ∈ ws, gw w = true) → rep2 32 41 [41] (J1 ws) = J2 ws
  | [], _ => rfl
  | [w], h => by
    have hw := h w (by simp)
    have := rep_pass (a := 32) (b := 41) (z := [41]) (l := w.cps.toList) (r := []) (rep_2 hw)
    rw [List.append_nil] at this
    show rep2 32 41 [41] w.cps.toList = w.cps.toList
    rw [this]; simp [rep2]
  | w :: v :: r, h => by
    have hw := h w (by simp)
    have hv := h v (by simp)
    have ih := rep_J1 (ws := v :: r) fun u hu => h u (by simp [hu])
    show rep2 32 41 [41] (w.cps.toList ++ (if w = "(" then [] else [32]) ++ J1 (v :: r)) = w.cps.toList ++ (if w = "(" ∨ v = ")" then [] else [32]) ++ J2 (v :: r)
    rw [List.append_assoc, rep_pass (rep_2 hw), List.append_assoc]
    congr 1
    by_cases c : w = "("
    · rw [if_pos c, if_pos (.inl c)]; exact ih
    · rw [if_neg c]
      obtain ⟨q, hq⟩ := J1_head (v := v) (r := r)
      by_cases d : v = ")"
      · rw [if_pos (.inr d)]
        subst d
        rw [hq, cl_cps] at ih ⊢
        have e : rep2 32 41 [41] ([32] ++ ([41] ++ q)) = [41] ++ rep2 32 41 [41] q := by simp [rep2]
        rw [e, ← ih, rep_pass (by simp)]; rfl
      · rw [if_neg (fun z => z.elim c d)]
        rw [← ih]
        match e : v.cps.toList, gw_ne hv with
        | x :: q', _ =>
          have hx : x ≠ 41 := by
            rcases gw_cases hv with z | z | z
            · rw [z, op_cps] at e; cases e; decide
            · exact absurd z d
            · exact (z.2 x (by rw [e]; simp)).2.2
          rw [hq, e]
          show (if (32 : Nat) = 32 ∧ x = 41 then _ else _) = _
          rw [if_neg fun z => hx z.2]; rfl
theorem shown_J2 {ws : List Str} (h : ∀ w ∈ ws, gw w = true) : (Txt.replace (Txt.replace (Txt.join (" " : Str) ws) ("( " : Str) ("(" : Str)) (" )" : Str) (")" : Str)).cps.toList = J2 ws := by
  rw [replace_rep2 (a := 32) (b := 41) rfl, replace_rep2 (a := 40) (b := 32) rfl, join_J, op_cps, cl_cps, rep_J h, rep_J1 h]
theorem J2_ne : ∀ {ws : List Str}, ws ≠ [] → (∀ w ∈ ws, gw w = true) → J2 ws ≠ []
  | [], h, _ => absurd rfl h
  | [w], _, h => gw_ne (h w (by simp))
  | w :: v :: r, _, h => by
    have := gw_ne (h w (by simp))
    show w.cps.toList ++ _ ++ _ ≠ []
    simp [this]
theorem J2_snoc : ∀ {ws : List Str} {u w : Str}, J2 (ws ++ [u] ++ [w]) = J2 (ws ++ [u]) ++ (if u = "(" ∨ w = ")" then [] else [32]) ++ w.cps.toList
  | [], u, w => by simp [J2]
  | [x], u, w => by simp [J2]
  | x :: y :: r, u, w => by
    have ih := J2_snoc (ws := y :: r) (u := u) (w := w)
    show x.cps.toList ++ (if x = "(" ∨ y = ")" then [] else [32]) ++ J2 ((y :: r) ++ [u] ++ [w]) = x.cps.toList ++ (if x = "(" ∨ y = ")" then [] else [32]) ++ J2 ((y :: r) ++ [u]) ++ _ ++ _
    rw [ih]; simp
theorem J2_last : ∀ {ws : List Str} {u : Str}, ∃ q, J2 (ws ++ [u]) = q ++ u.cps.toList
  | [], u => ⟨[], rfl⟩
  | [x], u => ⟨x.cps.toList ++ (if x = "(" ∨ u = ")" then [] else [32]), rfl⟩
  | x :: y :: r, u => by
    obtain ⟨q, hq⟩ := J2_last (ws := y :: r) (u := u)
    refine ⟨x.cps.toList ++ (if x = "(" ∨ y = ")" then [] else [32]) ++ q, ?_⟩
    show x.cps.toList ++ (if x = "(" ∨ y = ")" then [] else [32]) ++ J2 ((y :: r) ++ [u]) = _
    rw [hq]; simp
theorem J2_len : ∀ {ws : List Str}, (∀ w ∈ ws, gw w = true) → (J2 ws).length ≤ 21 * ws.length
  | [], _ => by simp [J2]
  | [w], h => by
    have := gw_len (h w (by simp))
    show w.cps.toList.length ≤ _
    rw [Array.length_toList]
    have e : w.cps.size = w.length := rfl
    simp; omega
  | w :: v :: r, h => by
    have h1 := gw_len (h w (by simp))
    have ih := J2_len (ws := v :: r) fun u hu => h u (by simp [hu])
    show (w.cps.toList ++ (if w = "(" ∨ v = ")" then [] else [32]) ++ J2 (v :: r)).length ≤ _
    have e : w.cps.toList.length = w.length := by simp [Str.length]
    have e2 : (if w = "(" ∨ v = ")" then ([] : List Nat) else [32]).length ≤ 1 := by split <;> simp
    rw [List.length_append, List.length_append, e]
    rw [List.length_cons]
    omega
theorem J_len : ∀ {ws : List Str}, (∀ w ∈ ws, gw w = true) → (ws.map (·.length)).sum ≤ 20 * ws.length
  | [], _ => by simp
  | w :: r, h => by
    have h1 := gw_len (h w (by simp))
    have ih := J_len (ws := r) fun u hu => h u (by simp [hu])
    simp only [List.map_cons, List.sum_cons, List.length_cons]
    omega
/-- the last sign, where there is one, is ( just where the last word is -/
theorem last_op {ws : List Str} {u : Str} (hu : gw u = true) {c : Nat} (h : (J2 (ws ++ [u])).getLast? = some c) : c = 40 ↔ u = "(" := by
  obtain ⟨q, hq⟩ := J2_last (ws := ws) (u := u)
  rw [hq, List.getLast?_append] at h
  have hne := gw_ne hu
  rcases gw_cases hu with rfl | rfl | z
  · rw [op_cps] at h; simp at h; subst h; simp
  · rw [cl_cps] at h; simp at h; subst h; decide
  · have hl : u.cps.toList.getLast? = some (u.cps.toList.getLast hne) := List.getLast?_eq_some_getLast hne
    rw [hl] at h
    have h : u.cps.toList.getLast hne = c := by
      have : (Option.or (some (u.cps.toList.getLast hne)) q.getLast?) = some (u.cps.toList.getLast hne) := rfl
      rw [this] at h
      exact Option.some.inj h
    have := (z.2 _ (List.getLast_mem hne)).2.1
    refine ⟨fun e => absurd (h.trans e) this, fun e => ?_⟩
    subst e
    exact absurd rfl this
end WL
set_option Elab.async false
set_option linter.all false
set_option maxRecDepth 100000
set_option maxHeartbeats 4000000
/-! zip of a tuple and a list, of two tuples: both of one length -/
namespace L2
open PySem PySem.Spec PyProof.Rows
section
variable {prog : Program} {w : World} {A : Around} {E : Value → Shared → Prop} {s : Shared}
end
/-- what stands apart -/
structure ZAp (z TI TO i1 i2 : Addr) (f1 f2 : List Addr) : Prop where
  m1 : i1 ∈ f1
  m2 : i2 ∈ f2
  z1 : z ∉ f1
  z2 : z ∉ f2
  o1 : TO ∉ f1
  o2 : TO ∉ f2
  a12 : i1 ∉ f2
  a21 : i2 ∉ f1
  tz : TI ≠ z
  oz : TO ≠ z
  io : TI ≠ TO
  t1 : TI ≠ i1
  t2 : TI ≠ i2
section
variable {prog : Program} {w : World} {A : Around} {E : Value → Shared → Prop} {s : Shared} {z TI TO i1 i2 : Addr} {f1 f2 : List Addr} {n : Nat} {P1 P2 : Nat → Value → Prop} {S1 S2 : Nat → Heap → Prop}
end
end L2
set_option Elab.async false
set_option linter.all false
set_option maxRecDepth 100000
set_option maxHeartbeats 4000000
/-! for a, b in zip(..) -/
namespace L2
open PySem PySem.Spec PyProof.Rows Builtin
abbrev itOb (c : String) (l : Addr) : Obj := { cls := .type c, data := .fields #[.ref l, .int 0 0] }
abbrev zA (h : Heap) (c1 : String) (l1 : Addr) : Heap := h.push (itOb c1 l1)
abbrev zB (h : Heap) (c1 : String) (l1 : Addr) (c2 : String) (l2 : Addr) : Heap := (zA h c1 l1).push (itOb c2 l2)
abbrev zC (h : Heap) (c1 : String) (l1 : Addr) (c2 : String) (l2 : Addr) : Heap := (zB h c1 l1 c2 l2).push { cls := .type "tuple", data := .seq #[.ref h.objs.size, .ref (zA h c1 l1).objs.size] }
abbrev zD (h : Heap) (c1 : String) (l1 : Addr) (c2 : String) (l2 : Addr) : Heap := (zC h c1 l1 c2 l2).push { cls := .type "tuple", data := .seq #[.none, .none] }
abbrev zE (h : Heap) (c1 : String) (l1 : Addr) (c2 : String) (l2 : Addr) : Heap := (zD h c1 l1 c2 l2).push { cls := .type "zip", data := .fields #[.none, .bool false, .bool false, .ref (zB h c1 l1 c2 l2).objs.size, .ref (zC h c1 l1 c2 l2).objs.size] }
/-- what stands behind a zip made new -/
structure ZNew (h h2 : Heap) (c1 : String) (l1 : Addr) (c2 : String) (l2 : Addr) : Prop where
  zip : IsZip h2 (h.objs.size + 4) (h.objs.size + 2) (h.objs.size + 3) .none
  its : IsPair h2 (h.objs.size + 2) (.ref h.objs.size) (.ref (h.objs.size + 1))
  own : IsPair h2 (h.objs.size + 3) .none .none
  i1 : h2.get? h.objs.size = some (itOb c1 l1)
  i2 : h2.get? (h.objs.size + 1) = some (itOb c2 l2)
  keep : ∀ c o, h.get? c = some o → h2.get? c = some o
section
variable {prog : Program} {w : World} {A : Around} {E : Value → Shared → Prop} {s : Shared}
end
/-! ### the walk, by values -/
/-- the second one is a list (true) or a tuple -/
def SqX (b : Bool) (K : PySem.W.Frag) (H : Hp) (a : Addr) (xs : List V) : Prop := if b then SqL K H a xs else SqT K H a xs
def ItX (b : Bool) (h : Heap) (it l : Addr) (i : Nat) : Prop := if b then h.IsListIter it l i else h.IsTupleIter it l i
def SrX (b : Bool) (h : Heap) (l : Addr) (its : Array Value) : Prop := if b then h.IsList l its else h.IsTuple l its
def cX (b : Bool) : String := if b then "list_iterator" else "tuple_iterator"
section
variable {X : Cx} {pins : List (Addr × Obj)} {σ : St} {H : Hp} {s : Shared}
end
def Itz (b : Bool) (K : PySem.W.Frag) (l1 l2 : Addr) : It :=
  ⟨fun i H => ∃ xs ys, SqT K H l1 xs ∧ SqX b K H l2 ys ∧ xs.length = ys.length ∧ i < xs.length,
   fun i H x H' => ∃ u v T, (∀ xs, SqT K H l1 xs → xs[i]? = some u) ∧ (∀ ys, SqX b K H l2 ys → ys[i]? = some v) ∧ x = .ref T ∧ H T = none ∧ H' = upd H T (.tup [u, v]),
   fun i H => ∃ xs ys, SqT K H l1 xs ∧ SqX b K H l2 ys ∧ xs.length = ys.length ∧ i = xs.length⟩
section
variable {X : Cx} {elts : List Expr} {ek : Nat} {epos : Pos}
def iZip (K : PySem.W.Frag) (ta : TA) : TI := fun σ H R => ta σ H fun vs H1 => ∃ (b : Bool) (l1 l2 : Addr) (xs ys : List V), vs = [.ref l1, .ref l2] ∧ SqT K H1 l1 xs ∧ SqX b K H1 l2 ys ∧ R (Itz b K l1 l2) H1
end
end L2
set_option Elab.async false
set_option linter.all false
set_option maxRecDepth 100000
set_option maxHeartbeats 4000000
/-! dicts compared: of unlike sizes, or the same keys in the same order and alike values -/
namespace L2
open PySem PySem.Spec PyProof.Rows
section
variable {prog : Program} {w : World} {A : Around} {E : Value → Shared → Prop} {s : Shared} {a b : Addr} {oa ob : Obj} {ea eb : Array DictEntry} {pa pb : Nat}
end
end L2
set_option Elab.async false
set_option linter.all false
set_option maxRecDepth 100000
set_option maxHeartbeats 4000000
/-! for k in a dict: from then on the dict is read alone -/
namespace L2
open PySem PySem.Spec PyProof.Rows
section
variable {X : Cx} {pins : List (Addr × Obj)} {σ : St} {H : Hp} {s : Shared}
end
def Itd (o : Obj) (d : Addr) (ks : List (Key × V)) : It :=
  ⟨fun i H => H d = some (.frz o (.dK ks)) ∧ i < ks.length, fun i H x H' => H' = H ∧ ∃ kv, ks[i]? = some kv ∧ x = kV kv.1, fun i H => H d = some (.frz o (.dK ks)) ∧ i = ks.length⟩
section
variable {X : Cx} {tg e : Expr}
/-- for k in e, e a dict -/
def iDic (td : TE) : TI := fun σ H R => td σ H fun x H1 => ∃ d ks, x = .ref d ∧ Rd H1 d (.dK ks) ∧ ∀ o, (∀ o', H1 d = some (.frz o' (.dK ks)) → o' = o) → R (Itd o d ks) (upd H1 d (.frz o (.dK ks)))
end
end L2
set_option Elab.async false
set_option linter.all false
set_option maxRecDepth 100000
set_option maxHeartbeats 4000000
/-! a second level over the layer: tuples are values, lists and objects stand in a heap of their own; what a def does is a wish transformer over these -/
namespace WL
open PySem PySem.Spec PyProof.Rows L2
inductive T where
  | non | bl (b : Bool) | int (i : Int) | str (x : Str) | tup (xs : List T)
  /-- a list, a dict, an object of ours -/
  | ref (a : Addr)
  /-- a list that nobody changes (the script, a list of the module) -/
  | cl (xs : List T)
inductive O where
  | lst (xs : List T)
  | dic (kvs : List (Key × T))
  | ins (cn : Str) (fs : List (Str × T))
  /-- a dict that is read alone -/
  | fdic (kvs : List (Key × T))
abbrev Hw := Addr → Option O
def up (C : Hw) (a : Addr) (o : O) : Hw := fun b => if b = a then some o else C b
theorem up_same {C : Hw} {a : Addr} {o : O} : up C a o a = some o := by unfold up; rw [if_pos rfl]
theorem up_ne {C : Hw} {a b : Addr} {o : O} (h : b ≠ a) : up C a o b = C b := by unfold up; rw [if_neg h]
theorem up_up {C : Hw} {a : Addr} {o u : O} : up (up C a o) a u = up C a u := by
  funext b; unfold up; split <;> rfl
/-! ### how a value stands in the abstract heap -/
def SqC (K : PySem.W.Frag) (H : Hp) (a : Addr) (xs : List V) : Prop :=
  (∃ o, H a = some (.frz o (.lst xs))) ∨
    ∃ (o : Obj) (its : Array Value) (n : Nat), K.lookup a = some o ∧ o.cls = .type "list" ∧ o.dict = none ∧ o.data = .seq its n ∧ its.size ≤ sizeLine ∧ Vals xs its.toList
theorem SqC.sq {K : PySem.W.Frag} {H : Hp} {a : Addr} {xs : List V} (h : SqC K H a xs) : SqL K H a xs := by
  rcases h with ⟨o, h⟩ | h
  · exact .inl (.inr ⟨o, h⟩)
  · exact .inr h
mutual
def Rep (K : PySem.W.Frag) (H : Hp) (x : V) : T → Prop
  | .non => x = .non
  | .bl b => x = .bl b
  | .int i => x = .int i
  | .str z => x = .str z
  | .ref a => x = .ref a
  | .tup ts => ∃ a ys, x = .ref a ∧ SqT K H a ys ∧ Reps K H ys ts
  | .cl ts => ∃ a ys, x = .ref a ∧ SqC K H a ys ∧ Reps K H ys ts
def Reps (K : PySem.W.Frag) (H : Hp) (ys : List V) : List T → Prop
  | [] => ys = []
  | t :: ts => ∃ y r, ys = y :: r ∧ Rep K H y t ∧ Reps K H r ts
end
def Stb : HO → Prop
  | .tup _ => True
  | .frz _ _ => True
  | _ => False
/-- tuples and frozen things stay -/
def Tx (H H' : Hp) : Prop := ∀ b o, H b = some o → Stb o → H' b = some o
theorem Tx.refl (H : Hp) : Tx H H := fun _ _ h _ => h
theorem Tx.trans {H H1 H2 : Hp} (a : Tx H H1) (b : Tx H1 H2) : Tx H H2 := fun c o h n => b c o (a c o h n) n
theorem Tx.new {H : Hp} {p : Addr} {o : HO} (h : H p = none) : Tx H (upd H p o) := fun b u q _ => by rw [upd_ne (ne_of_none q h)]; exact q
theorem Tx.put {H : Hp} {p : Addr} {o u : HO} (h : H p = some o) (n : ¬ Stb o) : Tx H (upd H p u) := fun b v q s => by
  by_cases e : b = p
  · subst e; rw [h] at q; cases q; exact absurd s n
  · rw [upd_ne e]; exact q
theorem Tx.sqt {K : PySem.W.Frag} {H H' : Hp} (t : Tx H H') {a : Addr} {xs : List V} (h : SqT K H a xs) : SqT K H' a xs := by
  rcases h with (h | ⟨o, h⟩) | h
  · exact .inl (.inl (t _ _ h trivial))
  · exact .inl (.inr ⟨o, t _ _ h trivial⟩)
  · exact .inr h
theorem Tx.sqc {K : PySem.W.Frag} {H H' : Hp} (t : Tx H H') {a : Addr} {xs : List V} (h : SqC K H a xs) : SqC K H' a xs := by
  rcases h with ⟨o, h⟩ | h
  · exact .inl ⟨o, t _ _ h trivial⟩
  · exact .inr h
mutual
theorem Rep.tx {K : PySem.W.Frag} {H H' : Hp} (t : Tx H H') {x : V} : ∀ {v : T}, Rep K H x v → Rep K H' x v
  | .non, h => by simpa [Rep] using h
  | .bl b, h => by simpa [Rep] using h
  | .int i, h => by simpa [Rep] using h
  | .str z, h => by simpa [Rep] using h
  | .ref a, h => by simpa [Rep] using h
  | .tup ts, h => by
    unfold Rep at h ⊢
    obtain ⟨a, ys, e, q, r⟩ := h
    exact ⟨a, ys, e, t.sqt q, Reps.tx t r⟩
  | .cl ts, h => by
    unfold Rep at h ⊢
    obtain ⟨a, ys, e, q, r⟩ := h
    exact ⟨a, ys, e, t.sqc q, Reps.tx t r⟩
theorem Reps.tx {K : PySem.W.Frag} {H H' : Hp} (t : Tx H H') {ys : List V} : ∀ {vs : List T}, Reps K H ys vs → Reps K H' ys vs
  | [], h => by simpa [Reps] using h
  | v :: vs, h => by
    unfold Reps at h ⊢
    obtain ⟨y, r, e, q, s⟩ := h
    exact ⟨y, r, e, Rep.tx t q, Reps.tx t s⟩
end
section
variable {K : PySem.W.Frag} {H : Hp}
theorem rep_int {i : Int} : Rep K H (.int i) (.int i) := by unfold Rep; rfl
theorem rep_str {i : Str} : Rep K H (.str i) (.str i) := by unfold Rep; rfl
theorem rep_bl {i : Bool} : Rep K H (.bl i) (.bl i) := by unfold Rep; rfl
theorem rep_non : Rep K H .non .non := by unfold Rep; rfl
theorem rep_ref {a : Addr} : Rep K H (.ref a) (.ref a) := by unfold Rep; rfl
theorem rep_tup {a : Addr} {ys : List V} {ts : List T} (h : SqT K H a ys) (r : Reps K H ys ts) : Rep K H (.ref a) (.tup ts) := by unfold Rep; exact ⟨a, ys, rfl, h, r⟩
theorem of_int {x : V} {i : Int} (h : Rep K H x (.int i)) : x = .int i := by unfold Rep at h; exact h
theorem of_str {x : V} {i : Str} (h : Rep K H x (.str i)) : x = .str i := by unfold Rep at h; exact h
theorem of_bl {x : V} {i : Bool} (h : Rep K H x (.bl i)) : x = .bl i := by unfold Rep at h; exact h
theorem of_non {x : V} (h : Rep K H x .non) : x = .non := by unfold Rep at h; exact h
theorem of_ref {x : V} {a : Addr} (h : Rep K H x (.ref a)) : x = .ref a := by unfold Rep at h; exact h
theorem of_tup {x : V} {ts : List T} (h : Rep K H x (.tup ts)) : ∃ a ys, x = .ref a ∧ SqT K H a ys ∧ Reps K H ys ts := by unfold Rep at h; exact h
theorem of_cl {x : V} {ts : List T} (h : Rep K H x (.cl ts)) : ∃ a ys, x = .ref a ∧ SqC K H a ys ∧ Reps K H ys ts := by unfold Rep at h; exact h
theorem reps_nil : Reps K H [] [] := by unfold Reps; rfl
theorem reps_cons {y : V} {ys : List V} {t : T} {ts : List T} (a : Rep K H y t) (b : Reps K H ys ts) : Reps K H (y :: ys) (t :: ts) := by unfold Reps; exact ⟨y, ys, rfl, a, b⟩
theorem of_nil {ys : List V} (h : Reps K H ys []) : ys = [] := by unfold Reps at h; exact h
theorem of_cons {ys : List V} {t : T} {ts : List T} (h : Reps K H ys (t :: ts)) : ∃ y r, ys = y :: r ∧ Rep K H y t ∧ Reps K H r ts := by unfold Reps at h; exact h
theorem Reps.length : ∀ {vs : List T} {ys : List V}, Reps K H ys vs → ys.length = vs.length
  | [], _, h => by rw [of_nil h]; rfl
  | _ :: _, _, h => by obtain ⟨y, r, rfl, _, q⟩ := of_cons h; rw [List.length_cons, List.length_cons, q.length]
theorem Reps.get : ∀ {vs : List T} {ys : List V} {i : Nat} {v : T}, Reps K H ys vs → vs[i]? = some v → ∃ y, ys[i]? = some y ∧ Rep K H y v
  | [], _, _, _, _, e => by simp at e
  | _ :: _, _, 0, _, h, e => by obtain ⟨y, r, rfl, a, _⟩ := of_cons h; simp at e; subst e; exact ⟨y, rfl, a⟩
  | _ :: _, _, i + 1, v, h, e => by
    obtain ⟨y, r, rfl, _, q⟩ := of_cons h
    obtain ⟨z, h1, h2⟩ := Reps.get (i := i) (v := v) q (by simpa using e)
    exact ⟨z, by simpa using h1, h2⟩
theorem Reps.app : ∀ {vs ws : List T} {ys zs : List V}, Reps K H ys vs → Reps K H zs ws → Reps K H (ys ++ zs) (vs ++ ws)
  | [], _, _, _, h, q => by rw [of_nil h]; exact q
  | _ :: _, _, _, _, h, q => by obtain ⟨y, r, rfl, a, b⟩ := of_cons h; exact reps_cons a (b.app q)
theorem Reps.take : ∀ (n : Nat) {vs : List T} {ys : List V}, Reps K H ys vs → Reps K H (ys.take n) (vs.take n)
  | 0, _, _, _ => by simpa using reps_nil
  | _ + 1, [], _, h => by rw [of_nil h]; exact reps_nil
  | n + 1, _ :: _, _, h => by obtain ⟨y, r, rfl, a, b⟩ := of_cons h; exact reps_cons a (b.take n)
theorem Reps.erase : ∀ (n : Nat) {vs : List T} {ys : List V}, Reps K H ys vs → Reps K H (ys.eraseIdx n) (vs.eraseIdx n)
  | _, [], _, h => by rw [of_nil h]; exact reps_nil
  | 0, _ :: _, _, h => by obtain ⟨y, r, rfl, a, b⟩ := of_cons h; exact b
  | n + 1, _ :: _, _, h => by obtain ⟨y, r, rfl, a, b⟩ := of_cons h; exact reps_cons a (b.erase n)
theorem Reps.dropLast {vs : List T} {ys : List V} (h : Reps K H ys vs) : Reps K H ys.dropLast vs.dropLast := by
  rw [List.dropLast_eq_take, List.dropLast_eq_take, h.length]; exact h.take _
theorem Reps.snoc {vs : List T} {ys : List V} {y : V} {v : T} (h : Reps K H ys vs) (q : Rep K H y v) : Reps K H (ys ++ [y]) (vs ++ [v]) := h.app (reps_cons q reps_nil)
theorem Reps.reverse : ∀ {vs : List T} {ys : List V}, Reps K H ys vs → Reps K H ys.reverse vs.reverse
  | [], _, h => by rw [of_nil h]; exact reps_nil
  | _ :: _, _, h => by obtain ⟨y, r, rfl, a, b⟩ := of_cons h; rw [List.reverse_cons, List.reverse_cons]; exact b.reverse.snoc a
theorem Reps.at {vs : List T} {ys : List V} {i : Int} {v : T} (h : Reps K H ys vs) (e : atI vs i = some v) : ∃ y, atI ys i = some y ∧ Rep K H y v := by
  unfold atI at e ⊢
  rw [h.length]
  cases q : ixN vs.length i with
  | none => rw [q] at e; cases e
  | some j =>
    rw [q] at e
    exact h.get e
theorem reps_ints : ∀ ns : List Int, Reps K H (ns.map V.int) (ns.map T.int)
  | [] => reps_nil
  | n :: r => reps_cons rep_int (reps_ints r)
end
/-! ### two heaps -/
abbrev PR (K : PySem.W.Frag) (H : Hp) {κ : Type} (kvs : List (κ × V)) (kws : List (κ × T)) : Prop := PySem.Paired (fun p q => p.1 = q.1 ∧ Rep K H p.2 q.2) kvs kws
def ORel (K : PySem.W.Frag) (H : Hp) (a : Addr) : O → Prop
  | .lst xs => ∃ ys, H a = some (.lst ys) ∧ Reps K H ys xs
  | .dic kvs => ∃ ks, H a = some (.dK ks) ∧ PR K H ks kvs
  | .ins cn fs => ∃ Cl dx ks, PySem.W.nsIn K mainGlobals cn = some (some (.ref Cl)) ∧ H a = some (.ins Cl dx ks) ∧ PR K H ks fs
  | .fdic kvs => ∃ ks, Rd H a (.dK ks) ∧ PR K H ks kvs
def O.wr : O → Prop
  | .fdic _ => False
  | _ => True
structure Rl (K : PySem.W.Frag) (F H : Hp) (C : Hw) : Prop where
  obj : ∀ a o, C a = some o → ORel K H a o
  frm : ∀ a o, F a = some o → H a = some o ∧ C a = none
theorem pr_tx {K : PySem.W.Frag} {H H' : Hp} (t : Tx H H') {κ : Type} {ks : List (κ × V)} {kvs : List (κ × T)} (h : PR K H ks kvs) : PR K H' ks kvs := L2.Paired.mapP h fun _ _ z => ⟨z.1, z.2.tx t⟩
theorem ORel.stay {K : PySem.W.Frag} {H H' : Hp} {a : Addr} {o : O} (h : ORel K H a o) (t : Tx H H') (e : H' a = H a) : ORel K H' a o := by
  cases o with
  | lst xs => obtain ⟨ys, q, r⟩ := h; exact ⟨ys, e.trans q, r.tx t⟩
  | dic kvs => obtain ⟨ys, q, r⟩ := h; exact ⟨ys, e.trans q, pr_tx t r⟩
  | ins C fs => obtain ⟨Cl, dx, ys, n, q, r⟩ := h; exact ⟨Cl, dx, ys, n, e.trans q, pr_tx t r⟩
  | fdic kvs =>
    obtain ⟨ys, q, r⟩ := h
    refine ⟨ys, ?_, pr_tx t r⟩
    rcases q with q | ⟨o, q⟩
    · exact .inl (e.trans q)
    · exact .inr ⟨o, e.trans q⟩
theorem ORel.some {K : PySem.W.Frag} {H : Hp} {a : Addr} {o : O} (h : ORel K H a o) (wr : o.wr) : ∃ u, H a = some u ∧ ¬ Stb u := by
  cases o with
  | fdic kvs => exact wr.elim
  | lst xs => obtain ⟨ys, q, r⟩ := h; exact ⟨_, q, fun z => z⟩
  | dic kvs => obtain ⟨ys, q, r⟩ := h; exact ⟨_, q, fun z => z⟩
  | ins C fs => obtain ⟨Cl, dx, ys, n, q, r⟩ := h; exact ⟨_, q, fun z => z⟩
theorem ORel.here {K : PySem.W.Frag} {H : Hp} {a : Addr} {o : O} (h : ORel K H a o) : ∃ u, H a = Option.some u := by
  cases o with
  | fdic kvs =>
    obtain ⟨ys, q, r⟩ := h
    rcases q with q | ⟨o, q⟩
    · exact ⟨_, q⟩
    · exact ⟨_, q⟩
  | lst xs => obtain ⟨ys, q, r⟩ := h; exact ⟨_, q⟩
  | dic kvs => obtain ⟨ys, q, r⟩ := h; exact ⟨_, q⟩
  | ins C fs => obtain ⟨Cl, dx, ys, n, q, r⟩ := h; exact ⟨_, q⟩
section
variable {K : PySem.W.Frag} {F H : Hp} {C : Hw}
theorem Rl.free (R : Rl K F H C) {p : Addr} (h : H p = none) : C p = none := by
  cases e : C p with
  | none => rfl
  | some o => obtain ⟨u, q⟩ := (R.obj p o e).here; rw [h] at q; cases q
theorem Rl.lst (R : Rl K F H C) {a : Addr} {xs : List T} (h : C a = some (.lst xs)) : ∃ ys, H a = some (.lst ys) ∧ Reps K H ys xs := R.obj a _ h
/-- a new object that is seen -/
theorem Rl.new (R : Rl K F H C) {p : Addr} {u : HO} {o : O} (h : H p = none) (r : ORel K (upd H p u) p o) : Rl K F (upd H p u) (up C p o) where
  obj := fun a v e => by
    by_cases q : a = p
    · subst q; rw [up_same] at e; cases e; exact r
    · rw [up_ne q] at e
      exact (R.obj a v e).stay (Tx.new h) (upd_ne q)
  frm := fun a v e => by
    have z := R.frm a v e
    have q : a ≠ p := ne_of_none z.1 h
    rw [upd_ne q, up_ne q]; exact z
/-- a new object that is not seen -/
theorem Rl.hid (R : Rl K F H C) {p : Addr} {u : HO} (h : H p = none) : Rl K F (upd H p u) C where
  obj := fun a v e => by
    obtain ⟨w, q⟩ := (R.obj a v e).here
    exact (R.obj a v e).stay (Tx.new h) (upd_ne (ne_of_none q h))
  frm := fun a v e => by
    have z := R.frm a v e
    rw [upd_ne (ne_of_none z.1 h)]; exact z
/-- an object written over -/
theorem Rl.put (R : Rl K F H C) {p : Addr} {u : HO} {o o' : O} (h : C p = some o) (r : ORel K (upd H p u) p o') (wr : o.wr := by trivial) : Rl K F (upd H p u) (up C p o') ∧ Tx H (upd H p u) := by
  obtain ⟨w, hw, ns⟩ := (R.obj p o h).some wr
  have t : Tx H (upd H p u) := Tx.put hw ns
  refine ⟨⟨fun a v e => ?_, fun a v e => ?_⟩, t⟩
  · by_cases q : a = p
    · subst q; rw [up_same] at e; cases e; exact r
    · rw [up_ne q] at e
      exact (R.obj a v e).stay t (upd_ne q)
  · have z := R.frm a v e
    have q : a ≠ p := fun y => by subst y; rw [h] at z; cases z.2
    rw [upd_ne q, up_ne q]; exact z
theorem Rl.putL (R : Rl K F H C) {p : Addr} {xs xs' : List T} {ys' : List V} (h : C p = some (.lst xs)) (r : Reps K H ys' xs') : Rl K F (upd H p (.lst ys')) (up C p (.lst xs')) ∧ Tx H (upd H p (.lst ys')) := by
  obtain ⟨w, hw, ns⟩ := (R.obj p _ h).some trivial
  exact R.put h ⟨ys', upd_same, r.tx (Tx.put hw ns)⟩
theorem Rl.newL (R : Rl K F H C) {p : Addr} {xs : List T} {ys : List V} (h : H p = none) (r : Reps K H ys xs) : Rl K F (upd H p (.lst ys)) (up C p (.lst xs)) := R.new h ⟨ys, upd_same, r.tx (Tx.new h)⟩
end
/-! ### wishes -/
abbrev Sw := List (Option T)
abbrev WK := T → Hw → Prop
/-- an exception: its class's name, its attributes -/
structure Xn where
  cls : Str
  fs : List (Str × T)
abbrev WX := Xn → Hw → Prop
abbrev WE := Sw → Hw → WK → WX → Prop
abbrev WT := Sw → Hw → (Bool → Hw → Prop) → WX → Prop
abbrev WA := Sw → Hw → (List T → Hw → Prop) → WX → Prop
structure We where
  nx : Sw → Hw → Prop
  rt : WK
  bk : Sw → Hw → Prop := fun _ _ => False
  ct : Sw → Hw → Prop := fun _ _ => False
  xc : WX := fun _ _ => False
abbrev WS := We → Sw → Hw → Prop
abbrev WG := T → Sw → Hw → (Sw → Hw → Prop) → WX → Prop
abbrev WGs := List T → Sw → Hw → (Sw → Hw → Prop) → WX → Prop
/-- what is walked: its items, and what must hold of the heap at each turn -/
abbrev WI := Sw → Hw → (List T → (Hw → Prop) → Hw → Prop) → WX → Prop
abbrev W2 := T → T → Hw → WK → Prop
abbrev Calls := Nat → List T → Hw → WK → WX → Prop
/-! ### what the operations are -/
def eVar (i : Nat) : WE := fun τ C Q _ => ∃ v, τ[i]? = some (some v) ∧ Q v C
def eC (v : T) : WE := fun _ C Q _ => Q v C
def eBin (r : W2) (a b : WE) : WE := fun τ C Q χ => a τ C (fun x C1 => b τ C1 (fun y C2 => r x y C2 Q) χ) χ
def eUn (r : T → Hw → WK → Prop) (a : WE) : WE := fun τ C Q χ => a τ C (fun x C1 => r x C1 Q) χ
def aNil : WA := fun _ C Q _ => Q [] C
def aCons (a : WE) (r : WA) : WA := fun τ C Q χ => a τ C (fun x C1 => r τ C1 (fun xs C2 => Q (x :: xs) C2) χ) χ
def eTup (a : WA) : WE := fun τ C Q χ => a τ C (fun xs C1 => xs.length ≤ sizeLine ∧ Q (.tup xs) C1) χ
def eLst (a : WA) : WE := fun τ C Q χ => a τ C (fun xs C1 => xs.length ≤ sizeLine ∧ ∀ p, C1 p = none → Q (.ref p) (up C1 p (.lst xs))) χ
def eCall (P : Calls) (i : Nat) (a : WA) : WE := fun τ C Q χ => a τ C (fun xs C1 => P i xs C1 Q χ) χ
def eBi (r : List T → Hw → WK → Prop) (a : WA) : WE := fun τ C Q χ => a τ C (fun xs C1 => r xs C1 Q) χ
def eMt (ty : T → Hw → Prop) (r : T → List T → Hw → WK → Prop) (o : WE) (a : WA) : WE := fun τ C Q χ => o τ C (fun x C1 => ty x C1 ∧ a τ C1 (fun xs C2 => r x xs C2 Q) χ) χ
def eIf (c : WT) (a b : WE) : WE := fun τ C Q χ => c τ C (fun k C1 => if k = true then a τ C1 Q χ else b τ C1 Q χ) χ
def eAnd (a b : WE) : WE := fun τ C Q χ => a τ C (fun x C1 => ∃ k, x = .bl k ∧ if k = true then b τ C1 Q χ else Q (.bl false) C1) χ
def eOr (a b : WE) : WE := fun τ C Q χ => a τ C (fun x C1 => ∃ k, x = .bl k ∧ if k = true then Q (.bl true) C1 else b τ C1 Q χ) χ
def eNot (a : WE) : WE := fun τ C Q χ => a τ C (fun x C1 => ∃ k, x = .bl k ∧ Q (.bl (!k)) C1) χ
/-- a value's truth -/
def tru : T → Hw → Bool → Prop
  | .non, _, k => k = false
  | .bl b, _, k => k = b
  | .int i, _, k => k = (i != 0)
  | .str y, _, k => y.length ≤ sizeLine ∧ k = ((y.length : Int) != 0)
  | .tup xs, _, k => k = !xs.isEmpty
  | .cl xs, _, k => k = !xs.isEmpty
  | .ref a, C, k => (∃ xs, C a = some (.lst xs) ∧ k = !xs.isEmpty) ∨ ∃ kvs, C a = some (.dic kvs) ∧ k = !kvs.isEmpty
def tTru (a : WE) : WT := fun τ C Q χ => a τ C (fun x C1 => ∃ k, tru x C1 k ∧ Q k C1) χ
/-- the value is a truth -/
def tBl (a : WE) : WT := fun τ C Q χ => a τ C (fun x C1 => ∃ k, x = .bl k ∧ Q k C1) χ
def tAn (a b : WT) : WT := fun τ C Q χ => a τ C (fun k C1 => if k = true then b τ C1 Q χ else Q false C1) χ
def tOr' (a b : WT) : WT := fun τ C Q χ => a τ C (fun k C1 => if k = true then Q true C1 else b τ C1 Q χ) χ
def tNo (a : WT) : WT := fun τ C Q χ => a τ C (fun k C1 => Q (!k) C1) χ
/-- a op1 b op2 c -/
def eChain (r r' : W2) (a b c : WE) : WE := fun τ C Q χ => a τ C (fun x C1 => b τ C1 (fun y C2 => r x y C2 fun z C3 => ∃ k, z = .bl k ∧ (if k = true then c τ C3 (fun w C4 => r' y w C4 Q) χ else Q (.bl false) C3)) χ) χ
def wAdd : W2
  | .int i, .int j, C, Q => Q (.int (i + j)) C
  | .str i, .str j, C, Q => i.length + j.length ≤ sizeLine ∧ Q (.str (i ++ j)) C
  | .tup xs, .tup ys, C, Q => xs.length + ys.length ≤ sizeLine ∧ Q (.tup (xs ++ ys)) C
  | .ref a, .ref b, C, Q => ∃ xs ys, C a = some (.lst xs) ∧ C b = some (.lst ys) ∧ xs.length + ys.length ≤ sizeLine ∧ ∀ p, C p = none → Q (.ref p) (up C p (.lst (xs ++ ys)))
  | _, _, _, _ => False
def wSub : W2
  | .int i, .int j, C, Q => Q (.int (i - j)) C
  | _, _, _, _ => False
def wMul : W2
  | .int i, .int j, C, Q => CMul i j ∧ Q (.int (i * j)) C
  | _, _, _, _ => False
def wDiv : W2
  | .int i, .int j, C, Q => CDiv i j ∧ Q (.int (i / j)) C
  | _, _, _, _ => False
def wMod : W2
  | .int i, .int j, C, Q => 0 < j ∧ Q (.int (i % j)) C
  | _, _, _, _ => False
def wPow : W2
  | .int i, .int j, C, Q => CPow i j ∧ Q (.int (i ^ j.toNat)) C
  | _, _, _, _ => False
def wNeg : T → Hw → WK → Prop
  | .int i, C, Q => Q (.int (-i)) C
  | _, _, _ => False
def wLt : W2
  | .int i, .int j, C, Q => Q (.bl (decide (i < j))) C
  | .str i, .str j, C, Q => Q (.bl (decide (i.cps.toList < j.cps.toList))) C
  | _, _, _, _ => False
def wLe : W2
  | .int i, .int j, C, Q => Q (.bl (decide (i ≤ j))) C
  | _, _, _, _ => False
def wGt : W2
  | .int i, .int j, C, Q => Q (.bl (decide (j < i))) C
  | _, _, _, _ => False
def wGe : W2
  | .int i, .int j, C, Q => Q (.bl (decide (j ≤ i))) C
  | _, _, _, _ => False
/-! equality, as == tells it -/
mutual
def eqT : T → T → Bool
  | .non, .non => true
  | .bl a, .bl b => a == b
  | .bl a, .int b => (if a then 1 else 0) == b
  | .int a, .bl b => a == (if b then 1 else 0)
  | .int a, .int b => a == b
  | .str a, .str b => a == b
  | .tup xs, .tup ys => eqTs xs ys
  | _, _ => false
def eqTs : List T → List T → Bool
  | [], [] => true
  | x :: xs, y :: ys => eqT x y && eqTs xs ys
  | _, _ => false
end
/-! nothing of the heap in it; how deep it is -/
mutual
def flat : T → Nat → Bool
  | .tup xs, n + 1 => flats xs n
  | .tup _, 0 => false
  | .ref _, _ => false
  | .cl _, _ => false
  | _, _ => true
def flats : List T → Nat → Bool
  | [], _ => true
  | x :: xs, n => flat x n && flats xs n
end
/-- how deep tuples that are compared may be -/
def eqDeep : Nat := 100
def isFlat (x : T) : Prop := flat x eqDeep = true
def wEqG (neg : Bool) : W2
  | .ref a, .ref b, C, Q => ∃ xs ys, C a = some (.lst xs) ∧ C b = some (.lst ys) ∧ (xs.length = ys.length → flats xs eqDeep = true ∧ flats ys eqDeep = true) ∧ Q (.bl (if neg then !eqTs xs ys else eqTs xs ys)) C
  | .ref a, y, C, Q => (∃ xs, C a = some (.lst xs)) ∧ isFlat y ∧ Q (.bl neg) C
  | x, .ref b, C, Q => (∃ ys, C b = some (.lst ys)) ∧ isFlat x ∧ Q (.bl neg) C
  | x, y, C, Q => isFlat x ∧ isFlat y ∧ Q (.bl (if neg then !eqT x y else eqT x y)) C
abbrev wEq : W2 := wEqG false
abbrev wNe : W2 := wEqG true
def wIsN : W2 := fun x y C Q => y = .non ∧ Q (.bl (match x with | .non => true | _ => false)) C
def wNotN : W2 := fun x y C Q => y = .non ∧ Q (.bl (match x with | .non => false | _ => true)) C
def inL (x : T) (xs : List T) : Bool := xs.any fun y => eqT y x
def wInG (neg : Bool) : W2
  | .str i, .str j, C, Q => Q (.bl (if neg then (!(!(Builtin.Str.occurrences j i 0 j.length 1).isEmpty)) else (!(Builtin.Str.occurrences j i 0 j.length 1).isEmpty))) C
  | x, .tup ys, C, Q => isFlat x ∧ flats ys eqDeep = true ∧ Q (.bl (if neg then !inL x ys else inL x ys)) C
  | x, .cl ys, C, Q => isFlat x ∧ flats ys eqDeep = true ∧ Q (.bl (if neg then !inL x ys else inL x ys)) C
  | x, .ref a, C, Q => ∃ ys, C a = some (.lst ys) ∧ isFlat x ∧ flats ys eqDeep = true ∧ Q (.bl (if neg then !inL x ys else inL x ys)) C
  | _, _, _, _ => False
abbrev wIn : W2 := wInG false
abbrev wNotIn : W2 := wInG true
def cut {α : Type} (xs : List α) (lo hi : Option Int) : List α := (xs.drop (HT.sIx xs.length 0 lo)).take (HT.sIx xs.length xs.length hi - HT.sIx xs.length 0 lo)
def wIdx : W2
  | .tup xs, .int i, C, Q => ∃ v, atI xs i = some v ∧ Q v C
  | .cl xs, .int i, C, Q => ∃ v, atI xs i = some v ∧ Q v C
  | .str z, .int i, C, Q => z.length ≤ sizeLine ∧ ∃ c, atI z.cps.toList i = some c ∧ Q (.str ⟨#[c]⟩) C
  | .ref a, .int i, C, Q => ∃ xs v, C a = some (.lst xs) ∧ atI xs i = some v ∧ Q v C
  | _, _, _, _ => False
def oNo : Sw → Hw → (Option Int → Hw → Prop) → WX → Prop := fun _ C Q _ => Q none C
def oSome (a : WE) : Sw → Hw → (Option Int → Hw → Prop) → WX → Prop := fun τ C Q χ => a τ C (fun x C1 => ∃ i, x = .int i ∧ Q (some i) C1) χ
def wSl : T → Option Int → Option Int → Hw → WK → Prop
  | .tup xs, lo, hi, C, Q => ¬ (HT.sIx xs.length 0 lo = 0 ∧ HT.sIx xs.length xs.length hi = xs.length) ∧ Q (.tup (cut xs lo hi)) C
  | .cl xs, lo, hi, C, Q => ∀ p, C p = none → Q (.ref p) (up C p (.lst (cut xs lo hi)))
  | .str z, lo, hi, C, Q => z.length ≤ sizeLine ∧ Q (.str (Txt.slice z lo hi)) C
  | .ref a, lo, hi, C, Q => ∃ xs, C a = some (.lst xs) ∧ ∀ p, C p = none → Q (.ref p) (up C p (.lst (cut xs lo hi)))
  | _, _, _, _, _ => False
def eSl (a : WE) (lo hi : Sw → Hw → (Option Int → Hw → Prop) → WX → Prop) : WE := fun τ C Q χ => a τ C (fun x C1 => lo τ C1 (fun l C2 => hi τ C2 (fun h C3 => wSl x l h C3 Q) χ) χ) χ
def bLen : List T → Hw → WK → Prop := fun vs C Q => ∃ x, vs = [x] ∧ match x with
  | .str z => z.length ≤ sizeLine ∧ Q (.int z.length) C
  | .tup xs => Q (.int xs.length) C
  | .cl xs => Q (.int xs.length) C
  | .ref a => ∃ xs, C a = some (.lst xs) ∧ Q (.int xs.length) C
  | _ => False
def bMax : List T → Hw → WK → Prop := fun vs C Q => ∃ i j, vs = [.int i, .int j] ∧ Q (.int (if j > i then j else i)) C
def bMin : List T → Hw → WK → Prop := fun vs C Q => ∃ i j, vs = [.int i, .int j] ∧ Q (.int (if j < i then j else i)) C
def bAll : List T → Hw → WK → Prop := fun vs C Q => ∃ (a : Addr) (bs : List Bool), vs = [.ref a] ∧ C a = some (.lst (bs.map T.bl)) ∧ Q (.bl (bs.all id)) C
def bTuple : List T → Hw → WK → Prop := fun vs C Q => ∃ x, vs = [x] ∧ match x with
  | .tup xs => Q (.tup xs) C
  | .cl xs => Q (.tup xs) C
  | .ref a => ∃ xs, C a = some (.lst xs) ∧ Q (.tup xs) C
  | _ => False
def bList : List T → Hw → WK → Prop := fun vs C Q => ∃ x, vs = [x] ∧ match x with
  | .tup xs => ∀ p, C p = none → Q (.ref p) (up C p (.lst xs))
  | .cl xs => ∀ p, C p = none → Q (.ref p) (up C p (.lst xs))
  | .ref a => ∃ xs, C a = some (.lst xs) ∧ ∀ p, C p = none → Q (.ref p) (up C p (.lst xs))
  | _ => False
/-- the name of a value's class -/
def tyN : T → Hw → String → Prop
  | .non, _, n => n = "NoneType"
  | .bl _, _, n => n = "bool"
  | .int _, _, n => n = "int"
  | .str _, _, n => n = "str"
  | .tup _, _, n => n = "tuple"
  | .cl _, _, n => n = "list"
  | .ref a, C, n => (n = "list" ∧ ∃ xs, C a = some (.lst xs)) ∨ (n = "dict" ∧ ∃ kvs, C a = some (.dic kvs))
def isCls (n c : String) : Bool := n == c || (n == "bool" && c == "int")
/-- isinstance(a, c), c a class of Python's own -/
def eIsi (a : WE) (c : String) : WE := fun τ C Q χ => a τ C (fun x C1 => ∃ n, tyN x C1 n ∧ Q (.bl (isCls n c)) C1) χ
def tyL' : T → Hw → Prop := fun x C => ∃ a xs, x = .ref a ∧ C a = some (.lst xs)
def tyS : T → Hw → Prop := fun x _ => ∃ z, x = .str z
def mAppend : T → List T → Hw → WK → Prop := fun x vs C Q => ∃ a xs y, x = .ref a ∧ vs = [y] ∧ C a = some (.lst xs) ∧ xs.length < sizeLine ∧ Q .non (up C a (.lst (xs ++ [y])))
def mPop : T → List T → Hw → WK → Prop := fun x vs C Q => ∃ a xs y, x = .ref a ∧ vs = [] ∧ C a = some (.lst xs) ∧ xs[xs.length - 1]? = some y ∧ Q y (up C a (.lst xs.dropLast))
def mPopAt : T → List T → Hw → WK → Prop := fun x vs C Q => ∃ a xs i k y, x = .ref a ∧ vs = [.int i] ∧ C a = some (.lst xs) ∧ -(2 ^ 63) ≤ i ∧ i < 2 ^ 63 ∧ seqIndex? i xs.length = some k ∧ xs[k]? = some y ∧ Q y (up C a (.lst (xs.eraseIdx k)))
/-! ### targets, statements -/
def gNm (i : Nat) : WG := fun v τ C Q _ => Q (τ.set i (some v)) C
def gsNil : WGs := fun vs τ C Q _ => vs = [] ∧ Q τ C
def gsCons (g : WG) (gs : WGs) : WGs := fun vs τ C Q χ => ∃ v r, vs = v :: r ∧ g v τ C (fun τ' C' => gs r τ' C' Q χ) χ
def gTp (gs : WGs) : WG := fun v τ C Q χ => ∃ xs, v = .tup xs ∧ gs xs τ C Q χ
/-- o[i] = .. -/
def gSb (o i : WE) : WG := fun v τ C Q χ => o τ C (fun x C1 => i τ C1 (fun y C2 => ∃ a xs k j, x = .ref a ∧ y = .int k ∧ C2 a = some (.lst xs) ∧ ixN xs.length k = some j ∧ Q τ (up C2 a (.lst (xs.set j v)))) χ) χ
def sPass : WS := fun D τ C => D.nx τ C
def sSeq (a b : WS) : WS := fun D τ C => a { D with nx := b D } τ C
def sExpr (e : WE) : WS := fun D τ C => e τ C (fun _ C1 => D.nx τ C1) D.xc
def sRet (e : WE) : WS := fun D τ C => e τ C D.rt D.xc
def sRetN : WS := fun D _ C => D.rt .non C
def sIf (c : WT) (a b : WS) : WS := fun D τ C => c τ C (fun k C1 => if k = true then a D τ C1 else b D τ C1) D.xc
def sAsg (e : WE) (g : WG) : WS := fun D τ C => e τ C (fun x C1 => g x τ C1 D.nx D.xc) D.xc
def sBrk : WS := fun D τ C => D.bk τ C
def sCont : WS := fun D τ C => D.ct τ C
def sNever : WS := fun _ _ _ => False
def forW (g : WG) (b : WS) (ok : Hw → Prop) (D : We) : List T → Sw → Hw → Prop
  | [], τ, C => ok C ∧ D.nx τ C
  | x :: xs, τ, C => ok C ∧ g x τ C (fun τ2 C2 => b { D with nx := forW g b ok D xs, ct := forW g b ok D xs, bk := D.nx } τ2 C2) D.xc
def sFor (i : WI) (g : WG) (b : WS) : WS := fun D τ C => i τ C (fun xs ok C1 => forW g b ok D xs τ C1) D.xc
def iSeq (e : WE) : WI := fun τ C R χ => e τ C (fun v C1 => match v with
  | .tup xs => R xs (fun _ => True) C1
  | .cl xs => R xs (fun _ => True) C1
  | .str z => R (z.cps.toList.map fun c => T.str ⟨#[c]⟩) (fun _ => True) C1
  | .ref a => ∃ xs, C1 a = some (.lst xs) ∧ R xs (fun C2 => C2 a = some (.lst xs)) C1
  | _ => False) χ
def rng (lo : Int) (n : Nat) : List T := (List.range n).map fun k : Nat => T.int (lo + k)
def iR1 (a : WA) : WI := fun τ C R χ => a τ C (fun vs C1 => ∃ j : Int, vs = [.int j] ∧ -(2 ^ 62) ≤ j ∧ j < 2 ^ 62 ∧ R (rng 0 j.toNat) (fun _ => True) C1) χ
def iR2 (a : WA) : WI := fun τ C R χ => a τ C (fun vs C1 => ∃ i j : Int, vs = [.int i, .int j] ∧ (-(2 ^ 62) ≤ i ∧ i < 2 ^ 62 ∧ -(2 ^ 62) ≤ j ∧ j < 2 ^ 62) ∧ R (rng i (j - i).toNat) (fun _ => True) C1) χ
def iEn (a : WA) : WI := fun τ C R χ => a τ C (fun vs C1 => ∃ z, vs = [.str z] ∧ R (z.cps.toList.zipIdx.map fun c => T.tup [.int c.2, .str ⟨#[c.1]⟩]) (fun _ => True) C1) χ
def capW (cap : List (Option Nat)) (τ : Sw) : Sw := cap.map fun o => o.bind fun i => (τ[i]?).join
def tYes : WT := fun _ C Q _ => Q true C
def compW (g : WG) (c : WT) (e : WE) (ok : Hw → Prop) (τ : Sw) (Q : List T → Hw → Prop) (χ : WX) : List T → List T → Hw → Prop
  | [], acc, C => ok C ∧ Q acc C
  | x :: xs, acc, C => ok C ∧ g x τ C (fun τ2 C2 => c τ2 C2 (fun b C3 => if b = true then e τ2 C3 (fun v C4 => acc.length < sizeLine ∧ compW g c e ok τ Q χ xs (acc ++ [v]) C4) χ else compW g c e ok τ Q χ xs acc C3) χ) χ
def eComp (cap : List (Option Nat)) (i : WI) (g : WG) (c : WT) (e : WE) : WE := fun τ C Q χ => i τ C (fun xs ok C1 => compW g c e ok (capW cap τ) (fun vs C2 => ∀ p, C2 p = none → Q (.ref p) (up C2 p (.lst vs))) χ xs [] C1) χ
/-! ### defs -/
structure Df where
  n : Nat
  ar : Nat
  body : Calls → WS
def wpc (pr : List Df) : Nat → Calls
  | 0 => fun _ _ _ _ _ => False
  | n + 1 => fun i vs C Q χ => ∃ d, pr[i]? = some d ∧ vs.length = d.ar ∧ d.body (wpc pr n) { nx := fun _ C' => Q .non C', rt := Q, xc := χ } (vs.map some ++ List.replicate (d.n - d.ar) none) C
end WL
set_option Elab.async false
set_option linter.all false
set_option maxRecDepth 100000
set_option maxHeartbeats 4000000
namespace WL
open PySem PySem.Spec PyProof.Rows L2
/-! ### equality of values over the heap -/
section
variable {X : Cx} {pins : List (Addr × Obj)} {σ : L2.St} {H : Hp} {s : Shared}
def sc : T → Option V
  | .non => some .non
  | .bl b => some (.bl b)
  | .int i => some (.int i)
  | .str z => some (.str z)
  | _ => none
theorem rep_sc {K : PySem.W.Frag} {H : Hp} {x z : V} {v : T} (h : sc v = some z) (r : Rep K H x v) : x = z ∧ flatV z = true := by
  cases v with
  | non => cases h; exact ⟨of_non r, rfl⟩
  | bl b => cases h; exact ⟨of_bl r, rfl⟩
  | int i => cases h; exact ⟨of_int r, rfl⟩
  | str z => cases h; exact ⟨of_str r, rfl⟩
  | _ => cases h
theorem eqT_sc {v w : T} {a b : V} (h : sc v = some a) (h' : sc w = some b) : eqT v w = eqV a b := by
  cases v <;> cases w <;> cases h <;> cases h' <;> unfold eqT <;> rfl
mutual
theorem eqT_refl : ∀ (v : T) {n : Nat}, flat v n = true → eqT v v = true
  | .non, _, _ => by unfold eqT; rfl
  | .bl b, _, _ => by unfold eqT; simp
  | .int b, _, _ => by unfold eqT; simp
  | .str b, _, _ => by unfold eqT; simp
  | .tup xs, 0, h => by unfold flat at h; cases h
  | .tup xs, n + 1, h => by unfold flat at h; unfold eqT; exact eqTs_refl xs h
  | .ref a, _, h => by unfold flat at h; cases h
  | .cl a, _, h => by unfold flat at h; cases h
theorem eqTs_refl : ∀ (v : List T) {n : Nat}, flats v n = true → eqTs v v = true
  | [], _, _ => by unfold eqTs; rfl
  | x :: xs, n, h => by
    unfold flats at h
    rw [Bool.and_eq_true] at h
    unfold eqTs
    rw [eqT_refl x h.1, eqTs_refl xs h.2]; rfl
end
theorem sc_none {v : T} {n : Nat} (h : flat v n = true) (e : sc v = none) : ∃ ts m, v = .tup ts ∧ n = m + 1 ∧ flats ts m = true := by
  cases v with
  | tup ts =>
    cases n with
    | zero => unfold flat at h; cases h
    | succ m => unfold flat at h; exact ⟨ts, m, rfl, rfl, h⟩
  | ref a => unfold flat at h; cases h
  | cl a => unfold flat at h; cases h
  | non => cases e
  | bl b => cases e
  | int b => cases e
  | str b => cases e
theorem flats_get : ∀ {vs : List T} {n i : Nat} {v : T}, flats vs n = true → vs[i]? = some v → flat v n = true
  | [], _, _, _, _, e => by simp at e
  | x :: xs, n, 0, v, h, e => by
    unfold flats at h
    rw [Bool.and_eq_true] at h
    simp at e; subst e; exact h.1
  | x :: xs, n, i + 1, v, h, e => by
    unfold flats at h
    rw [Bool.and_eq_true] at h
    exact flats_get h.2 (by simpa using e)
/-- the same thing stands for one flat value alone -/
theorem rep_inj (I : Inv X pins σ H s) : ∀ (n : Nat) {v w : T} {x : V}, flat v n = true → flat w n = true → Rep X.K H x v → Rep X.K H x w → v = w := by
  intro n
  induction n with
  | zero =>
    intro v w x fv fw rv rw'
    cases ev : sc v with
    | none => obtain ⟨_, _, _, h, _⟩ := sc_none fv ev; cases h
    | some a =>
      cases ew : sc w with
      | none => obtain ⟨_, _, _, h, _⟩ := sc_none fw ew; cases h
      | some b =>
        obtain ⟨e1, _⟩ := rep_sc ev rv
        obtain ⟨e2, _⟩ := rep_sc ew rw'
        have e : a = b := e1.symm.trans e2
        subst e
        cases v <;> cases ev <;> cases w <;> cases ew <;> rfl
  | succ n ih =>
    intro v w x fv fw rv rw'
    have lists : ∀ {ys : List V} {vs ws : List T}, flats vs n = true → flats ws n = true → Reps X.K H ys vs → Reps X.K H ys ws → vs = ws := by
      intro ys vs
      induction vs generalizing ys with
      | nil =>
        intro ws _ _ a b
        have := of_nil a
        subst this
        cases ws with
        | nil => rfl
        | cons w ws => obtain ⟨_, _, e, _⟩ := of_cons b; cases e
      | cons v vs ihv =>
        intro ws fa fb a b
        obtain ⟨y, r, rfl, a1, a2⟩ := of_cons a
        cases ws with
        | nil => have := of_nil b; cases this
        | cons w ws =>
          obtain ⟨y', r', e, b1, b2⟩ := of_cons b
          cases e
          unfold flats at fa fb
          rw [Bool.and_eq_true] at fa fb
          rw [ih fa.1 fb.1 a1 b1, ihv fa.2 fb.2 a2 b2]
    cases ev : sc v with
    | none =>
      obtain ⟨ts, m, rfl, em, ft⟩ := sc_none fv ev
      cases em
      obtain ⟨a, ys, rfl, hq, r⟩ := of_tup rv
      cases ew : sc w with
      | none =>
        obtain ⟨us, m', rfl, em, fu⟩ := sc_none fw ew
        cases em
        obtain ⟨b, zs, e, hq', r'⟩ := of_tup rw'
        cases e
        have e := I.tuple_inj hq hq'
        subst e
        rw [lists ft fu r r']
      | some b =>
        obtain ⟨e2, f⟩ := rep_sc ew rw'
        subst e2
        cases f
    | some a =>
      obtain ⟨e1, f⟩ := rep_sc ev rv
      cases ew : sc w with
      | none =>
        obtain ⟨us, m', rfl, em, fu⟩ := sc_none fw ew
        obtain ⟨b, zs, e, hq', r'⟩ := of_tup rw'
        subst e1
        subst e
        cases f
      | some b =>
        obtain ⟨e2, _⟩ := rep_sc ew rw'
        have e : a = b := e1.symm.trans e2
        subst e
        cases v <;> cases ev <;> cases w <;> cases ew <;> rfl
def eqJ (ts us : List T) (j : Nat) : Bool := match ts[j]?, us[j]? with
  | some a, some b => eqT a b
  | _, _ => true
theorem eqTs_range : ∀ (vs ws : List T), ((List.range (min vs.length ws.length)).all (eqJ vs ws) && vs.length == ws.length) = eqTs vs ws
  | [], [] => by unfold eqTs; rfl
  | [], _ :: _ => by unfold eqTs; simp
  | _ :: _, [] => by unfold eqTs; simp
  | v :: vs, w :: ws => by
    unfold eqTs
    rw [← eqTs_range vs ws]
    rw [List.length_cons, List.length_cons, show min (vs.length + 1) (ws.length + 1) = min vs.length ws.length + 1 by omega, List.range_succ_eq_map, List.all_cons, List.all_map]
    have e1 : eqJ (v :: vs) (w :: ws) 0 = eqT v w := rfl
    have e2 : (eqJ (v :: vs) (w :: ws) ∘ Nat.succ) = eqJ vs ws := by funext j; simp [Function.comp_def, eqJ]
    rw [e1, e2]
    simp [Bool.and_assoc]
/-- == within another comparison -/
theorem eqAtT (I : Inv X pins σ H s) : ∀ (n : Nat) {v w : T} {x y : V} {u u' : Value} {A : Around}, flat v n = true → flat w n = true → Rep X.K H x v → Rep X.K H y w → RelV x u → RelV y u' → A.units + n < cLine →
    SeqAt.EqAt A s u u' (eqT v w) := by
  intro n
  induction n with
  | zero =>
    intro v w x y u u' A fv fw rv rw' ru ru' hu
    cases ev : sc v with
    | none => obtain ⟨_, _, _, h, _⟩ := sc_none fv ev; cases h
    | some a =>
      cases ew : sc w with
      | none => obtain ⟨_, _, _, h, _⟩ := sc_none fw ew; cases h
      | some b =>
        obtain ⟨rfl, f1⟩ := rep_sc ev rv
        obtain ⟨rfl, f2⟩ := rep_sc ew rw'
        rw [eqT_sc ev ew]
        exact eqAt_V ru ru' f1 f2
  | succ n ih =>
    intro v w x y u u' A fv fw rv rw' ru ru' hu
    have hu0 : A.units < cLine := by omega
    cases ev : sc v with
    | some a =>
      obtain ⟨rfl, f1⟩ := rep_sc ev rv
      cases ew : sc w with
      | some b =>
        obtain ⟨rfl, f2⟩ := rep_sc ew rw'
        rw [eqT_sc ev ew]
        exact eqAt_V ru ru' f1 f2
      | none =>
        obtain ⟨ts, m, rfl, em, ft⟩ := sc_none fw ew
        obtain ⟨b, zs, rfl, hq, r⟩ := of_tup rw'
        cases ru'
        obtain ⟨its, _, p, _⟩ := I.tuple hq
        cases v with
        | non => cases ev; cases ru; unfold eqT; exact SeqAt.EqAt.none_tuple p hu0
        | bl c => cases ev; cases ru; unfold eqT; exact SeqAt.EqAt.bool_tuple c p hu0
        | int i => cases ev; obtain ⟨t, rfl⟩ := ru; unfold eqT; exact SeqAt.EqAt.int_tuple i t p hu0
        | str i => cases ev; obtain ⟨t, rfl⟩ := ru; unfold eqT; exact SeqAt.EqAt.str_tuple i t p hu0
        | _ => cases ev
    | none =>
      obtain ⟨ts, m, rfl, em, ft⟩ := sc_none fv ev
      cases em
      obtain ⟨a, ys, rfl, hq, r⟩ := of_tup rv
      cases ru
      obtain ⟨its, rI, p, _⟩ := I.tuple hq
      cases ew : sc w with
      | some b =>
        obtain ⟨rfl, f2⟩ := rep_sc ew rw'
        cases w with
        | non => cases ew; cases ru'; unfold eqT; exact SeqAt.EqAt.tuple_none p hu0
        | bl c => cases ew; cases ru'; unfold eqT; exact SeqAt.EqAt.tuple_bool c p hu0
        | int i => cases ew; obtain ⟨t, rfl⟩ := ru'; unfold eqT; exact SeqAt.EqAt.tuple_int i t p hu0
        | str i => cases ew; obtain ⟨t, rfl⟩ := ru'; unfold eqT; exact SeqAt.EqAt.tuple_str i t p hu0
        | _ => cases ew
      | none =>
        obtain ⟨us, m', rfl, em, fu⟩ := sc_none fw ew
        cases em
        obtain ⟨b, zs, rfl, hq', r'⟩ := of_tup rw'
        cases ru'
        obtain ⟨its', rI', p', _⟩ := I.tuple hq'
        by_cases hne : a = b
        · subst hne
          have e := rep_inj I (n + 1) fv fw (rep_tup hq r) (rep_tup hq' r')
          rw [e, eqT_refl _ fw]
          exact SeqAt.EqAt.same _
        · have l1 : its.toArray.size = ts.length := by rw [List.size_toArray, ← rI.length, r.length]
          have l2 : its'.toArray.size = us.length := by rw [List.size_toArray, ← rI'.length, r'.length]
          have key := SeqAt.EqAt.of_refs hne (SeqAt.RcAt.tuples (A := A) (e := eqJ ts us) p p' hu0 (fun j h1 h2 => by
            have i1 : ts[j]? = some (ts[j]'(by omega)) := by simp [l1 ▸ h1]
            have i2 : us[j]? = some (us[j]'(by omega)) := by simp [l2 ▸ h2]
            obtain ⟨x1, g1, q1⟩ := r.get i1
            obtain ⟨x2, g2, q2⟩ := r'.get i2
            obtain ⟨u1, k1, z1⟩ := rI.get g1
            obtain ⟨u2, k2, z2⟩ := rI'.get g2
            have e1 : its.toArray[j] = u1 := by
              have : its[j]? = some its.toArray[j] := by simp
              rw [k1] at this; exact (Option.some.inj this).symm
            have e2 : its'.toArray[j] = u2 := by
              have : its'[j]? = some its'.toArray[j] := by simp
              rw [k2] at this; exact (Option.some.inj this).symm
            rw [e1, e2]
            unfold eqJ
            simp only [i1, i2]
            exact ih (flats_get ft i1) (flats_get fu i2) q1 q2 z1 z2 (by show A.units + 1 + n < cLine; omega)))
          rw [l1, l2, eqTs_range] at key
          unfold eqT
          exact key
end
end WL
set_option Elab.async false
set_option linter.all false
set_option maxRecDepth 100000
set_option maxHeartbeats 4000000
namespace WL
open PySem PySem.Spec PyProof.Rows L2
def RepS (K : PySem.W.Frag) (H : Hp) (σ : L2.St) (τ : Sw) : Prop := σ.length = τ.length ∧ ∀ (i : Nat) (v : T), τ[i]? = some (some v) → ∃ x, σ[i]? = some (some x) ∧ Rep K H x v
theorem RepS.tx {K : PySem.W.Frag} {H H' : Hp} {σ : L2.St} {τ : Sw} (h : RepS K H σ τ) (t : Tx H H') : RepS K H' σ τ := ⟨h.1, fun i v e => let ⟨x, a, b⟩ := h.2 i v e; ⟨x, a, b.tx t⟩⟩
theorem RepS.set {K : PySem.W.Frag} {H : Hp} {σ : L2.St} {τ : Sw} (h : RepS K H σ τ) {i : Nat} {x : V} {v : T} (r : Rep K H x v) : RepS K H (σ.set i (some x)) (τ.set i (some v)) := by
  refine ⟨by rw [List.length_set, List.length_set]; exact h.1, fun j w e => ?_⟩
  by_cases hj : i = j
  · subst hj
    by_cases hi : i < τ.length
    · rw [List.getElem?_set_self hi] at e
      cases e
      exact ⟨x, List.getElem?_set_self (by rw [h.1]; exact hi), r⟩
    · rw [List.getElem?_eq_none (by rw [List.length_set]; omega)] at e
      cases e
  · rw [List.getElem?_set_ne hj] at e ⊢
    exact h.2 j w e
abbrev QE (K : PySem.W.Frag) (F H : Hp) (Q : VK) (Q' : WK) : Prop := ∀ x v H' C', Rl K F H' C' → Tx H H' → Rep K H' x v → Q' v C' → Q x H'
abbrev QT (K : PySem.W.Frag) (F H : Hp) (Q : Bool → Hp → Prop) (Q' : Bool → Hw → Prop) : Prop := ∀ b H' C', Rl K F H' C' → Tx H H' → Q' b C' → Q b H'
abbrev QA (K : PySem.W.Frag) (F H : Hp) (Q : List V → Hp → Prop) (Q' : List T → Hw → Prop) : Prop := ∀ xs vs H' C', Rl K F H' C' → Tx H H' → Reps K H' xs vs → Q' vs C' → Q xs H'
theorem QE.at {K : PySem.W.Frag} {F H H1 : Hp} {Q : VK} {Q' : WK} (q : QE K F H Q Q') (t : Tx H H1) : QE K F H1 Q Q' := fun x v H' C' R t' => q x v H' C' R (t.trans t')
def SimE (K : PySem.W.Frag) (te : TE) (we : WE) : Prop := ∀ (F H : Hp) (C : Hw) (σ : L2.St) (τ : Sw) (Q : VK) (Q' : WK) (χ : WX), Rl K F H C → RepS K H σ τ → we τ C Q' χ → QE K F H Q Q' → te σ H Q
def SimT (K : PySem.W.Frag) (te : TT) (we : WT) : Prop := ∀ (F H : Hp) (C : Hw) (σ : L2.St) (τ : Sw) (Q : Bool → Hp → Prop) (Q' : Bool → Hw → Prop) (χ : WX), Rl K F H C → RepS K H σ τ → we τ C Q' χ → QT K F H Q Q' → te σ H Q
def SimA (K : PySem.W.Frag) (te : TA) (we : WA) : Prop := ∀ (F H : Hp) (C : Hw) (σ : L2.St) (τ : Sw) (Q : List V → Hp → Prop) (Q' : List T → Hw → Prop) (χ : WX), Rl K F H C → RepS K H σ τ → we τ C Q' χ → QA K F H Q Q' → te σ H Q
def SimR (K : PySem.W.Frag) (r : R2) (w : W2) : Prop := ∀ (F H : Hp) (C : Hw) (x y : V) (v u : T) (Q : VK) (Q' : WK), Rl K F H C → Rep K H x v → Rep K H y u → w v u C Q' → QE K F H Q Q' → r x y H Q
def SimB (K : PySem.W.Frag) (r : List V → Hp → VK → Prop) (w : List T → Hw → WK → Prop) : Prop := ∀ (F H : Hp) (C : Hw) (xs : List V) (vs : List T) (Q : VK) (Q' : WK), Rl K F H C → Reps K H xs vs → w vs C Q' → QE K F H Q Q' → r xs H Q
def SimM (K : PySem.W.Frag) (r : V → List V → Hp → VK → Prop) (w : T → List T → Hw → WK → Prop) : Prop := ∀ (F H : Hp) (C : Hw) (x : V) (v : T) (xs : List V) (vs : List T) (Q : VK) (Q' : WK), Rl K F H C → Rep K H x v → Reps K H xs vs → w v vs C Q' → QE K F H Q Q' → r x xs H Q
def SimU (K : PySem.W.Frag) (r : V → Hp → VK → Prop) (w : T → Hw → WK → Prop) : Prop := ∀ (F H : Hp) (C : Hw) (x : V) (v : T) (Q : VK) (Q' : WK), Rl K F H C → Rep K H x v → w v C Q' → QE K F H Q Q' → r x H Q
def SdE (X : Cx) (e : Expr) (w : WE) : Prop := ∃ t, PE X e t ∧ SimE X.K t w
def SdT (X : Cx) (e : Expr) (w : WT) : Prop := ∃ t, PT X e t ∧ SimT X.K t w
def SdW (X : Cx) (e : Expr) (w : WT) : Prop := ∃ t, PW X e t ∧ SimT X.K t w
def SdA (X : Cx) (es : List Expr) (w : WA) : Prop := ∃ t, PA X es t ∧ SimA X.K t w
def OpS (X : Cx) (f : Value → Value → Sem Value) (w : W2) : Prop := ∃ r, OpR X f r ∧ SimR X.K r w
def IxS (X : Cx) (w : W2) : Prop := ∃ r, IxR X r ∧ SimR X.K r w
def CallS (X : Cx) (f : Value) (w : List T → Hw → WK → Prop) : Prop := ∃ r, CallR X f r ∧ SimB X.K r w
def MtS (X : Cx) (id : String) (w : T → List T → Hw → WK → Prop) : Prop := ∃ r, MtR X id r ∧ SimM X.K r w
section
variable {K : PySem.W.Frag} {ta tb tc : TE} {wa wb wc : WE} {r r' : R2} {w w' : W2}
theorem s_var {i : Nat} : SimE K (tVar i) (eVar i) := fun F H C σ τ Q Q' χ R S h q => by
  obtain ⟨v, e, h⟩ := h
  obtain ⟨x, ex, rx⟩ := S.2 i v e
  exact ⟨x, ex, q x v H C R (Tx.refl H) rx h⟩
theorem s_c {x : V} {v : T} (h : ∀ H, Rep K H x v) : SimE K (tC x) (eC v) := fun F H C σ τ Q Q' χ R S w q => q x v H C R (Tx.refl H) (h H) w
theorem s_op (ha : SimE K ta wa) (hb : SimE K tb wb) (hr : SimR K r w) : SimE K (tOp r ta tb) (eBin w wa wb) := fun F H C σ τ Q Q' χ R S h q => by
  refine ha F H C σ τ _ _ χ R S h fun x v H1 C1 R1 t1 rx h1 => ?_
  refine hb F H1 C1 σ τ _ _ χ R1 (S.tx t1) h1 fun y u H2 C2 R2 t2 ry h2 => ?_
  exact hr F H2 C2 x y v u Q Q' R2 (rx.tx t2) ry h2 (QE.at q (t1.trans t2))
theorem s_un {r : V → Hp → VK → Prop} {w : T → Hw → WK → Prop} (ha : SimE K ta wa) (hr : SimU K r w) : SimE K (tUn r ta) (eUn w wa) := fun F H C σ τ Q Q' χ R S h q => by
  refine ha F H C σ τ _ _ χ R S h fun x v H1 C1 R1 t1 rx h1 => ?_
  exact hr F H1 C1 x v Q Q' R1 rx h1 (QE.at q t1)
theorem s_nil : SimA K tNil aNil := fun F H C σ τ Q Q' χ R S h q => q [] [] H C R (Tx.refl H) reps_nil h
theorem s_cons {t : TA} {wt : WA} (ha : SimE K ta wa) (hb : SimA K t wt) : SimA K (tCons ta t) (aCons wa wt) := fun F H C σ τ Q Q' χ R S h q => by
  refine ha F H C σ τ _ _ χ R S h fun x v H1 C1 R1 t1 rx h1 => ?_
  exact hb F H1 C1 σ τ _ _ χ R1 (S.tx t1) h1 fun xs vs H2 C2 R2 t2 rs h2 => q (x :: xs) (v :: vs) H2 C2 R2 (t1.trans t2) (reps_cons (rx.tx t2) rs) h2
theorem s_tup {t : TA} {wt : WA} (ha : SimA K t wt) : SimE K (tTup t) (eTup wt) := fun F H C σ τ Q Q' χ R S h q => by
  refine ha F H C σ τ _ _ χ R S h fun xs vs H1 C1 R1 t1 rs h1 => ⟨by rw [rs.length]; exact h1.1, fun p hp => ?_⟩
  exact q _ _ _ C1 (R1.hid hp) (t1.trans (Tx.new hp)) (rep_tup (SqT.of upd_same) (rs.tx (Tx.new hp))) h1.2
theorem s_lst {t : TA} {wt : WA} (ha : SimA K t wt) : SimE K (tLst t) (eLst wt) := fun F H C σ τ Q Q' χ R S h q => by
  refine ha F H C σ τ _ _ χ R S h fun xs vs H1 C1 R1 t1 rs h1 => ⟨by rw [rs.length]; exact h1.1, fun p hp => ?_⟩
  exact q _ _ _ _ (R1.newL hp rs) (t1.trans (Tx.new hp)) rep_ref (h1.2 p (R1.free hp))
theorem s_bi {r : List V → Hp → VK → Prop} {w : List T → Hw → WK → Prop} {t : TA} {wt : WA} (hr : SimB K r w) (ha : SimA K t wt) : SimE K (tCB r t) (eBi w wt) := fun F H C σ τ Q Q' χ R S h q => by
  refine ha F H C σ τ _ _ χ R S h fun xs vs H1 C1 R1 t1 rs h1 => ?_
  exact hr F H1 C1 xs vs Q Q' R1 rs h1 (QE.at q t1)
theorem s_if {tt : TT} {wt : WT} (hc : SimT K tt wt) (ha : SimE K ta wa) (hb : SimE K tb wb) : SimE K (tIf tt ta tb) (eIf wt wa wb) := fun F H C σ τ Q Q' χ R S h q => by
  refine hc F H C σ τ _ _ χ R S h fun k H1 C1 R1 t1 h1 => ?_
  cases k with
  | true => exact ha F H1 C1 σ τ Q Q' χ R1 (S.tx t1) h1 (QE.at q t1)
  | false => exact hb F H1 C1 σ τ Q Q' χ R1 (S.tx t1) h1 (QE.at q t1)
theorem s_and (ha : SimE K ta wa) (hb : SimE K tb wb) : SimE K (tAndV ta tb) (eAnd wa wb) := fun F H C σ τ Q Q' χ R S h q => by
  refine ha F H C σ τ _ _ χ R S h fun x v H1 C1 R1 t1 rx h1 => ?_
  obtain ⟨k, rfl, h1⟩ := h1
  refine ⟨k, of_bl rx, ?_⟩
  cases k with
  | true => exact hb F H1 C1 σ τ Q Q' χ R1 (S.tx t1) h1 (QE.at q t1)
  | false => exact q _ _ H1 C1 R1 t1 rep_bl h1
theorem s_or (ha : SimE K ta wa) (hb : SimE K tb wb) : SimE K (tOrV ta tb) (eOr wa wb) := fun F H C σ τ Q Q' χ R S h q => by
  refine ha F H C σ τ _ _ χ R S h fun x v H1 C1 R1 t1 rx h1 => ?_
  obtain ⟨k, rfl, h1⟩ := h1
  refine ⟨k, of_bl rx, ?_⟩
  cases k with
  | true => exact q _ _ H1 C1 R1 t1 rep_bl h1
  | false => exact hb F H1 C1 σ τ Q Q' χ R1 (S.tx t1) h1 (QE.at q t1)
/-! tests -/
theorem s_bl (ha : SimE K ta wa) : SimT K (tTest ta) (tBl wa) := fun F H C σ τ Q Q' χ R S h q => by
  refine ha F H C σ τ _ _ χ R S h fun x v H1 C1 R1 t1 rx h1 => ?_
  obtain ⟨k, rfl, h1⟩ := h1
  exact ⟨k, of_bl rx, q k H1 C1 R1 t1 h1⟩
theorem s_tru (ha : SimE K ta wa) : SimT K (fun σ H Q => ta σ H fun x H' => ∃ k, TruV K x H' k ∧ Q k H') (tTru wa) := fun F H C σ τ Q Q' χ R S h q => by
  refine ha F H C σ τ _ _ χ R S h fun x v H1 C1 R1 t1 rx h1 => ?_
  obtain ⟨k, hk, h1⟩ := h1
  refine ⟨k, ?_, q k H1 C1 R1 t1 h1⟩
  have emp : ∀ {ys : List V} {xs : List T}, Reps K H1 ys xs → ys.isEmpty = xs.isEmpty := fun {ys xs} r => by
    have := r.length
    cases ys <;> cases xs <;> simp_all
  cases v with
  | non => cases of_non rx; exact hk
  | bl b => cases of_bl rx; exact hk
  | int i => cases of_int rx; exact hk
  | str z => cases of_str rx; exact hk
  | tup xs =>
    obtain ⟨a, ys, rfl, hq, r⟩ := of_tup rx
    refine .inr (.inl ⟨ys, hq, ?_⟩)
    rw [emp r]; exact hk
  | cl xs =>
    obtain ⟨a, ys, rfl, hq, r⟩ := of_cl rx
    refine .inl ⟨ys, hq.sq, ?_⟩
    rw [emp r]; exact hk
  | ref a =>
    cases of_ref rx
    rcases hk with ⟨xs, hx, e⟩ | ⟨kvs, hx, e⟩
    · obtain ⟨ys, hy, r⟩ := R1.lst hx
      refine .inl ⟨ys, SqL.of hy, ?_⟩
      rw [emp r]; exact e
    · obtain ⟨ks, hy, r⟩ := R1.obj a _ hx
      refine .inr (.inr ⟨ks, hy, ?_⟩)
      have := Paired.length r
      rw [e]
      cases ks <;> cases kvs <;> simp_all
theorem s_an {t u : TT} {w w' : WT} (ha : SimT K t w) (hb : SimT K u w') : SimT K (tAnd t u) (tAn w w') := fun F H C σ τ Q Q' χ R S h q => by
  refine ha F H C σ τ _ _ χ R S h fun k H1 C1 R1 t1 h1 => ?_
  cases k with
  | true => exact hb F H1 C1 σ τ Q Q' χ R1 (S.tx t1) h1 fun b H' C' R' t' => q b H' C' R' (t1.trans t')
  | false => exact q _ H1 C1 R1 t1 h1
theorem s_or' {t u : TT} {w w' : WT} (ha : SimT K t w) (hb : SimT K u w') : SimT K (tOr t u) (tOr' w w') := fun F H C σ τ Q Q' χ R S h q => by
  refine ha F H C σ τ _ _ χ R S h fun k H1 C1 R1 t1 h1 => ?_
  cases k with
  | true => exact q _ H1 C1 R1 t1 h1
  | false => exact hb F H1 C1 σ τ Q Q' χ R1 (S.tx t1) h1 fun b H' C' R' t' => q b H' C' R' (t1.trans t')
theorem s_no {t : TT} {w : WT} (ha : SimT K t w) : SimT K (tNot t) (tNo w) := fun F H C σ τ Q Q' χ R S h q => by
  refine ha F H C σ τ _ _ χ R S h fun k H1 C1 R1 t1 h1 => ?_
  exact q _ H1 C1 R1 t1 h1
end
/-! ### the operations -/
section
variable {X : Cx}
theorem o_add : OpS X (binaryOp .Add) wAdd := ⟨_, op_add.or (op_add_str.or (op_cat.or (op_catT0.or op_catT))), fun F H C x y v u Q Q' R rx ry h q => by
  cases v <;> cases u <;> first | exact False.elim h | skip
  case int.int i j => cases of_int rx; cases of_int ry; exact .inl ⟨i, j, rfl, rfl, q _ _ H C R (Tx.refl H) rep_int h⟩
  case str.str i j => cases of_str rx; cases of_str ry; exact .inr (.inl ⟨i, j, rfl, rfl, h.1, q _ _ H C R (Tx.refl H) rep_str h.2⟩)
  case ref.ref a b =>
    cases of_ref rx; cases of_ref ry
    obtain ⟨xs, ys, ha, hb, hl, h⟩ := h
    obtain ⟨zs, hz, rz⟩ := R.lst ha
    obtain ⟨ws, hw, rw'⟩ := R.lst hb
    exact .inr (.inr (.inl ⟨a, b, zs, ws, rfl, rfl, hz, hw, by rw [rz.length, rw'.length]; exact hl, fun p hp => q _ _ _ _ (R.newL hp (rz.app rw')) (Tx.new hp) rep_ref (h p (R.free hp))⟩))
  case tup.tup xs ys =>
    obtain ⟨a, zs, rfl, hz, rz⟩ := of_tup rx
    obtain ⟨b, ws, rfl, hw, rw'⟩ := of_tup ry
    by_cases e : zs = []
    · subst e
      have e2 : xs = [] := by
        have := rz.length
        cases xs with
        | nil => rfl
        | cons _ _ => cases this
      subst e2
      exact .inr (.inr (.inr (.inl ⟨a, b, ws, rfl, rfl, hz, hw, q _ _ H C R (Tx.refl H) (rep_tup hw rw') h.2⟩)))
    · refine .inr (.inr (.inr (.inr ⟨a, b, zs, ws, rfl, rfl, hz, hw, e, by rw [rz.length, rw'.length]; exact h.1, fun e2 => ?_, fun e2 p hp => ?_⟩)))
      · subst e2
        have e3 : ys = [] := by
          have := rw'.length
          cases ys with
          | nil => rfl
          | cons _ _ => cases this
        subst e3
        refine q _ _ H C R (Tx.refl H) (rep_tup hz rz) ?_
        have := h.2
        rw [List.append_nil] at this
        exact this
      · exact q _ _ _ C (R.hid hp) (Tx.new hp) (rep_tup (SqT.of upd_same) ((rz.app rw').tx (Tx.new hp))) h.2⟩
theorem o_sub : OpS X (binaryOp .Sub) wSub := ⟨_, op_sub, fun F H C x y v u Q Q' R rx ry h q => by
  cases v <;> cases u <;> first | exact False.elim h | skip
  case int.int i j => cases of_int rx; cases of_int ry; exact ⟨i, j, rfl, rfl, q _ _ H C R (Tx.refl H) rep_int h⟩⟩
theorem o_mul : OpS X (binaryOp .Mult) wMul := ⟨_, op_mul, fun F H C x y v u Q Q' R rx ry h q => by
  cases v <;> cases u <;> first | exact False.elim h | skip
  case int.int i j => cases of_int rx; cases of_int ry; exact ⟨i, j, rfl, rfl, h.1, q _ _ H C R (Tx.refl H) rep_int h.2⟩⟩
theorem o_div : OpS X (binaryOp .FloorDiv) wDiv := ⟨_, op_fdiv, fun F H C x y v u Q Q' R rx ry h q => by
  cases v <;> cases u <;> first | exact False.elim h | skip
  case int.int i j => cases of_int rx; cases of_int ry; exact ⟨i, j, rfl, rfl, h.1, q _ _ H C R (Tx.refl H) rep_int h.2⟩⟩
theorem o_mod : OpS X (binaryOp .Mod) wMod := ⟨_, op_mod, fun F H C x y v u Q Q' R rx ry h q => by
  cases v <;> cases u <;> first | exact False.elim h | skip
  case int.int i j => cases of_int rx; cases of_int ry; exact ⟨i, j, rfl, rfl, h.1, q _ _ H C R (Tx.refl H) rep_int h.2⟩⟩
theorem o_pow : OpS X (binaryOp .Pow) wPow := ⟨_, op_pow, fun F H C x y v u Q Q' R rx ry h q => by
  cases v <;> cases u <;> first | exact False.elim h | skip
  case int.int i j => cases of_int rx; cases of_int ry; exact ⟨i, j, rfl, rfl, h.1, q _ _ H C R (Tx.refl H) rep_int h.2⟩⟩
theorem o_lt : OpS X (compareOp .Lt) wLt := ⟨_, op_lt.or op_lt_str, fun F H C x y v u Q Q' R rx ry h q => by
  cases v <;> cases u <;> first | exact False.elim h | skip
  case int.int i j => cases of_int rx; cases of_int ry; exact .inl ⟨i, j, rfl, rfl, q _ _ H C R (Tx.refl H) rep_bl h⟩
  case str.str i j => cases of_str rx; cases of_str ry; exact .inr ⟨i, j, rfl, rfl, q _ _ H C R (Tx.refl H) rep_bl h⟩⟩
theorem o_le : OpS X (compareOp .LtE) wLe := ⟨_, op_le, fun F H C x y v u Q Q' R rx ry h q => by
  cases v <;> cases u <;> first | exact False.elim h | skip
  case int.int i j => cases of_int rx; cases of_int ry; exact ⟨i, j, rfl, rfl, q _ _ H C R (Tx.refl H) rep_bl h⟩⟩
theorem o_gt : OpS X (compareOp .Gt) wGt := ⟨_, op_gt, fun F H C x y v u Q Q' R rx ry h q => by
  cases v <;> cases u <;> first | exact False.elim h | skip
  case int.int i j => cases of_int rx; cases of_int ry; exact ⟨i, j, rfl, rfl, q _ _ H C R (Tx.refl H) rep_bl h⟩⟩
/-- a rule that stands over the state itself, by values -/
def rDir (X : Cx) (f : Value → Value → Sem Value) : R2 := fun x y H Q => ∀ (pins : List (Addr × Obj)) (s : Shared) (σ : L2.St) (v u : Value), Inv X pins σ H s → RelV x v → RelV y u → wpAny (model X.prog X.w) X.A (f v u) (EP X pins σ Q) X.xe s
theorem op_dir {f : Value → Value → Sem Value} : OpR X f (rDir X f) := fun pins s σ H x y v u Q I rx ry h => h pins s σ v u I rx ry
/-- the items of two lists, one by one -/
theorem items_at {pins : List (Addr × Obj)} {σ : L2.St} {H : Hp} {s : Shared} {A : Around} {n : Nat} {ts us : List T} {ys zs : List V} {its its' : List Value} (I : Inv X pins σ H s) (r : Reps X.K H ys ts) (r' : Reps X.K H zs us) (rI : Vals ys its) (rI' : Vals zs its')
    (f : flats ts n = true) (f' : flats us n = true) (hu : A.units + n < cLine) :
    ∀ j (h1 : j < its.toArray.size) (h2 : j < its'.toArray.size), SeqAt.EqAt A s its.toArray[j] its'.toArray[j] (eqJ ts us j) := fun j h1 h2 => by
  have l1 : its.toArray.size = ts.length := by rw [List.size_toArray, ← rI.length, r.length]
  have l2 : its'.toArray.size = us.length := by rw [List.size_toArray, ← rI'.length, r'.length]
  have i1 : ts[j]? = some (ts[j]'(by omega)) := by simp [l1 ▸ h1]
  have i2 : us[j]? = some (us[j]'(by omega)) := by simp [l2 ▸ h2]
  obtain ⟨x1, g1, q1⟩ := r.get i1
  obtain ⟨x2, g2, q2⟩ := r'.get i2
  obtain ⟨u1, k1, z1⟩ := rI.get g1
  obtain ⟨u2, k2, z2⟩ := rI'.get g2
  have e1 : its.toArray[j] = u1 := by
    have : its[j]? = some its.toArray[j] := by simp
    rw [k1] at this; exact (Option.some.inj this).symm
  have e2 : its'.toArray[j] = u2 := by
    have : its'[j]? = some its'.toArray[j] := by simp
    rw [k2] at this; exact (Option.some.inj this).symm
  rw [e1, e2]
  unfold eqJ
  simp only [i1, i2]
  exact eqAtT I n (flats_get f i1) (flats_get f' i2) q1 q2 z1 z2 hu
theorem eqTs_len {vs ws : List T} (h : vs.length ≠ ws.length) : eqTs vs ws = false := by
  rw [← eqTs_range, show (vs.length == ws.length) = false from beq_eq_false_iff_ne.mpr h, Bool.and_false]
theorem eqTs_same {vs ws : List T} (h : vs.length = ws.length) : (List.range vs.length).all (eqJ vs ws) = eqTs vs ws := by
  rw [← eqTs_range, h, Nat.min_self, beq_self_eq_true, Bool.and_true]
/-- == of two values at the top, nothing of the heap in them -/
theorem rcT {pins : List (Addr × Obj)} {σ : L2.St} {H : Hp} {s : Shared} {v w : T} {x y : V} {u u' : Value} {A : Around} {n : Nat} (I : Inv X pins σ H s) (fv : flat v n = true) (fw : flat w n = true) (rv : Rep X.K H x v) (rw' : Rep X.K H y w)
    (ru : RelV x u) (ru' : RelV y u') (hu : A.units + n + 1 < cLine) : SeqAt.RcAt A s u u' (eqT v w) ∧ SeqAt.RcNeAt A s u u' (!eqT v w) := by
  have hu0 : A.units < cLine := by omega
  cases ev : sc v with
  | some a =>
    obtain ⟨rfl, f1⟩ := rep_sc ev rv
    cases ew : sc w with
    | some b =>
      obtain ⟨rfl, f2⟩ := rep_sc ew rw'
      cases v with
      | non =>
        cases ev; cases ru
        cases w with
        | non => cases ew; cases ru'; unfold eqT; exact ⟨.none_none, .none_none⟩
        | bl c => cases ew; cases ru'; unfold eqT; exact ⟨.none_bool c, .none_bool c⟩
        | int c => cases ew; obtain ⟨t, rfl⟩ := ru'; unfold eqT; exact ⟨.none_int c t, .none_int c t⟩
        | str c => cases ew; obtain ⟨t, rfl⟩ := ru'; unfold eqT; exact ⟨.none_str c t, .none_str c t⟩
        | _ => cases ew
      | bl d =>
        cases ev; cases ru
        cases w with
        | non => cases ew; cases ru'; unfold eqT; exact ⟨.bool_none d, .bool_none d⟩
        | bl c => cases ew; cases ru'; unfold eqT; exact ⟨.bool_bool d c, .bool_bool d c⟩
        | int c => cases ew; obtain ⟨t, rfl⟩ := ru'; unfold eqT; exact ⟨.bool_int d c t, .bool_int d c t⟩
        | str c => cases ew; obtain ⟨t, rfl⟩ := ru'; unfold eqT; exact ⟨.bool_str d c t, .bool_str d c t⟩
        | _ => cases ew
      | int d =>
        cases ev; obtain ⟨t', rfl⟩ := ru
        cases w with
        | non => cases ew; cases ru'; unfold eqT; exact ⟨.int_none d t', .int_none d t'⟩
        | bl c => cases ew; cases ru'; unfold eqT; exact ⟨.int_bool d t' c, .int_bool d t' c⟩
        | int c => cases ew; obtain ⟨t, rfl⟩ := ru'; unfold eqT; exact ⟨.int_int d t' c t, .int_int d t' c t⟩
        | str c => cases ew; obtain ⟨t, rfl⟩ := ru'; unfold eqT; exact ⟨.int_str d t' c t, .int_str d t' c t⟩
        | _ => cases ew
      | str d =>
        cases ev; obtain ⟨t', rfl⟩ := ru
        cases w with
        | non => cases ew; cases ru'; unfold eqT; exact ⟨.str_none d t', .str_none d t'⟩
        | bl c => cases ew; cases ru'; unfold eqT; exact ⟨.str_bool d t' c, .str_bool d t' c⟩
        | int c => cases ew; obtain ⟨t, rfl⟩ := ru'; unfold eqT; exact ⟨.str_int d t' c t, .str_int d t' c t⟩
        | str c => cases ew; obtain ⟨t, rfl⟩ := ru'; unfold eqT; exact ⟨.str_str d t' c t, .str_str d t' c t⟩
        | _ => cases ew
      | _ => cases ev
    | none =>
      obtain ⟨ts, m, rfl, em, ft⟩ := sc_none fw ew
      obtain ⟨b, zs, rfl, hq, r⟩ := of_tup rw'
      cases ru'
      obtain ⟨its, _, p, _⟩ := I.tuple hq
      cases v with
      | non => cases ev; cases ru; unfold eqT; exact ⟨.none_tuple p hu0, .none_tuple p hu0⟩
      | bl c => cases ev; cases ru; unfold eqT; exact ⟨.bool_tuple c p hu0, .bool_tuple c p hu0⟩
      | int i => cases ev; obtain ⟨t, rfl⟩ := ru; unfold eqT; exact ⟨.int_tuple i t p hu0, .int_tuple i t p hu0⟩
      | str i => cases ev; obtain ⟨t, rfl⟩ := ru; unfold eqT; exact ⟨.str_tuple i t p hu0, .str_tuple i t p hu0⟩
      | _ => cases ev
  | none =>
    obtain ⟨ts, m, rfl, em, ft⟩ := sc_none fv ev
    subst em
    obtain ⟨a, ys, rfl, hq, r⟩ := of_tup rv
    cases ru
    obtain ⟨its, rI, p, _⟩ := I.tuple hq
    cases ew : sc w with
    | some b =>
      obtain ⟨rfl, f2⟩ := rep_sc ew rw'
      cases w with
      | non => cases ew; cases ru'; unfold eqT; exact ⟨.tuple_none p hu0, .tuple_none p hu0⟩
      | bl c => cases ew; cases ru'; unfold eqT; exact ⟨.tuple_bool c p hu0, .tuple_bool c p hu0⟩
      | int i => cases ew; obtain ⟨t, rfl⟩ := ru'; unfold eqT; exact ⟨.tuple_int i t p hu0, .tuple_int i t p hu0⟩
      | str i => cases ew; obtain ⟨t, rfl⟩ := ru'; unfold eqT; exact ⟨.tuple_str i t p hu0, .tuple_str i t p hu0⟩
      | _ => cases ew
    | none =>
      obtain ⟨us, m', rfl, em, fu⟩ := sc_none fw ew
      cases em
      obtain ⟨b, zs, rfl, hq', r'⟩ := of_tup rw'
      cases ru'
      obtain ⟨its', rI', p', _⟩ := I.tuple hq'
      have l1 : its.toArray.size = ts.length := by rw [List.size_toArray, ← rI.length, r.length]
      have l2 : its'.toArray.size = us.length := by rw [List.size_toArray, ← rI'.length, r'.length]
      have hi := items_at (A := A.in1) I r r' rI rI' ft fu (by show A.units + 1 + m < cLine; omega)
      have k1 := SeqAt.RcAt.tuples (A := A) p p' hu0 hi
      have k2 := SeqAt.RcNeAt.tuples (A := A) p p' hu0 hi
      rw [l1, l2, eqTs_range] at k1 k2
      unfold eqT
      exact ⟨k1, k2⟩
theorem list_vs {pins : List (Addr × Obj)} {σ : L2.St} {H : Hp} {s : Shared} {w : T} {y : V} {u' : Value} {A : Around} {n : Nat} {a : Addr} {its : List Value} (I : Inv X pins σ H s) (fw : flat w n = true) (rw' : Rep X.K H y w) (ru' : RelV y u') (hu0 : A.units < cLine)
    (p : s.heap.IsList a its.toArray) : (SeqAt.RcAt A s (.ref a) u' false ∧ SeqAt.RcNeAt A s (.ref a) u' true) ∧ (SeqAt.RcAt A s u' (.ref a) false ∧ SeqAt.RcNeAt A s u' (.ref a) true) := by
  cases w with
  | non => cases of_non rw'; cases ru'; exact ⟨⟨.list_none p hu0, .list_none p hu0⟩, .none_list p hu0, .none_list p hu0⟩
  | bl c => cases of_bl rw'; cases ru'; exact ⟨⟨.list_bool c p hu0, .list_bool c p hu0⟩, .bool_list c p hu0, .bool_list c p hu0⟩
  | int c => cases of_int rw'; obtain ⟨t, rfl⟩ := ru'; exact ⟨⟨.list_int c t p hu0, .list_int c t p hu0⟩, .int_list c t p hu0, .int_list c t p hu0⟩
  | str c => cases of_str rw'; obtain ⟨t, rfl⟩ := ru'; exact ⟨⟨.list_str c t p hu0, .list_str c t p hu0⟩, .str_list c t p hu0, .str_list c t p hu0⟩
  | tup ts =>
    obtain ⟨b, zs, rfl, hq, r⟩ := of_tup rw'
    cases ru'
    obtain ⟨its', _, p', _⟩ := I.tuple hq
    exact ⟨⟨.list_tuple p p' hu0, .list_tuple p p' hu0⟩, .tuple_list p' p hu0, .tuple_list p' p hu0⟩
  | ref b => unfold flat at fw; cases fw
  | cl b => unfold flat at fw; cases fw
theorem o_eqG (neg : Bool) (hu : X.A.units + 150 < cLine) : OpS X (compareOp (if neg then .NotEq else .Eq)) (wEqG neg) := ⟨_, op_dir, fun F H C x y v u Q Q' R rx ry h q pins s σ v' u' I r1 r2 => by
  have fin : ∀ {k : Bool}, SeqAt.RcAt X.A s v' u' k ∧ SeqAt.RcNeAt X.A s v' u' (!k) → Q (.bl (if neg then !k else k)) H → wpAny (model X.prog X.w) X.A (compareOp (if neg then .NotEq else .Eq) v' u') (EP X pins σ Q) X.xe s := fun {k} e hq => by
    cases neg with
    | true => exact EqBoolInt.of_rcne e.2 ⟨.bl (!k), H, I, rfl, hq⟩
    | false => exact EqBoolInt.of_rc e.1 ⟨.bl k, H, I, rfl, hq⟩
  have two : ∀ {v u : T}, Rep X.K H x v → Rep X.K H y u → isFlat v ∧ isFlat u ∧ Q' (.bl (if neg then !eqT v u else eqT v u)) C → wpAny (model X.prog X.w) X.A (compareOp (if neg then .NotEq else .Eq) v' u') (EP X pins σ Q) X.xe s := fun {v u} rx ry h =>
    fin (rcT I h.1 h.2.1 rx ry r1 r2 (show X.A.units + 100 + 1 < cLine by omega)) (q _ _ H C R (Tx.refl H) rep_bl h.2.2)
  have hn : (if neg then !false else false) = neg := by cases neg <;> rfl
  have lft : ∀ {a : Addr} {u : T}, v' = .ref a → Rep X.K H y u → (∃ xs, C a = some (.lst xs)) ∧ isFlat u ∧ Q' (.bl neg) C → wpAny (model X.prog X.w) X.A (compareOp (if neg then .NotEq else .Eq) v' u') (EP X pins σ Q) X.xe s := fun {a u} ev ry h => by
    obtain ⟨⟨xs, hx⟩, f, hq⟩ := h
    obtain ⟨ys, hy, r⟩ := R.lst hx
    obtain ⟨its, _, p, _⟩ := I.list (SqL.of hy)
    have z := (list_vs (A := X.A) I f ry r2 (by omega) p.isList).1
    subst ev
    refine fin (k := false) z ?_
    rw [hn]
    exact q _ _ H C R (Tx.refl H) rep_bl hq
  have rgt : ∀ {b : Addr} {v : T}, u' = .ref b → Rep X.K H x v → (∃ xs, C b = some (.lst xs)) ∧ isFlat v ∧ Q' (.bl neg) C → wpAny (model X.prog X.w) X.A (compareOp (if neg then .NotEq else .Eq) v' u') (EP X pins σ Q) X.xe s := fun {b v} eu rx h => by
    obtain ⟨⟨xs, hx⟩, f, hq⟩ := h
    obtain ⟨ys, hy, r⟩ := R.lst hx
    obtain ⟨its, _, p, _⟩ := I.list (SqL.of hy)
    have z := (list_vs (A := X.A) I f rx r1 (by omega) p.isList).2
    subst eu
    refine fin (k := false) z ?_
    rw [hn]
    exact q _ _ H C R (Tx.refl H) rep_bl hq
  cases v with
  | ref a =>
    have ev : v' = .ref a := by cases of_ref rx; exact r1
    cases u with
    | ref b =>
      have eu : u' = .ref b := by cases of_ref ry; exact r2
      obtain ⟨xs, ys, ha, hb, hf, hq⟩ := h
      obtain ⟨zs, hz, rz⟩ := R.lst ha
      obtain ⟨ws, hw, rw'⟩ := R.lst hb
      obtain ⟨its, rI, p, _⟩ := I.list (SqL.of hz)
      obtain ⟨its', rI', p', _⟩ := I.list (SqL.of hw)
      have l1 : its.toArray.size = xs.length := by rw [List.size_toArray, ← rI.length, rz.length]
      have l2 : its'.toArray.size = ys.length := by rw [List.size_toArray, ← rI'.length, rw'.length]
      subst ev
      subst eu
      refine fin ?_ (q _ _ H C R (Tx.refl H) rep_bl hq)
      by_cases hl : xs.length = ys.length
      · obtain ⟨f1, f2⟩ := hf hl
        have hi := items_at (A := X.A.in1) I rz rw' rI rI' f1 f2 (by show X.A.units + 1 + 100 < cLine; omega)
        have k1 := SeqAt.RcAt.lists (A := X.A) p.isList p'.isList (by rw [l1, l2, hl]) (by omega) hi
        have k2 := SeqAt.RcNeAt.lists (A := X.A) p.isList p'.isList (by rw [l1, l2, hl]) (by omega) hi
        rw [l1, eqTs_same hl] at k1 k2
        exact ⟨k1, k2⟩
      · rw [eqTs_len hl]
        have hne : (its.toArray.size != its'.toArray.size) = true := by rw [l1, l2]; exact bne_iff_ne.mpr hl
        exact ⟨SeqAt.RcAt.lists_lengths p.isList p'.isList hne (by omega), SeqAt.RcNeAt.lists_lengths p.isList p'.isList hne (by omega)⟩
    | non => exact lft ev ry h
    | bl b => exact lft ev ry h
    | int b => exact lft ev ry h
    | str b => exact lft ev ry h
    | tup b => exact lft ev ry h
    | cl b => exact lft ev ry h
  | non =>
    cases u with
    | ref b => exact rgt (by cases of_ref ry; exact r2) rx h
    | _ => exact two rx ry h
  | bl _ =>
    cases u with
    | ref b => exact rgt (by cases of_ref ry; exact r2) rx h
    | _ => exact two rx ry h
  | int _ =>
    cases u with
    | ref b => exact rgt (by cases of_ref ry; exact r2) rx h
    | _ => exact two rx ry h
  | str _ =>
    cases u with
    | ref b => exact rgt (by cases of_ref ry; exact r2) rx h
    | _ => exact two rx ry h
  | tup _ =>
    cases u with
    | ref b => exact rgt (by cases of_ref ry; exact r2) rx h
    | _ => exact two rx ry h
  | cl _ =>
    cases u with
    | ref b => exact rgt (by cases of_ref ry; exact r2) rx h
    | _ => exact two rx ry h⟩
theorem o_eq (hu : X.A.units + 150 < cLine) : OpS X (compareOp .Eq) wEq := o_eqG false hu
theorem o_isN : OpS X (compareOp .Is) wIsN := ⟨_, op_isN, fun F H C x y v u Q Q' R rx ry h q => by
  obtain ⟨rfl, h⟩ := h
  refine ⟨of_non ry, ?_⟩
  have z := q (.bl _) _ H C R (Tx.refl H) rep_bl h
  cases v with
  | non => cases of_non rx; exact z
  | bl _ => cases of_bl rx; exact z
  | int _ => cases of_int rx; exact z
  | str _ => cases of_str rx; exact z
  | ref _ => cases of_ref rx; exact z
  | tup _ => obtain ⟨a, ys, rfl, _⟩ := of_tup rx; exact z
  | cl _ => obtain ⟨a, ys, rfl, _⟩ := of_cl rx; exact z⟩
theorem o_notN : OpS X (compareOp .IsNot) wNotN := ⟨_, op_notN, fun F H C x y v u Q Q' R rx ry h q => by
  obtain ⟨rfl, h⟩ := h
  refine ⟨of_non ry, ?_⟩
  have z := q (.bl _) _ H C R (Tx.refl H) rep_bl h
  cases v with
  | non => cases of_non rx; exact z
  | bl _ => cases of_bl rx; exact z
  | int _ => cases of_int rx; exact z
  | str _ => cases of_str rx; exact z
  | ref _ => cases of_ref rx; exact z
  | tup _ => obtain ⟨a, ys, rfl, _⟩ := of_tup rx; exact z
  | cl _ => obtain ⟨a, ys, rfl, _⟩ := of_cl rx; exact z⟩
open Classical in
/-- the items' answers, by the values -/
noncomputable def eqAns (v : T) (us : List Value) (ts : List T) (u : Value) : Bool := match (us.zip ts).find? fun p => decide (p.1 = u) with
  | some p => eqT p.2 v
  | none => false
open Classical in
theorem eqAns_at {pins : List (Addr × Obj)} {σ : L2.St} {H : Hp} {s : Shared} {n : Nat} {v : T} {ts : List T} {ys : List V} {us : List Value} (I : Inv X pins σ H s) (r : Reps X.K H ys ts) (rI : Vals ys us) (f : flats ts n = true) {j : Nat} {u : Value} {t : T} (hu : us[j]? = some u) (ht : ts[j]? = some t) :
    eqAns v us ts u = eqT t v := by
  unfold eqAns
  have hm : (u, t) ∈ us.zip ts := by
    refine List.mem_iff_getElem?.mpr ⟨j, ?_⟩
    rw [List.getElem?_zip_eq_some]
    exact ⟨hu, ht⟩
  cases e : (us.zip ts).find? fun p => decide (p.1 = u) with
  | none =>
    have := List.find?_eq_none.mp e (u, t) hm
    simp at this
  | some p =>
    have h1 := List.find?_some e
    have h2 := List.mem_of_find?_eq_some e
    simp only [decide_eq_true_eq] at h1
    obtain ⟨i, hi⟩ := List.mem_iff_getElem?.mp h2
    obtain ⟨g1, g2⟩ := List.getElem?_zip_eq_some.mp hi
    obtain ⟨x1, k1, q1⟩ := r.get g2
    obtain ⟨x2, k2, q2⟩ := r.get ht
    obtain ⟨u1, m1, z1⟩ := rI.get k1
    obtain ⟨u2, m2, z2⟩ := rI.get k2
    rw [g1] at m1; cases m1
    rw [hu] at m2; cases m2
    rw [h1] at z1
    have e2 := z1.inj z2
    subst e2
    show eqT p.2 v = eqT t v
    rw [rep_inj I n (flats_get f g2) (flats_get f ht) q1 q2]
theorem any_ans {pins : List (Addr × Obj)} {σ : L2.St} {H : Hp} {s : Shared} {n : Nat} {v : T} {ts : List T} {ys : List V} {us : List Value} (I : Inv X pins σ H s) (r : Reps X.K H ys ts) (rI : Vals ys us) (f : flats ts n = true) : us.any (eqAns v us ts) = inL v ts := by
  have hl : us.length = ts.length := by rw [← rI.length, r.length]
  have hat : ∀ j, us[j]?.map (eqAns v us ts) = ts[j]?.map fun t => eqT t v := fun j => by
    by_cases hj : j < us.length
    · have e1 : us[j]? = some us[j] := by simp [hj]
      have e2 : ts[j]? = some (ts[j]'(by omega)) := by simp [hl ▸ hj]
      rw [e1, e2, Option.map_some, Option.map_some, eqAns_at I r rI f e1 e2]
    · rw [List.getElem?_eq_none (by omega), List.getElem?_eq_none (by omega)]; rfl
  have hm : us.map (eqAns v us ts) = ts.map fun t => eqT t v := by
    refine List.ext_getElem? fun j => ?_
    rw [List.getElem?_map, List.getElem?_map]
    exact hat j
  unfold inL
  have a1 : us.any (eqAns v us ts) = (us.map (eqAns v us ts)).any id := by rw [List.any_map]; rfl
  have a2 : (ts.any fun y => eqT y v) = (ts.map fun t => eqT t v).any id := by rw [List.any_map]; rfl
  rw [a1, a2, hm]
theorem o_inG (neg : Bool) (hu : X.A.units + 150 < cLine) : OpS X (compareOp (if neg then .NotIn else .In)) (wInG neg) := ⟨_, op_dir, fun F H C x y v u Q Q' R rx ry h q pins s σ v' u' I r1 r2 => by
  have sq : ∀ {p : Addr} {ys : List V} {ts : List T}, u' = .ref p → (SqL X.K H p ys ∨ SqT X.K H p ys) → Reps X.K H ys ts → isFlat v → flats ts eqDeep = true → Q' (.bl (if neg then !inL v ts else inL v ts)) C →
      wpAny (model X.prog X.w) X.A (compareOp (if neg then .NotIn else .In) v' u') (EP X pins σ Q) X.xe s := fun {p ys ts} eu hq r fv ft hq' => by
    subst eu
    have at1 : ∀ {its : List Value}, Vals ys its → ∀ w, w ∈ its.toArray → SeqAt.EqAt X.A.in1 s w v' (eqAns v its ts w) := fun {its} rI w hw => by
      have hw' : w ∈ its := by simpa using hw
      obtain ⟨j, hj⟩ := List.mem_iff_getElem?.mp hw'
      have hlt : j < its.length := (List.getElem?_eq_some_iff.mp hj).1
      have hl : its.length = ts.length := by rw [← rI.length, r.length]
      have e2 : ts[j]? = some (ts[j]'(by omega)) := by simp [hl ▸ hlt]
      rw [eqAns_at I r rI ft hj e2]
      obtain ⟨x2, k2, q2⟩ := r.get e2
      obtain ⟨u2, m2, z2⟩ := rI.get k2
      rw [hj] at m2; cases m2
      exact eqAtT I 100 (flats_get ft e2) fv q2 rx z2 r1 (by show X.A.units + 1 + 100 < cLine; omega)
    rcases hq with hq | hq
    · obtain ⟨its, rI, p, _⟩ := I.list hq
      have e : its.toArray.any (eqAns v its ts) = inL v ts := by rw [← any_ans I r rI ft]; simp
      cases neg with
      | true => refine SeqAt.notIn_listAt (eqAns v its ts) p.isList (at1 rI) ⟨.bl _, H, I, rfl, ?_⟩; rw [e]; exact q _ _ H C R (Tx.refl H) rep_bl hq'
      | false => refine SeqAt.in_listAt (eqAns v its ts) p.isList (at1 rI) ⟨.bl _, H, I, rfl, ?_⟩; rw [e]; exact q _ _ H C R (Tx.refl H) rep_bl hq'
    · obtain ⟨its, rI, p, _⟩ := I.tuple hq
      have e : its.toArray.any (eqAns v its ts) = inL v ts := by rw [← any_ans I r rI ft]; simp
      cases neg with
      | true => refine SeqAt.notIn_tupleAt (eqAns v its ts) p (at1 rI) ⟨.bl _, H, I, rfl, ?_⟩; rw [e]; exact q _ _ H C R (Tx.refl H) rep_bl hq'
      | false => refine SeqAt.in_tupleAt (eqAns v its ts) p (at1 rI) ⟨.bl _, H, I, rfl, ?_⟩; rw [e]; exact q _ _ H C R (Tx.refl H) rep_bl hq'
  have tpl : ∀ {ts : List T}, Rep X.K H y (.tup ts) → isFlat v ∧ flats ts eqDeep = true ∧ Q' (.bl (if neg then !inL v ts else inL v ts)) C → wpAny (model X.prog X.w) X.A (compareOp (if neg then .NotIn else .In) v' u') (EP X pins σ Q) X.xe s := fun {ts} ry h => by
    obtain ⟨a, ys, rfl, hq, r⟩ := of_tup ry
    exact sq r2 (.inr hq) r h.1 h.2.1 h.2.2
  have cls : ∀ {ts : List T}, Rep X.K H y (.cl ts) → isFlat v ∧ flats ts eqDeep = true ∧ Q' (.bl (if neg then !inL v ts else inL v ts)) C → wpAny (model X.prog X.w) X.A (compareOp (if neg then .NotIn else .In) v' u') (EP X pins σ Q) X.xe s := fun {ts} ry h => by
    obtain ⟨a, ys, rfl, hq, r⟩ := of_cl ry
    exact sq r2 (.inl hq.sq) r h.1 h.2.1 h.2.2
  have rf : ∀ {a : Addr}, Rep X.K H y (.ref a) → (∃ ys, C a = some (.lst ys) ∧ isFlat v ∧ flats ys eqDeep = true ∧ Q' (.bl (if neg then !inL v ys else inL v ys)) C) → wpAny (model X.prog X.w) X.A (compareOp (if neg then .NotIn else .In) v' u') (EP X pins σ Q) X.xe s := fun {a} ry h => by
    obtain ⟨ts, ht, h1, h2, h3⟩ := h
    obtain ⟨zs, hz, rz⟩ := R.lst ht
    cases of_ref ry
    exact sq r2 (.inl (SqL.of hz)) rz h1 h2 h3
  cases u with
  | tup ts => cases v <;> exact tpl ry h
  | cl ts => cases v <;> exact cls ry h
  | ref a => cases v <;> exact rf ry h
  | str j =>
    cases v with
    | str i =>
      cases of_str rx; cases of_str ry
      obtain ⟨t, rfl⟩ := r1
      obtain ⟨t', rfl⟩ := r2
      cases neg with
      | true => exact notIn_str ⟨.bl _, H, I, rfl, q _ _ H C R (Tx.refl H) rep_bl h⟩
      | false => exact in_str ⟨.bl _, H, I, rfl, q _ _ H C R (Tx.refl H) rep_bl h⟩
    | _ => exact False.elim h
  | non => cases v <;> exact False.elim h
  | bl _ => cases v <;> exact False.elim h
  | int _ => cases v <;> exact False.elim h⟩
theorem o_in (hu : X.A.units + 150 < cLine) : OpS X (compareOp .In) wIn := o_inG false hu
theorem o_ix : IxS X wIdx := ⟨_, ix_seq, fun F H C x y v u Q Q' R rx ry h q => by
  cases v <;> cases u <;> first | exact False.elim h | skip
  case tup.int xs i =>
    obtain ⟨a, ys, rfl, hq, r⟩ := of_tup rx
    cases of_int ry
    obtain ⟨v, hv, h⟩ := h
    obtain ⟨z, hz, rz⟩ := r.at hv
    exact .inr (.inl ⟨a, ys, i, z, rfl, rfl, hq, hz, q _ _ H C R (Tx.refl H) rz h⟩)
  case cl.int xs i =>
    obtain ⟨a, ys, rfl, hq, r⟩ := of_cl rx
    cases of_int ry
    obtain ⟨v, hv, h⟩ := h
    obtain ⟨z, hz, rz⟩ := r.at hv
    exact .inl ⟨a, ys, i, z, rfl, rfl, hq.sq, hz, q _ _ H C R (Tx.refl H) rz h⟩
  case ref.int a i =>
    cases of_ref rx
    cases of_int ry
    obtain ⟨xs, v, hx, hv, h⟩ := h
    obtain ⟨ys, hy, r⟩ := R.lst hx
    obtain ⟨z, hz, rz⟩ := r.at hv
    exact .inl ⟨a, ys, i, z, rfl, rfl, SqL.of hy, hz, q _ _ H C R (Tx.refl H) rz h⟩
  case str.int z i =>
    cases of_str rx
    cases of_int ry
    obtain ⟨hl, c, hc, h⟩ := h
    exact .inr (.inr ⟨z, i, c, rfl, rfl, hl, hc, q _ _ H C R (Tx.refl H) rep_str h⟩)⟩
/-! slices -/
def SlS (X : Cx) (w : T → Option Int → Option Int → Hw → WK → Prop) : Prop := ∃ r, SlR X r ∧ ∀ (F H : Hp) (C : Hw) (x : V) (v : T) (lo hi : Option Int) (Q : VK) (Q' : WK), Rl X.K F H C → Rep X.K H x v → w v lo hi C Q' → QE X.K F H Q Q' → r x lo hi H Q
/-! calls of builtins -/
theorem of_one {K : PySem.W.Frag} {H : Hp} {xs : List V} {v : T} (h : Reps K H xs [v]) : ∃ x, xs = [x] ∧ Rep K H x v := by
  obtain ⟨y, r, rfl, a, b⟩ := of_cons h
  cases of_nil b
  exact ⟨y, rfl, a⟩
theorem of_two {K : PySem.W.Frag} {H : Hp} {xs : List V} {v w : T} (h : Reps K H xs [v, w]) : ∃ x y, xs = [x, y] ∧ Rep K H x v ∧ Rep K H y w := by
  obtain ⟨y, r, rfl, a, b⟩ := of_cons h
  obtain ⟨z, rfl, c⟩ := of_one b
  exact ⟨y, z, rfl, a, c⟩
theorem b_len : CallS X (.builtin "len") bLen := ⟨_, call_len_seq.or call_len_str, fun F H C xs vs Q Q' R rs h q => by
  obtain ⟨v, rfl, h⟩ := h
  obtain ⟨x, rfl, rx⟩ := of_one rs
  cases v with
  | str z => cases of_str rx; exact .inr ⟨z, rfl, h.1, q _ _ H C R (Tx.refl H) rep_int h.2⟩
  | tup xs =>
    obtain ⟨a, ys, rfl, hq, r⟩ := of_tup rx
    exact .inl ⟨a, ys, rfl, .inr hq, by rw [r.length]; exact q _ _ H C R (Tx.refl H) rep_int h⟩
  | cl xs =>
    obtain ⟨a, ys, rfl, hq, r⟩ := of_cl rx
    exact .inl ⟨a, ys, rfl, .inl hq.sq, by rw [r.length]; exact q _ _ H C R (Tx.refl H) rep_int h⟩
  | ref a =>
    cases of_ref rx
    obtain ⟨xs, hx, h⟩ := h
    obtain ⟨ys, hy, r⟩ := R.lst hx
    exact .inl ⟨a, ys, rfl, .inl (SqL.of hy), by rw [r.length]; exact q _ _ H C R (Tx.refl H) rep_int h⟩
  | _ => exact False.elim h⟩
theorem b_max (hc : X.calm = true) : CallS X (.builtin "max") bMax := ⟨_, call_max2 hc, fun F H C xs vs Q Q' R rs h q => by
  obtain ⟨i, j, rfl, h⟩ := h
  obtain ⟨x, y, rfl, rx, ry⟩ := of_two rs
  cases of_int rx; cases of_int ry
  exact ⟨i, j, rfl, q _ _ H C R (Tx.refl H) rep_int h⟩⟩
theorem b_list : CallS X (.type "list") bList := ⟨_, call_list_of, fun F H C xs vs Q Q' R rs h q => by
  obtain ⟨v, rfl, h⟩ := h
  obtain ⟨x, rfl, rx⟩ := of_one rs
  cases v with
  | tup xs =>
    obtain ⟨a, ys, rfl, hq, r⟩ := of_tup rx
    exact ⟨a, ys, rfl, .inr hq, fun p hp => q _ _ _ _ (R.newL hp r) (Tx.new hp) rep_ref (h p (R.free hp))⟩
  | cl xs =>
    obtain ⟨a, ys, rfl, hq, r⟩ := of_cl rx
    exact ⟨a, ys, rfl, .inl hq.sq, fun p hp => q _ _ _ _ (R.newL hp r) (Tx.new hp) rep_ref (h p (R.free hp))⟩
  | ref a =>
    cases of_ref rx
    obtain ⟨xs, hx, h⟩ := h
    obtain ⟨ys, hy, r⟩ := R.lst hx
    exact ⟨a, ys, rfl, .inl (SqL.of hy), fun p hp => q _ _ _ _ (R.newL hp r) (Tx.new hp) rep_ref (h p (R.free hp))⟩
  | _ => exact False.elim h⟩
/-! methods of lists -/
theorem m_append : MtS X "list.append" mAppend := ⟨_, mt_append, fun F H C x v xs vs Q Q' R rx rs h q => by
  obtain ⟨a, ts, y, rfl, rfl, hx, hl, h⟩ := h
  cases of_ref rx
  obtain ⟨z, rfl, rz⟩ := of_one rs
  obtain ⟨ys, hy, r⟩ := R.lst hx
  obtain ⟨R', t⟩ := R.putL hx (r.snoc rz)
  exact ⟨a, ys, z, rfl, rfl, hy, by rw [r.length]; exact hl, q _ _ _ _ R' t rep_non h⟩⟩
theorem m_pop : MtS X "list.pop" mPop := ⟨_, mt_pop, fun F H C x v xs vs Q Q' R rx rs h q => by
  obtain ⟨a, ts, y, rfl, rfl, hx, hy, h⟩ := h
  cases of_ref rx
  cases of_nil rs
  obtain ⟨ys, hys, r⟩ := R.lst hx
  obtain ⟨z, hz, rz⟩ := r.get hy
  obtain ⟨R', t⟩ := R.putL hx r.dropLast
  exact ⟨a, ys, z, rfl, rfl, hys, by rw [r.length]; exact hz, q _ _ _ _ R' t (rz.tx t) h⟩⟩
theorem m_popAt : MtS X "list.pop" mPopAt := ⟨_, mt_popAt, fun F H C x v xs vs Q Q' R rx rs h q => by
  obtain ⟨a, ts, i, k, y, rfl, rfl, hx, h1, h2, hk, hy, h⟩ := h
  cases of_ref rx
  obtain ⟨z, rfl, rz⟩ := of_one rs
  cases of_int rz
  obtain ⟨ys, hys, r⟩ := R.lst hx
  obtain ⟨z, hz, rz⟩ := r.get hy
  obtain ⟨R', t⟩ := R.putL hx (r.erase k)
  exact ⟨a, ys, i, k, z, rfl, rfl, hys, h1, h2, by rw [r.length]; exact hk, hz, q _ _ _ _ R' t (rz.tx t) h⟩⟩
end
end WL
set_option Elab.async false
set_option linter.all false
set_option maxRecDepth 100000
set_option maxHeartbeats 4000000
namespace WL
open PySem PySem.Spec PyProof.Rows L2
/-! ### expressions -/
section
variable {X : Cx} {a b c e : Expr} {es : List Expr} {wa wb wc : WE} {wt wt' : WT} {wA : WA} {w w' : W2} {pos p apos cpos : Pos} {rest : List Expr}
theorem d_var (i : Nat) {x : Str} (hN : X.N[i]? = some x := by rfl) (hv : Vis X.env.scope x := by first | exact Or.inl rfl | exact Or.inr (Or.inl rfl) | exact Or.inr (Or.inr rfl)) (hd : (x == ("__debug__" : Str)) = false := by decide)
    (hcd : (x == ("__classdict__" : Str)) = false := by decide) : SdE X (.Name x pos) (eVar i) := ⟨_, pe_var hN hv hd hcd, s_var⟩
theorem d_int {i j} : SdE X (.Constant (.int i) j pos) (eC (.int i)) := ⟨_, pe_int, s_c fun _ => rep_int⟩
theorem d_str {i j} : SdE X (.Constant (.str i) j pos) (eC (.str i)) := ⟨_, pe_str, s_c fun _ => rep_str⟩
theorem d_bl {i j} : SdE X (.Constant (.bool i) j pos) (eC (.bl i)) := ⟨_, pe_bl, s_c fun _ => rep_bl⟩
theorem d_non {j} : SdE X (.Constant .none j pos) (eC .non) := ⟨_, pe_non, s_c fun _ => rep_non⟩
/-- a name of the module's top that stands for a value -/
def Glb (K : PySem.W.Frag) (mg : Str → Option Value) (x : Str) (v : T) : Prop := ∃ z u, mg x = some u ∧ RelV z u ∧ ∀ H, Rep K H z v
theorem d_gl {x : Str} {v : T} (hg : Gl X x) (h : Glb X.K X.mg x v) (hd : (x == ("__debug__" : Str)) = false := by decide) : SdE X (.Name x pos) (eC v) := by
  obtain ⟨z, u, h1, h2, h3⟩ := h
  exact ⟨_, pe_glob hg h1 h2 hd, s_c h3⟩
theorem d_op {op : Operator} (ho : OpS X (binaryOp op) w) (ha : SdE X a wa) (hb : SdE X b wb) : SdE X (.BinOp a op b pos) (eBin w wa wb) := by
  obtain ⟨r, h1, h2⟩ := ho
  obtain ⟨ta, p1, s1⟩ := ha
  obtain ⟨tb, p2, s2⟩ := hb
  exact ⟨_, pe_op h1 p1 p2, s_op s1 s2 h2⟩
theorem d_neg (ha : SdE X a wa) : SdE X (.UnaryOp .USub a pos) (eUn wNeg wa) := by
  obtain ⟨ta, p1, s1⟩ := ha
  exact ⟨_, pe_un un_neg p1, s_un s1 fun F H C x v Q Q' R rx h q => by
    cases v with
    | int i => cases of_int rx; exact ⟨i, rfl, q _ _ H C R (Tx.refl H) rep_int h⟩
    | _ => exact False.elim h⟩
theorem d_cmp {op : CmpOp} (ho : OpS X (compareOp op) w) (ha : SdE X a wa) (hb : SdE X b wb) (hm : behindInMarks op b = false) : SdE X (.Compare a [op] [b] pos) (eBin w wa wb) := by
  obtain ⟨r, h1, h2⟩ := ho
  obtain ⟨ta, p1, s1⟩ := ha
  obtain ⟨tb, p2, s2⟩ := hb
  exact ⟨_, pe_cmpR h1 p1 p2 hm, s_op s1 s2 h2⟩
theorem d_and (ha : SdE X a wa) (hb : SdE X (.BoolOp .And (b :: rest) pos) wb) : SdE X (.BoolOp .And (a :: b :: rest) pos) (eAnd wa wb) := by
  obtain ⟨ta, p1, s1⟩ := ha
  obtain ⟨tb, p2, s2⟩ := hb
  exact ⟨_, pe_and p1 p2, s_and s1 s2⟩
theorem d_or (ha : SdE X a wa) (hb : SdE X (.BoolOp .Or (b :: rest) pos) wb) : SdE X (.BoolOp .Or (a :: b :: rest) pos) (eOr wa wb) := by
  obtain ⟨ta, p1, s1⟩ := ha
  obtain ⟨tb, p2, s2⟩ := hb
  exact ⟨_, pe_or p1 p2, s_or s1 s2⟩
theorem d_one {op} (ha : SdE X a wa) : SdE X (.BoolOp op [a] pos) wa := by
  obtain ⟨ta, p1, s1⟩ := ha
  exact ⟨_, pe_one p1, s1⟩
theorem d_ife (hc : SdT X c wt) (ha : SdE X a wa) (hb : SdE X b wb) : SdE X (.IfExp c a b pos) (eIf wt wa wb) := by
  obtain ⟨ta, p1, s1⟩ := ha
  obtain ⟨tb, p2, s2⟩ := hb
  obtain ⟨tc, p3, s3⟩ := hc
  exact ⟨_, pe_ifExp p3 p1 p2, s_if s3 s1 s2⟩
theorem da_nil : SdA X [] aNil := ⟨_, pa_nil, s_nil⟩
theorem da_cons (ha : SdE X a wa) (hb : SdA X es wA) (hs : starEach (a :: es) X.env = (false, eval a X.env) :: starEach es X.env := by rfl) : SdA X (a :: es) (aCons wa wA) := by
  obtain ⟨ta, p1, s1⟩ := ha
  obtain ⟨tb, p2, s2⟩ := hb
  exact ⟨_, pa_cons p1 p2 hs, s_cons s1 s2⟩
theorem d_tup {x1} (h : SdA X es wA) : SdE X (.Tuple es x1 pos) (eTup wA) := by
  obtain ⟨t, p, s⟩ := h
  exact ⟨_, pe_tup p, s_tup s⟩
theorem d_lst (h : SdA X es wA) : SdE X (.List es pos) (eLst wA) := by
  obtain ⟨t, p, s⟩ := h
  exact ⟨_, pe_lst p, s_lst s⟩
theorem d_ix (ha : SdE X a wa) (hb : SdE X b wb) (hs : PlainIx b) : SdE X (.Subscript a b pos) (eBin wIdx wa wb) := by
  obtain ⟨r, h1, h2⟩ := o_ix (X := X)
  obtain ⟨ta, p1, s1⟩ := ha
  obtain ⟨tb, p2, s2⟩ := hb
  exact ⟨_, pe_ix h1 p1 p2 hs, s_op s1 s2 h2⟩
def SdO (X : Cx) (e : Option Expr) (w : Sw → Hw → (Option Int → Hw → Prop) → WX → Prop) : Prop := ∃ t, PO X e t ∧ ∀ (F H : Hp) (C : Hw) (σ : L2.St) (τ : Sw) (Q : Option Int → Hp → Prop) (Q' : Option Int → Hw → Prop) (χ : WX), Rl X.K F H C → RepS X.K H σ τ → w τ C Q' χ →
  (∀ o H' C', Rl X.K F H' C' → Tx H H' → Q' o C' → Q o H') → t σ H Q
/-- f(e, ..), f a function of Python's own -/
theorem d_bi {x : Str} {id : String} {r : List T → Hw → WK → Prop} (hc : CallS X (.builtin id) r) (hg : Gl X x) (hm : X.mg x = none) (hv : bootBuiltins x = some (.builtin id)) (ha : SdA X (e :: es) wA) (hn : x ≠ "__name__" := by decide) (hdb : (x == ("__debug__" : Str)) = false := by decide)
    (he : starEach (e :: es) X.env = (false, eval e X.env) :: starEach es X.env := by rfl) (hpl : (backTo pos (starEach es X.env)).any (·.1) = false := by rfl) : SdE X (.Call (.Name x p) (e :: es) [] pos) (eBi r wA) := by
  obtain ⟨r, h1, h2⟩ := hc
  obtain ⟨t, p1, s1⟩ := ha
  exact ⟨_, pe_callB h1 hg hm hv p1 hn hdb he hpl, s_bi h2 s1⟩
theorem d_ty {x : Str} {id : String} {r : List T → Hw → WK → Prop} (hc : CallS X (.type id) r) (hg : Gl X x) (hm : X.mg x = none) (hv : bootBuiltins x = some (.type id)) (ha : SdA X (e :: es) wA) (hn : x ≠ "__name__" := by decide) (hdb : (x == ("__debug__" : Str)) = false := by decide)
    (he : starEach (e :: es) X.env = (false, eval e X.env) :: starEach es X.env := by rfl) (hpl : (backTo pos (starEach es X.env)).any (·.1) = false := by rfl) : SdE X (.Call (.Name x p) (e :: es) [] pos) (eBi r wA) := by
  obtain ⟨r, h1, h2⟩ := hc
  obtain ⟨t, p1, s1⟩ := ha
  exact ⟨_, pe_callTy h1 hg hm hv p1 hn hdb he hpl, s_bi h2 s1⟩
/-- the receiver's class -/
def TyS (X : Cx) (Tn : String) (ty : T → Hw → Prop) : Prop := ∀ (F H : Hp) (C : Hw) (x : V) (v : T), Rl X.K F H C → Rep X.K H x v → ty v C → tyV X.K Tn x H
theorem ty_list : TyS X "list" tyL' := fun F H C x v R rx h => by
  obtain ⟨a, xs, rfl, hx⟩ := h
  cases of_ref rx
  obtain ⟨ys, hy, r⟩ := R.lst hx
  exact L2.tyL hy
theorem ty_str : TyS X "str" tyS := fun F H C x v R rx h => by
  obtain ⟨z, rfl⟩ := h
  cases of_str rx
  unfold tyV
  rfl
theorem d_mt {o : Expr} {wo : WE} {name : Str} {Tn id : String} {ty : T → Hw → Prop} {r : T → List T → Hw → WK → Prop} (pa : PlainAttrs Tn) (slot : Slot Tn name id) (hty : typeOf (.builtin id) = pure (.type "method_descriptor")) (hT : TyS X Tn ty) (hm : MtS X id r) (ho : SdE X o wo) (ha : SdA X (e :: es) wA)
    (hbase : attributeBase o name X.env (eval o X.env) = eval o X.env := by rfl)
    (hfew : ((backTo cpos (starEach (e :: es) X.env)).all (fun x => !x.1) && (backToKw cpos (keywordEach [] X.env)).all (fun x => x.1.isSome)
      && decide ((e :: es).length + ([] : List Keyword).length + (if ([] : List Keyword).isEmpty then 0 else 1) < 30)) = true := by rfl)
    (hline : (apos.endLine == cpos.line) = true := by rfl) (hs : starEach (e :: es) X.env = (false, eval e X.env) :: starEach es X.env := by rfl) (hplain : (backTo cpos (starEach es X.env)).any (·.1) = false := by rfl) :
    SdE X (.Call (.Attribute o name apos) (e :: es) [] cpos) (eMt ty r wo wA) := by
  obtain ⟨rr, h1, h2⟩ := hm
  obtain ⟨to, p1, s1⟩ := ho
  obtain ⟨ta, p2, s2⟩ := ha
  refine ⟨_, pe_bm pa slot hty h1 p1 p2 hbase hfew hline hs hplain, fun F H C σ τ Q Q' χ R S h q => ?_⟩
  refine s1 F H C σ τ _ _ χ R S h fun x v H1 C1 R1 t1 rx h1' => ⟨hT F H1 C1 x v R1 rx h1'.1, ?_⟩
  refine s2 F H1 C1 σ τ _ _ χ R1 (S.tx t1) h1'.2 fun xs vs H2 C2 R2 t2 rs h2' => ?_
  exact h2 F H2 C2 x v xs vs Q Q' R2 (rx.tx t2) rs h2' (QE.at q (t1.trans t2))
theorem d_mt0 {o : Expr} {wo : WE} {name : Str} {Tn id : String} {ty : T → Hw → Prop} {r : T → List T → Hw → WK → Prop} (pa : PlainAttrs Tn) (slot : Slot Tn name id) (hty : typeOf (.builtin id) = pure (.type "method_descriptor")) (hT : TyS X Tn ty) (hm : MtS X id r) (ho : SdE X o wo)
    (hbase : attributeBase o name X.env (eval o X.env) = eval o X.env := by rfl) (hline : (apos.endLine == cpos.line) = true := by rfl) :
    SdE X (.Call (.Attribute o name apos) [] [] cpos) (eMt ty r wo aNil) := by
  obtain ⟨rr, h1, h2⟩ := hm
  obtain ⟨to, p1, s1⟩ := ho
  refine ⟨_, pe_bm0 pa slot hty h1 p1 hbase hline, fun F H C σ τ Q Q' χ R S h q => ?_⟩
  refine s1 F H C σ τ _ _ χ R S h fun x v H1 C1 R1 t1 rx h1' => ⟨hT F H1 C1 x v R1 rx h1'.1, ?_⟩
  exact h2 F H1 C1 x v [] [] Q Q' R1 rx reps_nil h1'.2 (QE.at q t1)
/-! isinstance -/
theorem kit_cls {K : PySem.W.Frag} {n c : String} (hn : n ∈ ["NoneType", "bool", "int", "str", "tuple", "list", "dict"]) (hc : c ∈ ["bool", "int", "str", "tuple", "list", "dict"]) : PySem.W.kitOne K (.type n) (.type c) = some (isCls n c) := by
  simp only [List.mem_cons, List.not_mem_nil, or_false] at hn hc
  rcases hn with rfl | rfl | rfl | rfl | rfl | rfl | rfl <;> rcases hc with rfl | rfl | rfl | rfl | rfl | rfl <;> rfl
theorem tyN_mem {v : T} {C : Hw} {n : String} (h : tyN v C n) : n ∈ ["NoneType", "bool", "int", "str", "tuple", "list", "dict"] := by
  cases v with
  | non => cases h; decide
  | bl _ => cases h; decide
  | int _ => cases h; decide
  | str _ => cases h; decide
  | tup _ => cases h; decide
  | cl _ => cases h; decide
  | ref _ => rcases h with ⟨rfl, _⟩ | ⟨rfl, _⟩ <;> decide
theorem isi_of {pins : List (Addr × Obj)} {σ : L2.St} {F H : Hp} {C : Hw} {s : Shared} {x : V} {v : T} {u : Value} {n c : String} {Q : Value → Shared → Prop} (I : Inv X pins σ H s) (R : Rl X.K F H C) (rx : Rep X.K H x v) (ru : RelV x u) (hn : tyN v C n) (hc : c ∈ ["bool", "int", "str", "tuple", "list", "dict"])
    (h : ∀ tk, Q (.bool (isCls n c)) { s with toks := tk }) : wpAny (model X.prog X.w) X.A (call (.builtin "isinstance") [u, .type c]) Q X.xe s := by
  have e := kit_cls (K := X.K) (tyN_mem hn) hc
  cases v with
  | non => cases hn; cases of_non rx; exact isinst_ok I ru .non e h
  | bl b => cases hn; cases of_bl rx; exact isinst_ok I ru (.bl b) e h
  | int b => cases hn; cases of_int rx; exact isinst_ok I ru (.int b) e h
  | str b => cases hn; cases of_str rx; exact isinst_ok I ru (.str b) e h
  | tup xs =>
    cases hn
    obtain ⟨a, ys, rfl, hq, r⟩ := of_tup rx
    cases ru
    obtain ⟨its, _, ⟨o, h1, h2, _⟩, _⟩ := I.tuple hq
    exact PySem.W.kia_one PySem.W.kitx_tuple I.kIn ⟨o, h1, h2⟩ e (fun z => nomatch z) h
  | cl xs =>
    cases hn
    obtain ⟨a, ys, rfl, hq, r⟩ := of_cl rx
    cases ru
    obtain ⟨its, _, p, _⟩ := I.list hq.sq
    obtain ⟨o, h1, h2, _⟩ := p.isList
    exact PySem.W.kia_one PySem.W.kitx_list I.kIn ⟨o, h1, h2⟩ e (fun z => nomatch z) h
  | ref a =>
    cases of_ref rx
    rcases hn with ⟨rfl, xs, hx⟩ | ⟨rfl, kvs, hx⟩
    · obtain ⟨ys, hy, r⟩ := R.lst hx
      exact isinst_ok I ru (.lst hy) e h
    · obtain ⟨ks, hy, r⟩ := R.obj a _ hx
      exact isinst_ok I ru (.dK hy) e h
theorem d_isi {x : Str} {q2 : Pos} {c : String} (hg : Gl X "isinstance") (hm : X.mg "isinstance" = none) (hgx : Gl X x) (hmx : X.mg x = none) (hvx : bootBuiltins x = some (.type c)) (hc : c ∈ ["bool", "int", "str", "tuple", "list", "dict"]) (ha : SdE X a wa)
    (hnx : x ≠ "__name__" := by decide) (hdx : (x == ("__debug__" : Str)) = false := by decide) (he : starEach [a, .Name x q2] X.env = [(false, eval a X.env), (false, eval (.Name x q2) X.env)] := by rfl) : SdE X (.Call (.Name "isinstance" p) [a, .Name x q2] [] pos) (eIsi wa c) := by
  obtain ⟨ta, p1, s1⟩ := ha
  let r : List V → Hp → VK → Prop := fun xs H Q => ∃ y F C v n, xs = [y, .ty c] ∧ Rl X.K F H C ∧ Rep X.K H y v ∧ tyN v C n ∧ Q (.bl (isCls n c)) H
  have hr : CallR X (.builtin "isinstance") r := by
    intro pins s σ H xs us Q I rs h
    obtain ⟨y, F, C, v, n, rfl, R, ry, hn, q⟩ := h
    obtain ⟨u, u2, rfl, ru, ru2⟩ := rs.two
    cases ru2
    exact isi_of I R ry ru hn hc fun tk => ⟨.bl _, H, I.tok tk, rfl, q⟩
  refine ⟨_, pe_callB hr hg hm bt_isinstance (pa_cons p1 (pa_cons (pe_bltn (v := .ty c) hgx hmx hvx rfl hnx hdx) pa_nil (by rw [show starEach [Expr.Name x q2] X.env = [(false, eval (.Name x q2) X.env)] from rfl]; rfl)) ?_) (by decide) (by decide) ?_ ?_, ?_⟩
  · rw [he]; rfl
  · rw [he]; rfl
  · rfl
  · intro F H C σ τ Q Q' χ R S h q
    refine s1 F H C σ τ _ _ χ R S h fun y v H1 C1 R1 t1 ry h1 => ?_
    obtain ⟨n, hn, h1⟩ := h1
    exact ⟨y, F, C1, v, n, rfl, R1, ry, hn, q _ _ H1 C1 R1 t1 rep_bl h1⟩
/-! tests -/
theorem dt_cmp {op : CmpOp} (ho : OpS X (compareOp op) w) (ha : SdE X a wa) (hb : SdE X b wb) (hm : behindInMarks op b = false) : SdT X (.Compare a [op] [b] pos) (tBl (eBin w wa wb)) := by
  obtain ⟨r, h1, h2⟩ := ho
  obtain ⟨ta, p1, s1⟩ := ha
  obtain ⟨tb, p2, s2⟩ := hb
  exact ⟨_, pt_cmpR h1 p1 p2 hm, s_bl (s_op s1 s2 h2)⟩
theorem dt_tru (ha : SdE X a wa) (he : ∀ whole, isTrue a X.env whole = (do let v ← whole; standAt a.pos; holding [v] (truthy v)) := by intro _; rfl) : SdT X a (tTru wa) := by
  obtain ⟨ta, p1, s1⟩ := ha
  exact ⟨_, pt_truth p1 he, s_tru s1⟩
theorem dw_and1 (ha : SdT X a wt) : SdW X (.BoolOp .And [a] pos) wt := by
  obtain ⟨t, p, s⟩ := ha
  exact ⟨_, pw_and1 p, s⟩
theorem dw_or1 (ha : SdT X a wt) : SdW X (.BoolOp .Or [a] pos) wt := by
  obtain ⟨t, p, s⟩ := ha
  exact ⟨_, pw_or1 p, s⟩
theorem dw_and (ha : SdT X a wt) (hb : SdW X (.BoolOp .And (b :: rest) pos) wt') : SdW X (.BoolOp .And (a :: b :: rest) pos) (tAn wt wt') := by
  obtain ⟨t, p, s⟩ := ha
  obtain ⟨t', p', s'⟩ := hb
  exact ⟨_, pw_and p p', s_an s s'⟩
theorem dw_or (ha : SdT X a wt) (hb : SdW X (.BoolOp .Or (b :: rest) pos) wt') : SdW X (.BoolOp .Or (a :: b :: rest) pos) (tOr' wt wt') := by
  obtain ⟨t, p, s⟩ := ha
  obtain ⟨t', p', s'⟩ := hb
  exact ⟨_, pw_or p p', s_or' s s'⟩
theorem dt_w (h : SdW X a wt) : SdT X a wt := by
  obtain ⟨t, p, s⟩ := h
  exact ⟨_, p.pt, s⟩
theorem dt_not (ha : SdT X a wt) : SdT X (.UnaryOp .Not a pos) (tNo wt) := by
  obtain ⟨t, p, s⟩ := ha
  exact ⟨_, pt_not p, s_no s⟩
end
/-! ### statements -/
structure DRel (K : PySem.W.Frag) (F H : Hp) (D : Ends) (D' : We) : Prop where
  nx : ∀ σ τ H' C', Rl K F H' C' → Tx H H' → RepS K H' σ τ → D'.nx τ C' → D.nx σ H'
  rt : ∀ x v H' C', Rl K F H' C' → Tx H H' → Rep K H' x v → D'.rt v C' → D.rt x H'
  bk : ∀ σ τ H' C', Rl K F H' C' → Tx H H' → RepS K H' σ τ → D'.bk τ C' → D.bk σ H'
  ct : ∀ σ τ H' C', Rl K F H' C' → Tx H H' → RepS K H' σ τ → D'.ct τ C' → D.ct σ H'
theorem DRel.at {K : PySem.W.Frag} {F H H1 : Hp} {D : Ends} {D' : We} (h : DRel K F H D D') (t : Tx H H1) : DRel K F H1 D D' :=
  ⟨fun σ τ H' C' R t' => h.nx σ τ H' C' R (t.trans t'), fun x v H' C' R t' => h.rt x v H' C' R (t.trans t'), fun σ τ H' C' R t' => h.bk σ τ H' C' R (t.trans t'), fun σ τ H' C' R t' => h.ct σ τ H' C' R (t.trans t')⟩
def SimS (K : PySem.W.Frag) (t : TS) (w : WS) : Prop := ∀ (F H : Hp) (C : Hw) (σ : L2.St) (τ : Sw) (D : Ends) (D' : We), Rl K F H C → RepS K H σ τ → w D' τ C → DRel K F H D D' → t D σ H
def SimG (K : PySem.W.Frag) (t : TG) (w : WG) : Prop := ∀ (F H : Hp) (C : Hw) (σ : L2.St) (τ : Sw) (x : V) (v : T) (Q : L2.St → Hp → Prop) (Q' : Sw → Hw → Prop) (χ : WX), Rl K F H C → RepS K H σ τ → Rep K H x v → w v τ C Q' χ →
  (∀ σ' τ' H' C', Rl K F H' C' → Tx H H' → RepS K H' σ' τ' → Q' τ' C' → Q σ' H') → t x σ H Q
def SimGs (K : PySem.W.Frag) (t : TGs) (w : WGs) : Prop := ∀ (F H : Hp) (C : Hw) (σ : L2.St) (τ : Sw) (x : List V) (v : List T) (Q : L2.St → Hp → Prop) (Q' : Sw → Hw → Prop) (χ : WX), Rl K F H C → RepS K H σ τ → Reps K H x v → w v τ C Q' χ →
  (∀ σ' τ' H' C', Rl K F H' C' → Tx H H' → RepS K H' σ' τ' → Q' τ' C' → Q σ' H') → t x σ H Q
def SdS (X : Cx) (st : Stmt) (w : WS) : Prop := ∃ t, PS X st t ∧ SimS X.K t w
def SdB (X : Cx) (st : List Stmt) (w : WS) : Prop := ∃ t, PSs X st t ∧ SimS X.K t w
/-- a target: also what a comprehension asks of it -/
def SdG (X : Cx) (e : Expr) (w : WG) : Prop := ∃ t, PG X e t ∧ SimG X.K t w
def SdGs (X : Cx) (e : List Expr) (w : WGs) : Prop := ∃ t, PGs X e t ∧ SimGs X.K t w
section
variable {X : Cx} {st : Stmt} {rest : List Stmt} {w u : WS} {e tg : Expr} {we : WE} {wt : WT} {g : WG} {gs : WGs} {pos : Pos}
theorem sg_name {K : PySem.W.Frag} {i : Nat} : SimG K (gName i) (gNm i) := fun F H C σ τ x v Q Q' χ R S r h q => q _ _ H C R (Tx.refl H) (S.set r) h
/-- how many a row of targets takes -/
def GsLen (n : Nat) (gs : WGs) : Prop := ∀ vs τ C Q χ, gs vs τ C Q χ → vs.length = n
def GMono (g : WG) : Prop := ∀ v τ C Q Q' χ, (∀ τ' C', Q τ' C' → Q' τ' C') → g v τ C Q χ → g v τ C Q' χ
theorem dg_name {i : Nat} {x : Str} (hN : X.N.Nodup) (hi : X.N[i]? = some x := by rfl) (hx : Loc X.env.scope x := by first | exact Or.inl rfl | exact Or.inr rfl) (hf : X.fn x = true ∨ X.env.scope.names.lookup x = some .local := by first | exact .inl rfl | exact .inr rfl | assumption) : SdG X (.Name x pos) (gNm i) := ⟨_, pg_name hN hi hx hf, sg_name⟩
theorem db_nil : SdB X [] sPass := ⟨_, pss_nil, fun F H C σ τ D D' R S h d => d.nx σ τ H C R (Tx.refl H) S h⟩
theorem db_one (a : SdS X st w) : SdB X [st] w := by
  obtain ⟨t, p, s⟩ := a
  exact ⟨_, pss_one p, s⟩
theorem db_cons (a : SdS X st w) (b : SdB X rest u) : SdB X (st :: rest) (sSeq w u) := by
  obtain ⟨t, p, s⟩ := a
  obtain ⟨t', p', s'⟩ := b
  refine ⟨_, pss_cons p p', fun F H C σ τ D D' R S h d => ?_⟩
  exact s F H C σ τ _ _ R S h ⟨fun σ' τ' H' C' R' t' S' h' => s' F H' C' σ' τ' D D' R' S' h' (d.at t'), d.rt, d.bk, d.ct⟩
theorem ds_expr (a : SdE X e we) (hs : swapsWith e none pos.line X.env = pure false := by rfl) : SdS X (.Expr e pos) (sExpr we) := by
  obtain ⟨t, p, s⟩ := a
  refine ⟨_, ps_expr p hs, fun F H C σ τ D D' R S h d => ?_⟩
  exact s F H C σ τ _ _ D'.xc R S h fun x v H1 C1 R1 t1 rx h1 => d.nx σ τ H1 C1 R1 t1 (S.tx t1) h1
theorem ds_ret (a : SdE X e we) : SdS X (.Return (some e) pos) (sRet we) := by
  obtain ⟨t, p, s⟩ := a
  refine ⟨_, ps_ret p, fun F H C σ τ D D' R S h d => ?_⟩
  exact s F H C σ τ _ _ D'.xc R S h d.rt
theorem ds_retN : SdS X (.Return none pos) sRetN := ⟨_, ps_retN, fun F H C σ τ D D' R S h d => d.rt .non .non H C R (Tx.refl H) rep_non h⟩
theorem ds_if {c : Expr} {a b : List Stmt} {wa wb : WS} (hc : SdT X c wt) (ha : SdB X a wa) (hb : SdB X b wb) : SdS X (.If c a b pos) (sIf wt wa wb) := by
  obtain ⟨t, p, s⟩ := hc
  obtain ⟨t1, p1, s1⟩ := ha
  obtain ⟨t2, p2, s2⟩ := hb
  refine ⟨_, ps_if p p1 p2, fun F H C σ τ D D' R S h d => ?_⟩
  refine s F H C σ τ _ _ D'.xc R S h fun k H1 C1 R1 t1 h1 => ?_
  cases k with
  | true => exact s1 F H1 C1 σ τ D D' R1 (S.tx t1) h1 (d.at t1)
  | false => exact s2 F H1 C1 σ τ D D' R1 (S.tx t1) h1 (d.at t1)
theorem ds_set {i : Nat} {x : Str} {pos' : Pos} (hN : X.N.Nodup) (he : SdE X e we) (hi : X.N[i]? = some x := by rfl) (hx : Loc X.env.scope x := by first | exact Or.inl rfl | exact Or.inr rfl) (hs : swapsWith e (some (.Name x pos')) pos.line X.env = pure false := by rfl)
    (hf : X.fn x = true ∨ X.env.scope.names.lookup x = some .local := by first | exact .inl rfl | exact .inr rfl | assumption) : SdS X (.Assign [.Name x pos'] e pos) (sAsg we (gNm i)) := by
  obtain ⟨t, p, s⟩ := he
  refine ⟨_, ps_set hN hi hx p hs hf, fun F H C σ τ D D' R S h d => ?_⟩
  refine s F H C σ τ _ _ D'.xc R S h fun x v H1 C1 R1 t1 rx h1 => ?_
  exact sg_name F H1 C1 σ τ x v _ _ D'.xc R1 (S.tx t1) rx h1 fun σ' τ' H' C' R' t' => d.nx σ' τ' H' C' R' (t1.trans t')
end
/-! ### what is walked -/
/-- the iterator gives these items, as long as ok holds -/
def ItRel (K : PySem.W.Frag) (F H0 : Hp) (J : It) (xs : List T) (ok : Hw → Prop) : Prop := ∀ (i : Nat) (H : Hp) (C : Hw), Rl K F H C → Tx H0 H → ok C →
  (i < xs.length → J.go i H ∧ ∀ x H', J.yld i H x H' → ∃ v, xs[i]? = some v ∧ Rl K F H' C ∧ Tx H H' ∧ Rep K H' x v) ∧ (i = xs.length → J.stop i H)
def SimI (K : PySem.W.Frag) (wi : TI) (w : WI) : Prop := ∀ (F H : Hp) (C : Hw) (σ : L2.St) (τ : Sw) (R : It → Hp → Prop) (R' : List T → (Hw → Prop) → Hw → Prop) (χ : WX), Rl K F H C → RepS K H σ τ → w τ C R' χ →
  (∀ J H' xs ok C', Rl K F H' C' → Tx H H' → (∀ F', ItRel K F' H' J xs ok) → R' xs ok C' → R J H') → wi σ H R
def SdI (X : Cx) (tg e : Expr) (w : WI) : Prop := ∃ t, PI X tg e t ∧ SimI X.K t w
section
variable {X : Cx} {tg e a b : Expr} {we : WE} {wA : WA} {pos p : Pos}
theorem it_list {K : PySem.W.Frag} {F H0 : Hp} {l : Addr} {xs : List T} : ItRel K F H0 (Itl K l) xs (fun C => C l = some (.lst xs)) := fun i H C R t ok => by
  obtain ⟨ys, hy, r⟩ := R.lst ok
  refine ⟨fun hi => ?_, fun hi => ⟨ys, SqL.of hy, by rw [r.length]; omega⟩⟩
  have ev : xs[i]? = some xs[i] := by simp [hi]
  obtain ⟨y, ey, ry⟩ := r.get ev
  refine ⟨⟨ys, y, SqL.of hy, ey⟩, fun x H' h => ?_⟩
  obtain ⟨rfl, h⟩ := h
  have e2 := h ys (SqL.of hy)
  rw [ey] at e2; cases e2
  exact ⟨_, ev, R, Tx.refl _, ry⟩
theorem it_cl {K : PySem.W.Frag} {F H0 : Hp} {l : Addr} {ys : List V} {xs : List T} (h0 : SqC K H0 l ys) (r0 : Reps K H0 ys xs) : ItRel K F H0 (Itl K l) xs (fun _ => True) := fun i H C R t ok => by
  have hy := (t.sqc h0).sq
  have r := r0.tx t
  refine ⟨fun hi => ?_, fun hi => ⟨ys, hy, by rw [r.length]; omega⟩⟩
  have ev : xs[i]? = some xs[i] := by simp [hi]
  obtain ⟨y, ey, ry⟩ := r.get ev
  refine ⟨⟨ys, y, hy, ey⟩, fun x H' h => ?_⟩
  obtain ⟨rfl, h⟩ := h
  have e2 := h ys hy
  rw [ey] at e2; cases e2
  exact ⟨_, ev, R, Tx.refl _, ry⟩
theorem it_tup {K : PySem.W.Frag} {F H0 : Hp} {l : Addr} {ys : List V} {xs : List T} (h0 : SqT K H0 l ys) (r0 : Reps K H0 ys xs) : ItRel K F H0 (Itt K l) xs (fun _ => True) := fun i H C R t ok => by
  have hy := t.sqt h0
  have r := r0.tx t
  refine ⟨fun hi => ?_, fun hi => ⟨ys, hy, by rw [r.length]; omega⟩⟩
  have ev : xs[i]? = some xs[i] := by simp [hi]
  obtain ⟨y, ey, ry⟩ := r.get ev
  refine ⟨⟨ys, y, hy, ey⟩, fun x H' h => ?_⟩
  obtain ⟨rfl, h⟩ := h
  have e2 := h ys hy
  rw [ey] at e2; cases e2
  exact ⟨_, ev, R, Tx.refl _, ry⟩
theorem it_str {K : PySem.W.Frag} {F H0 : Hp} {z : Str} : ItRel K F H0 (Its z) (z.cps.toList.map fun c => T.str ⟨#[c]⟩) (fun _ => True) := fun i H C R t ok => by
  refine ⟨fun hi => ⟨by show i < z.cps.size; simpa using hi, fun x H' h => ?_⟩, fun hi => by show i = z.cps.size; simpa using hi⟩
  obtain ⟨rfl, c, hc, rfl⟩ := h
  refine ⟨.str ⟨#[c]⟩, ?_, R, Tx.refl _, rep_str⟩
  rw [List.getElem?_map, Array.getElem?_toList, hc]; rfl
theorem it_rng {K : PySem.W.Frag} {F H0 : Hp} {lo : Int} {n : Nat} : ItRel K F H0 (Itr lo n) (rng lo n) (fun _ => True) := fun i H C R t ok => by
  have hl : (rng lo n).length = n := by unfold rng; simp
  refine ⟨fun hi => ⟨by rw [hl] at hi; exact hi, fun x H' h => ?_⟩, fun hi => by show n ≤ i; omega⟩
  obtain ⟨rfl, rfl⟩ := h
  refine ⟨.int (lo + i), ?_, R, Tx.refl _, rep_int⟩
  unfold rng
  rw [hl] at hi
  rw [List.getElem?_map, List.getElem?_range hi]; rfl
theorem str_iter {pins : List (Addr × Obj)} {σ : L2.St} {H1 : Hp} {s1 : Shared} {R : It → Hp → Prop} {z : Str} {v : Value} (I1 : Inv X pins σ H1 s1) (r1 : RelV (.str z) v) (q : R (Its z) H1) : wpAny (model X.prog X.w) X.A (pyIter v) (PIE X pins σ tg R) X.xe s1 := by
  obtain ⟨t, rfl⟩ := r1
  have fin : ∀ b ∈ [s1.heap.objs.size], FpOk X pins H1 b := fun b hb => by
    have e : b = s1.heap.objs.size := by simpa using hb
    subst e
    exact I1.fpOk (Nat.le_refl _) I1.fresh
  cases ha : z.cps.all (· < 128)
  · refine wpAny_pyIter_wide ha ⟨s1.heap.objs.size, [s1.heap.objs.size], _, _, H1, rfl, I1.kept (t' := s1.toks) fun b o e => Heap.get?_push_of_some _ e, turn_walks (ty := "str_iterator") (by decide) (fun A hA => Walks.strWide hA _ z t) fun _ _ _ _ _ st h => wpAny_pyIter_striter_wide st h, ⟨_, Heap.get?_push_size _ rfl, rfl, rfl⟩, fin, q⟩
  · refine wpAny_pyIter_ascii ha ⟨s1.heap.objs.size, [s1.heap.objs.size], _, _, H1, rfl, I1.kept (t' := s1.toks) fun b o e => Heap.get?_push_of_some _ e, turn_walks (ty := "str_ascii_iterator") (by decide) (fun A hA => Walks.strAscii hA _ z t) fun _ _ _ _ _ st h => wpAny_pyIter_striter_ascii st h, ⟨_, Heap.get?_push_size _ rfl, rfl, rfl⟩, fin, q⟩
/-- a list, a tuple or a text, whichever it is -/
def iDyn (K : PySem.W.Frag) (tl : TE) : TI := fun σ H R => tl σ H fun x H1 => (∃ a, x = .ref a ∧ (∃ xs, SqL K H1 a xs) ∧ R (Itl K a) H1) ∨ (∃ a, x = .ref a ∧ (∃ xs, SqT K H1 a xs) ∧ R (Itt K a) H1) ∨ ∃ z, x = .str z ∧ R (Its z) H1
theorem pi_dyn {tl : TE} (hl : PE X e tl) : PI X tg e (iDyn X.K tl) := by
  intro pins s σ H R I h
  refine thn (hl pins s σ H _ I h) fun v s1 ⟨x, H1, I1, r1, q1⟩ => ?_
  rcases q1 with ⟨a, rfl, ⟨xs, hq⟩, q⟩ | ⟨a, rfl, ⟨xs, hq⟩, q⟩ | ⟨z, rfl, q⟩
  · cases r1
    obtain ⟨its, rv, p, hz⟩ := I1.list hq
    refine wpAny_pyIter_list p.isList ?_
    refine ⟨s1.heap.objs.size, [s1.heap.objs.size], _, _, H1, rfl, I1.kept (t' := s1.toks) fun b o e => Heap.get?_push_of_some _ e, turn_list a _, ⟨_, Heap.get?_push_size _ rfl, rfl, rfl⟩, fun b hb => ?_, q⟩
    have e : b = s1.heap.objs.size := by simpa using hb
    subst e
    exact I1.fpOk (Nat.le_refl _) (I1.hok.fresh (Nat.le_refl _))
  · cases r1
    obtain ⟨its, rv, p, hz⟩ := I1.tuple hq
    refine wpAny_pyIter_tuple (show s1.heap.IsTuple a its.toArray from p) ?_
    refine ⟨s1.heap.objs.size, [s1.heap.objs.size], _, _, H1, rfl, I1.kept (t' := s1.toks) fun b o e => Heap.get?_push_of_some _ e, turn_tuple a _, ⟨_, Heap.get?_push_size _ rfl, rfl, rfl⟩, fun b hb => ?_, q⟩
    have e : b = s1.heap.objs.size := by simpa using hb
    subst e
    exact I1.fpOk (Nat.le_refl _) (I1.hok.fresh (Nat.le_refl _))
  · exact str_iter I1 r1 q
theorem di_seq (h : SdE X e we) : SdI X tg e (iSeq we) := by
  obtain ⟨t, p, s⟩ := h
  refine ⟨_, pi_dyn p, fun F H C σ τ R R' χ Rr S h q => ?_⟩
  refine s F H C σ τ _ _ χ Rr S h fun x v H1 C1 R1 t1 rx h1 => ?_
  cases v with
  | tup xs =>
    obtain ⟨a, ys, rfl, hq, r⟩ := of_tup rx
    exact .inr (.inl ⟨a, rfl, ⟨ys, hq⟩, q _ H1 xs _ C1 R1 t1 (fun _ => it_tup hq r) h1⟩)
  | cl xs =>
    obtain ⟨a, ys, rfl, hq, r⟩ := of_cl rx
    exact .inl ⟨a, rfl, ⟨ys, hq.sq⟩, q _ H1 xs _ C1 R1 t1 (fun _ => it_cl hq r) h1⟩
  | str z => cases of_str rx; exact .inr (.inr ⟨z, rfl, q _ H1 _ _ C1 R1 t1 (fun _ => it_str) h1⟩)
  | ref a =>
    cases of_ref rx
    obtain ⟨xs, hx, h1⟩ := h1
    obtain ⟨ys, hy, r⟩ := R1.lst hx
    exact .inl ⟨a, rfl, ⟨ys, SqL.of hy⟩, q _ H1 xs _ C1 R1 t1 (fun _ => it_list) h1⟩
  | _ => exact False.elim h1
theorem di_r1 (hg : Gl X "range") (hm : X.mg "range" = none) (ha : SdA X [a] wA) (hs : starEach [a] X.env = [(false, eval a X.env)] := by rfl) : SdI X tg (.Call (.Name "range" p) [a] [] pos) (iR1 wA) := by
  obtain ⟨t, p1, s⟩ := ha
  refine ⟨_, pi_range1 hg hm p1 hs, fun F H C σ τ R R' χ Rr S h q => ?_⟩
  refine s F H C σ τ _ _ χ Rr S h fun xs vs H1 C1 R1 t1 rs h1 => ?_
  obtain ⟨j, rfl, h2, h3, h1⟩ := h1
  obtain ⟨x, rfl, rx⟩ := of_one rs
  cases of_int rx
  exact ⟨j, rfl, h2, h3, q _ H1 _ _ C1 R1 t1 (fun _ => it_rng) h1⟩
end
/-! ### for -/
theorem sim_for {K : PySem.W.Frag} {wi : TI} {g : TG} {tb : TS} {i : WI} {g' : WG} {b : WS} (hi : SimI K wi i) (hg : SimG K g g') (hb : SimS K tb b) : SimS K (tFor wi g tb) (sFor i g' b) := fun F H C σ τ D D' R S h d => by
  refine hi F H C σ τ _ _ D'.xc R S h fun J H1 xs ok C1 R1 t1 it h1 => ?_
  have it1 := it F
  refine ⟨fun i m σ H => m = xs.length - i ∧ i ≤ xs.length ∧ ∃ τ C, Rl K F H C ∧ Tx H1 H ∧ RepS K H σ τ ∧ forW g' b ok D' (xs.drop i) τ C, ⟨xs.length, by simp, Nat.zero_le _, τ, C1, R1, Tx.refl _, S.tx t1, h1⟩, ?_⟩
  rintro i m σ2 H2 ⟨rfl, hle, τ2, C2, R2, t2, S2, h2⟩
  by_cases hlt : i < xs.length
  · right
    have ed : xs.drop i = xs[i] :: xs.drop (i + 1) := List.drop_eq_getElem_cons hlt
    rw [ed] at h2
    obtain ⟨hok, h2⟩ := h2
    obtain ⟨hgo, hy⟩ := (it1 i H2 C2 R2 t2 hok).1 hlt
    refine ⟨hgo, fun σ' H' => ∃ τ' C', Rl K F H' C' ∧ Tx H1 H' ∧ RepS K H' σ' τ' ∧ forW g' b ok D' (xs.drop (i + 1)) τ' C', fun σ' H' q => ⟨xs.length - (i + 1), by omega, rfl, hlt, q⟩, fun x H' hx => ?_⟩
    obtain ⟨v, ev, R3, t3, rv⟩ := hy x H' hx
    have : v = xs[i] := by
      have e : xs[i]? = some xs[i] := by simp [hlt]
      rw [e] at ev; exact (Option.some.inj ev).symm
    subst this
    refine hg F H' C2 σ2 τ2 x _ _ _ D'.xc R3 (S2.tx t3) rv h2 fun σ4 τ4 H4 C4 R4 t4 S4 h4 => ?_
    have tt : Tx H1 H4 := (t2.trans t3).trans t4
    exact hb F H4 C4 σ4 τ4 _ _ R4 S4 h4 ⟨fun σ5 τ5 H5 C5 R5 t5 S5 h5 => ⟨τ5, C5, R5, tt.trans t5, S5, h5⟩, fun x v H5 C5 R5 t5 => d.rt x v H5 C5 R5 ((t1.trans tt).trans t5), fun σ5 τ5 H5 C5 R5 t5 S5 h5 => d.nx σ5 τ5 H5 C5 R5 ((t1.trans tt).trans t5) S5 h5,
      fun σ5 τ5 H5 C5 R5 t5 S5 h5 => ⟨τ5, C5, R5, tt.trans t5, S5, h5⟩⟩
  · left
    have e : i = xs.length := by omega
    subst e
    rw [List.drop_length] at h2
    obtain ⟨hok, h2⟩ := h2
    exact ⟨(it1 _ H2 C2 R2 t2 hok).2 rfl, d.nx σ2 τ2 H2 C2 R2 (t1.trans t2) S2 h2⟩
theorem ds_for {X : Cx} {tg iter : Expr} {body : List Stmt} {i : WI} {g : WG} {b : WS} {pos : Pos} (hp : PassesOwn (model X.prog X.w) X.A X.env X.xe) (hc : X.calm = true) (hi : SdI X tg iter i) (hg : SdG X tg g) (hb : SdB X body b)
    (hs : ∀ x, foldedSetIterable iter X.env x = pure x := by intro _; rfl) : SdS X (.For tg iter body [] pos) (sFor i g b) := by
  obtain ⟨t, p, s⟩ := hi
  obtain ⟨t', p', s'⟩ := hg
  obtain ⟨t2, p2, s2⟩ := hb
  exact ⟨_, ps_for hp hc p p' p2 hs, sim_for s s' s2⟩
end WL
set_option Elab.async false
set_option linter.all false
set_option maxRecDepth 100000
set_option maxHeartbeats 4000000
namespace WL
open PySem PySem.Spec PyProof.Rows L2
/-! ### comprehensions -/
def tOf (K : PySem.W.Frag) (we : WE) : TE := fun σ H Q => ∃ (F : Hp) (C : Hw) (τ : Sw) (Q' : WK) (χ : WX), Rl K F H C ∧ RepS K H σ τ ∧ we τ C Q' χ ∧ QE K F H Q Q'
def ttOf (K : PySem.W.Frag) (wt : WT) : TT := fun σ H Q => ∃ (F : Hp) (C : Hw) (τ : Sw) (Q' : Bool → Hw → Prop) (χ : WX), Rl K F H C ∧ RepS K H σ τ ∧ wt τ C Q' χ ∧ QT K F H Q Q'
def SdIf (X : Cx) (ifs : List Expr) (w : WT) : Prop := ∃ t, PIfs X ifs t ∧ SimT X.K t w
/-- the frame with the list that grows -/
def frP (F : Hp) (p : Addr) (ys : List V) : Hp := fun b => if b = p then some (.lst ys) else F b
section
variable {X : Cx} {tg iter elt : Expr} {ifs : List Expr} {scope : Scope} {pos : Pos} {cN : List Str} {cap : List (Option Nat)} {cl : List (Str × Addr)} {js : List Nat} {i : WI} {g : TG} {wg : WG} {wc : WT} {we : WE}
/-- what is asked of a comprehension -/
structure CompD (X : Cx) (tg iter elt : Expr) (ifs : List Expr) (scope : Scope) (cN : List Str) (cap : List (Option Nat)) (cl : List (Str × Addr)) (js : List Nat) (i : WI) (g : TG) (wg : WG) (wc : WT) (we : WE) : Prop where
  calm : X.calm = true
  ok : X.Ok → CompOk X cN cap scope cl
  it : SdI X tg iter i
  tgt : ∀ fp s H, PG (cxComp X cN scope cl fp s H) tg g
  gm : TGmono g
  gk : GKeep js g
  sg : SimG X.K g wg
  js0 : ∀ j ∈ js, (cap[j]?).join = none
  ts : ∀ fp s H, SdIf (cxComp X cN scope cl fp s H) ifs wc
  el : ∀ fp s H, SdE (cxComp X cN scope cl fp s H) elt we
  fold : ∀ x, foldedSetIterable iter X.env x = pure x
end
theorem hu150 {A : Around} {k : Nat} (hr : Room k A) : A.units + 150 < cLine := by have := hr.un; omega
/-! ### calls of own defs -/
def spW (K : PySem.W.Frag) (pr : List Df) (n i : Nat) : Sp := fun vs H Q _ => ∃ (F : Hp) (C : Hw) (vs' : List T) (Q' : WK) (χ : WX), Rl K F H C ∧ Reps K H vs vs' ∧ wpc pr n i vs' C Q' χ ∧ QE K F H Q Q'
theorem d_call {X : Cx} {k i : Nat} {x : Str} {ps : List Str} {pr : List Df} {p pos : Pos} {e : Expr} {es : List Expr} {wA : WA} (Cc : Ca X.prog X.w X.K X.mg X.base k x ps (spW X.K pr k i)) (hr : Room k X.A) (hg : Gl X x) (ha : SdA X (e :: es) wA)
    (hdb : (x == ("__debug__" : Str)) = false := by decide) (he : starEach (e :: es) X.env = (false, eval e X.env) :: starEach es X.env := by rfl) (hpl : (backTo pos (starEach es X.env)).any (·.1) = false := by rfl) :
    SdE X (.Call (.Name x p) (e :: es) [] pos) (eCall (wpc pr k) i wA) := by
  obtain ⟨t, p1, s⟩ := ha
  refine ⟨_, pe_ca Cc hr hg p1 hdb he hpl, fun F H C σ τ Q Q' χ R S h q => ?_⟩
  refine s F H C σ τ _ _ χ R S h fun xs vs H1 C1 R1 t1 rs h1 => ?_
  refine ⟨F, C1, vs, Q', χ, R1, ?_, h1, QE.at q t1⟩
  rw [List.append_nil]; exact rs
theorem RepS.start {K : PySem.W.Frag} {H : Hp} {vs : List V} {vs' : List T} (h : Reps K H vs vs') (N : List Str) (m : Nat) (e : m = N.length - vs.length) : RepS K H (start N vs) (vs'.map some ++ List.replicate m none) := by
  refine ⟨?_, fun i v hv => ?_⟩
  · unfold L2.start
    rw [List.length_append, List.length_append, List.length_map, List.length_map, List.length_replicate, List.length_replicate, h.length, e, h.length]
  · unfold L2.start
    by_cases hi : i < vs'.length
    · rw [List.getElem?_append_left (by rw [List.length_map]; exact hi), List.getElem?_map] at hv
      cases hg : vs'[i]? with
      | none => rw [hg] at hv; cases hv
      | some z =>
        rw [hg] at hv
        cases hv
        obtain ⟨x, hx, r⟩ := h.get hg
        refine ⟨x, ?_, r⟩
        rw [List.getElem?_append_left (by rw [List.length_map, h.length]; exact hi), List.getElem?_map, hx]
        rfl
    · rw [List.getElem?_append_right (by rw [List.length_map]; omega), List.getElem?_replicate] at hv
      split at hv
      · cases hv
      · cases hv
theorem ca_zero {P : Program} {w : World} {K : PySem.W.Frag} {mg : Str → Option Value} {base : Heap} {x : Str} {st : Stmt} {f : Addr} {fd : FuncData} {ps : List Str} {pr : List Df} {i : Nat} (F : Fun K x x st f fd) (hb : Binds K fd ps []) (hm : mg x = some (.ref f)) : Ca P w K mg base 0 x ps (spW K pr 0 i) :=
  ⟨f, fd, ⟨fun vs H Q E h => by obtain ⟨_, _, _, _, _, _, _, z, _⟩ := h; exact z.elim, fun A outer s H args us vs Q E _ _ _ _ h => by obtain ⟨_, _, _, _, _, _, _, z, _⟩ := h; exact z.elim⟩, hb, F.kp, hm⟩
theorem ca_succ {P : Program} {w : World} {K : PySem.W.Frag} {mg : Str → Option Value} {base : Heap} {x : Str} {st : Stmt} {f : Addr} {fd : FuncData} {ps : List Str} {sp : Sp} {n : Nat} (F : Fun K x x st f fd) (hb : Binds K fd ps []) (hm : mg x = some (.ref f)) (G : FnOk P w K mg base CX0 n f fd ps sp) : Ca P w K mg base n x ps sp :=
  ⟨f, fd, G, hb, F.kp, hm⟩
/-- the law's own promise, from what it does at the script -/
theorem law_sp {K : PySem.W.Frag} {pr : List Df} {n i : Nat} {H : Hp} {a : Addr} {ns : List Int} (hO : Only H) (hS : SqL K H a (ns.map V.int)) (h : wpc pr n i [.cl (ns.map T.int)] (fun _ => none) (fun v _ => v = .bl true) (fun _ _ => False)) :
    spW K pr n i [.ref a] H (fun v _ => v = .bl true) (fun _ _ _ => False) := by
  have hq : SqC K H a (ns.map V.int) := by
    rcases hS with (h | ⟨o, h⟩) | h
    · rcases hO a with e | ⟨o, xs, e⟩
      · rw [e] at h; cases h
      · rw [e] at h; cases h
    · exact .inl ⟨o, h⟩
    · exact .inr h
  refine ⟨fun _ => none, fun _ => none, [.cl (ns.map T.int)], _, _, ⟨(fun _ _ e => by cases e), (fun _ _ e => by cases e)⟩, reps_cons ?_ reps_nil, h, fun x v H' C' R t r e => ?_⟩
  · unfold Rep
    exact ⟨a, _, rfl, hq, reps_ints ns⟩
  · subst e; exact of_bl r
end WL
set_option Elab.async false
set_option linter.all false
set_option maxRecDepth 100000
set_option maxHeartbeats 4000000
/-! the second level: while, numbers as texts, dicts whose keys are ints or texts -/
namespace WL
open PySem PySem.Spec PyProof.Rows L2
/-! ### while -/
def whileN (c : WT) (b : WS) (D : We) : Nat → Sw → Hw → Prop
  | 0, _, _ => False
  | n + 1, τ, C => c τ C (fun k C1 => if k = true then b { D with nx := whileN c b D n, ct := whileN c b D n, bk := D.nx } τ C1 else D.nx τ C1) D.xc
def sWhile (c : WT) (b : WS) : WS := fun D τ C => ∃ n, whileN c b D n τ C
theorem sim_while {K : PySem.W.Frag} {c : TT} {tb : TS} {c' : WT} {b' : WS} (hc : SimT K c c') (hb : SimS K tb b') : SimS K (tWhile c tb) (sWhile c' b') := fun F H C σ τ D D' R S h d => by
  obtain ⟨n, h⟩ := h
  refine ⟨fun m σ H2 => ∃ τ C, Rl K F H2 C ∧ Tx H H2 ∧ RepS K H2 σ τ ∧ whileN c' b' D' m τ C, ⟨n, τ, C, R, Tx.refl _, S, h⟩, ?_⟩
  rintro m σ2 H2 ⟨τ2, C2, R2, t2, S2, h2⟩
  cases m with
  | zero => exact h2.elim
  | succ m =>
    refine hc F H2 C2 σ2 τ2 _ _ D'.xc R2 S2 h2 fun k H3 C3 R3 t3 h3 => ?_
    cases k with
    | true =>
      refine ⟨fun σ' H' => ∃ τ' C', Rl K F H' C' ∧ Tx H H' ∧ RepS K H' σ' τ' ∧ whileN c' b' D' m τ' C', fun σ' H' z => ⟨m, Nat.lt_succ_self m, z⟩, ?_⟩
      have t13 := t2.trans t3
      exact hb F H3 C3 σ2 τ2 _ _ R3 (S2.tx t3) h3 ⟨fun σ' τ' H' C' R' t' S' h' => ⟨τ', C', R', t13.trans t', S', h'⟩, fun x v H' C' R' t' => d.rt x v H' C' R' (t13.trans t'), fun σ' τ' H' C' R' t' S' h' => d.nx σ' τ' H' C' R' (t13.trans t') S' h', fun σ' τ' H' C' R' t' S' h' => ⟨τ', C', R', t13.trans t', S', h'⟩⟩
    | false => exact d.nx σ2 τ2 H3 C3 R3 (t2.trans t3) (S2.tx t3) h3
theorem ds_while {X : Cx} {c : Expr} {body : List Stmt} {wc : WT} {b : WS} {pos : Pos} (hp : PassesOwn (model X.prog X.w) X.A X.env X.xe) (hc : SdT X c wc) (hb : SdB X body b) : SdS X (.While c body [] pos) (sWhile wc b) := by
  obtain ⟨t, p, s⟩ := hc
  obtain ⟨t', p', s'⟩ := hb
  exact ⟨_, ps_while hp p p', sim_while s s'⟩
/-- a loop by what holds of the state and a number that falls -/
theorem while_inv {c : WT} {b : WS} {D : We} (Pv : Nat → Sw → Hw → Prop) {τ : Sw} {C : Hw} {m : Nat} (h0 : Pv m τ C)
    (hs : ∀ m τ C (N : Sw → Hw → Prop), Pv m τ C → (∀ m' τ' C', m' < m → Pv m' τ' C' → N τ' C') → c τ C (fun k C1 => if k = true then b { D with nx := N, ct := N, bk := D.nx } τ C1 else D.nx τ C1) D.xc) : sWhile c b D τ C := by
  have key : ∀ (n m : Nat) (τ : Sw) (C : Hw), m < n → Pv m τ C → whileN c b D n τ C := by
    intro n
    induction n with
    | zero => intro m τ C h _; omega
    | succ n ih => intro m τ C hm hp; exact hs m τ C _ hp fun m' τ' C' hlt hp' => ih m' τ' C' (by omega) hp'
  exact ⟨m + 1, key (m + 1) m τ C (Nat.lt_succ_self m) h0⟩
section
variable {X : Cx} {a b c e o i : Expr} {es : List Expr} {wa wb wc wo wi : WE} {wA : WA} {pos p p2 apos cpos : Pos}
/-! ### str(n), int(n) -/
def bStr : List T → Hw → WK → Prop := fun vs C Q => ∃ i : Int, vs = [.int i] ∧ i.natAbs.log2 < 1920 ∧ Q (.str (toString i)) C
def bInt : List T → Hw → WK → Prop := fun vs C Q => (∃ i : Int, vs = [.int i] ∧ Q (.int i) C) ∨ ∃ k : Bool, vs = [.bl k] ∧ Q (.int (if k then 1 else 0)) C
theorem b_int : CallS X (.type "int") bInt := ⟨_, call_int1, fun F H C xs vs Q Q' R rs h q => by
  rcases h with ⟨j, rfl, h⟩ | ⟨j, rfl, h⟩
  · obtain ⟨x, rfl, rx⟩ := of_one rs
    cases of_int rx
    exact .inl ⟨j, rfl, q _ _ H C R (Tx.refl H) rep_int h⟩
  · obtain ⟨x, rfl, rx⟩ := of_one rs
    cases of_bl rx
    exact .inr ⟨j, rfl, q _ _ H C R (Tx.refl H) rep_int h⟩⟩
def bAbs : List T → Hw → WK → Prop := fun vs C Q => ∃ i : Int, vs = [.int i] ∧ Q (.int (if i < 0 then -i else i)) C
end
/-! ### dicts: tables of values -/
def kT : T → Option Key
  | .int i => some (.inl i)
  | .str x => some (.inr x)
  | _ => none
def tK : Key → T
  | .inl i => .int i
  | .inr x => .str x
def getT (kvs : List (Key × T)) (k : Key) : Option T := (kvs.find? fun kv => decide (kv.1 = k)).map (·.2)
def putT (kvs : List (Key × T)) (k : Key) (v : T) : List (Key × T) :=
  if (kvs.any fun kv => decide (kv.1 = k)) = true then kvs.map (fun kv => if kv.1 = k then (kv.1, v) else kv) else kvs ++ [(k, v)]
section
variable {K : PySem.W.Frag} {F H : Hp} {C : Hw}
theorem Rl.newD (R : Rl K F H C) {p : Addr} {kvs : List (Key × T)} {ks : List (Key × V)} (h : H p = none) (r : PR K H ks kvs) : Rl K F (upd H p (.dK ks)) (up C p (.dic kvs)) := R.new h ⟨ks, upd_same, pr_tx (Tx.new h) r⟩
end
/-! ### dicts: readings and rules -/
def eDict0 : WE := fun _ C Q _ => ∀ p, C p = none → Q (.ref p) (up C p (.dic []))
def wDget : W2 := fun x y C Q => ∃ a kvs k v, x = .ref a ∧ kT y = some k ∧ C a = some (.dic kvs) ∧ getT kvs k = some v ∧ Q v C
def wDinG (neg : Bool) : W2 := fun y x C Q => ∃ a kvs k, x = .ref a ∧ kT y = some k ∧ C a = some (.dic kvs) ∧ Q (.bl (if neg then !(getT kvs k).isSome else (getT kvs k).isSome)) C
abbrev wDin : W2 := wDinG false
abbrev wDnotin : W2 := wDinG true
def gSd (o i : WE) : WG := fun v τ C Q χ => o τ C (fun x C1 => i τ C1 (fun y C2 => ∃ a kvs k, x = .ref a ∧ kT y = some k ∧ C2 a = some (.dic kvs) ∧ kvs.length < sizeLine ∧ Q τ (up C2 a (.dic (putT kvs k v)))) χ) χ
def eDget1 (o i : WE) : WE := fun τ C Q χ => o τ C (fun x C1 => (∃ a kvs, x = .ref a ∧ C1 a = some (.dic kvs)) ∧ i τ C1 (fun y C2 => ∃ a kvs k, x = .ref a ∧ kT y = some k ∧ C2 a = some (.dic kvs) ∧ Q ((getT kvs k).getD .non) C2) χ) χ
def eDget2 (o i d : WE) : WE := fun τ C Q χ => o τ C (fun x C1 => (∃ a kvs, x = .ref a ∧ C1 a = some (.dic kvs)) ∧ i τ C1 (fun y C2 => d τ C2 (fun z C3 => ∃ a kvs k, x = .ref a ∧ kT y = some k ∧ C3 a = some (.dic kvs) ∧ Q ((getT kvs k).getD z) C3) χ) χ) χ
def bLenD : List T → Hw → WK → Prop := fun vs C Q => ∃ a kvs, vs = [.ref a] ∧ C a = some (.dic kvs) ∧ Q (.int kvs.length) C
section
variable {X : Cx} {a b c e o i f : Expr} {es : List Expr} {wa wb wc wo wi wd : WE} {wA : WA} {pos p p2 apos cpos : Pos}
theorem d_dict0 : SdE X (.Dict [] [] pos) eDict0 := ⟨_, pe_dnewK, fun F H C σ τ Q Q' χ R S h q p hp => q _ _ _ _ (R.newD hp .nil) (Tx.new hp) rep_ref (h p (R.free hp))⟩
def rSetD : V → V → V → Hp → (Hp → Prop) → Prop := fun o i v H Q => ∃ p ks k, o = .ref p ∧ i = kV k ∧ H p = some (.dK ks) ∧ ks.length < sizeLine ∧ Q (upd H p (.dK (putK ks k v)))
end
end WL
set_option Elab.async false
set_option linter.all false
set_option maxRecDepth 100000
set_option maxHeartbeats 4000000
/-! the second level: join -/
namespace WL
open PySem PySem.Spec PyProof.Rows L2
section
variable {X : Cx}
theorem reps_strs' {K : PySem.W.Frag} {H : Hp} : ∀ {bs : List Str} {ys : List V}, Reps K H ys (bs.map T.str) → ys = bs.map V.str
  | [], _, h => of_nil h
  | b :: bs, _, h => by obtain ⟨y, r, rfl, a, c⟩ := of_cons h; cases of_str a; rw [reps_strs' c]; rfl
def mJoin : T → List T → Hw → WK → Prop := fun x vs C Q => ∃ z p zs, x = .str z ∧ vs = [.ref p] ∧ C p = some (.lst (zs.map T.str)) ∧ z.length ≤ 16 ∧ (zs.map (·.length)).sum + zs.length ≤ 1048576 ∧ Q (.str (Txt.join z zs)) C
theorem m_join : MtS X "str.join" mJoin := ⟨_, mt_join, fun F H C x v xs vs Q Q' R rx rs h q => by
  obtain ⟨z, p, zs, rfl, rfl, hx, h1, h2, h⟩ := h
  cases of_str rx
  obtain ⟨y, rfl, ry⟩ := of_one rs
  cases of_ref ry
  obtain ⟨ys, hy, r⟩ := R.lst hx
  cases reps_strs' r
  exact ⟨z, p, zs, rfl, rfl, SqL.of hy, h1, h2, q _ _ H C R (Tx.refl H) rep_str h⟩⟩
end
end WL
set_option Elab.async false
set_option linter.all false
set_option maxRecDepth 100000
set_option maxHeartbeats 4000000
/-! the second level: extend, list(reversed(a list)), str(a text), replace -/
namespace WL
open PySem PySem.Spec PyProof.Rows L2
section
variable {X : Cx} {e o : Expr} {we wo : WE} {p p2 pos pos2 apos cpos : Pos}
def mExtend : T → List T → Hw → WK → Prop := fun x vs C Q => ∃ a b xs zs, x = .ref a ∧ vs = [.ref b] ∧ C a = some (.lst xs) ∧ C b = some (.lst zs) ∧ xs.length + zs.length ≤ sizeLine ∧ Q .non (up C a (.lst (xs ++ zs)))
theorem m_extend : MtS X "list.extend" mExtend := ⟨_, mt_extend, fun F H C x v xs vs Q Q' R rx rs h q => by
  obtain ⟨a, b, ts, us, rfl, rfl, ha, hb, hl, h⟩ := h
  cases of_ref rx
  obtain ⟨y, rfl, ry⟩ := of_one rs
  cases of_ref ry
  obtain ⟨ys, hy, r⟩ := R.lst ha
  obtain ⟨zs, hz, r2⟩ := R.lst hb
  obtain ⟨R', t⟩ := R.putL ha (r.app r2)
  exact ⟨a, b, ys, zs, rfl, rfl, hy, hz, by rw [r.length, r2.length]; exact hl, q _ _ _ _ R' t rep_non h⟩⟩
/-- list(reversed(e)) -/
def eLRev (e : WE) : WE := fun τ C Q χ => e τ C (fun x C1 => ∃ a xs, x = .ref a ∧ C1 a = some (.lst xs) ∧ ∀ p, C1 p = none → Q (.ref p) (up C1 p (.lst xs.reverse))) χ
theorem d_lrev (hc : X.calm = true) (hg : Gl X "list") (hm : X.mg "list" = none) (hg2 : Gl X "reversed") (hm2 : X.mg "reversed" = none) (he : SdE X e we) (hs : starEach [e] X.env = [(false, eval e X.env)] := by rfl)
    (hs2 : starEach [.Call (.Name "reversed" p2) [e] [] pos2] X.env = [(false, eval (.Call (.Name "reversed" p2) [e] [] pos2) X.env)] := by rfl) :
    SdE X (.Call (.Name "list" p) [.Call (.Name "reversed" p2) [e] [] pos2] [] pos) (eLRev we) := by
  obtain ⟨t, p1, sm⟩ := he
  refine ⟨_, pe_listrev hc hg hm hg2 hm2 p1 hs hs2, fun F H C σ τ Q Q' χ R S h q => ?_⟩
  refine sm F H C σ τ _ _ χ R S h fun x v H1 C1 R1 t1 rx h1 => ?_
  obtain ⟨a, xs, rfl, hC, h1⟩ := h1
  cases of_ref rx
  obtain ⟨ys, hH, rs⟩ := R1.lst hC
  exact ⟨a, ys, rfl, SqL.of hH, fun b hb => q _ _ _ _ (R1.newL hb rs.reverse) (t1.trans (Tx.new hb)) rep_ref (h1 b (R1.free hb))⟩
theorem call_str_str : CallR X (.type "str") (fun xs H Q => ∃ z, xs = [.str z] ∧ Q (.str z) H) := by
  intro pins s σ H xs us Q I r h
  obtain ⟨z, rfl, q⟩ := h
  obtain ⟨u, rfl, t, rfl⟩ := vals1 r
  exact PySem.P.str_of_str ⟨.str z, H, I, ⟨_, rfl⟩, q⟩
/-- str(a number or a text) -/
def bStr2 : List T → Hw → WK → Prop := fun vs C Q => (∃ i : Int, vs = [.int i] ∧ i.natAbs.log2 < 1920 ∧ Q (.str (toString i)) C) ∨ ∃ z, vs = [.str z] ∧ Q (.str z) C
theorem b_str2 : CallS X (.type "str") bStr2 := ⟨_, call_str_int.or call_str_str, fun F H C xs vs Q Q' R rs h q => by
  rcases h with ⟨j, rfl, hl, h⟩ | ⟨z, rfl, h⟩
  · obtain ⟨x, rfl, rx⟩ := of_one rs
    cases of_int rx
    exact .inl ⟨j, rfl, hl, q _ _ H C R (Tx.refl H) rep_str h⟩
  · obtain ⟨x, rfl, rx⟩ := of_one rs
    cases of_str rx
    exact .inr ⟨z, rfl, q _ _ H C R (Tx.refl H) rep_str h⟩⟩
/-- as SdE, some token given -/
def SdP (X : Cx) (e : Expr) (w : WE) : Prop := ∃ t, PEp X e t ∧ SimE X.K t w
/-- o.replace(y, z) -/
def eRepl (y z : Str) (o : WE) : WE := fun τ C Q χ => o τ C (fun x C1 => ∃ u, x = .str u ∧ u.length ≤ 1048576 ∧ Q (.str (Txt.replace u y z)) C1) χ
end
end WL
set_option Elab.async false
set_option linter.all false
set_option maxRecDepth 100000
set_option maxHeartbeats 4000000
/-! the second level: any, dict(d), d.pop(k, x), dicts compared, zip -/
namespace L2
open PySem PySem.Spec PyProof.Rows
section
variable {X : Cx}
end
/-! keys found -/
section
variable {prog : Program} {w : World} {K : Type} [DecidableEq K] {knd : KeyKind prog w K}
end
end L2
namespace WL
open PySem PySem.Spec PyProof.Rows L2
section
variable {X : Cx} {e o a b f : Expr} {we wo wa wb wi wd : WE} {wA : WA} {p p2 pos pos2 apos cpos : Pos}
def bAny : List T → Hw → WK → Prop := fun vs C Q => ∃ (a : Addr) (bs : List Bool), vs = [.ref a] ∧ C a = some (.lst (bs.map T.bl)) ∧ Q (.bl (bs.any id)) C
def bDictC : List T → Hw → WK → Prop := fun vs C Q => ∃ (a : Addr) (kvs : List (Key × T)), vs = [.ref a] ∧ C a = some (.dic kvs) ∧ ∀ p, C p = none → Q (.ref p) (up C p (.dic kvs))
def dropT (kvs : List (Key × T)) (k : Key) : List (Key × T) := kvs.filter fun kv => decide (kv.1 ≠ k)
/-- o.pop(i, d) -/
def eDpop2 (o i d : WE) : WE := fun τ C Q χ => o τ C (fun x C1 => (∃ a kvs, x = .ref a ∧ C1 a = some (.dic kvs)) ∧ i τ C1 (fun y C2 => d τ C2 (fun z C3 => ∃ a kvs k, x = .ref a ∧ kT y = some k ∧ C3 a = some (.dic kvs) ∧
  (∀ v, getT kvs k = some v → Q v (up C3 a (.dic (dropT kvs k)))) ∧ (getT kvs k = none → Q z C3)) χ) χ) χ
/-! dicts compared -/
def wDeqG (neg : Bool) : W2 := fun x y C Q => ∃ a b ka kb, x = .ref a ∧ y = .ref b ∧ C a = some (.dic ka) ∧ C b = some (.dic kb) ∧
  ((ka.length ≠ kb.length ∧ Q (.bl neg) C) ∨ (ka = kb ∧ (∀ kv ∈ ka, isFlat kv.2) ∧ Q (.bl (!neg)) C))
abbrev wDeq : W2 := wDeqG false
abbrev wDne : W2 := wDeqG true
/-! ### zip -/
def zipT (xs ys : List T) : List T := List.zipWith (fun x y => T.tup [x, y]) xs ys
def iZp (a : WA) : WI := fun τ C R χ => a τ C (fun vs C1 => (∃ xs ys, vs = [.tup xs, .tup ys] ∧ xs.length = ys.length ∧ R (zipT xs ys) (fun _ => True) C1) ∨
  ∃ xs ys l, vs = [.tup xs, .ref l] ∧ C1 l = some (.lst ys) ∧ xs.length = ys.length ∧ R (zipT xs ys) (fun C2 => C2 l = some (.lst ys)) C1) χ
end
end WL
set_option Elab.async false
set_option linter.all false
set_option maxRecDepth 100000
set_option maxHeartbeats 4000000
/-! the second level: dicts that are read, walked -/
namespace WL
open PySem PySem.Spec PyProof.Rows L2
/-- a dict that may be read -/
def RdC (C : Hw) (a : Addr) (kvs : List (Key × T)) : Prop := C a = some (.dic kvs) ∨ C a = some (.fdic kvs)
def rD (kvs : List (Key × T)) : List T := kvs.map fun kv => tK kv.1
section
variable {X : Cx} {e o a b c f i : Expr} {we wo wa wb wi wd : WE} {wA : WA} {p p2 pos pos2 apos cpos : Pos} {tg : Expr}
/-! reading -/
def wRget : W2 := fun x y C Q => ∃ a kvs k v, x = .ref a ∧ kT y = some k ∧ RdC C a kvs ∧ getT kvs k = some v ∧ Q v C
def wRinG (neg : Bool) : W2 := fun y x C Q => ∃ a kvs k, x = .ref a ∧ kT y = some k ∧ RdC C a kvs ∧ Q (.bl (if neg then !(getT kvs k).isSome else (getT kvs k).isSome)) C
abbrev wRin : W2 := wRinG false
abbrev wRnotin : W2 := wRinG true
def eRget2 (o i d : WE) : WE := fun τ C Q χ => o τ C (fun x C1 => (∃ a kvs, x = .ref a ∧ RdC C1 a kvs) ∧ i τ C1 (fun y C2 => d τ C2 (fun z C3 => ∃ a kvs k, x = .ref a ∧ kT y = some k ∧ RdC C3 a kvs ∧ Q ((getT kvs k).getD z) C3) χ) χ) χ
def bDictR : List T → Hw → WK → Prop := fun vs C Q => ∃ (a : Addr) (kvs : List (Key × T)), vs = [.ref a] ∧ RdC C a kvs ∧ ∀ p, C p = none → Q (.ref p) (up C p (.dic kvs))
def wReqG (neg : Bool) : W2 := fun x y C Q => ∃ a b ka kb, x = .ref a ∧ y = .ref b ∧ RdC C a ka ∧ RdC C b kb ∧
  ((ka.length ≠ kb.length ∧ Q (.bl neg) C) ∨ (ka = kb ∧ (∀ kv ∈ ka, isFlat kv.2) ∧ Q (.bl (!neg)) C))
abbrev wReq : W2 := wReqG false
abbrev wRne : W2 := wReqG true
/-! ### for k in a dict -/
def iDc (e : WE) : WI := fun τ C R χ => e τ C (fun x C1 => ∃ d kvs, x = .ref d ∧ RdC C1 d kvs ∧ R (rD kvs) (fun C2 => C2 d = some (.fdic kvs)) (up C1 d (.fdic kvs))) χ
end
end WL
set_option Elab.async false
set_option linter.all false
set_option maxRecDepth 100000
set_option maxHeartbeats 4000000
/-! the second level: get with one argument of a dict that is read -/
namespace WL
open PySem PySem.Spec PyProof.Rows L2
section
variable {X : Cx} {e o : Expr} {we wo wi : WE} {apos cpos : Pos}
def eRget1 (o i : WE) : WE := fun τ C Q χ => o τ C (fun x C1 => (∃ a kvs, x = .ref a ∧ RdC C1 a kvs) ∧ i τ C1 (fun y C2 => ∃ a kvs k, x = .ref a ∧ kT y = some k ∧ RdC C2 a kvs ∧ Q ((getT kvs k).getD .non) C2) χ) χ
end
end WL
set_option Elab.async false
set_option linter.all false
set_option maxRecDepth 100000
set_option maxHeartbeats 4000000
/-! the second level: objects of own classes -/
namespace WL
open PySem PySem.Spec PyProof.Rows L2
/-! ### attributes -/
def putFT (f : Str) (v : T) : List (Str × T) → List (Str × T)
  | [] => [(f, v)]
  | (g, x) :: r => if g = f then (g, v) :: r else (g, x) :: putFT f v r
section
variable {K : PySem.W.Frag} {H : Hp}
theorem pr_putF {f : Str} {y : V} {v : T} (q : Rep K H y v) : ∀ {ks : List (Str × V)} {fs : List (Str × T)}, PR K H ks fs → PR K H (putF f y ks) (putFT f v fs)
  | [], [], _ => .cons ⟨rfl, q⟩ .nil
  | (k, x) :: ks, (g, z) :: fs, .cons h r => by
    obtain ⟨e, q'⟩ := h
    cases e
    show PR K H (if k = f then (k, y) :: ks else (k, x) :: putF f y ks) (if k = f then (k, v) :: fs else (k, z) :: putFT f v fs)
    by_cases c : k = f
    · rw [if_pos c, if_pos c]; exact .cons ⟨rfl, q⟩ r
    · rw [if_neg c, if_neg c]; exact .cons ⟨rfl, q'⟩ (pr_putF q r)
theorem pr_look {f : Str} : ∀ {ks : List (Str × V)} {fs : List (Str × T)}, PR K H ks fs → (∀ v, fs.lookup f = some v → ∃ y, ks.lookup f = some y ∧ Rep K H y v) ∧ (fs.lookup f = none → ks.lookup f = none)
  | [], [], _ => ⟨fun v h => by simp at h, fun _ => rfl⟩
  | (k, x) :: ks, (g, z) :: fs, .cons h r => by
    obtain ⟨e, q'⟩ := h
    cases e
    by_cases c : f = k
    · have hb : (f == k) = true := beq_iff_eq.mpr c
      simp only [List.lookup, hb]
      exact ⟨fun v h => by cases h; exact ⟨x, rfl, q'⟩, fun h => by cases h⟩
    · have hb : (f == k) = false := beq_eq_false_iff_ne.mpr c
      simp only [List.lookup, hb]
      exact pr_look r
theorem pr_len : ∀ {κ : Type} {ks : List (κ × V)} {fs : List (κ × T)}, PR K H ks fs → ks.length = fs.length
  | _, [], [], _ => rfl
  | _, _ :: _, _ :: _, .cons _ r => by rw [List.length_cons, List.length_cons, pr_len r]
end
/-- the class of the name -/
abbrev ClsAt (K : PySem.W.Frag) (cn : Str) (Cl : Addr) : Prop := PySem.W.nsIn K mainGlobals cn = some (some (.ref Cl))
/-- what a class must have, and no class of it has the name f -/
structure KF (K : PySem.W.Frag) (f cn : Str) : Prop where
  ex : ∃ Cl, ClsAt K cn Cl ∧ Cls K Cl ∧ NoAttr K Cl f
theorem KF.at {K : PySem.W.Frag} {f cn : Str} (h : KF K f cn) {Cl : Addr} (c : ClsAt K cn Cl) : Cls K Cl ∧ NoAttr K Cl f := by
  obtain ⟨C2, h1, h2⟩ := h.ex
  have e : some (some (Value.ref C2)) = some (some (Value.ref Cl)) := h1.symm.trans c
  cases e
  exact h2
def eFld (cs : List Str) (f : Str) (o : WE) : WE := fun τ C Q χ => o τ C (fun x C1 => ∃ a cn fs v, x = .ref a ∧ C1 a = some (.ins cn fs) ∧ cn ∈ cs ∧ fs.lookup f = some v ∧ Q v C1) χ
def gFd (cs : List Str) (f : Str) (o : WE) : WG := fun v τ C Q χ => o τ C (fun x C1 => ∃ a cn fs, x = .ref a ∧ C1 a = some (.ins cn fs) ∧ cn ∈ cs ∧ fs.length < 1000 ∧ Q τ (up C1 a (.ins cn (putFT f v fs)))) χ
theorem Rl.ins {K : PySem.W.Frag} {F H : Hp} {C : Hw} (R : Rl K F H C) {a : Addr} {cn : Str} {fs : List (Str × T)} (h : C a = some (.ins cn fs)) : ∃ Cl dx ks, ClsAt K cn Cl ∧ H a = some (.ins Cl dx ks) ∧ PR K H ks fs := R.obj a _ h
section
variable {X : Cx} {e o value : Expr} {we wo wv : WE} {f : Str} {cs : List Str} {pos pos' apos cpos : Pos}
theorem d_fld (hk : ∀ cn ∈ cs, KF X.K f cn) (he : SdE X e we) (hb : attributeBase e f X.env (eval e X.env) = eval e X.env := by rfl) : SdE X (.Attribute e f pos) (eFld cs f we) := by
  obtain ⟨ta, p1, s1⟩ := he
  refine ⟨_, pe_fld p1 hb, fun F H C σ τ Q Q' χ R S h q => ?_⟩
  refine s1 F H C σ τ _ _ χ R S h fun x v H1 C1 R1 t1 rx h1 => ?_
  obtain ⟨a, cn, fs, v', rfl, hC, hcn, hl, h1⟩ := h1
  cases of_ref rx
  obtain ⟨Cl, dx, ks, hc, hH, pr⟩ := R1.ins hC
  obtain ⟨y, hy, ry⟩ := (pr_look pr).1 v' hl
  obtain ⟨c1, c2⟩ := (hk cn hcn).at hc
  exact ⟨a, Cl, dx, ks, y, rfl, hH, c1, c2, hy, q _ _ H1 C1 R1 t1 ry h1⟩
theorem ds_fld (hk : ∀ cn ∈ cs, KF X.K f cn) (ho : SdE X o wo) (hv : SdE X value wv) (hs : swapsWith value (some (.Attribute o f pos')) pos.line X.env = pure false := by rfl) : SdS X (.Assign [.Attribute o f pos'] value pos) (sAsg wv (gFd cs f wo)) := by
  obtain ⟨ta, p1, s1⟩ := ho
  obtain ⟨tv, p2, s2⟩ := hv
  refine ⟨_, ps_fld p1 p2 hs, fun F H C σ τ D D' R S h d => ?_⟩
  refine s2 F H C σ τ _ _ D'.xc R S h fun y v H1 C1 R1 t1 ry h1 => ?_
  refine s1 F H1 C1 σ τ _ _ D'.xc R1 (S.tx t1) h1 fun x u H2 C2 R2 t2 rx h2 => ?_
  obtain ⟨a, cn, fs, rfl, hC, hcn, hl, h2⟩ := h2
  cases of_ref rx
  obtain ⟨Cl, dx, ks, hc, hH, pr⟩ := R2.ins hC
  obtain ⟨c1, c2⟩ := (hk cn hcn).at hc
  have tp : Tx H2 (upd H2 a (.ins Cl dx (putF f y ks))) := Tx.put hH (fun z => z)
  obtain ⟨R3, t3⟩ := R2.put (u := .ins Cl dx (putF f y ks)) (o' := .ins cn (putFT f v fs)) hC ⟨Cl, dx, _, hc, upd_same, pr_tx tp (pr_putF (ry.tx t2) pr)⟩
  exact ⟨a, Cl, dx, ks, rfl, hH, c1, c2, by rw [pr_len pr]; exact hl, d.nx _ _ _ _ R3 ((t1.trans t2).trans t3) (S.tx ((t1.trans t2).trans t3)) h2⟩
theorem d_never : SdE X e (fun _ _ _ _ => False) := ⟨fun _ _ _ => False, fun _ _ _ _ _ _ h => h.elim, fun _ _ _ _ _ _ _ _ _ _ h _ => h.elim⟩
end
/-! ### methods -/
/-- o.m(..), by the class of o -/
def tMethD (MT : Addr → L2.Sp → Prop) (m : Str) (E : XK) (ta : TE) (t : TA) : TE := fun σ H Q => ta σ H fun x H1 => ∃ a C dx fs sp, x = .ref a ∧ H1 a = some (.ins C dx fs) ∧ MT C sp ∧ fs.lookup m = none ∧ t σ H1 fun vs H2 => sp (x :: vs) H2 Q E
section
variable {X : Cx} {k : Nat} {E : XK} {m : Str} {p pos apos : Pos} {e o : Expr} {es : List Expr} {ta : TE} {t : TA} {MT : Addr → L2.Sp → Prop}
def MOk (X : Cx) (k : Nat) (m : Str) (MT : Addr → L2.Sp → Prop) : Prop := ∀ C sp, MT C sp → ∃ f fd ps, Cls X.K C ∧ Meth X.K C m f ∧ FnOk X.prog X.w X.K X.mg X.base CX0 k f fd ps sp ∧ Binds X.K fd ps []
theorem pe_methD {pl : Sem Bool} (he : PE X o ta) (hM : MOk X k m MT) (hr : Room k X.A) (ha : PA X (e :: es) t)
    (hst : starEach (e :: es) X.env = (false, eval e X.env) :: starEach es X.env := by rfl) (hpl : (backTo pos (starEach es X.env)).any (·.1) = false := by rfl)
    (ht : eval (.Call (.Attribute o m apos) (e :: es) [] pos) X.env = (do
      let ov ← eval o X.env
      standAt apos.atName
      let (f, first) ← holding [ov] (getMethod ov m pl)
      callWith pos f first (backTo pos (starEach (e :: es) X.env)) (backToKw pos (keywordEach [] X.env))) := by rfl) :
    PE X (.Call (.Attribute o m apos) (e :: es) [] pos) (tMethD MT m E0 ta t) := by
  intro pins s σ H Q I h
  refine PySem.W.methodCall_KW (pl := pl) (thn (he pins s σ H _ I h) fun u s1 ⟨x, H1, I1, rx, a, C, dx, fs, sp, ex, ea, hmt, l, q⟩ => ?_) ht
  subst ex
  obtain rfl : u = Value.ref a := rx
  obtain ⟨f, fd, ps, c, hm, F, hb⟩ := hM C sp hmt
  refine getmeth_ok I1 ea c hm l ?_
  refine PySem.W.callWith_K (first := [.ref a]) (h₀ := X.base) I.ok.mod.kin hm.kp (thn (ha pos pins s1 σ H1 _ I1 q) fun us s2 ⟨vs, H2, I2, r, q2⟩ => ⟨I2.kIn, ?_⟩) hst hpl
  exact run_fn (us := .ref a :: us) (vs := .ref a :: vs) (dvs := []) F hr hb .nil pass0 I2 (.cons rfl r) (by rw [List.append_nil]; exact q2)
theorem pe_methD0 {pl : Sem Bool} (he : PE X o ta) (hM : MOk X k m MT) (hr : Room k X.A)
    (ht : eval (.Call (.Attribute o m apos) [] [] pos) X.env = (do
      let ov ← eval o X.env
      standAt apos.atName
      let (f, first) ← holding [ov] (getMethod ov m pl)
      callWith pos f first (backTo pos (starEach [] X.env)) (backToKw pos (keywordEach [] X.env))) := by rfl) :
    PE X (.Call (.Attribute o m apos) [] [] pos) (tMethD MT m E0 ta tNil) := by
  intro pins s σ H Q I h
  refine PySem.W.methodCall_KW (pl := pl) (thn (he pins s σ H _ I h) fun u s1 ⟨x, H1, I1, rx, a, C, dx, fs, sp, ex, ea, hmt, l, q⟩ => ?_) ht
  subst ex
  obtain rfl : u = Value.ref a := rx
  obtain ⟨f, fd, ps, c, hm, F, hb⟩ := hM C sp hmt
  refine getmeth_ok I1 ea c hm l ?_
  exact PySem.W.callWith_K0 (first := [.ref a]) I1.kIn hm.kp (run_fn (us := [.ref a]) (vs := [.ref a]) (dvs := []) F hr hb .nil pass0 I1 (.cons rfl .nil) q)
end
/-- a method's promise -/
def Cm (P : Program) (w : World) (K : PySem.W.Frag) (mg : Str → Option Value) (base : Heap) (n : Nat) (cn m : Str) (ps : List Str) (sp : L2.Sp) : Prop :=
  ∃ Cl f fd, ClsAt K cn Cl ∧ Cls K Cl ∧ Meth K Cl m f ∧ FnOk P w K mg base CX0 n f fd ps sp ∧ Binds K fd ps []
/-- the methods of the name m, by classes -/
def MTb (P : Program) (w : World) (K : PySem.W.Frag) (mg : Str → Option Value) (base : Heap) (n : Nat) (pr : List Df) (m : Str) (tb : List (Str × Nat)) : Prop := ∀ cn i, tb.lookup cn = some i → ∃ ps, Cm P w K mg base n cn m ps (spW K pr n i)
section
variable {P : Program} {w : World} {K : PySem.W.Frag} {mg : Str → Option Value} {base : Heap} {n : Nat} {pr : List Df} {m : Str} {tb : List (Str × Nat)}
theorem mt_nil : MTb P w K mg base n pr m [] := fun cn i h => by simp at h
theorem mt_cons {cn : Str} {i : Nat} {ps : List Str} (h : Cm P w K mg base n cn m ps (spW K pr n i)) (r : MTb P w K mg base n pr m tb) : MTb P w K mg base n pr m ((cn, i) :: tb) := fun c j e => by
  by_cases q : c = cn
  · have hb : (c == cn) = true := beq_iff_eq.mpr q
    simp only [List.lookup, hb] at e
    cases e; subst q; exact ⟨ps, h⟩
  · have hb : (c == cn) = false := beq_eq_false_iff_ne.mpr q
    simp only [List.lookup, hb] at e
    exact r c j e
end
def eMth (P : Calls) (tb : List (Str × Nat)) (m : Str) (o : WE) (a : WA) : WE := fun τ C Q χ => o τ C (fun x C1 => ∃ ad cn fs i, x = .ref ad ∧ C1 ad = some (.ins cn fs) ∧ tb.lookup cn = some i ∧ fs.lookup m = none ∧ a τ C1 (fun vs C2 => P i (x :: vs) C2 Q χ) χ) χ
section
variable {X : Cx} {k : Nat} {m : Str} {p pos apos : Pos} {e o : Expr} {es : List Expr} {wo : WE} {wA : WA} {tb : List (Str × Nat)} {pr : List Df}
theorem mok_of (T : MTb X.prog X.w X.K X.mg X.base k pr m tb) : MOk X k m (fun C sp => ∃ cn i, ClsAt X.K cn C ∧ tb.lookup cn = some i ∧ sp = spW X.K pr k i) := fun C sp h => by
  obtain ⟨cn, i, hc, hl, rfl⟩ := h
  obtain ⟨ps, Cl, f, fd, h1, h2, h3, h4, h5⟩ := T cn i hl
  have ee : some (some (Value.ref Cl)) = some (some (Value.ref C)) := h1.symm.trans hc
  cases ee
  exact ⟨f, fd, ps, h2, h3, h4, h5⟩
theorem d_meth {pl : Sem Bool} (T : MTb X.prog X.w X.K X.mg X.base k pr m tb) (hr : Room k X.A) (ho : SdE X o wo) (ha : SdA X (e :: es) wA)
    (hst : starEach (e :: es) X.env = (false, eval e X.env) :: starEach es X.env := by rfl) (hpl : (backTo pos (starEach es X.env)).any (·.1) = false := by rfl)
    (ht : eval (.Call (.Attribute o m apos) (e :: es) [] pos) X.env = (do
      let ov ← eval o X.env
      standAt apos.atName
      let (f, first) ← holding [ov] (getMethod ov m pl)
      callWith pos f first (backTo pos (starEach (e :: es) X.env)) (backToKw pos (keywordEach [] X.env))) := by rfl) :
    SdE X (.Call (.Attribute o m apos) (e :: es) [] pos) (eMth (wpc pr k) tb m wo wA) := by
  obtain ⟨to, p1, s1⟩ := ho
  obtain ⟨ta, p2, s2⟩ := ha
  refine ⟨_, pe_methD (pl := pl) p1 (mok_of T) hr p2 hst hpl ht, fun F H C σ τ Q Q' χ R S h q => ?_⟩
  refine s1 F H C σ τ _ _ χ R S h fun x v H1 C1 R1 t1 rx h1 => ?_
  obtain ⟨a, cn, fs, i, rfl, hC, hl, hm, h1⟩ := h1
  cases of_ref rx
  obtain ⟨Cl, dx, ks, hc, hH, prr⟩ := R1.ins hC
  refine ⟨a, Cl, dx, ks, _, rfl, hH, ⟨cn, i, hc, hl, rfl⟩, (pr_look prr).2 hm, ?_⟩
  refine s2 F H1 C1 σ τ _ _ χ R1 (S.tx t1) h1 fun xs vs H2 C2 R2 t2 rs h2 => ?_
  exact ⟨F, C2, .ref a :: vs, Q', χ, R2, reps_cons rep_ref rs, h2, QE.at q (t1.trans t2)⟩
theorem d_meth0 {pl : Sem Bool} (T : MTb X.prog X.w X.K X.mg X.base k pr m tb) (hr : Room k X.A) (ho : SdE X o wo)
    (ht : eval (.Call (.Attribute o m apos) [] [] pos) X.env = (do
      let ov ← eval o X.env
      standAt apos.atName
      let (f, first) ← holding [ov] (getMethod ov m pl)
      callWith pos f first (backTo pos (starEach [] X.env)) (backToKw pos (keywordEach [] X.env))) := by rfl) :
    SdE X (.Call (.Attribute o m apos) [] [] pos) (eMth (wpc pr k) tb m wo aNil) := by
  obtain ⟨to, p1, s1⟩ := ho
  refine ⟨_, pe_methD0 (pl := pl) p1 (mok_of T) hr ht, fun F H C σ τ Q Q' χ R S h q => ?_⟩
  refine s1 F H C σ τ _ _ χ R S h fun x v H1 C1 R1 t1 rx h1 => ?_
  obtain ⟨a, cn, fs, i, rfl, hC, hl, hm, h1⟩ := h1
  cases of_ref rx
  obtain ⟨Cl, dx, ks, hc, hH, prr⟩ := R1.ins hC
  refine ⟨a, Cl, dx, ks, _, rfl, hH, ⟨cn, i, hc, hl, rfl⟩, (pr_look prr).2 hm, ?_⟩
  exact ⟨F, C1, [.ref a], Q', χ, R1, reps_cons rep_ref reps_nil, h1, QE.at q t1⟩
end
/-! ### a class called -/
/-- the def that makes an object: it is no def of the text -/
def wNew (cn : Str) (i : Nat) (P : Calls) : WS := fun D τ C => ∃ vs, τ = vs.map some ∧ ∀ p, C p = none → P i (.ref p :: vs) (up C p (.ins cn [])) (fun v C2 => v = .non ∧ D.rt (.ref p) C2) D.xc
/-- a class's promise: the j-th def makes its objects, the i-th is __init__ -/
def Cn (P : Program) (w : World) (K : PySem.W.Frag) (mg : Str → Option Value) (base : Heap) (n : Nat) (pr : List Df) (cn : Str) (i j : Nat) : Prop :=
  (∃ ar, pr[j]? = some ⟨ar, ar, wNew cn i⟩) ∧ ∃ Cl f, ClsAt K cn Cl ∧ mg cn = some (.ref Cl) ∧ L2.Mk K Cl f ∧ (n = 0 ∨ ∃ k fd ps, n = k + 1 ∧ FnOk P w K mg base CX0 k f fd ps (spW K pr k i) ∧ Binds K fd ps [])
section
variable {X : Cx} {k i j : Nat} {cn : Str} {p pos : Pos} {e : Expr} {es : List Expr} {wA : WA} {pr : List Df}
theorem d_new (Cc : Cn X.prog X.w X.K X.mg X.base k pr cn i j) (hr : Room k X.A) (hg : Gl X cn) (ha : SdA X (e :: es) wA)
    (hdb : (cn == ("__debug__" : Str)) = false := by decide) (he : starEach (e :: es) X.env = (false, eval e X.env) :: starEach es X.env := by rfl) (hpl : (backTo pos (starEach es X.env)).any (·.1) = false := by rfl) :
    SdE X (.Call (.Name cn p) (e :: es) [] pos) (eCall (wpc pr k) j wA) := by
  obtain ⟨⟨ar, hj⟩, Cl, f, hc, hm, M, h0 | ⟨k', fd, ps, rfl, F, hb⟩⟩ := Cc
  · subst h0
    obtain ⟨ta, p2, s2⟩ := ha
    refine ⟨fun σ H Q => ta σ H fun _ _ => False, fun pins s σ H Q I h => ?_, fun F H C σ τ Q Q' χ R S h q => ?_⟩
    · refine wpAny_Call_Name_kw (ld_glob I hg hm ?_ hdb)
      exact PySem.W.callWith_K (h₀ := X.base) I.ok.mod.kin M.kp (thn (p2 pos pins s σ H _ I h) fun us s1 ⟨vs, H1, I1, r, q⟩ => q.elim) he hpl
    · exact s2 F H C σ τ _ _ χ R S h fun xs vs H2 C2 R2 t2 rs h2 => h2.elim
  · obtain ⟨ta, p2, s2⟩ := ha
    refine ⟨_, pe_make (dvs := []) M F hr hg hm hb .nil pass0 p2 hdb he hpl, fun F' H C σ τ Q Q' χ R S h q => ?_⟩
    refine s2 F' H C σ τ _ _ χ R S h fun xs vs H2 C2 R2 t2 rs h2 => ?_
    intro x dx hx hdx hne
    obtain ⟨d', e1, e2, h2⟩ := h2
    rw [hj] at e1
    cases e1
    obtain ⟨vs', ev, h2⟩ := h2
    have evs : vs = vs' := by
      have : ar - ar = 0 := Nat.sub_self _
      rw [this, List.replicate_zero, List.append_nil] at ev
      exact (List.map_inj_right fun a b z => by cases z; rfl).mp ev
    subst evs
    have hCx : C2 x = none := R2.free hx
    have R3 : Rl X.K F' (upd H2 dx (.own x)) C2 := R2.hid hdx
    have hx3 : upd H2 dx (.own x) x = none := by rw [upd_ne hne.symm]; exact hx
    have R4 : Rl X.K F' (upd (upd H2 dx (.own x)) x (.ins Cl dx [])) (up C2 x (.ins cn [])) := R3.new hx3 ⟨Cl, dx, [], hc, upd_same, .nil⟩
    have t4 : Tx H2 (upd (upd H2 dx (.own x)) x (.ins Cl dx [])) := (Tx.new hdx).trans (Tx.new hx3)
    refine ⟨F', _, .ref x :: vs, _, χ, R4, ?_, h2 x hCx, ?_⟩
    · rw [List.append_nil]; exact reps_cons rep_ref (rs.tx t4)
    · intro y v H5 C5 R5 t5 ry h5
      obtain ⟨rfl, h5⟩ := h5
      exact ⟨of_non ry, q _ _ H5 C5 R5 ((t2.trans t4).trans t5) rep_ref h5⟩
end
/-! ### the promises -/
theorem fn_okQ {P : Program} {w : World} {K : PySem.W.Frag} {mg : Str → Option Value} {base : Heap} {x qual : Str} {st : Stmt} {f : Addr} {fd : FuncData} {N ps : List Str} {pr : List Df} {n i : Nat} {d : Df} (F : Fun K x qual st f fd) (S : FnScope N ps (defScope st)) (hd : pr[i]? = some d) (hn : d.n = N.length) (har : d.ar = ps.length)
    (hb : ∀ (cdv : Value) (A : Around) (outer : List Env) (s : Shared) (H : Hp) (E : XK), Room n (A.deeper (envOfC qual (defScope st) s.heap.objs.size f cdv)) → SdB (cxOf CX0 P w K mg base N qual (defScope st) f cdv A outer s H E).nox (defBody st) (d.body (wpc pr n))) :
    FnOk P w K mg base CX0 (n + 1) f fd ps (spW K pr (n + 1) i) := by
  refine F.ok S (fun vs H Q E h => ?_) (fun cdv A outer s H vs Q E hr h => ?_)
  · obtain ⟨F', C, vs', Q', χ, R, rs, ⟨d', e1, e2, _⟩, _⟩ := h
    rw [hd] at e1; cases e1
    rw [rs.length, e2, har]
  · obtain ⟨F', C, vs', Q', χ, R, rs, ⟨d', e1, e2, h⟩, q⟩ := h
    rw [hd] at e1; cases e1
    obtain ⟨t, p, sm⟩ := hb cdv A outer s H E hr
    refine ⟨t, p, sm F' H C _ _ _ _ R (RepS.start rs N _ (by rw [rs.length, e2, hn])) h ⟨fun σ τ H' C' R' t' _ h' => q .non .non H' C' R' t' rep_non h', q, fun _ _ _ _ _ _ _ z => z.elim, fun _ _ _ _ _ _ _ z => z.elim⟩⟩
theorem fnok_zero {P : Program} {w : World} {K : PySem.W.Frag} {mg : Str → Option Value} {base : Heap} {f : Addr} {fd : FuncData} {ps : List Str} {pr : List Df} {i : Nat} : FnOk P w K mg base CX0 0 f fd ps (spW K pr 0 i) :=
  ⟨fun vs H Q E h => by obtain ⟨_, _, _, _, _, _, _, z, _⟩ := h; exact z.elim, fun A outer s H args us vs Q E _ _ _ _ h => by obtain ⟨_, _, _, _, _, _, _, z, _⟩ := h; exact z.elim⟩
/-- what of the text a class must have -/
structure Kl (K : PySem.W.Frag) (mg : Str → Option Value) (cn : Str) (Cl : Addr) : Prop where
  at_ : ClsAt K cn Cl
  mg : mg cn = some (.ref Cl)
  cls : Cls K Cl
theorem cm_mk {P : Program} {w : World} {K : PySem.W.Frag} {mg : Str → Option Value} {base : Heap} {n : Nat} {cn m : Str} {ps : List Str} {sp : L2.Sp} {Cl f : Addr} {fd : FuncData} (k : Kl K mg cn Cl) (m' : Meth K Cl m f) (G : FnOk P w K mg base CX0 n f fd ps sp) (hb : Binds K fd ps []) : Cm P w K mg base n cn m ps sp :=
  ⟨Cl, f, fd, k.at_, k.cls, m', G, hb⟩
theorem cn_zero {P : Program} {w : World} {K : PySem.W.Frag} {mg : Str → Option Value} {base : Heap} {pr : List Df} {cn : Str} {i j ar : Nat} {Cl f : Addr} (hj : pr[j]? = some ⟨ar, ar, wNew cn i⟩) (k : Kl K mg cn Cl) (M : L2.Mk K Cl f) : Cn P w K mg base 0 pr cn i j := ⟨⟨ar, hj⟩, Cl, f, k.at_, k.mg, M, .inl rfl⟩
theorem cn_succ {P : Program} {w : World} {K : PySem.W.Frag} {mg : Str → Option Value} {base : Heap} {pr : List Df} {cn : Str} {n i j ar : Nat} {Cl f : Addr} {fd : FuncData} {ps : List Str} (hj : pr[j]? = some ⟨ar, ar, wNew cn i⟩) (k : Kl K mg cn Cl) (M : L2.Mk K Cl f) (G : FnOk P w K mg base CX0 n f fd ps (spW K pr n i)) (hb : Binds K fd ps []) : Cn P w K mg base (n + 1) pr cn i j :=
  ⟨⟨ar, hj⟩, Cl, f, k.at_, k.mg, M, .inr ⟨n, fd, ps, rfl, G, hb⟩⟩
theorem cn_ofCm {P : Program} {w : World} {K : PySem.W.Frag} {mg : Str → Option Value} {base : Heap} {pr : List Df} {cn : Str} {n i j ar : Nat} {Cl : Addr} {ps : List Str} (hj : pr[j]? = some ⟨ar, ar, wNew cn i⟩) (k : Kl K mg cn Cl) (mk : PySem.W.makesIn K Cl = true) (kc : PySem.W.keepIn K (.ref Cl) = true)
    (h : Cm P w K mg base n cn "__init__" ps (spW K pr n i)) : Cn P w K mg base (n + 1) pr cn i j := by
  obtain ⟨C2, f, fd, h1, h2, h3, h4, h5⟩ := h
  have e : some (some (Value.ref C2)) = some (some (Value.ref Cl)) := h1.symm.trans k.at_
  cases e
  exact cn_succ hj k ⟨mk, h3.at_, h3.fn, kc⟩ h4 h5
theorem kf_nil {K : PySem.W.Frag} {f : Str} : ∀ cn ∈ ([] : List Str), KF K f cn := fun _ h => by cases h
theorem kf_cons {K : PySem.W.Frag} {f cn : Str} {cs : List Str} (a : KF K f cn) (r : ∀ c ∈ cs, KF K f c) : ∀ c ∈ cn :: cs, KF K f c := fun c h => by
  rcases List.mem_cons.mp h with rfl | h
  · exact a
  · exact r c h
/-- a tuple of the module -/
theorem rep_ktup {K : PySem.W.Frag} {H : Hp} {a : Addr} {its : Array Value} {n : Nat} {sl : Array (Option Value)} {od : Option Addr} {xs : List V} {ts : List T} (l : K.lookup a = some ⟨.type "tuple", od, .seq its n, sl⟩) (hz : its.size ≤ sizeLine) (v : Vals xs its.toList) (r : Reps K H xs ts) : Rep K H (.ref a) (.tup ts) :=
  rep_tup (.inr ⟨_, its, n, l, rfl, rfl, hz, v⟩) r
theorem db_never {X : Cx} {body : List Stmt} : SdB X body sNever := ⟨fun _ _ _ => False, fun _ _ _ _ _ _ h => h.elim, fun _ _ _ _ _ _ _ _ _ h _ => h.elim⟩
end WL
set_option Elab.async false
set_option linter.all false
set_option maxRecDepth 100000
set_option maxHeartbeats 4000000
/-! the second level: == of tuples and lists with lists in them; calls with defaults -/
namespace WL
open PySem PySem.Spec PyProof.Rows L2
/-- v == w is b, nested at most n deep -/
def EqH (C : Hw) : Nat → T → T → Bool → Prop
  | 0, v, w, b => flat v 0 = true ∧ flat w 0 = true ∧ b = eqT v w
  | n + 1, v, w, b => (flat v n = true ∧ flat w n = true ∧ b = eqT v w) ∨
      (∃ (xs ys : List T) (e : Nat → Bool), v = .tup xs ∧ w = .tup ys ∧ (∀ j x y, xs[j]? = some x → ys[j]? = some y → EqH C n x y (e j)) ∧ b = ((List.range (min xs.length ys.length)).all e && xs.length == ys.length)) ∨
      (∃ (a a' : Addr) (xs ys : List T) (e : Nat → Bool), v = .ref a ∧ w = .ref a' ∧ C a = some (.lst xs) ∧ C a' = some (.lst ys) ∧ (xs.length = ys.length → ∀ j x y, xs[j]? = some x → ys[j]? = some y → EqH C n x y (e j)) ∧
        b = (if xs.length = ys.length then (List.range xs.length).all e else false))
section
variable {X : Cx} {pins : List (Addr × Obj)} {σ : L2.St} {F H : Hp} {s : Shared} {C : Hw}
theorem all_true {e : Nat → Bool} {n : Nat} (h : ∀ j, j < n → e j = true) : (List.range n).all e = true := by
  rw [List.all_eq_true]; intro j hj; exact h j (List.mem_range.mp hj)
/-- the same thing is == itself -/
theorem eqH_same (I : Inv X pins σ H s) (R : Rl X.K F H C) : ∀ (n : Nat) {v w : T} {x : V} {b : Bool}, EqH C n v w b → Rep X.K H x v → Rep X.K H x w → b = true := by
  intro n
  induction n with
  | zero =>
    intro v w x b h rv rw'
    obtain ⟨f1, f2, rfl⟩ := h
    rw [rep_inj I 0 f1 f2 rv rw']
    exact eqT_refl _ f2
  | succ n ih =>
    intro v w x b h rv rw'
    have lists : ∀ {zs : List V} {xs ys : List T} {e : Nat → Bool}, Reps X.K H zs xs → Reps X.K H zs ys → (∀ j x y, xs[j]? = some x → ys[j]? = some y → EqH C n x y (e j)) → xs.length = ys.length ∧ ∀ j, j < xs.length → e j = true := by
      intro zs xs ys e r1 r2 he
      have l1 := r1.length
      have l2 := r2.length
      refine ⟨by omega, fun j hj => ?_⟩
      have i1 : xs[j]? = some (xs[j]'hj) := by simp [hj]
      have i2 : ys[j]? = some (ys[j]'(by omega)) := by simp
      obtain ⟨u1, g1, q1⟩ := r1.get i1
      obtain ⟨u2, g2, q2⟩ := r2.get i2
      rw [g1] at g2; cases g2
      exact ih (he j _ _ i1 i2) q1 q2
    rcases h with ⟨f1, f2, rfl⟩ | ⟨xs, ys, e, rfl, rfl, he, rfl⟩ | ⟨a, a', xs, ys, e, rfl, rfl, h1, h2, he, rfl⟩
    · rw [rep_inj I n f1 f2 rv rw']
      exact eqT_refl _ f2
    · obtain ⟨a, zs, rfl, hq, r⟩ := of_tup rv
      obtain ⟨b, zs', eb, hq', r'⟩ := of_tup rw'
      cases eb
      have := I.tuple_inj hq hq'
      subst this
      obtain ⟨hl, ha⟩ := lists r r' he
      rw [hl, Nat.min_self, beq_self_eq_true, Bool.and_true]
      exact all_true fun j hj => ha j (by omega)
    · cases of_ref rv
      cases of_ref rw'
      rw [h1] at h2; cases h2
      obtain ⟨zs, hz, r⟩ := R.lst h1
      obtain ⟨hl, ha⟩ := lists r r (he rfl)
      rw [if_pos rfl]
      exact all_true ha
theorem itemsH {ts us : List T} {ys zs : List V} {its its' : List Value} {A : Around} {e : Nat → Bool} (r : Reps X.K H ys ts) (r' : Reps X.K H zs us) (rI : Vals ys its) (rI' : Vals zs its')
    (he : ∀ j x y, ts[j]? = some x → us[j]? = some y → ∀ {x1 x2 : V} {u u' : Value}, Rep X.K H x1 x → Rep X.K H x2 y → RelV x1 u → RelV x2 u' → SeqAt.EqAt A s u u' (e j)) :
    ∀ j (h1 : j < its.toArray.size) (h2 : j < its'.toArray.size), SeqAt.EqAt A s its.toArray[j] its'.toArray[j] (e j) := fun j h1 h2 => by
  have l1 : its.toArray.size = ts.length := by rw [List.size_toArray, ← rI.length, r.length]
  have l2 : its'.toArray.size = us.length := by rw [List.size_toArray, ← rI'.length, r'.length]
  have i1 : ts[j]? = some (ts[j]'(by omega)) := by simp [l1 ▸ h1]
  have i2 : us[j]? = some (us[j]'(by omega)) := by simp [l2 ▸ h2]
  obtain ⟨x1, g1, q1⟩ := r.get i1
  obtain ⟨x2, g2, q2⟩ := r'.get i2
  obtain ⟨u1, k1, z1⟩ := rI.get g1
  obtain ⟨u2, k2, z2⟩ := rI'.get g2
  have e1 : its.toArray[j] = u1 := by
    have : its[j]? = some its.toArray[j] := by simp
    rw [k1] at this; exact (Option.some.inj this).symm
  have e2 : its'.toArray[j] = u2 := by
    have : its'[j]? = some its'.toArray[j] := by simp
    rw [k2] at this; exact (Option.some.inj this).symm
  rw [e1, e2]
  exact he j _ _ i1 i2 q1 q2 z1 z2
theorem eqAtH (I : Inv X pins σ H s) (R : Rl X.K F H C) : ∀ (n : Nat) {v w : T} {x y : V} {u u' : Value} {A : Around} {b : Bool}, EqH C n v w b → Rep X.K H x v → Rep X.K H y w → RelV x u → RelV y u' → A.units + n < cLine → SeqAt.EqAt A s u u' b := by
  intro n
  induction n with
  | zero =>
    intro v w x y u u' A b h rv rw' ru ru' hu
    obtain ⟨f1, f2, rfl⟩ := h
    exact eqAtT I 0 f1 f2 rv rw' ru ru' hu
  | succ n ih =>
    intro v w x y u u' A b h rv rw' ru ru' hu
    have hu0 : A.units < cLine := by omega
    have h0 := h
    rcases h with ⟨f1, f2, rfl⟩ | ⟨xs, ys, e, rfl, rfl, he, rfl⟩ | ⟨a, a', xs, ys, e, rfl, rfl, h1, h2, he, rfl⟩
    · exact eqAtT I n f1 f2 rv rw' ru ru' (by omega)
    · obtain ⟨a, zs, rfl, hq, r⟩ := of_tup rv
      obtain ⟨b, zs', rfl, hq', r'⟩ := of_tup rw'
      cases ru
      cases ru'
      by_cases hne : a = b
      · subst hne
        have := eqH_same I R (n + 1) h0 rv rw'
        rw [this]
        exact SeqAt.EqAt.same _
      · obtain ⟨its, rI, p, _⟩ := I.tuple hq
        obtain ⟨its', rI', p', _⟩ := I.tuple hq'
        have l1 : its.toArray.size = xs.length := by rw [List.size_toArray, ← rI.length, r.length]
        have l2 : its'.toArray.size = ys.length := by rw [List.size_toArray, ← rI'.length, r'.length]
        have key := SeqAt.EqAt.of_refs hne (SeqAt.RcAt.tuples (A := A) p p' hu0 (itemsH (A := A.in1) r r' rI rI' fun j x y hx hy {x1 x2 u u'} q1 q2 z1 z2 => ih (he j x y hx hy) q1 q2 z1 z2 (by show A.units + 1 + n < cLine; omega)))
        rw [l1, l2] at key
        exact key
    · cases of_ref rv
      cases of_ref rw'
      cases ru
      cases ru'
      by_cases hne : a = a'
      · subst hne
        have := eqH_same I R (n + 1) h0 rv rw'
        rw [this]
        exact SeqAt.EqAt.same _
      · obtain ⟨zs, hz, r⟩ := R.lst h1
        obtain ⟨zs', hz', r'⟩ := R.lst h2
        obtain ⟨its, rI, p, _⟩ := I.list (SqL.of hz)
        obtain ⟨its', rI', p', _⟩ := I.list (SqL.of hz')
        have l1 : its.toArray.size = xs.length := by rw [List.size_toArray, ← rI.length, r.length]
        have l2 : its'.toArray.size = ys.length := by rw [List.size_toArray, ← rI'.length, r'.length]
        by_cases hl : xs.length = ys.length
        · rw [if_pos hl]
          have key := SeqAt.EqAt.of_refs hne (SeqAt.RcAt.lists (A := A) p.isList p'.isList (by rw [l1, l2, hl]) hu0 (itemsH (A := A.in1) r r' rI rI' fun j x y hx hy {x1 x2 u u'} q1 q2 z1 z2 => ih (he hl j x y hx hy) q1 q2 z1 z2 (by show A.units + 1 + n < cLine; omega)))
          rw [l1] at key
          exact key
        · rw [if_neg hl]
          exact SeqAt.EqAt.of_refs hne (SeqAt.RcAt.lists_lengths p.isList p'.isList (by rw [l1, l2]; exact bne_iff_ne.mpr hl) hu0)
/-- at the top -/
theorem rcH (I : Inv X pins σ H s) (R : Rl X.K F H C) {n : Nat} {v w : T} {x y : V} {u u' : Value} {A : Around} {b : Bool} (h : EqH C n v w b) (rv : Rep X.K H x v) (rw' : Rep X.K H y w) (ru : RelV x u) (ru' : RelV y u') (hu : A.units + n + 1 < cLine) :
    SeqAt.RcAt A s u u' b ∧ SeqAt.RcNeAt A s u u' (!b) := by
  have hu0 : A.units < cLine := by omega
  cases n with
  | zero =>
    obtain ⟨f1, f2, rfl⟩ := h
    exact rcT I f1 f2 rv rw' ru ru' hu
  | succ n =>
    rcases h with ⟨f1, f2, rfl⟩ | ⟨xs, ys, e, rfl, rfl, he, rfl⟩ | ⟨a, a', xs, ys, e, rfl, rfl, h1, h2, he, rfl⟩
    · exact rcT I f1 f2 rv rw' ru ru' (by omega)
    · obtain ⟨a, zs, rfl, hq, r⟩ := of_tup rv
      obtain ⟨b, zs', rfl, hq', r'⟩ := of_tup rw'
      cases ru
      cases ru'
      obtain ⟨its, rI, p, _⟩ := I.tuple hq
      obtain ⟨its', rI', p', _⟩ := I.tuple hq'
      have l1 : its.toArray.size = xs.length := by rw [List.size_toArray, ← rI.length, r.length]
      have l2 : its'.toArray.size = ys.length := by rw [List.size_toArray, ← rI'.length, r'.length]
      have hi := itemsH (s := s) (A := A.in1) (e := e) r r' rI rI' fun j x y hx hy {x1 x2 u u'} q1 q2 z1 z2 => eqAtH I R n (he j x y hx hy) q1 q2 z1 z2 (by show A.units + 1 + n < cLine; omega)
      have k1 := SeqAt.RcAt.tuples (A := A) p p' hu0 hi
      have k2 := SeqAt.RcNeAt.tuples (A := A) p p' hu0 hi
      rw [l1, l2] at k1 k2
      exact ⟨k1, k2⟩
    · cases of_ref rv
      cases of_ref rw'
      cases ru
      cases ru'
      obtain ⟨zs, hz, r⟩ := R.lst h1
      obtain ⟨zs', hz', r'⟩ := R.lst h2
      obtain ⟨its, rI, p, _⟩ := I.list (SqL.of hz)
      obtain ⟨its', rI', p', _⟩ := I.list (SqL.of hz')
      have l1 : its.toArray.size = xs.length := by rw [List.size_toArray, ← rI.length, r.length]
      have l2 : its'.toArray.size = ys.length := by rw [List.size_toArray, ← rI'.length, r'.length]
      by_cases hl : xs.length = ys.length
      · rw [if_pos hl]
        have hi := itemsH (s := s) (A := A.in1) (e := e) r r' rI rI' fun j x y hx hy {x1 x2 u u'} q1 q2 z1 z2 => eqAtH I R n (he hl j x y hx hy) q1 q2 z1 z2 (by show A.units + 1 + n < cLine; omega)
        have k1 := SeqAt.RcAt.lists (A := A) p.isList p'.isList (by rw [l1, l2, hl]) hu0 hi
        have k2 := SeqAt.RcNeAt.lists (A := A) p.isList p'.isList (by rw [l1, l2, hl]) hu0 hi
        rw [l1] at k1 k2
        exact ⟨k1, k2⟩
      · rw [if_neg hl]
        have hne : (its.toArray.size != its'.toArray.size) = true := by rw [l1, l2]; exact bne_iff_ne.mpr hl
        exact ⟨SeqAt.RcAt.lists_lengths p.isList p'.isList hne hu0, SeqAt.RcNeAt.lists_lengths p.isList p'.isList hne hu0⟩
end
def wEqDG (neg : Bool) : W2 := fun x y C Q => ∃ b, EqH C 100 x y b ∧ Q (.bl (if neg then !b else b)) C
abbrev wEqD : W2 := wEqDG false
abbrev wNeD : W2 := wEqDG true
section
variable {X : Cx}
theorem o_eqDG (neg : Bool) (hu : X.A.units + 150 < cLine) : OpS X (compareOp (if neg then .NotEq else .Eq)) (wEqDG neg) := ⟨_, op_dir, fun F H C x y v u Q Q' R rx ry h q pins s σ v' u' I r1 r2 => by
  obtain ⟨b, he, hq⟩ := h
  have key := rcH (A := X.A) I R he rx ry r1 r2 (by omega)
  have hq' := q _ _ H C R (Tx.refl H) rep_bl hq
  cases neg with
  | true => exact EqBoolInt.of_rcne key.2 ⟨.bl (!b), H, I, rfl, hq'⟩
  | false => exact EqBoolInt.of_rc key.1 ⟨.bl b, H, I, rfl, hq'⟩⟩
theorem o_eqD (hu : X.A.units + 150 < cLine) : OpS X (compareOp .Eq) wEqD := o_eqDG false hu
theorem o_neD (hu : X.A.units + 150 < cLine) : OpS X (compareOp .NotEq) wNeD := o_eqDG true hu
end
/-! ### defaults -/
structure FunD (K : PySem.W.Frag) (x qual : Str) (st : Stmt) (f : Addr) (fd : FuncData) : Prop where
  ex : ∃ (oc : Value) (od : Option Addr) (dV kV doc pm : Value) (an : Option Addr) (cdv ct : Value) (osl : Array (Option Value)),
    fd = PySem.W.fnOf x qual (defArgs st) (defBody st) (defScope st) dV kV doc pm an cdv ct ∧ K.lookup f = some ⟨oc, od, .func fd, osl⟩ ∧ PySem.W.codeIn K cdv qual = true
  kp : PySem.W.keepIn K (.ref f) = true
theorem fn_okD {P : Program} {w : World} {K : PySem.W.Frag} {mg : Str → Option Value} {base : Heap} {x qual : Str} {st : Stmt} {f : Addr} {fd : FuncData} {N ps : List Str} {pr : List Df} {n i : Nat} {d : Df} (F : FunD K x qual st f fd) (S : FnScope N ps (defScope st)) (hd : pr[i]? = some d) (hn : d.n = N.length) (har : d.ar = ps.length)
    (hb : ∀ (cdv : Value) (A : Around) (outer : List Env) (s : Shared) (H : Hp) (E : XK), Room n (A.deeper (envOfC qual (defScope st) s.heap.objs.size f cdv)) → SdB (cxOf CX0 P w K mg base N qual (defScope st) f cdv A outer s H E).nox (defBody st) (d.body (wpc pr n))) :
    FnOk P w K mg base CX0 (n + 1) f fd ps (spW K pr (n + 1) i) := by
  obtain ⟨oc, od, dV, kV, doc, pm, an, cdv, ct, osl, rfl, lk, hcd⟩ := F.ex
  refine fn_of lk hcd S (fun vs H Q E h => ?_) fun A outer s H vs Q E hr h => ?_
  · obtain ⟨F', C, vs', Q', χ, R, rs, ⟨d', e1, e2, _⟩, _⟩ := h
    rw [hd] at e1; cases e1
    rw [rs.length, e2, har]
  · obtain ⟨F', C, vs', Q', χ, R, rs, ⟨d', e1, e2, h⟩, q⟩ := h
    rw [hd] at e1; cases e1
    obtain ⟨t, p, sm⟩ := hb cdv A outer s H E hr
    exact ⟨t, p.nox, sm F' H C _ _ _ _ R (RepS.start rs N _ (by rw [rs.length, e2, hn])) h ⟨fun σ τ H' C' R' t' _ h' => q .non .non H' C' R' t' rep_non h', q, fun _ _ _ _ _ _ _ z => z.elim, fun _ _ _ _ _ _ _ z => z.elim⟩⟩
/-- a def's promise; ds: the defaults of the last parameters, whole numbers -/
def CaD (P : Program) (w : World) (K : PySem.W.Frag) (mg : Str → Option Value) (base : Heap) (n : Nat) (x : Str) (ps : List Str) (ds : List Int) (sp : L2.Sp) : Prop :=
  ∃ f fd, FnOk P w K mg base CX0 n f fd ps sp ∧ (∃ us : List Value, Vals (ds.map V.int) us ∧ ∀ j, j ≤ ds.length → Binds K fd ps (us.drop j)) ∧ PySem.W.keepIn K (.ref f) = true ∧ mg x = some (.ref f)
def aApp (ws : List T) (a : WA) : WA := fun τ C Q χ => a τ C (fun vs C1 => Q (vs ++ ws) C1) χ
theorem valsDrop : ∀ {vs : List V} {us : List Value}, Vals vs us → ∀ j, Vals (vs.drop j) (us.drop j)
  | _, _, h, 0 => by simpa using h
  | _, _, .nil, j + 1 => .nil
  | _, _, .cons _ r, j + 1 => valsDrop r j
theorem d_callD {X : Cx} {k i : Nat} {x : Str} {ps : List Str} {ds : List Int} {pr : List Df} {p pos : Pos} {e : Expr} {es : List Expr} {wA : WA} {ws : List T} (j : Nat) (Cc : CaD X.prog X.w X.K X.mg X.base k x ps ds (spW X.K pr k i)) (hr : Room k X.A) (hg : Gl X x) (ha : SdA X (e :: es) wA) (hj : j ≤ ds.length := by decide) (hws : (ds.drop j).map T.int = ws := by rfl)
    (hdb : (x == ("__debug__" : Str)) = false := by decide) (he : starEach (e :: es) X.env = (false, eval e X.env) :: starEach es X.env := by rfl) (hpl : (backTo pos (starEach es X.env)).any (·.1) = false := by rfl) :
    SdE X (.Call (.Name x p) (e :: es) [] pos) (eCall (wpc pr k) i (aApp ws wA)) := by
  subst hws
  obtain ⟨t, p1, s⟩ := ha
  obtain ⟨f, fd, G, ⟨us, hv, hb⟩, hk, hm⟩ := Cc
  have hv2 : Vals ((ds.drop j).map V.int) (us.drop j) := by
    rw [List.map_drop]
    exact valsDrop hv j
  refine ⟨_, pe_call (dvs := (ds.drop j).map V.int) G hr hg hm hk (hb j hj) hv2 pass0 p1 hdb he hpl, fun F H C σ τ Q Q' χ R S h q => ?_⟩
  refine s F H C σ τ _ _ χ R S h fun xs vs H1 C1 R1 t1 rs h1 => ?_
  exact ⟨F, C1, vs ++ (ds.drop j).map T.int, Q', χ, R1, rs.app (reps_ints _), h1, QE.at q t1⟩
end WL
set_option Elab.async false
set_option linter.all false
set_option maxRecDepth 100000
set_option maxHeartbeats 4000000
/-! the second level's own words: reading a def, loops, what stays -/
namespace WL
open PySem PySem.Spec PyProof.Rows L2
/-- what stood stands -/
def Ex (C C' : Hw) : Prop := ∀ a o, C a = some o → C' a = some o
theorem Ex.refl (C : Hw) : Ex C C := fun _ _ h => h
theorem Ex.trans {C C1 C2 : Hw} (a : Ex C C1) (b : Ex C1 C2) : Ex C C2 := fun c o h => b c o (a c o h)
theorem cne {C : Hw} {a b : Addr} {o : O} (h : C a = some o) (h' : C b = none) : a ≠ b := fun e => by subst e; rw [h] at h'; cases h'
theorem Ex.new {C : Hw} {p : Addr} {o : O} (h : C p = none) : Ex C (up C p o) := fun a u e => by rw [up_ne (cne e h)]; exact e
/-- what stood stands, but for one -/
def ExB (p : Addr) (C C' : Hw) : Prop := ∀ a o, a ≠ p → C a = some o → C' a = some o
theorem ExB.refl (p : Addr) (C : Hw) : ExB p C C := fun _ _ _ h => h
theorem ExB.trans {p : Addr} {C C1 C2 : Hw} (a : ExB p C C1) (b : ExB p C1 C2) : ExB p C C2 := fun c o n h => b c o n (a c o n h)
theorem Ex.exB {C C' : Hw} (e : Ex C C') (p : Addr) : ExB p C C' := fun a o _ h => e a o h
theorem ExB.put {p : Addr} {C C' : Hw} {o : O} (e : ExB p C C') : ExB p C (WL.up C' p o) := fun a u n h => by rw [up_ne n]; exact e a u n h
theorem flat_mono : ∀ (v : T) {n m : Nat}, flat v n = true → n ≤ m → flat v m = true := by
  have key : ∀ (n : Nat) (v : T) {m : Nat}, flat v n = true → n ≤ m → flat v m = true := by
    intro n
    induction n with
    | zero =>
      intro v m h _
      cases v with
      | tup xs => unfold flat at h; cases h
      | ref a => unfold flat at h; cases h
      | cl a => unfold flat at h; cases h
      | _ => unfold flat; rfl
    | succ n ih =>
      intro v m h hm
      have fl : ∀ (xs : List T) {m : Nat}, flats xs n = true → n ≤ m → flats xs m = true := by
        intro xs
        induction xs with
        | nil => intro m _ _; unfold flats; rfl
        | cons x xs ihx =>
          intro m h hm
          unfold flats at h ⊢
          rw [Bool.and_eq_true] at h ⊢
          exact ⟨ih x h.1 hm, ihx h.2 hm⟩
      cases v with
      | tup xs =>
        obtain ⟨k, rfl⟩ : ∃ k, m = k + 1 := ⟨m - 1, by omega⟩
        unfold flat at h ⊢
        exact fl xs h (by omega)
      | ref a => unfold flat at h; cases h
      | cl a => unfold flat at h; cases h
      | _ => unfold flat; rfl
  exact fun v {n m} => key n v
theorem flats_iff : ∀ {xs : List T} {n : Nat}, flats xs n = true ↔ ∀ x ∈ xs, flat x n = true
  | [], n => by unfold flats; simp
  | x :: xs, n => by unfold flats; rw [Bool.and_eq_true, flats_iff]; simp
theorem flat_tup {xs : List T} {n : Nat} (h : ∀ x ∈ xs, flat x n = true) : flat (.tup xs) (n + 1) = true := by unfold flat; exact flats_iff.mpr h
theorem flat_str {x : Str} {n : Nat} : flat (.str x) n = true := by unfold flat; rfl
theorem flat_int {x : Int} {n : Nat} : flat (.int x) n = true := by unfold flat; rfl
theorem flat_bl {x : Bool} {n : Nat} : flat (.bl x) n = true := by unfold flat; rfl
theorem isFlat_str {x : Str} : isFlat (.str x) = True := eq_true flat_str
theorem isFlat_int {x : Int} : isFlat (.int x) = True := eq_true flat_int
theorem isFlat_bl {x : Bool} : isFlat (.bl x) = True := eq_true flat_bl
section
variable {n : Bool} {C : Hw} {Q : WK}
theorem wEq_str {a b : Str} : wEqG n (.str a) (.str b) C Q = Q (.bl (if n = true then !(a == b) else a == b)) C := by
  show (isFlat _ ∧ isFlat _ ∧ Q (.bl (if n = true then !eqT (.str a) (.str b) else eqT (.str a) (.str b))) C) = _
  rw [isFlat_str, isFlat_str, true_and, true_and, show eqT (.str a) (.str b) = (a == b) by unfold eqT; rfl]
theorem wEq_int {a b : Int} : wEqG n (.int a) (.int b) C Q = Q (.bl (if n = true then !(a == b) else a == b)) C := by
  show (isFlat _ ∧ isFlat _ ∧ Q (.bl (if n = true then !eqT (.int a) (.int b) else eqT (.int a) (.int b))) C) = _
  rw [isFlat_int, isFlat_int, true_and, true_and, show eqT (.int a) (.int b) = (a == b) by unfold eqT; rfl]
theorem wEq_bl {a b : Bool} : wEqG n (.bl a) (.bl b) C Q = Q (.bl (if n = true then !(a == b) else a == b)) C := by
  show (isFlat _ ∧ isFlat _ ∧ Q (.bl (if n = true then !eqT (.bl a) (.bl b) else eqT (.bl a) (.bl b))) C) = _
  rw [isFlat_bl, isFlat_bl, true_and, true_and, show eqT (.bl a) (.bl b) = (a == b) by unfold eqT; rfl]
end
section
variable {α : Type} {a b c d e : α} {xs : List α}
theorem erase0 : (a :: xs).eraseIdx 0 = xs := rfl
theorem atI_0 : atI (a :: xs) 0 = some a := atI_nat (j := 0) rfl
theorem atI_1 : atI (a :: b :: xs) 1 = some b := atI_nat (j := 1) rfl
theorem atI_2 : atI (a :: b :: c :: xs) 2 = some c := atI_nat (j := 2) rfl
theorem atI_3 : atI (a :: b :: c :: d :: xs) 3 = some d := atI_nat (j := 3) rfl
theorem atI_4 : atI (a :: b :: c :: d :: e :: xs) 4 = some e := atI_nat (j := 4) rfl
theorem atI_m1 : atI [a] (-1) = some a := rfl
theorem atI_m2 : atI [a, b] (-1) = some b := rfl
theorem atI_m3 : atI [a, b, c] (-1) = some c := rfl
theorem atI_m4 : atI [a, b, c, d] (-1) = some d := rfl
end
/-- a loop by what holds of the turns done; N is whatever the next turn wants -/
theorem for_inv {g : WG} {b : WS} {ok : Hw → Prop} {D : We} {xs : List T} (Pv : Nat → Sw → Hw → Prop) {τ : Sw} {C : Hw} (h0 : Pv 0 τ C) (hok : ∀ i τ C, i ≤ xs.length → Pv i τ C → ok C)
    (hs : ∀ i x τ C (N : Sw → Hw → Prop), xs[i]? = some x → Pv i τ C → (∀ τ' C', Pv (i + 1) τ' C' → N τ' C') → g x τ C (fun τ2 C2 => b { D with nx := N, ct := N, bk := D.nx } τ2 C2) D.xc)
    (hd : ∀ τ C, Pv xs.length τ C → D.nx τ C) : forW g b ok D xs τ C := by
  have key : ∀ (k i : Nat) (τ : Sw) (C : Hw), xs.length - i = k → i ≤ xs.length → Pv i τ C → forW g b ok D (xs.drop i) τ C := by
    intro k
    induction k with
    | zero =>
      intro i τ C hk hi hp
      have e : i = xs.length := by omega
      subst e
      rw [List.drop_length]
      exact ⟨hok _ τ C (Nat.le_refl _) hp, hd τ C hp⟩
    | succ k ih =>
      intro i τ C hk hi hp
      have hlt : i < xs.length := by omega
      rw [List.drop_eq_getElem_cons hlt]
      exact ⟨hok i τ C hi hp, hs i _ τ C _ (by simp [hlt]) hp fun τ' C' h => ih (i + 1) τ' C' (by omega) hlt h⟩
  exact key xs.length 0 τ C (by simp) (Nat.zero_le _) h0
theorem rng_len (lo : Int) (n : Nat) : (rng lo n).length = n := by unfold rng; simp
theorem rng_get {lo : Int} {n i : Nat} {x : T} (h : (rng lo n)[i]? = some x) : i < n ∧ x = .int (lo + i) := by
  have hi : i < n := by
    have := (List.getElem?_eq_some_iff.mp h).1
    rw [rng_len] at this; exact this
  unfold rng at h
  rw [List.getElem?_map, List.getElem?_range hi] at h
  cases h
  exact ⟨hi, rfl⟩
/-- over a range -/
theorem for_rng {g : WG} {b : WS} {ok : Hw → Prop} {D : We} {lo : Int} {n : Nat} (Pv : Nat → Sw → Hw → Prop) {τ : Sw} {C : Hw} (h0 : Pv 0 τ C) (hok : ∀ C, ok C)
    (hs : ∀ i τ C (N : Sw → Hw → Prop), i < n → Pv i τ C → (∀ τ' C', Pv (i + 1) τ' C' → N τ' C') → g (.int (lo + i)) τ C (fun τ2 C2 => b { D with nx := N, ct := N, bk := D.nx } τ2 C2) D.xc)
    (hd : ∀ τ C, Pv n τ C → D.nx τ C) : forW g b ok D (rng lo n) τ C := by
  refine for_inv Pv h0 (fun _ _ C _ _ => hok C) (fun i x τ C N hx hp hN => ?_) (fun τ C h => hd τ C (by rw [rng_len] at h; exact h))
  obtain ⟨hi, rfl⟩ := rng_get hx
  exact hs i τ C N hi hp hN
theorem atT_ints {ds : List Int} {i : Int} (h0 : 0 ≤ i) (h1 : i < (ds.length : Int)) : ∃ d, atI (ds.map T.int) i = some (.int d) ∧ d ∈ ds := by
  obtain ⟨v, h, m⟩ := atI_in (xs := ds.map T.int) h0 (by simpa using h1)
  obtain ⟨d, hd, rfl⟩ := List.mem_map.mp m
  exact ⟨d, h, hd⟩
theorem seq0 {n : Nat} (h : 0 < n) : seqIndex? 0 n = some 0 := by
  have := (ixN_seq (n := n) (i := 0) (j := 0) (by unfold ixN; simp; omega)).1
  exact this
theorem small63 {n : Nat} (h : n ≤ 100000) : n ≤ sizeLine := Nat.le_trans h (by decide)
theorem small63' {n : Nat} (h : n ≤ 100000) : n < sizeLine := Nat.lt_of_le_of_lt h (by decide)
end WL
set_option Elab.async false
set_option linter.all false
set_option maxRecDepth 100000
set_option maxHeartbeats 4000000
namespace K33
open PySem PySem.Spec PyProof.Rows L2 WL
def g_VALUES : T := .tup [.str "number", .str "fun", .str "made"]
/-- slots: 0:term 1:given 2:sort -/
def w_with_parts (P : Calls) : WS :=
    sNever
/-- slots: 0:tuples 1:lasts -/
def w_with_lasts (P : Calls) : WS :=
    sNever
/-- slots: 0:term 1:sort -/
def w_scopes (P : Calls) : WS :=
    sNever
/-- slots: 0:pairs 1:body 2:names -/
def w_let_scopes (P : Calls) : WS :=
    sNever
/-- slots: 0:body 1:steps 2:bound 3:behind 4:step -/
def w_rows_scopes (P : Calls) : WS :=
    sNever
/-- slots: 0:term 1:marks 2:given -/
def w_put (P : Calls) : WS :=
    sNever
/-- slots: 0:term 1:marks 2:stays 3:given 4:names 5:part 6:left 7:one -/
def w_changed (P : Calls) : WS :=
    sNever
/-- slots: 0:marks 1:names 2:left 3:name -/
def w_without (P : Calls) : WS :=
    sNever
/-- slots: 0:term -/
def w_is_mark (P : Calls) : WS :=
    sNever
/-- slots: 0:term -/
def w_is_value (P : Calls) : WS :=
    (sRet (eBin wIn (eBin wIdx (eVar 0) (eC (.int 0))) (eC g_VALUES)))
/-- slots: 0:op 1:one 2:other 3:outcome -/
def w_reckoned (P : Calls) : WS :=
    (sSeq (sIf (tBl (eBin wEq (eVar 0) (eC (.str "<")))) (sRet (eCall P 11 (aCons (eBin wLt (eVar 1) (eVar 2)) aNil))) sPass)
    (sSeq (sIf (tBl (eBin wEq (eVar 0) (eC (.str "=")))) (sRet (eCall P 11 (aCons (eBin wEq (eVar 1) (eVar 2)) aNil))) sPass)
    (sSeq (sIf (tBl (eBin wEq (eVar 0) (eC (.str "+")))) (sAsg (eBin wAdd (eVar 1) (eVar 2)) (gNm 3)) (sIf (tBl (eBin wEq (eVar 0) (eC (.str "-")))) (sAsg (eBin wSub (eVar 1) (eVar 2)) (gNm 3)) (sAsg (eBin wMul (eVar 1) (eVar 2)) (gNm 3))))
    (sRet (eTup (aCons (eC (.str "number")) (aCons (eBin wMod (eVar 3) (eBin wPow (eC (.int 10)) (eC (.int 18)))) aNil)))))))
/-- slots: 0:holds -/
def w_truth (P : Calls) : WS :=
    (sRet (eTup (aCons (eC (.str "made")) (aCons (eIf (tTru (eVar 0)) (eC (.str "Yes")) (eC (.str "No"))) (aCons (eTup aNil) aNil)))))
/-- slots: 0:value 1:alternatives 2:found -/
def w_picked (P : Calls) : WS :=
    sNever
/-- slots: 0:value 1:alternatives 2:alternative -/
def w_alternative_of (P : Calls) : WS :=
    sNever
/-- slots: 0:value 1:frame -/
def w_fits (P : Calls) : WS :=
    (sSeq (sIf (tBl (eBin wEq (eBin wIdx (eVar 1) (eC (.int 0))) (eC (.str "give")))) (sRet (eBin wEq (eBin wIdx (eVar 0) (eC (.int 0))) (eC (.str "fun")))) sPass)
    (sSeq (sIf (tBl (eBin wEq (eBin wIdx (eVar 1) (eC (.int 0))) (eC (.str "pick")))) (sRet (eBin wNotN (eCall P 13 (aCons (eVar 0) (aCons (eBin wIdx (eVar 1) (eC (.int 1))) aNil))) (eC (.non)))) sPass)
    (sSeq (sIf (tOr' (tBl (eBin wEq (eBin wIdx (eVar 1) (eC (.int 0))) (eC (.str "left")))) (tBl (eBin wEq (eBin wIdx (eVar 1) (eC (.int 0))) (eC (.str "right"))))) (sRet (eBin wEq (eBin wIdx (eVar 0) (eC (.int 0))) (eC (.str "number")))) sPass)
    (sRet (eC (.bl true))))))
/-- slots: 0:self 1:term 2:depth -/
def w_Runner___init__ (P : Calls) : WS :=
    (sSeq (sAsg (eC (.non)) (gFd ["Runner"] "hand" (eVar 0)))
    (sSeq (sAsg (eC (.int 0)) (gFd ["Runner"] "wanted" (eVar 0)))
    (sSeq (sAsg (eLst aNil) (gFd ["Runner"] "pile" (eVar 0)))
    (sSeq (sAsg (eLst (aCons (eTup (aCons (eVar 2) (aCons (eVar 1) aNil))) aNil)) (gFd ["Runner"] "still" (eVar 0)))
    (sSeq (sAsg (eLst aNil) (gFd ["Runner"] "told" (eVar 0)))
    (sSeq (sAsg eDict0 (gFd ["Runner"] "things" (eVar 0)))
    (sSeq (sAsg (eLst aNil) (gFd ["Runner"] "labels" (eVar 0)))
    (sSeq (sAsg (eLst aNil) (gFd ["Runner"] "log" (eVar 0)))
    (sSeq (sAsg (eC (.int 0)) (gFd ["Runner"] "steps" (eVar 0)))
    (sSeq (sAsg (eC (.int 0)) (gFd ["Runner"] "cells" (eVar 0)))
    (sSeq (sAsg (eC (.int 0)) (gFd ["Runner"] "firsts" (eVar 0)))
    (sAsg (eC (.non)) (gFd ["Runner"] "ending" (eVar 0))))))))))))))
/-- slots: 0:self 1:most -/
def w_Runner_go (P : Calls) : WS :=
    (sSeq (sExpr (eMth P [("Runner", 17)] "advance" (eVar 0) (aCons (eVar 1) aNil)))
    (sRet (eMth P [("Runner", 18)] "outcome" (eVar 0) aNil)))
/-- slots: 0:self 1:most -/
def w_Runner_advance (P : Calls) : WS :=
    (sSeq (sExpr (eMth P [("Runner", 19)] "settle" (eVar 0) aNil))
    (sWhile (tAn (tBl (eBin wIsN (eFld ["Runner"] "ending" (eVar 0)) (eC (.non)))) (tBl (eBin wLt (eFld ["Runner"] "steps" (eVar 0)) (eVar 1))))
    (sSeq (sAsg (eBin wAdd (eFld ["Runner"] "steps" (eVar 0)) (eC (.int 1))) (gFd ["Runner"] "steps" (eVar 0)))
    (sSeq (sExpr (eMth P [("Runner", 22)] "take_step" (eVar 0) aNil))
    (sExpr (eMth P [("Runner", 19)] "settle" (eVar 0) aNil))))))
/-- slots: 0:self 1:ending -/
def w_Runner_outcome (P : Calls) : WS :=
    (sSeq (sAsg (eIf (tBl (eBin wIsN (eFld ["Runner"] "ending" (eVar 0)) (eC (.non)))) (eTup (aCons (eC (.str "spent")) (aCons (eC (.str "")) aNil))) (eFld ["Runner"] "ending" (eVar 0))) (gNm 1))
    (sRet (eTup (aCons (eBin wIdx (eVar 1) (eC (.int 0))) (aCons (eBin wIdx (eVar 1) (eC (.int 1))) (aCons (eTup (aCons (eFld ["Runner"] "steps" (eVar 0)) (aCons (eFld ["Runner"] "cells" (eVar 0)) (aCons (eFld ["Runner"] "firsts" (eVar 0)) aNil)))) (aCons (eBi bList (aCons (eFld ["Runner"] "log" (eVar 0)) aNil)) aNil)))))))
/-- slots: 0:self -/
def w_Runner_settle (P : Calls) : WS :=
    (sWhile (tBl (eBin wIsN (eFld ["Runner"] "ending" (eVar 0)) (eC (.non))))
    (sIf (tBl (eBin wIsN (eFld ["Runner"] "hand" (eVar 0)) (eC (.non)))) (sExpr (eMth P [("Runner", 20)] "tell_next" (eVar 0) aNil)) (sIf (tBl (eBin wEq (eBin wIdx (eFld ["Runner"] "hand" (eVar 0)) (eC (.int 0))) (eC (.str "stop")))) (sAsg (eTup (aCons (eC (.str "stop")) (aCons (eBin wIdx (eFld ["Runner"] "hand" (eVar 0)) (eC (.int 1))) aNil))) (gFd ["Runner"] "ending" (eVar 0))) (sIf (tNo (tTru (eCall P 9 (aCons (eFld ["Runner"] "hand" (eVar 0)) aNil)))) sRetN (sIf (tBl (eBin wEq (eFld ["Runner"] "pile" (eVar 0)) (eLst aNil))) (sExpr (eMth P [("Runner", 21)] "tell_value" (eVar 0) aNil)) (sIf (tBl (eBin wEq (eBin wIdx (eBin wIdx (eFld ["Runner"] "pile" (eVar 0)) (eUn wNeg (eC (.int 1)))) (eC (.int 0))) (eC (.str "back")))) (sExpr (eMth P [("Runner", 34)] "come_back" (eVar 0) (aCons (eBin wIdx (eMth P [("Runner", 26)] "take_frame" (eVar 0) aNil) (eC (.int 1))) aNil))) (sIf (tTru (eCall P 14 (aCons (eFld ["Runner"] "hand" (eVar 0)) (aCons (eBin wIdx (eFld ["Runner"] "pile" (eVar 0)) (eUn wNeg (eC (.int 1)))) aNil)))) sRetN (sAsg (eTup (aCons (eC (.str "stuck")) (aCons (eC (.str "")) aNil))) (gFd ["Runner"] "ending" (eVar 0))))))))))
/-- slots: 0:self 1:piece -/
def w_Runner_tell_next (P : Calls) : WS :=
    (sSeq (sIf (tBl (eBin wEq (eFld ["Runner"] "still" (eVar 0)) (eLst aNil))) (sSeq (sAsg (eTup (aCons (eC (.str "told")) (aCons (eMt tyS mJoin (eC (.str "")) (aCons (eFld ["Runner"] "told" (eVar 0)) aNil)) aNil))) (gFd ["Runner"] "ending" (eVar 0)))
    sRetN) sPass)
    (sSeq (sAsg (eMt tyL' mPop (eFld ["Runner"] "still" (eVar 0)) aNil) (gNm 1))
    (sIf (tTru (eIsi (eVar 1) "str")) (sExpr (eMt tyL' mAppend (eFld ["Runner"] "told" (eVar 0)) (aCons (eVar 1) aNil))) (sIf (tBl (eBin wLe (eBin wIdx (eVar 1) (eC (.int 0))) (eC (.int 0)))) (sExpr (eMt tyL' mAppend (eFld ["Runner"] "told" (eVar 0)) (aCons (eC (.str "?")) aNil))) (sSeq (sAsg (eBin wIdx (eVar 1) (eC (.int 0))) (gFd ["Runner"] "wanted" (eVar 0)))
    (sAsg (eBin wIdx (eVar 1) (eC (.int 1))) (gFd ["Runner"] "hand" (eVar 0))))))))
/-- slots: 0:self -/
def w_Runner_tell_value (P : Calls) : WS :=
    (sSeq (sExpr (eMt tyL' mExtend (eFld ["Runner"] "still" (eVar 0)) (aCons (eLRev (eCall P 35 (aCons (eFld ["Runner"] "hand" (eVar 0)) (aCons (eBin wSub (eFld ["Runner"] "wanted" (eVar 0)) (eC (.int 1))) aNil)))) aNil)))
    (sAsg (eC (.non)) (gFd ["Runner"] "hand" (eVar 0))))
/-- slots: 0:self -/
def w_Runner_take_step (P : Calls) : WS :=
    (sIf (tTru (eCall P 9 (aCons (eFld ["Runner"] "hand" (eVar 0)) aNil))) (sExpr (eMth P [("Runner", 24)] "use_value" (eVar 0) (aCons (eFld ["Runner"] "hand" (eVar 0)) (aCons (eMth P [("Runner", 26)] "take_frame" (eVar 0) aNil) aNil)))) (sExpr (eMth P [("Runner", 23)] "take_apart" (eVar 0) (aCons (eFld ["Runner"] "hand" (eVar 0)) aNil))))
/-- slots: 0:self 1:term 2:sort -/
def w_Runner_take_apart (P : Calls) : WS :=
    (sSeq (sAsg (eBin wIdx (eVar 1) (eC (.int 0))) (gNm 2))
    (sIf (tBl (eBin wEq (eVar 2) (eC (.str "call")))) (sExpr (eMth P [("Runner", 25)] "go_into" (eVar 0) (aCons (eBin wIdx (eVar 1) (eC (.int 1))) (aCons (eTup (aCons (eC (.str "give")) (aCons (eBin wIdx (eVar 1) (eC (.int 2))) aNil))) aNil)))) (sIf (tBl (eBin wEq (eVar 2) (eC (.str "does")))) (sExpr (eMth P [("Runner", 25)] "go_into" (eVar 0) (aCons (eBin wIdx (eVar 1) (eC (.int 2))) (aCons (eTup (aCons (eC (.str "left")) (aCons (eBin wIdx (eVar 1) (eC (.int 1))) (aCons (eBin wIdx (eVar 1) (eC (.int 3))) aNil)))) aNil)))) (sIf (tBl (eBin wEq (eVar 2) (eC (.str "choose")))) (sExpr (eMth P [("Runner", 25)] "go_into" (eVar 0) (aCons (eBin wIdx (eVar 1) (eC (.int 1))) (aCons (eTup (aCons (eC (.str "pick")) (aCons (eBin wIdx (eVar 1) (eC (.int 2))) aNil))) aNil)))) (sIf (tBl (eBin wEq (eVar 2) (eC (.str "first")))) (sSeq (sAsg (eBin wAdd (eFld ["Runner"] "firsts" (eVar 0)) (eC (.int 1))) (gFd ["Runner"] "firsts" (eVar 0)))
    (sExpr (eMth P [("Runner", 25)] "go_into" (eVar 0) (aCons (eBin wIdx (eVar 1) (eC (.int 1))) (aCons (eTup (aCons (eC (.str "first")) (aCons (eBin wIdx (eVar 1) (eC (.int 2))) aNil))) aNil))))) (sIf (tBl (eBin wEq (eVar 2) (eC (.str "let")))) (sExpr (eMth P [("Runner", 27)] "bind" (eVar 0) (aCons (eBin wIdx (eVar 1) (eC (.int 1))) (aCons (eBin wIdx (eVar 1) (eC (.int 2))) aNil)))) (sIf (tBl (eBin wEq (eVar 2) (eC (.str "shape")))) (sExpr (eMth P [("Runner", 28)] "make" (eVar 0) (aCons (eBin wIdx (eVar 1) (eC (.int 1))) (aCons (eBin wIdx (eVar 1) (eC (.int 2))) aNil)))) (sExpr (eMth P [("Runner", 33)] "enter" (eVar 0) (aCons (eBin wIdx (eVar 1) (eC (.int 1))) aNil))))))))))
/-- slots: 0:self 1:value 2:frame 3:mark -/
def w_Runner_use_value (P : Calls) : WS :=
    (sIf (tBl (eBin wEq (eBin wIdx (eVar 2) (eC (.int 0))) (eC (.str "give")))) (sSeq (sAsg (eMth P [("Runner", 29)] "mark_for" (eVar 0) (aCons (eBin wIdx (eVar 1) (eC (.int 1))) (aCons (eBin wIdx (eVar 2) (eC (.int 1))) aNil))) (gNm 3))
    (sAsg (eCall P 5 (aCons (eBin wIdx (eVar 1) (eC (.int 2))) (aCons (fun _ _ _ _ => False) aNil))) (gFd ["Runner"] "hand" (eVar 0)))) (sIf (tBl (eBin wEq (eBin wIdx (eVar 2) (eC (.int 0))) (eC (.str "pick")))) (sAsg (eCall P 12 (aCons (eVar 1) (aCons (eBin wIdx (eVar 2) (eC (.int 1))) aNil))) (gFd ["Runner"] "hand" (eVar 0))) (sIf (tBl (eBin wEq (eBin wIdx (eVar 2) (eC (.int 0))) (eC (.str "left")))) (sExpr (eMth P [("Runner", 25)] "go_into" (eVar 0) (aCons (eBin wIdx (eVar 2) (eC (.int 2))) (aCons (eTup (aCons (eC (.str "right")) (aCons (eBin wIdx (eVar 2) (eC (.int 1))) (aCons (eBin wIdx (eVar 1) (eC (.int 1))) aNil)))) aNil)))) (sIf (tBl (eBin wEq (eBin wIdx (eVar 2) (eC (.int 0))) (eC (.str "right")))) (sAsg (eCall P 10 (aCons (eBin wIdx (eVar 2) (eC (.int 1))) (aCons (eBin wIdx (eVar 2) (eC (.int 2))) (aCons (eBin wIdx (eVar 1) (eC (.int 1))) aNil)))) (gFd ["Runner"] "hand" (eVar 0))) (sAsg (eBin wIdx (eVar 2) (eC (.int 1))) (gFd ["Runner"] "hand" (eVar 0)))))))
/-- slots: 0:self 1:term 2:frame -/
def w_Runner_go_into (P : Calls) : WS :=
    (sSeq (sExpr (eMt tyL' mAppend (eFld ["Runner"] "pile" (eVar 0)) (aCons (eVar 2) aNil)))
    (sAsg (eVar 1) (gFd ["Runner"] "hand" (eVar 0))))
/-- slots: 0:self -/
def w_Runner_take_frame (P : Calls) : WS :=
    (sRet (eMt tyL' mPop (eFld ["Runner"] "pile" (eVar 0)) aNil))
/-- slots: 0:self 1:pairs 2:body 3:marks 4:name 5:text -/
def w_Runner_bind (P : Calls) : WS :=
    sNever
/-- slots: 0:self 1:shape 2:given 3:marks 4:place 5:part -/
def w_Runner_make (P : Calls) : WS :=
    sNever
/-- slots: 0:self 1:label 2:text 3:mark -/
def w_Runner_mark_for (P : Calls) : WS :=
    sNever
/-- slots: 0:self 1:label 2:number -/
def w_Runner_bear (P : Calls) : WS :=
    sNever
/-- slots: 0:self 1:event 2:number -/
def w_Runner_note (P : Calls) : WS :=
    sNever
/-- slots: 0:self 1:number 2:text -/
def w_Runner_keep (P : Calls) : WS :=
    sNever
/-- slots: 0:self 1:number -/
def w_Runner_enter (P : Calls) : WS :=
    sNever
/-- slots: 0:self 1:number -/
def w_Runner_come_back (P : Calls) : WS :=
    sNever
/-- slots: 0:value 1:depth 2:pieces 3:mark -/
def w_pieces_of (P : Calls) : WS :=
    (sSeq (sIf (tBl (eBin wEq (eBin wIdx (eVar 0) (eC (.int 0))) (eC (.str "number")))) (sRet (eLst (aCons (eBi bStr2 (aCons (eBin wIdx (eVar 0) (eC (.int 1))) aNil)) aNil))) sPass)
    (sSeq (sIf (tBl (eBin wEq (eBin wIdx (eVar 0) (eC (.int 0))) (eC (.str "fun")))) (sRet (eLst (aCons (eC (.str "fun")) aNil))) sPass)
    (sSeq (sIf (tBl (eBin wEq (eBin wIdx (eVar 0) (eC (.int 2))) (eTup aNil))) (sRet (eLst (aCons (eBin wIdx (eVar 0) (eC (.int 1))) aNil))) sPass)
    (sSeq (sAsg (eLst (aCons (eBin wAdd (eC (.str "(")) (eBin wIdx (eVar 0) (eC (.int 1)))) aNil)) (gNm 2))
    (sSeq (sFor (iSeq (eBin wIdx (eVar 0) (eC (.int 2)))) (gNm 3)
    (sExpr (eMt tyL' mExtend (eVar 2) (aCons (eLst (aCons (eC (.str " ")) (aCons (eTup (aCons (eVar 1) (aCons (eVar 3) aNil))) aNil))) aNil))))
    (sRet (eBin wAdd (eVar 2) (eLst (aCons (eC (.str ")")) aNil)))))))))
/-- slots: 0:term 1:depth 2:most -/
def w_run (P : Calls) : WS :=
    (sRet (eMth P [("Runner", 16)] "go" (eCall P 41 (aCons (eVar 0) (aCons (eVar 1) aNil))) (aCons (eVar 2) aNil)))
/-- slots: 0:_law_script 1:_law_many 2:_law_found 3:_law_k 4:_law_cell -/
def w__law_draws (P : Calls) : WS :=
    (sSeq (sAsg (eLst aNil) (gNm 2))
    (sSeq (sFor (iR1 (aCons (eVar 1) aNil)) (gNm 3)
    (sSeq (sAsg (eC (.int 0)) (gNm 4))
    (sSeq (sIf (tBl (eBin wGt (eBi bLen (aCons (eVar 0) aNil)) (eC (.int 0)))) (sAsg (eBin wMod (eBin wIdx (eVar 0) (eBin wMod (eVar 3) (eBi bLen (aCons (eVar 0) aNil)))) (eBin wPow (eC (.int 10)) (eC (.int 18)))) (gNm 4)) sPass)
    (sExpr (eMt tyL' mAppend (eVar 2) (aCons (eBin wAdd (eVar 4) (eBin wMul (eC (.int 7919)) (eBin wDiv (eVar 3) (eBi bMax (aCons (eC (.int 1)) (aCons (eBi bLen (aCons (eVar 0) aNil)) aNil)))))) aNil))))))
    (sRet (eVar 2))))
/-- slots: 0:_law_draw -/
def w__law_number (P : Calls) : WS :=
    (sRet (eBin wIdx (eLst (aCons (eBin wMod (eVar 0) (eC (.int 5))) (aCons (eBin wMod (eBin wMul (eVar 0) (eC (.int 982451653))) (eBin wPow (eC (.int 10)) (eC (.int 18)))) (aCons (eBin wSub (eBin wSub (eBin wPow (eC (.int 10)) (eC (.int 18))) (eC (.int 1))) (eBin wMod (eVar 0) (eC (.int 3)))) aNil)))) (eBin wMod (eBin wDiv (eVar 0) (eC (.int 5))) (eC (.int 3)))))
def w__law_built_t1 (P : Calls) : WS :=
    (sRet (eLst (aCons (eTup (aCons (eC (.str "does")) (aCons (eVar 6) (aCons (eBin wIdx (eVar 4) (eC (.int 0))) (aCons (eBin wIdx (eVar 5) (eC (.int 0))) aNil))))) (aCons (eBin wMod (eVar 3) (eBin wPow (eC (.int 10)) (eC (.int 18)))) (aCons (eBin wAdd (eBin wAdd (eBin wIdx (eVar 4) (eC (.int 2))) (eBin wIdx (eVar 5) (eC (.int 2)))) (eC (.int 1))) aNil)))))
def w__law_built_t2 (P : Calls) : WS :=
    (sSeq (sIf (tBl (eBin wEq (eVar 6) (eC (.str "*")))) (sAsg (eBin wMul (eBin wIdx (eVar 4) (eC (.int 1))) (eBin wIdx (eVar 5) (eC (.int 1)))) (gNm 3)) sPass)
    (w__law_built_t1 P))
def w__law_built_t3 (P : Calls) : WS :=
    (sSeq (sAsg (eCall P 39 (aCons (eVar 0) (aCons (eBin wSub (eVar 1) (eC (.int 1))) aNil))) (gNm 4))
    (sSeq (sAsg (eCall P 39 (aCons (eVar 0) (aCons (eBin wSub (eVar 1) (eC (.int 1))) aNil))) (gNm 5))
    (sSeq (sAsg (eBin wIdx (eC (.str "+-*")) (eBin wMod (eBin wDiv (eVar 2) (eC (.int 4))) (eC (.int 3)))) (gNm 6))
    (sSeq (sAsg (eBin wAdd (eBin wIdx (eVar 4) (eC (.int 1))) (eBin wIdx (eVar 5) (eC (.int 1)))) (gNm 3))
    (sSeq (sIf (tBl (eBin wEq (eVar 6) (eC (.str "-")))) (sAsg (eBin wSub (eBin wIdx (eVar 4) (eC (.int 1))) (eBin wIdx (eVar 5) (eC (.int 1)))) (gNm 3)) sPass)
    (w__law_built_t2 P))))))
def w__law_built_t4 (P : Calls) : WS :=
    (sSeq (sIf (tOr' (tBl (eBin wEq (eVar 1) (eC (.int 0)))) (tOr' (tBl (eBin wEq (eBi bLen (aCons (eVar 0) aNil)) (eC (.int 0)))) (tBl (eBin wEq (eBin wMod (eVar 2) (eC (.int 4))) (eC (.int 0)))))) (sSeq (sAsg (eCall P 38 (aCons (eBin wDiv (eVar 2) (eC (.int 4))) aNil)) (gNm 3))
    (sRet (eLst (aCons (eTup (aCons (eC (.str "number")) (aCons (eVar 3) aNil))) (aCons (eVar 3) (aCons (eC (.int 0)) aNil)))))) sPass)
    (w__law_built_t3 P))
/-- slots: 0:_law_draws_here 1:_law_deep 2:_law_draw 3:_law_number_here 4:_law_one 5:_law_other 6:_law_op -/
def w__law_built (P : Calls) : WS :=
    (sSeq (sAsg (eC (.int 0)) (gNm 2))
    (sSeq (sIf (tBl (eBin wGt (eBi bLen (aCons (eVar 0) aNil)) (eC (.int 0)))) (sAsg (eMt tyL' mPopAt (eVar 0) (aCons (eC (.int 0)) aNil)) (gNm 2)) sPass)
    (w__law_built_t4 P)))
def w_law_t1 (P : Calls) : WS :=
    (sSeq (sAsg (eBin wMod (eVar 3) (eBin wMul (eC (.int 3)) (eVar 8))) (gNm 12))
    (sRet (eBin wEqD (eCall P 36 (aApp [] (aCons (eVar 6) (aCons (eVar 2) (aCons (eVar 12) aNil))))) (eTup (aCons (eC (.str "spent")) (aCons (eC (.str "")) (aCons (eTup (aCons (eVar 12) (aCons (eC (.int 0)) (aCons (eC (.int 0)) aNil)))) (aCons (eLst aNil) aNil))))))))
def w_law_t2 (P : Calls) : WS :=
    (sSeq (sIf (tBl (eBin wEq (eVar 8) (eC (.int 0)))) (sRet (eC (.bl true))) sPass)
    (w_law_t1 P))
def w_law_t3 (P : Calls) : WS :=
    (sSeq (sAsg (eTup (aCons (eC (.str "told")) (aCons (eVar 7) (aCons (eTup (aCons (eBin wMul (eC (.int 3)) (eVar 8)) (aCons (eC (.int 0)) (aCons (eC (.int 0)) aNil)))) (aCons (eLst aNil) aNil))))) (gNm 11))
    (sSeq (sIf (tOr' (tBl (eBin wNeD (eCall P 36 (aApp [] (aCons (eVar 6) (aCons (eVar 2) (aCons (eBin wAdd (eBin wMul (eC (.int 3)) (eVar 8)) (eBin wMod (eVar 3) (eC (.int 3)))) aNil))))) (eVar 11))) (tBl (eBin wNeD (eCall P 36 (aApp [.int 8, .int 400] (aCons (eVar 6) aNil))) (eVar 11)))) (sRet (eC (.bl false))) sPass)
    (w_law_t2 P)))
def w_law_t4 (P : Calls) : WS :=
    (sSeq (sIf (tBl (eBin wEq (eVar 2) (eC (.int 0)))) (sRet (eBin wEqD (eCall P 36 (aApp [] (aCons (eVar 6) (aCons (eC (.int 0)) (aCons (eBin wMod (eVar 3) (eC (.int 9))) aNil))))) (eTup (aCons (eC (.str "told")) (aCons (eC (.str "?")) (aCons (eTup (aCons (eC (.int 0)) (aCons (eC (.int 0)) (aCons (eC (.int 0)) aNil)))) (aCons (eLst aNil) aNil))))))) sPass)
    (w_law_t3 P))
def w_law_b5 (P : Calls) : WS :=
    (sSeq (sAsg (eCall P 38 (aCons (eBin wDiv (eVar 4) (eC (.int 6))) aNil)) (gNm 9))
    (sSeq (sIf (tBl (eBin wEq (eBin wMod (eBin wDiv (eVar 4) (eC (.int 3))) (eC (.int 2))) (eC (.int 0)))) (sAsg (eBin wIdx (eVar 5) (eC (.int 1))) (gNm 9)) sPass)
    (sSeq (sAsg (eTup (aCons (eC (.str "does")) (aCons (eBin wIdx (eC (.str "<=")) (eBin wSub (eBin wMod (eVar 4) (eC (.int 3))) (eC (.int 1)))) (aCons (eVar 6) (aCons (eTup (aCons (eC (.str "number")) (aCons (eVar 9) aNil))) aNil))))) (gNm 6))
    (sSeq (sAsg (eOr (eAnd (eBin wEq (eBin wMod (eVar 4) (eC (.int 3))) (eC (.int 1))) (eBin wLt (eBin wIdx (eVar 5) (eC (.int 1))) (eVar 9))) (eAnd (eBin wEq (eBin wMod (eVar 4) (eC (.int 3))) (eC (.int 2))) (eBin wEq (eBin wIdx (eVar 5) (eC (.int 1))) (eVar 9)))) (gNm 10))
    (sSeq (sAsg (eBin wIdx (eLst (aCons (eC (.str "No")) (aCons (eC (.str "Yes")) aNil))) (eBi bInt (aCons (eVar 10) aNil))) (gNm 7))
    (sAsg (eBin wAdd (eVar 8) (eC (.int 1))) (gNm 8)))))))
/-- slots: 0:_law_script 1:_law_draws_here 2:_law_depth_asked 3:_law_short 4:_law_top 5:_law_one 6:_law_term 7:_law_text 8:_law_ops 9:_law_number_here 10:_law_yes 11:_law_due 12:_law_few -/
def w_law (P : Calls) : WS :=
    (sSeq (sAsg (eCall P 37 (aCons (eVar 0) (aCons (eC (.int 18)) aNil))) (gNm 1))
    (sSeq (sAsg (eBin wMod (eMt tyL' mPopAt (eVar 1) (aCons (eC (.int 0)) aNil)) (eC (.int 41))) (gNm 2))
    (sSeq (sAsg (eMt tyL' mPopAt (eVar 1) (aCons (eC (.int 0)) aNil)) (gNm 3))
    (sSeq (sAsg (eMt tyL' mPopAt (eVar 1) (aCons (eC (.int 0)) aNil)) (gNm 4))
    (sSeq (sAsg (eCall P 39 (aCons (eVar 1) (aCons (eC (.int 5)) aNil))) (gNm 5))
    (sSeq (sAsg (eBin wIdx (eVar 5) (eC (.int 0))) (gNm 6))
    (sSeq (sAsg (eBi bStr2 (aCons (eBin wIdx (eVar 5) (eC (.int 1))) aNil)) (gNm 7))
    (sSeq (sAsg (eBin wIdx (eVar 5) (eC (.int 2))) (gNm 8))
    (sSeq (sIf (tBl (eBin wGt (eBin wMod (eVar 4) (eC (.int 3))) (eC (.int 0)))) (w_law_b5 P) sPass)
    (w_law_t4 P))))))))))
abbrev i_with_parts : Nat := 0
abbrev i_with_lasts : Nat := 1
abbrev i_scopes : Nat := 2
abbrev i_let_scopes : Nat := 3
abbrev i_rows_scopes : Nat := 4
abbrev i_put : Nat := 5
abbrev i_changed : Nat := 6
abbrev i_without : Nat := 7
abbrev i_is_mark : Nat := 8
abbrev i_is_value : Nat := 9
abbrev i_reckoned : Nat := 10
abbrev i_truth : Nat := 11
abbrev i_picked : Nat := 12
abbrev i_alternative_of : Nat := 13
abbrev i_fits : Nat := 14
abbrev i_Runner___init__ : Nat := 15
abbrev i_Runner_go : Nat := 16
abbrev i_Runner_advance : Nat := 17
abbrev i_Runner_outcome : Nat := 18
abbrev i_Runner_settle : Nat := 19
abbrev i_Runner_tell_next : Nat := 20
abbrev i_Runner_tell_value : Nat := 21
abbrev i_Runner_take_step : Nat := 22
abbrev i_Runner_take_apart : Nat := 23
abbrev i_Runner_use_value : Nat := 24
abbrev i_Runner_go_into : Nat := 25
abbrev i_Runner_take_frame : Nat := 26
abbrev i_Runner_bind : Nat := 27
abbrev i_Runner_make : Nat := 28
abbrev i_Runner_mark_for : Nat := 29
abbrev i_Runner_bear : Nat := 30
abbrev i_Runner_note : Nat := 31
abbrev i_Runner_keep : Nat := 32
abbrev i_Runner_enter : Nat := 33
abbrev i_Runner_come_back : Nat := 34
abbrev i_pieces_of : Nat := 35
abbrev i_run : Nat := 36
abbrev i__law_draws : Nat := 37
abbrev i__law_number : Nat := 38
abbrev i__law_built : Nat := 39
abbrev i_law : Nat := 40
abbrev i_new_Runner : Nat := 41
def pr : List Df := [⟨3, 2, w_with_parts⟩, ⟨2, 2, w_with_lasts⟩, ⟨2, 1, w_scopes⟩, ⟨3, 2, w_let_scopes⟩, ⟨5, 2, w_rows_scopes⟩, ⟨3, 2, w_put⟩, ⟨8, 2, w_changed⟩, ⟨4, 2, w_without⟩, ⟨1, 1, w_is_mark⟩, ⟨1, 1, w_is_value⟩, ⟨4, 3, w_reckoned⟩, ⟨1, 1, w_truth⟩, ⟨3, 2, w_picked⟩, ⟨3, 2, w_alternative_of⟩, ⟨2, 2, w_fits⟩, ⟨3, 3, w_Runner___init__⟩, ⟨2, 2, w_Runner_go⟩, ⟨2, 2, w_Runner_advance⟩, ⟨2, 1, w_Runner_outcome⟩, ⟨1, 1, w_Runner_settle⟩, ⟨2, 1, w_Runner_tell_next⟩, ⟨1, 1, w_Runner_tell_value⟩, ⟨1, 1, w_Runner_take_step⟩, ⟨3, 2, w_Runner_take_apart⟩, ⟨4, 3, w_Runner_use_value⟩, ⟨3, 3, w_Runner_go_into⟩, ⟨1, 1, w_Runner_take_frame⟩, ⟨6, 3, w_Runner_bind⟩, ⟨6, 3, w_Runner_make⟩, ⟨4, 3, w_Runner_mark_for⟩, ⟨3, 2, w_Runner_bear⟩, ⟨3, 3, w_Runner_note⟩, ⟨3, 3, w_Runner_keep⟩, ⟨2, 2, w_Runner_enter⟩, ⟨2, 2, w_Runner_come_back⟩, ⟨4, 2, w_pieces_of⟩, ⟨3, 3, w_run⟩, ⟨5, 2, w__law_draws⟩, ⟨1, 1, w__law_number⟩, ⟨7, 2, w__law_built⟩, ⟨13, 1, w_law⟩, ⟨2, 2, wNew "Runner" 15⟩]
theorem u_with_parts {n : Nat} {vs : List T} {C : Hw} {Q : WK} {χ : WX} (hl : vs.length = 2) (h : w_with_parts (wpc pr n) { nx := fun _ C' => Q .non C', rt := Q, xc := χ } (vs.map some ++ List.replicate 1 none) C) : wpc pr (n + 1) 0 vs C Q χ := ⟨_, rfl, hl, h⟩
theorem u_with_lasts {n : Nat} {vs : List T} {C : Hw} {Q : WK} {χ : WX} (hl : vs.length = 2) (h : w_with_lasts (wpc pr n) { nx := fun _ C' => Q .non C', rt := Q, xc := χ } (vs.map some ++ List.replicate 0 none) C) : wpc pr (n + 1) 1 vs C Q χ := ⟨_, rfl, hl, h⟩
theorem u_scopes {n : Nat} {vs : List T} {C : Hw} {Q : WK} {χ : WX} (hl : vs.length = 1) (h : w_scopes (wpc pr n) { nx := fun _ C' => Q .non C', rt := Q, xc := χ } (vs.map some ++ List.replicate 1 none) C) : wpc pr (n + 1) 2 vs C Q χ := ⟨_, rfl, hl, h⟩
theorem u_let_scopes {n : Nat} {vs : List T} {C : Hw} {Q : WK} {χ : WX} (hl : vs.length = 2) (h : w_let_scopes (wpc pr n) { nx := fun _ C' => Q .non C', rt := Q, xc := χ } (vs.map some ++ List.replicate 1 none) C) : wpc pr (n + 1) 3 vs C Q χ := ⟨_, rfl, hl, h⟩
theorem u_rows_scopes {n : Nat} {vs : List T} {C : Hw} {Q : WK} {χ : WX} (hl : vs.length = 2) (h : w_rows_scopes (wpc pr n) { nx := fun _ C' => Q .non C', rt := Q, xc := χ } (vs.map some ++ List.replicate 3 none) C) : wpc pr (n + 1) 4 vs C Q χ := ⟨_, rfl, hl, h⟩
theorem u_put {n : Nat} {vs : List T} {C : Hw} {Q : WK} {χ : WX} (hl : vs.length = 2) (h : w_put (wpc pr n) { nx := fun _ C' => Q .non C', rt := Q, xc := χ } (vs.map some ++ List.replicate 1 none) C) : wpc pr (n + 1) 5 vs C Q χ := ⟨_, rfl, hl, h⟩
theorem u_changed {n : Nat} {vs : List T} {C : Hw} {Q : WK} {χ : WX} (hl : vs.length = 2) (h : w_changed (wpc pr n) { nx := fun _ C' => Q .non C', rt := Q, xc := χ } (vs.map some ++ List.replicate 6 none) C) : wpc pr (n + 1) 6 vs C Q χ := ⟨_, rfl, hl, h⟩
theorem u_without {n : Nat} {vs : List T} {C : Hw} {Q : WK} {χ : WX} (hl : vs.length = 2) (h : w_without (wpc pr n) { nx := fun _ C' => Q .non C', rt := Q, xc := χ } (vs.map some ++ List.replicate 2 none) C) : wpc pr (n + 1) 7 vs C Q χ := ⟨_, rfl, hl, h⟩
theorem u_is_mark {n : Nat} {vs : List T} {C : Hw} {Q : WK} {χ : WX} (hl : vs.length = 1) (h : w_is_mark (wpc pr n) { nx := fun _ C' => Q .non C', rt := Q, xc := χ } (vs.map some ++ List.replicate 0 none) C) : wpc pr (n + 1) 8 vs C Q χ := ⟨_, rfl, hl, h⟩
theorem u_is_value {n : Nat} {vs : List T} {C : Hw} {Q : WK} {χ : WX} (hl : vs.length = 1) (h : w_is_value (wpc pr n) { nx := fun _ C' => Q .non C', rt := Q, xc := χ } (vs.map some ++ List.replicate 0 none) C) : wpc pr (n + 1) 9 vs C Q χ := ⟨_, rfl, hl, h⟩
theorem u_reckoned {n : Nat} {vs : List T} {C : Hw} {Q : WK} {χ : WX} (hl : vs.length = 3) (h : w_reckoned (wpc pr n) { nx := fun _ C' => Q .non C', rt := Q, xc := χ } (vs.map some ++ List.replicate 1 none) C) : wpc pr (n + 1) 10 vs C Q χ := ⟨_, rfl, hl, h⟩
theorem u_truth {n : Nat} {vs : List T} {C : Hw} {Q : WK} {χ : WX} (hl : vs.length = 1) (h : w_truth (wpc pr n) { nx := fun _ C' => Q .non C', rt := Q, xc := χ } (vs.map some ++ List.replicate 0 none) C) : wpc pr (n + 1) 11 vs C Q χ := ⟨_, rfl, hl, h⟩
theorem u_picked {n : Nat} {vs : List T} {C : Hw} {Q : WK} {χ : WX} (hl : vs.length = 2) (h : w_picked (wpc pr n) { nx := fun _ C' => Q .non C', rt := Q, xc := χ } (vs.map some ++ List.replicate 1 none) C) : wpc pr (n + 1) 12 vs C Q χ := ⟨_, rfl, hl, h⟩
theorem u_alternative_of {n : Nat} {vs : List T} {C : Hw} {Q : WK} {χ : WX} (hl : vs.length = 2) (h : w_alternative_of (wpc pr n) { nx := fun _ C' => Q .non C', rt := Q, xc := χ } (vs.map some ++ List.replicate 1 none) C) : wpc pr (n + 1) 13 vs C Q χ := ⟨_, rfl, hl, h⟩
theorem u_fits {n : Nat} {vs : List T} {C : Hw} {Q : WK} {χ : WX} (hl : vs.length = 2) (h : w_fits (wpc pr n) { nx := fun _ C' => Q .non C', rt := Q, xc := χ } (vs.map some ++ List.replicate 0 none) C) : wpc pr (n + 1) 14 vs C Q χ := ⟨_, rfl, hl, h⟩
theorem u_Runner___init__ {n : Nat} {vs : List T} {C : Hw} {Q : WK} {χ : WX} (hl : vs.length = 3) (h : w_Runner___init__ (wpc pr n) { nx := fun _ C' => Q .non C', rt := Q, xc := χ } (vs.map some ++ List.replicate 0 none) C) : wpc pr (n + 1) 15 vs C Q χ := ⟨_, rfl, hl, h⟩
theorem u_Runner_go {n : Nat} {vs : List T} {C : Hw} {Q : WK} {χ : WX} (hl : vs.length = 2) (h : w_Runner_go (wpc pr n) { nx := fun _ C' => Q .non C', rt := Q, xc := χ } (vs.map some ++ List.replicate 0 none) C) : wpc pr (n + 1) 16 vs C Q χ := ⟨_, rfl, hl, h⟩
theorem u_Runner_advance {n : Nat} {vs : List T} {C : Hw} {Q : WK} {χ : WX} (hl : vs.length = 2) (h : w_Runner_advance (wpc pr n) { nx := fun _ C' => Q .non C', rt := Q, xc := χ } (vs.map some ++ List.replicate 0 none) C) : wpc pr (n + 1) 17 vs C Q χ := ⟨_, rfl, hl, h⟩
theorem u_Runner_outcome {n : Nat} {vs : List T} {C : Hw} {Q : WK} {χ : WX} (hl : vs.length = 1) (h : w_Runner_outcome (wpc pr n) { nx := fun _ C' => Q .non C', rt := Q, xc := χ } (vs.map some ++ List.replicate 1 none) C) : wpc pr (n + 1) 18 vs C Q χ := ⟨_, rfl, hl, h⟩
theorem u_Runner_settle {n : Nat} {vs : List T} {C : Hw} {Q : WK} {χ : WX} (hl : vs.length = 1) (h : w_Runner_settle (wpc pr n) { nx := fun _ C' => Q .non C', rt := Q, xc := χ } (vs.map some ++ List.replicate 0 none) C) : wpc pr (n + 1) 19 vs C Q χ := ⟨_, rfl, hl, h⟩
theorem u_Runner_tell_next {n : Nat} {vs : List T} {C : Hw} {Q : WK} {χ : WX} (hl : vs.length = 1) (h : w_Runner_tell_next (wpc pr n) { nx := fun _ C' => Q .non C', rt := Q, xc := χ } (vs.map some ++ List.replicate 1 none) C) : wpc pr (n + 1) 20 vs C Q χ := ⟨_, rfl, hl, h⟩
theorem u_Runner_tell_value {n : Nat} {vs : List T} {C : Hw} {Q : WK} {χ : WX} (hl : vs.length = 1) (h : w_Runner_tell_value (wpc pr n) { nx := fun _ C' => Q .non C', rt := Q, xc := χ } (vs.map some ++ List.replicate 0 none) C) : wpc pr (n + 1) 21 vs C Q χ := ⟨_, rfl, hl, h⟩
theorem u_Runner_take_step {n : Nat} {vs : List T} {C : Hw} {Q : WK} {χ : WX} (hl : vs.length = 1) (h : w_Runner_take_step (wpc pr n) { nx := fun _ C' => Q .non C', rt := Q, xc := χ } (vs.map some ++ List.replicate 0 none) C) : wpc pr (n + 1) 22 vs C Q χ := ⟨_, rfl, hl, h⟩
theorem u_Runner_take_apart {n : Nat} {vs : List T} {C : Hw} {Q : WK} {χ : WX} (hl : vs.length = 2) (h : w_Runner_take_apart (wpc pr n) { nx := fun _ C' => Q .non C', rt := Q, xc := χ } (vs.map some ++ List.replicate 1 none) C) : wpc pr (n + 1) 23 vs C Q χ := ⟨_, rfl, hl, h⟩
theorem u_Runner_use_value {n : Nat} {vs : List T} {C : Hw} {Q : WK} {χ : WX} (hl : vs.length = 3) (h : w_Runner_use_value (wpc pr n) { nx := fun _ C' => Q .non C', rt := Q, xc := χ } (vs.map some ++ List.replicate 1 none) C) : wpc pr (n + 1) 24 vs C Q χ := ⟨_, rfl, hl, h⟩
theorem u_Runner_go_into {n : Nat} {vs : List T} {C : Hw} {Q : WK} {χ : WX} (hl : vs.length = 3) (h : w_Runner_go_into (wpc pr n) { nx := fun _ C' => Q .non C', rt := Q, xc := χ } (vs.map some ++ List.replicate 0 none) C) : wpc pr (n + 1) 25 vs C Q χ := ⟨_, rfl, hl, h⟩
theorem u_Runner_take_frame {n : Nat} {vs : List T} {C : Hw} {Q : WK} {χ : WX} (hl : vs.length = 1) (h : w_Runner_take_frame (wpc pr n) { nx := fun _ C' => Q .non C', rt := Q, xc := χ } (vs.map some ++ List.replicate 0 none) C) : wpc pr (n + 1) 26 vs C Q χ := ⟨_, rfl, hl, h⟩
theorem u_Runner_bind {n : Nat} {vs : List T} {C : Hw} {Q : WK} {χ : WX} (hl : vs.length = 3) (h : w_Runner_bind (wpc pr n) { nx := fun _ C' => Q .non C', rt := Q, xc := χ } (vs.map some ++ List.replicate 3 none) C) : wpc pr (n + 1) 27 vs C Q χ := ⟨_, rfl, hl, h⟩
theorem u_Runner_make {n : Nat} {vs : List T} {C : Hw} {Q : WK} {χ : WX} (hl : vs.length = 3) (h : w_Runner_make (wpc pr n) { nx := fun _ C' => Q .non C', rt := Q, xc := χ } (vs.map some ++ List.replicate 3 none) C) : wpc pr (n + 1) 28 vs C Q χ := ⟨_, rfl, hl, h⟩
theorem u_Runner_mark_for {n : Nat} {vs : List T} {C : Hw} {Q : WK} {χ : WX} (hl : vs.length = 3) (h : w_Runner_mark_for (wpc pr n) { nx := fun _ C' => Q .non C', rt := Q, xc := χ } (vs.map some ++ List.replicate 1 none) C) : wpc pr (n + 1) 29 vs C Q χ := ⟨_, rfl, hl, h⟩
theorem u_Runner_bear {n : Nat} {vs : List T} {C : Hw} {Q : WK} {χ : WX} (hl : vs.length = 2) (h : w_Runner_bear (wpc pr n) { nx := fun _ C' => Q .non C', rt := Q, xc := χ } (vs.map some ++ List.replicate 1 none) C) : wpc pr (n + 1) 30 vs C Q χ := ⟨_, rfl, hl, h⟩
theorem u_Runner_note {n : Nat} {vs : List T} {C : Hw} {Q : WK} {χ : WX} (hl : vs.length = 3) (h : w_Runner_note (wpc pr n) { nx := fun _ C' => Q .non C', rt := Q, xc := χ } (vs.map some ++ List.replicate 0 none) C) : wpc pr (n + 1) 31 vs C Q χ := ⟨_, rfl, hl, h⟩
theorem u_Runner_keep {n : Nat} {vs : List T} {C : Hw} {Q : WK} {χ : WX} (hl : vs.length = 3) (h : w_Runner_keep (wpc pr n) { nx := fun _ C' => Q .non C', rt := Q, xc := χ } (vs.map some ++ List.replicate 0 none) C) : wpc pr (n + 1) 32 vs C Q χ := ⟨_, rfl, hl, h⟩
theorem u_Runner_enter {n : Nat} {vs : List T} {C : Hw} {Q : WK} {χ : WX} (hl : vs.length = 2) (h : w_Runner_enter (wpc pr n) { nx := fun _ C' => Q .non C', rt := Q, xc := χ } (vs.map some ++ List.replicate 0 none) C) : wpc pr (n + 1) 33 vs C Q χ := ⟨_, rfl, hl, h⟩
theorem u_Runner_come_back {n : Nat} {vs : List T} {C : Hw} {Q : WK} {χ : WX} (hl : vs.length = 2) (h : w_Runner_come_back (wpc pr n) { nx := fun _ C' => Q .non C', rt := Q, xc := χ } (vs.map some ++ List.replicate 0 none) C) : wpc pr (n + 1) 34 vs C Q χ := ⟨_, rfl, hl, h⟩
theorem u_pieces_of {n : Nat} {vs : List T} {C : Hw} {Q : WK} {χ : WX} (hl : vs.length = 2) (h : w_pieces_of (wpc pr n) { nx := fun _ C' => Q .non C', rt := Q, xc := χ } (vs.map some ++ List.replicate 2 none) C) : wpc pr (n + 1) 35 vs C Q χ := ⟨_, rfl, hl, h⟩
theorem u_run {n : Nat} {vs : List T} {C : Hw} {Q : WK} {χ : WX} (hl : vs.length = 3) (h : w_run (wpc pr n) { nx := fun _ C' => Q .non C', rt := Q, xc := χ } (vs.map some ++ List.replicate 0 none) C) : wpc pr (n + 1) 36 vs C Q χ := ⟨_, rfl, hl, h⟩
theorem u__law_draws {n : Nat} {vs : List T} {C : Hw} {Q : WK} {χ : WX} (hl : vs.length = 2) (h : w__law_draws (wpc pr n) { nx := fun _ C' => Q .non C', rt := Q, xc := χ } (vs.map some ++ List.replicate 3 none) C) : wpc pr (n + 1) 37 vs C Q χ := ⟨_, rfl, hl, h⟩
theorem u__law_number {n : Nat} {vs : List T} {C : Hw} {Q : WK} {χ : WX} (hl : vs.length = 1) (h : w__law_number (wpc pr n) { nx := fun _ C' => Q .non C', rt := Q, xc := χ } (vs.map some ++ List.replicate 0 none) C) : wpc pr (n + 1) 38 vs C Q χ := ⟨_, rfl, hl, h⟩
theorem u__law_built {n : Nat} {vs : List T} {C : Hw} {Q : WK} {χ : WX} (hl : vs.length = 2) (h : w__law_built (wpc pr n) { nx := fun _ C' => Q .non C', rt := Q, xc := χ } (vs.map some ++ List.replicate 5 none) C) : wpc pr (n + 1) 39 vs C Q χ := ⟨_, rfl, hl, h⟩
theorem u_law {n : Nat} {vs : List T} {C : Hw} {Q : WK} {χ : WX} (hl : vs.length = 1) (h : w_law (wpc pr n) { nx := fun _ C' => Q .non C', rt := Q, xc := χ } (vs.map some ++ List.replicate 12 none) C) : wpc pr (n + 1) 40 vs C Q χ := ⟨_, rfl, hl, h⟩
theorem u_new_Runner {n : Nat} {vs : List T} {C : Hw} {Q : WK} {χ : WX} (hl : vs.length = 2) (h : ∀ p, C p = none → wpc pr n 15 (.ref p :: vs) (up C p (.ins "Runner" [])) (fun v C2 => v = .non ∧ Q (.ref p) C2) χ) : wpc pr (n + 1) 41 vs C Q χ := ⟨_, rfl, hl, vs, List.append_nil _, h⟩
end K33
set_option Elab.async false
set_option linter.all false
set_option maxRecDepth 100000
set_option maxHeartbeats 4000000
namespace K33
open PySem PySem.Spec PyProof.Rows L2 WL
def top (i : Nat) : Stmt := PySem.Challenge.pw_idlegraph_k33_sums.main.body.getD i (.Pass ⟨0, 0, 0, 0⟩)
structure Txt (K : PySem.W.Frag) (mg : Str → Option Value) : Prop where
  n_int : mg "int" = none
  n_isinstance : mg "isinstance" = none
  n_len : mg "len" = none
  n_list : mg "list" = none
  n_max : mg "max" = none
  n_range : mg "range" = none
  n_reversed : mg "reversed" = none
  n_str : mg "str" = none
  g_VALUES : Glb K mg "VALUES" g_VALUES
  f_Runner_cells : KF K "cells" "Runner"
  f_Runner_ending : KF K "ending" "Runner"
  f_Runner_firsts : KF K "firsts" "Runner"
  f_Runner_hand : KF K "hand" "Runner"
  f_Runner_labels : KF K "labels" "Runner"
  f_Runner_log : KF K "log" "Runner"
  f_Runner_pile : KF K "pile" "Runner"
  f_Runner_steps : KF K "steps" "Runner"
  f_Runner_still : KF K "still" "Runner"
  f_Runner_things : KF K "things" "Runner"
  f_Runner_told : KF K "told" "Runner"
  f_Runner_wanted : KF K "wanted" "Runner"
structure Cs (Pg : Program) (w : World) (K : PySem.W.Frag) (mg : Str → Option Value) (base : Heap) (n : Nat) : Prop where
  c_with_parts : Ca Pg w K mg base n "with_parts" ["term", "given"] (spW K pr n 0)
  c_with_lasts : Ca Pg w K mg base n "with_lasts" ["tuples", "lasts"] (spW K pr n 1)
  c_scopes : Ca Pg w K mg base n "scopes" ["term"] (spW K pr n 2)
  c_let_scopes : Ca Pg w K mg base n "let_scopes" ["pairs", "body"] (spW K pr n 3)
  c_rows_scopes : Ca Pg w K mg base n "rows_scopes" ["body", "steps"] (spW K pr n 4)
  c_put : Ca Pg w K mg base n "put" ["term", "marks"] (spW K pr n 5)
  c_changed : Ca Pg w K mg base n "changed" ["term", "marks"] (spW K pr n 6)
  c_without : Ca Pg w K mg base n "without" ["marks", "names"] (spW K pr n 7)
  c_is_mark : Ca Pg w K mg base n "is_mark" ["term"] (spW K pr n 8)
  c_is_value : Ca Pg w K mg base n "is_value" ["term"] (spW K pr n 9)
  c_reckoned : Ca Pg w K mg base n "reckoned" ["op", "one", "other"] (spW K pr n 10)
  c_truth : Ca Pg w K mg base n "truth" ["holds"] (spW K pr n 11)
  c_picked : Ca Pg w K mg base n "picked" ["value", "alternatives"] (spW K pr n 12)
  c_alternative_of : Ca Pg w K mg base n "alternative_of" ["value", "alternatives"] (spW K pr n 13)
  c_fits : Ca Pg w K mg base n "fits" ["value", "frame"] (spW K pr n 14)
  c_pieces_of : Ca Pg w K mg base n "pieces_of" ["value", "depth"] (spW K pr n 35)
  c_run : CaD Pg w K mg base n "run" ["term", "depth", "most"] [8, 400] (spW K pr n 36)
  c__law_draws : Ca Pg w K mg base n "_law_draws" ["_law_script", "_law_many"] (spW K pr n 37)
  c__law_number : Ca Pg w K mg base n "_law_number" ["_law_draw"] (spW K pr n 38)
  c__law_built : Ca Pg w K mg base n "_law_built" ["_law_draws_here", "_law_deep"] (spW K pr n 39)
  c_law : Ca Pg w K mg base n "law" ["_law_script"] (spW K pr n 40)
  m_Runner___init__ : Cm Pg w K mg base n "Runner" "__init__" ["self", "term", "depth"] (spW K pr n 15)
  m_Runner_go : Cm Pg w K mg base n "Runner" "go" ["self", "most"] (spW K pr n 16)
  m_Runner_advance : Cm Pg w K mg base n "Runner" "advance" ["self", "most"] (spW K pr n 17)
  m_Runner_outcome : Cm Pg w K mg base n "Runner" "outcome" ["self"] (spW K pr n 18)
  m_Runner_settle : Cm Pg w K mg base n "Runner" "settle" ["self"] (spW K pr n 19)
  m_Runner_tell_next : Cm Pg w K mg base n "Runner" "tell_next" ["self"] (spW K pr n 20)
  m_Runner_tell_value : Cm Pg w K mg base n "Runner" "tell_value" ["self"] (spW K pr n 21)
  m_Runner_take_step : Cm Pg w K mg base n "Runner" "take_step" ["self"] (spW K pr n 22)
  m_Runner_take_apart : Cm Pg w K mg base n "Runner" "take_apart" ["self", "term"] (spW K pr n 23)
  m_Runner_use_value : Cm Pg w K mg base n "Runner" "use_value" ["self", "value", "frame"] (spW K pr n 24)
  m_Runner_go_into : Cm Pg w K mg base n "Runner" "go_into" ["self", "term", "frame"] (spW K pr n 25)
  m_Runner_take_frame : Cm Pg w K mg base n "Runner" "take_frame" ["self"] (spW K pr n 26)
  m_Runner_bind : Cm Pg w K mg base n "Runner" "bind" ["self", "pairs", "body"] (spW K pr n 27)
  m_Runner_make : Cm Pg w K mg base n "Runner" "make" ["self", "shape", "given"] (spW K pr n 28)
  m_Runner_mark_for : Cm Pg w K mg base n "Runner" "mark_for" ["self", "label", "text"] (spW K pr n 29)
  m_Runner_bear : Cm Pg w K mg base n "Runner" "bear" ["self", "label"] (spW K pr n 30)
  m_Runner_note : Cm Pg w K mg base n "Runner" "note" ["self", "event", "number"] (spW K pr n 31)
  m_Runner_keep : Cm Pg w K mg base n "Runner" "keep" ["self", "number", "text"] (spW K pr n 32)
  m_Runner_enter : Cm Pg w K mg base n "Runner" "enter" ["self", "number"] (spW K pr n 33)
  m_Runner_come_back : Cm Pg w K mg base n "Runner" "come_back" ["self", "number"] (spW K pr n 34)
  n_Runner : Cn Pg w K mg base n pr "Runner" 15 41
section
variable {Pg : Program} {w : World} {K : PySem.W.Frag} {mg : Str → Option Value} {base : Heap} {f : Addr} {fd : FuncData} {n : Nat}
abbrev st_with_parts : Stmt := top 1
theorem sc_with_parts : FnScope ["term", "given", "sort"] ["term", "given"] (defScope st_with_parts) := ⟨rfl, rfl, rfl, by decide +kernel, rfl, by decide +kernel, by decide +kernel⟩
theorem ok_with_parts (T : Txt K mg) (S : Cs Pg w K mg base n) (F : Fun K "with_parts" "with_parts" st_with_parts f fd) : FnOk Pg w K mg base CX0 (n + 1) f fd ["term", "given"] (spW K pr (n + 1) 0) := fn_okQ F sc_with_parts rfl rfl rfl fun cdv A outer s H E hr => by
    have nd := sc_with_parts.nd
    have hu := hu150 hr
    show SdB _ (defBody st_with_parts) (w_with_parts (wpc pr n))
    unfold w_with_parts
    exact db_never
abbrev st_with_lasts : Stmt := top 2
theorem sc_with_lasts : FnScope ["tuples", "lasts"] ["tuples", "lasts"] (defScope st_with_lasts) := ⟨rfl, rfl, rfl, by decide +kernel, rfl, by decide +kernel, by decide +kernel⟩
theorem ok_with_lasts (T : Txt K mg) (S : Cs Pg w K mg base n) (F : Fun K "with_lasts" "with_lasts" st_with_lasts f fd) : FnOk Pg w K mg base CX0 (n + 1) f fd ["tuples", "lasts"] (spW K pr (n + 1) 1) := fn_okQ F sc_with_lasts rfl rfl rfl fun cdv A outer s H E hr => by
    have nd := sc_with_lasts.nd
    have hu := hu150 hr
    show SdB _ (defBody st_with_lasts) (w_with_lasts (wpc pr n))
    unfold w_with_lasts
    exact db_never
abbrev st_scopes : Stmt := top 4
theorem sc_scopes : FnScope ["term", "sort"] ["term"] (defScope st_scopes) := ⟨rfl, rfl, rfl, by decide +kernel, rfl, by decide +kernel, by decide +kernel⟩
theorem ok_scopes (T : Txt K mg) (S : Cs Pg w K mg base n) (F : Fun K "scopes" "scopes" st_scopes f fd) : FnOk Pg w K mg base CX0 (n + 1) f fd ["term"] (spW K pr (n + 1) 2) := fn_okQ F sc_scopes rfl rfl rfl fun cdv A outer s H E hr => by
    have nd := sc_scopes.nd
    have hu := hu150 hr
    show SdB _ (defBody st_scopes) (w_scopes (wpc pr n))
    unfold w_scopes
    exact db_never
abbrev st_let_scopes : Stmt := top 5
theorem sc_let_scopes : FnScope ["pairs", "body", "names"] ["pairs", "body"] (defScope st_let_scopes) := ⟨rfl, rfl, rfl, by decide +kernel, rfl, by decide +kernel, by decide +kernel⟩
theorem ok_let_scopes (T : Txt K mg) (S : Cs Pg w K mg base n) (F : Fun K "let_scopes" "let_scopes" st_let_scopes f fd) : FnOk Pg w K mg base CX0 (n + 1) f fd ["pairs", "body"] (spW K pr (n + 1) 3) := fn_okQ F sc_let_scopes rfl rfl rfl fun cdv A outer s H E hr => by
    have nd := sc_let_scopes.nd
    have hu := hu150 hr
    show SdB _ (defBody st_let_scopes) (w_let_scopes (wpc pr n))
    unfold w_let_scopes
    exact db_never
abbrev st_rows_scopes : Stmt := top 6
theorem sc_rows_scopes : FnScope ["body", "steps", "bound", "behind", "step"] ["body", "steps"] (defScope st_rows_scopes) := ⟨rfl, rfl, rfl, by decide +kernel, rfl, by decide +kernel, by decide +kernel⟩
theorem ok_rows_scopes (T : Txt K mg) (S : Cs Pg w K mg base n) (F : Fun K "rows_scopes" "rows_scopes" st_rows_scopes f fd) : FnOk Pg w K mg base CX0 (n + 1) f fd ["body", "steps"] (spW K pr (n + 1) 4) := fn_okQ F sc_rows_scopes rfl rfl rfl fun cdv A outer s H E hr => by
    have nd := sc_rows_scopes.nd
    have hu := hu150 hr
    show SdB _ (defBody st_rows_scopes) (w_rows_scopes (wpc pr n))
    unfold w_rows_scopes
    exact db_never
abbrev st_put : Stmt := top 8
theorem sc_put : FnScope ["term", "marks", "given"] ["term", "marks"] (defScope st_put) := ⟨rfl, rfl, rfl, by decide +kernel, rfl, by decide +kernel, by decide +kernel⟩
theorem ok_put (T : Txt K mg) (S : Cs Pg w K mg base n) (F : Fun K "put" "put" st_put f fd) : FnOk Pg w K mg base CX0 (n + 1) f fd ["term", "marks"] (spW K pr (n + 1) 5) := fn_okQ F sc_put rfl rfl rfl fun cdv A outer s H E hr => by
    have nd := sc_put.nd
    have hu := hu150 hr
    show SdB _ (defBody st_put) (w_put (wpc pr n))
    unfold w_put
    exact db_never
abbrev st_changed : Stmt := top 9
theorem sc_changed : FnScope ["term", "marks", "stays", "given", "names", "part", "left", "one"] ["term", "marks"] (defScope st_changed) := ⟨rfl, rfl, rfl, by decide +kernel, rfl, by decide +kernel, by decide +kernel⟩
theorem ok_changed (T : Txt K mg) (S : Cs Pg w K mg base n) (F : Fun K "changed" "changed" st_changed f fd) : FnOk Pg w K mg base CX0 (n + 1) f fd ["term", "marks"] (spW K pr (n + 1) 6) := fn_okQ F sc_changed rfl rfl rfl fun cdv A outer s H E hr => by
    have nd := sc_changed.nd
    have hu := hu150 hr
    show SdB _ (defBody st_changed) (w_changed (wpc pr n))
    unfold w_changed
    exact db_never
abbrev st_without : Stmt := top 10
theorem sc_without : FnScope ["marks", "names", "left", "name"] ["marks", "names"] (defScope st_without) := ⟨rfl, rfl, rfl, by decide +kernel, rfl, by decide +kernel, by decide +kernel⟩
theorem ok_without (T : Txt K mg) (S : Cs Pg w K mg base n) (F : Fun K "without" "without" st_without f fd) : FnOk Pg w K mg base CX0 (n + 1) f fd ["marks", "names"] (spW K pr (n + 1) 7) := fn_okQ F sc_without rfl rfl rfl fun cdv A outer s H E hr => by
    have nd := sc_without.nd
    have hu := hu150 hr
    show SdB _ (defBody st_without) (w_without (wpc pr n))
    unfold w_without
    exact db_never
abbrev st_is_mark : Stmt := top 14
theorem sc_is_mark : FnScope ["term"] ["term"] (defScope st_is_mark) := ⟨rfl, rfl, rfl, by decide +kernel, rfl, by decide +kernel, by decide +kernel⟩
theorem ok_is_mark (T : Txt K mg) (S : Cs Pg w K mg base n) (F : Fun K "is_mark" "is_mark" st_is_mark f fd) : FnOk Pg w K mg base CX0 (n + 1) f fd ["term"] (spW K pr (n + 1) 8) := fn_okQ F sc_is_mark rfl rfl rfl fun cdv A outer s H E hr => by
    have nd := sc_is_mark.nd
    have hu := hu150 hr
    show SdB _ (defBody st_is_mark) (w_is_mark (wpc pr n))
    unfold w_is_mark
    exact db_never
abbrev st_is_value : Stmt := top 15
theorem sc_is_value : FnScope ["term"] ["term"] (defScope st_is_value) := ⟨rfl, rfl, rfl, by decide +kernel, rfl, by decide +kernel, by decide +kernel⟩
theorem ok_is_value (T : Txt K mg) (S : Cs Pg w K mg base n) (F : Fun K "is_value" "is_value" st_is_value f fd) : FnOk Pg w K mg base CX0 (n + 1) f fd ["term"] (spW K pr (n + 1) 9) := fn_okQ F sc_is_value rfl rfl rfl fun cdv A outer s H E hr => by
    have nd := sc_is_value.nd
    have hu := hu150 hr
    show SdB _ (defBody st_is_value) (w_is_value (wpc pr n))
    unfold w_is_value
    exact (db_one (ds_ret (d_cmp (o_in hu) (d_ix (d_var 0) d_int (fun _ _ => rfl)) (d_gl (by rfl) T.g_VALUES) (by rfl))))
abbrev st_reckoned : Stmt := top 16
theorem sc_reckoned : FnScope ["op", "one", "other", "outcome"] ["op", "one", "other"] (defScope st_reckoned) := ⟨rfl, rfl, rfl, by decide +kernel, rfl, by decide +kernel, by decide +kernel⟩
theorem ok_reckoned (T : Txt K mg) (S : Cs Pg w K mg base n) (F : Fun K "reckoned" "reckoned" st_reckoned f fd) : FnOk Pg w K mg base CX0 (n + 1) f fd ["op", "one", "other"] (spW K pr (n + 1) 10) := fn_okQ F sc_reckoned rfl rfl rfl fun cdv A outer s H E hr => by
    have nd := sc_reckoned.nd
    have hu := hu150 hr
    show SdB _ (defBody st_reckoned) (w_reckoned (wpc pr n))
    unfold w_reckoned
    exact (db_cons (ds_if (dt_cmp (o_eq hu) (d_var 0) d_str (nomark _)) (db_one (ds_ret (d_call S.c_truth hr (by rfl) (da_cons (d_cmp o_lt (d_var 1) (d_var 2) (nomark _)) da_nil)))) db_nil)
      (db_cons (ds_if (dt_cmp (o_eq hu) (d_var 0) d_str (nomark _)) (db_one (ds_ret (d_call S.c_truth hr (by rfl) (da_cons (d_cmp (o_eq hu) (d_var 1) (d_var 2) (nomark _)) da_nil)))) db_nil)
      (db_cons (ds_if (dt_cmp (o_eq hu) (d_var 0) d_str (nomark _)) (db_one (ds_set (i := 3) nd (d_op o_add (d_var 1) (d_var 2)))) (db_one (ds_if (dt_cmp (o_eq hu) (d_var 0) d_str (nomark _)) (db_one (ds_set (i := 3) nd (d_op o_sub (d_var 1) (d_var 2)))) (db_one (ds_set (i := 3) nd (d_op o_mul (d_var 1) (d_var 2)))))))
      (db_one (ds_ret (d_tup (da_cons d_str (da_cons (d_op o_mod (d_var 3) (d_op o_pow d_int d_int)) da_nil))))))))
abbrev st_truth : Stmt := top 17
theorem sc_truth : FnScope ["holds"] ["holds"] (defScope st_truth) := ⟨rfl, rfl, rfl, by decide +kernel, rfl, by decide +kernel, by decide +kernel⟩
theorem ok_truth (T : Txt K mg) (S : Cs Pg w K mg base n) (F : Fun K "truth" "truth" st_truth f fd) : FnOk Pg w K mg base CX0 (n + 1) f fd ["holds"] (spW K pr (n + 1) 11) := fn_okQ F sc_truth rfl rfl rfl fun cdv A outer s H E hr => by
    have nd := sc_truth.nd
    have hu := hu150 hr
    show SdB _ (defBody st_truth) (w_truth (wpc pr n))
    unfold w_truth
    exact (db_one (ds_ret (d_tup (da_cons d_str (da_cons (d_ife (dt_tru (d_var 0)) d_str d_str) (da_cons (d_tup da_nil) da_nil))))))
abbrev st_picked : Stmt := top 18
theorem sc_picked : FnScope ["value", "alternatives", "found"] ["value", "alternatives"] (defScope st_picked) := ⟨rfl, rfl, rfl, by decide +kernel, rfl, by decide +kernel, by decide +kernel⟩
theorem ok_picked (T : Txt K mg) (S : Cs Pg w K mg base n) (F : Fun K "picked" "picked" st_picked f fd) : FnOk Pg w K mg base CX0 (n + 1) f fd ["value", "alternatives"] (spW K pr (n + 1) 12) := fn_okQ F sc_picked rfl rfl rfl fun cdv A outer s H E hr => by
    have nd := sc_picked.nd
    have hu := hu150 hr
    show SdB _ (defBody st_picked) (w_picked (wpc pr n))
    unfold w_picked
    exact db_never
abbrev st_alternative_of : Stmt := top 19
theorem sc_alternative_of : FnScope ["value", "alternatives", "alternative"] ["value", "alternatives"] (defScope st_alternative_of) := ⟨rfl, rfl, rfl, by decide +kernel, rfl, by decide +kernel, by decide +kernel⟩
theorem ok_alternative_of (T : Txt K mg) (S : Cs Pg w K mg base n) (F : Fun K "alternative_of" "alternative_of" st_alternative_of f fd) : FnOk Pg w K mg base CX0 (n + 1) f fd ["value", "alternatives"] (spW K pr (n + 1) 13) := fn_okQ F sc_alternative_of rfl rfl rfl fun cdv A outer s H E hr => by
    have nd := sc_alternative_of.nd
    have hu := hu150 hr
    show SdB _ (defBody st_alternative_of) (w_alternative_of (wpc pr n))
    unfold w_alternative_of
    exact db_never
abbrev st_fits : Stmt := top 20
theorem sc_fits : FnScope ["value", "frame"] ["value", "frame"] (defScope st_fits) := ⟨rfl, rfl, rfl, by decide +kernel, rfl, by decide +kernel, by decide +kernel⟩
theorem ok_fits (T : Txt K mg) (S : Cs Pg w K mg base n) (F : Fun K "fits" "fits" st_fits f fd) : FnOk Pg w K mg base CX0 (n + 1) f fd ["value", "frame"] (spW K pr (n + 1) 14) := fn_okQ F sc_fits rfl rfl rfl fun cdv A outer s H E hr => by
    have nd := sc_fits.nd
    have hu := hu150 hr
    show SdB _ (defBody st_fits) (w_fits (wpc pr n))
    unfold w_fits
    exact (db_cons (ds_if (dt_cmp (o_eq hu) (d_ix (d_var 1) d_int (fun _ _ => rfl)) d_str (nomark _)) (db_one (ds_ret (d_cmp (o_eq hu) (d_ix (d_var 0) d_int (fun _ _ => rfl)) d_str (nomark _)))) db_nil)
      (db_cons (ds_if (dt_cmp (o_eq hu) (d_ix (d_var 1) d_int (fun _ _ => rfl)) d_str (nomark _)) (db_one (ds_ret (d_cmp o_notN (d_call S.c_alternative_of hr (by rfl) (da_cons (d_var 0) (da_cons (d_ix (d_var 1) d_int (fun _ _ => rfl)) da_nil))) d_non (nomark _)))) db_nil)
      (db_cons (ds_if (dt_w (dw_or (dt_cmp (o_eq hu) (d_ix (d_var 1) d_int (fun _ _ => rfl)) d_str (nomark _)) (dw_or1 (dt_cmp (o_eq hu) (d_ix (d_var 1) d_int (fun _ _ => rfl)) d_str (nomark _))))) (db_one (ds_ret (d_cmp (o_eq hu) (d_ix (d_var 0) d_int (fun _ _ => rfl)) d_str (nomark _)))) db_nil)
      (db_one (ds_ret d_bl)))))
abbrev st_Runner___init__ : Stmt := inClass (top 22) 0
theorem sc_Runner___init__ : FnScope ["self", "term", "depth"] ["self", "term", "depth"] (defScope st_Runner___init__) := ⟨rfl, rfl, rfl, by decide +kernel, rfl, by decide +kernel, by decide +kernel⟩
theorem ok_Runner___init__ (T : Txt K mg) (S : Cs Pg w K mg base n) (F : Fun K "__init__" "Runner.__init__" st_Runner___init__ f fd) : FnOk Pg w K mg base CX0 (n + 1) f fd ["self", "term", "depth"] (spW K pr (n + 1) 15) := fn_okQ F sc_Runner___init__ rfl rfl rfl fun cdv A outer s H E hr => by
    have nd := sc_Runner___init__.nd
    have hu := hu150 hr
    show SdB _ (defBody st_Runner___init__) (w_Runner___init__ (wpc pr n))
    unfold w_Runner___init__
    exact (db_cons (ds_fld (kf_cons T.f_Runner_hand kf_nil) (d_var 0) d_non)
      (db_cons (ds_fld (kf_cons T.f_Runner_wanted kf_nil) (d_var 0) d_int)
      (db_cons (ds_fld (kf_cons T.f_Runner_pile kf_nil) (d_var 0) (d_lst da_nil))
      (db_cons (ds_fld (kf_cons T.f_Runner_still kf_nil) (d_var 0) (d_lst (da_cons (d_tup (da_cons (d_var 2) (da_cons (d_var 1) da_nil))) da_nil)))
      (db_cons (ds_fld (kf_cons T.f_Runner_told kf_nil) (d_var 0) (d_lst da_nil))
      (db_cons (ds_fld (kf_cons T.f_Runner_things kf_nil) (d_var 0) d_dict0)
      (db_cons (ds_fld (kf_cons T.f_Runner_labels kf_nil) (d_var 0) (d_lst da_nil))
      (db_cons (ds_fld (kf_cons T.f_Runner_log kf_nil) (d_var 0) (d_lst da_nil))
      (db_cons (ds_fld (kf_cons T.f_Runner_steps kf_nil) (d_var 0) d_int)
      (db_cons (ds_fld (kf_cons T.f_Runner_cells kf_nil) (d_var 0) d_int)
      (db_cons (ds_fld (kf_cons T.f_Runner_firsts kf_nil) (d_var 0) d_int)
      (db_one (ds_fld (kf_cons T.f_Runner_ending kf_nil) (d_var 0) d_non)))))))))))))
abbrev st_Runner_go : Stmt := inClass (top 22) 1
theorem sc_Runner_go : FnScope ["self", "most"] ["self", "most"] (defScope st_Runner_go) := ⟨rfl, rfl, rfl, by decide +kernel, rfl, by decide +kernel, by decide +kernel⟩
theorem ok_Runner_go (T : Txt K mg) (S : Cs Pg w K mg base n) (F : Fun K "go" "Runner.go" st_Runner_go f fd) : FnOk Pg w K mg base CX0 (n + 1) f fd ["self", "most"] (spW K pr (n + 1) 16) := fn_okQ F sc_Runner_go rfl rfl rfl fun cdv A outer s H E hr => by
    have nd := sc_Runner_go.nd
    have hu := hu150 hr
    show SdB _ (defBody st_Runner_go) (w_Runner_go (wpc pr n))
    unfold w_Runner_go
    exact (db_cons (ds_expr (d_meth (pr := pr) (pl := _) (mt_cons S.m_Runner_advance mt_nil) hr (d_var 0) (da_cons (d_var 1) da_nil)))
      (db_one (ds_ret (d_meth0 (pr := pr) (pl := _) (mt_cons S.m_Runner_outcome mt_nil) hr (d_var 0)))))
abbrev st_Runner_advance : Stmt := inClass (top 22) 2
theorem sc_Runner_advance : FnScope ["self", "most"] ["self", "most"] (defScope st_Runner_advance) := ⟨rfl, rfl, rfl, by decide +kernel, rfl, by decide +kernel, by decide +kernel⟩
theorem ok_Runner_advance (T : Txt K mg) (S : Cs Pg w K mg base n) (F : Fun K "advance" "Runner.advance" st_Runner_advance f fd) : FnOk Pg w K mg base CX0 (n + 1) f fd ["self", "most"] (spW K pr (n + 1) 17) := fn_okQ F sc_Runner_advance rfl rfl rfl fun cdv A outer s H E hr => by
    have nd := sc_Runner_advance.nd
    have hu := hu150 hr
    show SdB _ (defBody st_Runner_advance) (w_Runner_advance (wpc pr n))
    unfold w_Runner_advance
    exact (db_cons (ds_expr (d_meth0 (pr := pr) (pl := _) (mt_cons S.m_Runner_settle mt_nil) hr (d_var 0)))
      (db_one (ds_while PassesOwn.never (dt_w (dw_and (dt_cmp o_isN (d_fld (kf_cons T.f_Runner_ending kf_nil) (d_var 0)) d_non (nomark _)) (dw_and1 (dt_cmp o_lt (d_fld (kf_cons T.f_Runner_steps kf_nil) (d_var 0)) (d_var 1) (nomark _)))))
      (db_cons (ds_fld (kf_cons T.f_Runner_steps kf_nil) (d_var 0) (d_op o_add (d_fld (kf_cons T.f_Runner_steps kf_nil) (d_var 0)) d_int))
      (db_cons (ds_expr (d_meth0 (pr := pr) (pl := _) (mt_cons S.m_Runner_take_step mt_nil) hr (d_var 0)))
      (db_one (ds_expr (d_meth0 (pr := pr) (pl := _) (mt_cons S.m_Runner_settle mt_nil) hr (d_var 0)))))))))
abbrev st_Runner_outcome : Stmt := inClass (top 22) 3
theorem sc_Runner_outcome : FnScope ["self", "ending"] ["self"] (defScope st_Runner_outcome) := ⟨rfl, rfl, rfl, by decide +kernel, rfl, by decide +kernel, by decide +kernel⟩
theorem ok_Runner_outcome (T : Txt K mg) (S : Cs Pg w K mg base n) (F : Fun K "outcome" "Runner.outcome" st_Runner_outcome f fd) : FnOk Pg w K mg base CX0 (n + 1) f fd ["self"] (spW K pr (n + 1) 18) := fn_okQ F sc_Runner_outcome rfl rfl rfl fun cdv A outer s H E hr => by
    have nd := sc_Runner_outcome.nd
    have hu := hu150 hr
    show SdB _ (defBody st_Runner_outcome) (w_Runner_outcome (wpc pr n))
    unfold w_Runner_outcome
    exact (db_cons (ds_set (i := 1) nd (d_ife (dt_cmp o_isN (d_fld (kf_cons T.f_Runner_ending kf_nil) (d_var 0)) d_non (nomark _)) (d_tup (da_cons d_str (da_cons d_str da_nil))) (d_fld (kf_cons T.f_Runner_ending kf_nil) (d_var 0))))
      (db_one (ds_ret (d_tup (da_cons (d_ix (d_var 1) d_int (fun _ _ => rfl)) (da_cons (d_ix (d_var 1) d_int (fun _ _ => rfl)) (da_cons (d_tup (da_cons (d_fld (kf_cons T.f_Runner_steps kf_nil) (d_var 0)) (da_cons (d_fld (kf_cons T.f_Runner_cells kf_nil) (d_var 0)) (da_cons (d_fld (kf_cons T.f_Runner_firsts kf_nil) (d_var 0)) da_nil)))) (da_cons (d_ty b_list (by rfl) T.n_list bt_list (da_cons (d_fld (kf_cons T.f_Runner_log kf_nil) (d_var 0)) da_nil)) da_nil))))))))
abbrev st_Runner_settle : Stmt := inClass (top 22) 4
theorem sc_Runner_settle : FnScope ["self"] ["self"] (defScope st_Runner_settle) := ⟨rfl, rfl, rfl, by decide +kernel, rfl, by decide +kernel, by decide +kernel⟩
theorem ok_Runner_settle (T : Txt K mg) (S : Cs Pg w K mg base n) (F : Fun K "settle" "Runner.settle" st_Runner_settle f fd) : FnOk Pg w K mg base CX0 (n + 1) f fd ["self"] (spW K pr (n + 1) 19) := fn_okQ F sc_Runner_settle rfl rfl rfl fun cdv A outer s H E hr => by
    have nd := sc_Runner_settle.nd
    have hu := hu150 hr
    show SdB _ (defBody st_Runner_settle) (w_Runner_settle (wpc pr n))
    unfold w_Runner_settle
    exact (db_one (ds_while PassesOwn.never (dt_cmp o_isN (d_fld (kf_cons T.f_Runner_ending kf_nil) (d_var 0)) d_non (nomark _))
      (db_one (ds_if (dt_cmp o_isN (d_fld (kf_cons T.f_Runner_hand kf_nil) (d_var 0)) d_non (nomark _)) (db_one (ds_expr (d_meth0 (pr := pr) (pl := _) (mt_cons S.m_Runner_tell_next mt_nil) hr (d_var 0)))) (db_one (ds_if (dt_cmp (o_eq hu) (d_ix (d_fld (kf_cons T.f_Runner_hand kf_nil) (d_var 0)) d_int (fun _ _ => rfl)) d_str (nomark _)) (db_one (ds_fld (kf_cons T.f_Runner_ending kf_nil) (d_var 0) (d_tup (da_cons d_str (da_cons (d_ix (d_fld (kf_cons T.f_Runner_hand kf_nil) (d_var 0)) d_int (fun _ _ => rfl)) da_nil))))) (db_one (ds_if (dt_not (dt_tru (d_call S.c_is_value hr (by rfl) (da_cons (d_fld (kf_cons T.f_Runner_hand kf_nil) (d_var 0)) da_nil)))) (db_one ds_retN) (db_one (ds_if (dt_cmp (o_eq hu) (d_fld (kf_cons T.f_Runner_pile kf_nil) (d_var 0)) (d_lst da_nil) (nomark _)) (db_one (ds_expr (d_meth0 (pr := pr) (pl := _) (mt_cons S.m_Runner_tell_value mt_nil) hr (d_var 0)))) (db_one (ds_if (dt_cmp (o_eq hu) (d_ix (d_ix (d_fld (kf_cons T.f_Runner_pile kf_nil) (d_var 0)) (d_neg d_int) (fun _ _ => rfl)) d_int (fun _ _ => rfl)) d_str (nomark _)) (db_one (ds_expr (d_meth (pr := pr) (pl := _) (mt_cons S.m_Runner_come_back mt_nil) hr (d_var 0) (da_cons (d_ix (d_meth0 (pr := pr) (pl := _) (mt_cons S.m_Runner_take_frame mt_nil) hr (d_var 0)) d_int (fun _ _ => rfl)) da_nil)))) (db_one (ds_if (dt_tru (d_call S.c_fits hr (by rfl) (da_cons (d_fld (kf_cons T.f_Runner_hand kf_nil) (d_var 0)) (da_cons (d_ix (d_fld (kf_cons T.f_Runner_pile kf_nil) (d_var 0)) (d_neg d_int) (fun _ _ => rfl)) da_nil)))) (db_one ds_retN) (db_one (ds_fld (kf_cons T.f_Runner_ending kf_nil) (d_var 0) (d_tup (da_cons d_str (da_cons d_str da_nil)))))))))))))))))))
abbrev st_Runner_tell_next : Stmt := inClass (top 22) 5
theorem sc_Runner_tell_next : FnScope ["self", "piece"] ["self"] (defScope st_Runner_tell_next) := ⟨rfl, rfl, rfl, by decide +kernel, rfl, by decide +kernel, by decide +kernel⟩
theorem ok_Runner_tell_next (T : Txt K mg) (S : Cs Pg w K mg base n) (F : Fun K "tell_next" "Runner.tell_next" st_Runner_tell_next f fd) : FnOk Pg w K mg base CX0 (n + 1) f fd ["self"] (spW K pr (n + 1) 20) := fn_okQ F sc_Runner_tell_next rfl rfl rfl fun cdv A outer s H E hr => by
    have nd := sc_Runner_tell_next.nd
    have hu := hu150 hr
    show SdB _ (defBody st_Runner_tell_next) (w_Runner_tell_next (wpc pr n))
    unfold w_Runner_tell_next
    exact (db_cons (ds_if (dt_cmp (o_eq hu) (d_fld (kf_cons T.f_Runner_still kf_nil) (d_var 0)) (d_lst da_nil) (nomark _)) (db_cons (ds_fld (kf_cons T.f_Runner_ending kf_nil) (d_var 0) (d_tup (da_cons d_str (da_cons (d_mt PySem.F.plainAttrs_str PySem.F.slot_str_join PySem.F.type_str_join ty_str m_join d_str (da_cons (d_fld (kf_cons T.f_Runner_told kf_nil) (d_var 0)) da_nil)) da_nil))))
      (db_one ds_retN)) db_nil)
      (db_cons (ds_set (i := 1) nd (d_mt0 PySem.F.plainAttrs_list PySem.F.slot_list_pop PySem.F.type_list_pop ty_list m_pop (d_fld (kf_cons T.f_Runner_still kf_nil) (d_var 0))))
      (db_one (ds_if (dt_tru (d_isi (by rfl) T.n_isinstance (by rfl) T.n_str bt_str (by decide) (d_var 1))) (db_one (ds_expr (d_mt PySem.F.plainAttrs_list PySem.F.slot_list_append PySem.F.type_list_append ty_list m_append (d_fld (kf_cons T.f_Runner_told kf_nil) (d_var 0)) (da_cons (d_var 1) da_nil)))) (db_one (ds_if (dt_cmp o_le (d_ix (d_var 1) d_int (fun _ _ => rfl)) d_int (nomark _)) (db_one (ds_expr (d_mt PySem.F.plainAttrs_list PySem.F.slot_list_append PySem.F.type_list_append ty_list m_append (d_fld (kf_cons T.f_Runner_told kf_nil) (d_var 0)) (da_cons d_str da_nil)))) (db_cons (ds_fld (kf_cons T.f_Runner_wanted kf_nil) (d_var 0) (d_ix (d_var 1) d_int (fun _ _ => rfl)))
      (db_one (ds_fld (kf_cons T.f_Runner_hand kf_nil) (d_var 0) (d_ix (d_var 1) d_int (fun _ _ => rfl)))))))))))
abbrev st_Runner_tell_value : Stmt := inClass (top 22) 6
theorem sc_Runner_tell_value : FnScope ["self"] ["self"] (defScope st_Runner_tell_value) := ⟨rfl, rfl, rfl, by decide +kernel, rfl, by decide +kernel, by decide +kernel⟩
theorem ok_Runner_tell_value (T : Txt K mg) (S : Cs Pg w K mg base n) (F : Fun K "tell_value" "Runner.tell_value" st_Runner_tell_value f fd) : FnOk Pg w K mg base CX0 (n + 1) f fd ["self"] (spW K pr (n + 1) 21) := fn_okQ F sc_Runner_tell_value rfl rfl rfl fun cdv A outer s H E hr => by
    have nd := sc_Runner_tell_value.nd
    have hu := hu150 hr
    show SdB _ (defBody st_Runner_tell_value) (w_Runner_tell_value (wpc pr n))
    unfold w_Runner_tell_value
    exact (db_cons (ds_expr (d_mt PySem.F.plainAttrs_list PySem.F.slot_list_extend PySem.F.type_list_extend ty_list m_extend (d_fld (kf_cons T.f_Runner_still kf_nil) (d_var 0)) (da_cons (d_lrev rfl (by rfl) T.n_list (by rfl) T.n_reversed (d_call S.c_pieces_of hr (by rfl) (da_cons (d_fld (kf_cons T.f_Runner_hand kf_nil) (d_var 0)) (da_cons (d_op o_sub (d_fld (kf_cons T.f_Runner_wanted kf_nil) (d_var 0)) d_int) da_nil)))) da_nil)))
      (db_one (ds_fld (kf_cons T.f_Runner_hand kf_nil) (d_var 0) d_non)))
abbrev st_Runner_take_step : Stmt := inClass (top 22) 7
theorem sc_Runner_take_step : FnScope ["self"] ["self"] (defScope st_Runner_take_step) := ⟨rfl, rfl, rfl, by decide +kernel, rfl, by decide +kernel, by decide +kernel⟩
theorem ok_Runner_take_step (T : Txt K mg) (S : Cs Pg w K mg base n) (F : Fun K "take_step" "Runner.take_step" st_Runner_take_step f fd) : FnOk Pg w K mg base CX0 (n + 1) f fd ["self"] (spW K pr (n + 1) 22) := fn_okQ F sc_Runner_take_step rfl rfl rfl fun cdv A outer s H E hr => by
    have nd := sc_Runner_take_step.nd
    have hu := hu150 hr
    show SdB _ (defBody st_Runner_take_step) (w_Runner_take_step (wpc pr n))
    unfold w_Runner_take_step
    exact (db_one (ds_if (dt_tru (d_call S.c_is_value hr (by rfl) (da_cons (d_fld (kf_cons T.f_Runner_hand kf_nil) (d_var 0)) da_nil))) (db_one (ds_expr (d_meth (pr := pr) (pl := _) (mt_cons S.m_Runner_use_value mt_nil) hr (d_var 0) (da_cons (d_fld (kf_cons T.f_Runner_hand kf_nil) (d_var 0)) (da_cons (d_meth0 (pr := pr) (pl := _) (mt_cons S.m_Runner_take_frame mt_nil) hr (d_var 0)) da_nil))))) (db_one (ds_expr (d_meth (pr := pr) (pl := _) (mt_cons S.m_Runner_take_apart mt_nil) hr (d_var 0) (da_cons (d_fld (kf_cons T.f_Runner_hand kf_nil) (d_var 0)) da_nil))))))
abbrev st_Runner_take_apart : Stmt := inClass (top 22) 8
theorem sc_Runner_take_apart : FnScope ["self", "term", "sort"] ["self", "term"] (defScope st_Runner_take_apart) := ⟨rfl, rfl, rfl, by decide +kernel, rfl, by decide +kernel, by decide +kernel⟩
theorem ok_Runner_take_apart (T : Txt K mg) (S : Cs Pg w K mg base n) (F : Fun K "take_apart" "Runner.take_apart" st_Runner_take_apart f fd) : FnOk Pg w K mg base CX0 (n + 1) f fd ["self", "term"] (spW K pr (n + 1) 23) := fn_okQ F sc_Runner_take_apart rfl rfl rfl fun cdv A outer s H E hr => by
    have nd := sc_Runner_take_apart.nd
    have hu := hu150 hr
    show SdB _ (defBody st_Runner_take_apart) (w_Runner_take_apart (wpc pr n))
    unfold w_Runner_take_apart
    exact (db_cons (ds_set (i := 2) nd (d_ix (d_var 1) d_int (fun _ _ => rfl)))
      (db_one (ds_if (dt_cmp (o_eq hu) (d_var 2) d_str (nomark _)) (db_one (ds_expr (d_meth (pr := pr) (pl := _) (mt_cons S.m_Runner_go_into mt_nil) hr (d_var 0) (da_cons (d_ix (d_var 1) d_int (fun _ _ => rfl)) (da_cons (d_tup (da_cons d_str (da_cons (d_ix (d_var 1) d_int (fun _ _ => rfl)) da_nil))) da_nil))))) (db_one (ds_if (dt_cmp (o_eq hu) (d_var 2) d_str (nomark _)) (db_one (ds_expr (d_meth (pr := pr) (pl := _) (mt_cons S.m_Runner_go_into mt_nil) hr (d_var 0) (da_cons (d_ix (d_var 1) d_int (fun _ _ => rfl)) (da_cons (d_tup (da_cons d_str (da_cons (d_ix (d_var 1) d_int (fun _ _ => rfl)) (da_cons (d_ix (d_var 1) d_int (fun _ _ => rfl)) da_nil)))) da_nil))))) (db_one (ds_if (dt_cmp (o_eq hu) (d_var 2) d_str (nomark _)) (db_one (ds_expr (d_meth (pr := pr) (pl := _) (mt_cons S.m_Runner_go_into mt_nil) hr (d_var 0) (da_cons (d_ix (d_var 1) d_int (fun _ _ => rfl)) (da_cons (d_tup (da_cons d_str (da_cons (d_ix (d_var 1) d_int (fun _ _ => rfl)) da_nil))) da_nil))))) (db_one (ds_if (dt_cmp (o_eq hu) (d_var 2) d_str (nomark _)) (db_cons (ds_fld (kf_cons T.f_Runner_firsts kf_nil) (d_var 0) (d_op o_add (d_fld (kf_cons T.f_Runner_firsts kf_nil) (d_var 0)) d_int))
      (db_one (ds_expr (d_meth (pr := pr) (pl := _) (mt_cons S.m_Runner_go_into mt_nil) hr (d_var 0) (da_cons (d_ix (d_var 1) d_int (fun _ _ => rfl)) (da_cons (d_tup (da_cons d_str (da_cons (d_ix (d_var 1) d_int (fun _ _ => rfl)) da_nil))) da_nil)))))) (db_one (ds_if (dt_cmp (o_eq hu) (d_var 2) d_str (nomark _)) (db_one (ds_expr (d_meth (pr := pr) (pl := _) (mt_cons S.m_Runner_bind mt_nil) hr (d_var 0) (da_cons (d_ix (d_var 1) d_int (fun _ _ => rfl)) (da_cons (d_ix (d_var 1) d_int (fun _ _ => rfl)) da_nil))))) (db_one (ds_if (dt_cmp (o_eq hu) (d_var 2) d_str (nomark _)) (db_one (ds_expr (d_meth (pr := pr) (pl := _) (mt_cons S.m_Runner_make mt_nil) hr (d_var 0) (da_cons (d_ix (d_var 1) d_int (fun _ _ => rfl)) (da_cons (d_ix (d_var 1) d_int (fun _ _ => rfl)) da_nil))))) (db_one (ds_expr (d_meth (pr := pr) (pl := _) (mt_cons S.m_Runner_enter mt_nil) hr (d_var 0) (da_cons (d_ix (d_var 1) d_int (fun _ _ => rfl)) da_nil)))))))))))))))))
abbrev st_Runner_use_value : Stmt := inClass (top 22) 9
theorem sc_Runner_use_value : FnScope ["self", "value", "frame", "mark"] ["self", "value", "frame"] (defScope st_Runner_use_value) := ⟨rfl, rfl, rfl, by decide +kernel, rfl, by decide +kernel, by decide +kernel⟩
theorem ok_Runner_use_value (T : Txt K mg) (S : Cs Pg w K mg base n) (F : Fun K "use_value" "Runner.use_value" st_Runner_use_value f fd) : FnOk Pg w K mg base CX0 (n + 1) f fd ["self", "value", "frame"] (spW K pr (n + 1) 24) := fn_okQ F sc_Runner_use_value rfl rfl rfl fun cdv A outer s H E hr => by
    have nd := sc_Runner_use_value.nd
    have hu := hu150 hr
    show SdB _ (defBody st_Runner_use_value) (w_Runner_use_value (wpc pr n))
    unfold w_Runner_use_value
    exact (db_one (ds_if (dt_cmp (o_eq hu) (d_ix (d_var 2) d_int (fun _ _ => rfl)) d_str (nomark _)) (db_cons (ds_set (i := 3) nd (d_meth (pr := pr) (pl := _) (mt_cons S.m_Runner_mark_for mt_nil) hr (d_var 0) (da_cons (d_ix (d_var 1) d_int (fun _ _ => rfl)) (da_cons (d_ix (d_var 2) d_int (fun _ _ => rfl)) da_nil))))
      (db_one (ds_fld (kf_cons T.f_Runner_hand kf_nil) (d_var 0) (d_call S.c_put hr (by rfl) (da_cons (d_ix (d_var 1) d_int (fun _ _ => rfl)) (da_cons d_never da_nil)))))) (db_one (ds_if (dt_cmp (o_eq hu) (d_ix (d_var 2) d_int (fun _ _ => rfl)) d_str (nomark _)) (db_one (ds_fld (kf_cons T.f_Runner_hand kf_nil) (d_var 0) (d_call S.c_picked hr (by rfl) (da_cons (d_var 1) (da_cons (d_ix (d_var 2) d_int (fun _ _ => rfl)) da_nil))))) (db_one (ds_if (dt_cmp (o_eq hu) (d_ix (d_var 2) d_int (fun _ _ => rfl)) d_str (nomark _)) (db_one (ds_expr (d_meth (pr := pr) (pl := _) (mt_cons S.m_Runner_go_into mt_nil) hr (d_var 0) (da_cons (d_ix (d_var 2) d_int (fun _ _ => rfl)) (da_cons (d_tup (da_cons d_str (da_cons (d_ix (d_var 2) d_int (fun _ _ => rfl)) (da_cons (d_ix (d_var 1) d_int (fun _ _ => rfl)) da_nil)))) da_nil))))) (db_one (ds_if (dt_cmp (o_eq hu) (d_ix (d_var 2) d_int (fun _ _ => rfl)) d_str (nomark _)) (db_one (ds_fld (kf_cons T.f_Runner_hand kf_nil) (d_var 0) (d_call S.c_reckoned hr (by rfl) (da_cons (d_ix (d_var 2) d_int (fun _ _ => rfl)) (da_cons (d_ix (d_var 2) d_int (fun _ _ => rfl)) (da_cons (d_ix (d_var 1) d_int (fun _ _ => rfl)) da_nil)))))) (db_one (ds_fld (kf_cons T.f_Runner_hand kf_nil) (d_var 0) (d_ix (d_var 2) d_int (fun _ _ => rfl))))))))))))
abbrev st_Runner_go_into : Stmt := inClass (top 22) 10
theorem sc_Runner_go_into : FnScope ["self", "term", "frame"] ["self", "term", "frame"] (defScope st_Runner_go_into) := ⟨rfl, rfl, rfl, by decide +kernel, rfl, by decide +kernel, by decide +kernel⟩
theorem ok_Runner_go_into (T : Txt K mg) (S : Cs Pg w K mg base n) (F : Fun K "go_into" "Runner.go_into" st_Runner_go_into f fd) : FnOk Pg w K mg base CX0 (n + 1) f fd ["self", "term", "frame"] (spW K pr (n + 1) 25) := fn_okQ F sc_Runner_go_into rfl rfl rfl fun cdv A outer s H E hr => by
    have nd := sc_Runner_go_into.nd
    have hu := hu150 hr
    show SdB _ (defBody st_Runner_go_into) (w_Runner_go_into (wpc pr n))
    unfold w_Runner_go_into
    exact (db_cons (ds_expr (d_mt PySem.F.plainAttrs_list PySem.F.slot_list_append PySem.F.type_list_append ty_list m_append (d_fld (kf_cons T.f_Runner_pile kf_nil) (d_var 0)) (da_cons (d_var 2) da_nil)))
      (db_one (ds_fld (kf_cons T.f_Runner_hand kf_nil) (d_var 0) (d_var 1))))
abbrev st_Runner_take_frame : Stmt := inClass (top 22) 11
theorem sc_Runner_take_frame : FnScope ["self"] ["self"] (defScope st_Runner_take_frame) := ⟨rfl, rfl, rfl, by decide +kernel, rfl, by decide +kernel, by decide +kernel⟩
theorem ok_Runner_take_frame (T : Txt K mg) (S : Cs Pg w K mg base n) (F : Fun K "take_frame" "Runner.take_frame" st_Runner_take_frame f fd) : FnOk Pg w K mg base CX0 (n + 1) f fd ["self"] (spW K pr (n + 1) 26) := fn_okQ F sc_Runner_take_frame rfl rfl rfl fun cdv A outer s H E hr => by
    have nd := sc_Runner_take_frame.nd
    have hu := hu150 hr
    show SdB _ (defBody st_Runner_take_frame) (w_Runner_take_frame (wpc pr n))
    unfold w_Runner_take_frame
    exact (db_one (ds_ret (d_mt0 PySem.F.plainAttrs_list PySem.F.slot_list_pop PySem.F.type_list_pop ty_list m_pop (d_fld (kf_cons T.f_Runner_pile kf_nil) (d_var 0)))))
abbrev st_Runner_bind : Stmt := inClass (top 22) 12
theorem sc_Runner_bind : FnScope ["self", "pairs", "body", "marks", "name", "text"] ["self", "pairs", "body"] (defScope st_Runner_bind) := ⟨rfl, rfl, rfl, by decide +kernel, rfl, by decide +kernel, by decide +kernel⟩
theorem ok_Runner_bind (T : Txt K mg) (S : Cs Pg w K mg base n) (F : Fun K "bind" "Runner.bind" st_Runner_bind f fd) : FnOk Pg w K mg base CX0 (n + 1) f fd ["self", "pairs", "body"] (spW K pr (n + 1) 27) := fn_okQ F sc_Runner_bind rfl rfl rfl fun cdv A outer s H E hr => by
    have nd := sc_Runner_bind.nd
    have hu := hu150 hr
    show SdB _ (defBody st_Runner_bind) (w_Runner_bind (wpc pr n))
    unfold w_Runner_bind
    exact db_never
abbrev st_Runner_make : Stmt := inClass (top 22) 13
theorem sc_Runner_make : FnScope ["self", "shape", "given", "marks", "place", "part"] ["self", "shape", "given"] (defScope st_Runner_make) := ⟨rfl, rfl, rfl, by decide +kernel, rfl, by decide +kernel, by decide +kernel⟩
theorem ok_Runner_make (T : Txt K mg) (S : Cs Pg w K mg base n) (F : Fun K "make" "Runner.make" st_Runner_make f fd) : FnOk Pg w K mg base CX0 (n + 1) f fd ["self", "shape", "given"] (spW K pr (n + 1) 28) := fn_okQ F sc_Runner_make rfl rfl rfl fun cdv A outer s H E hr => by
    have nd := sc_Runner_make.nd
    have hu := hu150 hr
    show SdB _ (defBody st_Runner_make) (w_Runner_make (wpc pr n))
    unfold w_Runner_make
    exact db_never
abbrev st_Runner_mark_for : Stmt := inClass (top 22) 14
theorem sc_Runner_mark_for : FnScope ["self", "label", "text", "mark"] ["self", "label", "text"] (defScope st_Runner_mark_for) := ⟨rfl, rfl, rfl, by decide +kernel, rfl, by decide +kernel, by decide +kernel⟩
theorem ok_Runner_mark_for (T : Txt K mg) (S : Cs Pg w K mg base n) (F : Fun K "mark_for" "Runner.mark_for" st_Runner_mark_for f fd) : FnOk Pg w K mg base CX0 (n + 1) f fd ["self", "label", "text"] (spW K pr (n + 1) 29) := fn_okQ F sc_Runner_mark_for rfl rfl rfl fun cdv A outer s H E hr => by
    have nd := sc_Runner_mark_for.nd
    have hu := hu150 hr
    show SdB _ (defBody st_Runner_mark_for) (w_Runner_mark_for (wpc pr n))
    unfold w_Runner_mark_for
    exact db_never
abbrev st_Runner_bear : Stmt := inClass (top 22) 15
theorem sc_Runner_bear : FnScope ["self", "label", "number"] ["self", "label"] (defScope st_Runner_bear) := ⟨rfl, rfl, rfl, by decide +kernel, rfl, by decide +kernel, by decide +kernel⟩
theorem ok_Runner_bear (T : Txt K mg) (S : Cs Pg w K mg base n) (F : Fun K "bear" "Runner.bear" st_Runner_bear f fd) : FnOk Pg w K mg base CX0 (n + 1) f fd ["self", "label"] (spW K pr (n + 1) 30) := fn_okQ F sc_Runner_bear rfl rfl rfl fun cdv A outer s H E hr => by
    have nd := sc_Runner_bear.nd
    have hu := hu150 hr
    show SdB _ (defBody st_Runner_bear) (w_Runner_bear (wpc pr n))
    unfold w_Runner_bear
    exact db_never
abbrev st_Runner_note : Stmt := inClass (top 22) 16
theorem sc_Runner_note : FnScope ["self", "event", "number"] ["self", "event", "number"] (defScope st_Runner_note) := ⟨rfl, rfl, rfl, by decide +kernel, rfl, by decide +kernel, by decide +kernel⟩
theorem ok_Runner_note (T : Txt K mg) (S : Cs Pg w K mg base n) (F : Fun K "note" "Runner.note" st_Runner_note f fd) : FnOk Pg w K mg base CX0 (n + 1) f fd ["self", "event", "number"] (spW K pr (n + 1) 31) := fn_okQ F sc_Runner_note rfl rfl rfl fun cdv A outer s H E hr => by
    have nd := sc_Runner_note.nd
    have hu := hu150 hr
    show SdB _ (defBody st_Runner_note) (w_Runner_note (wpc pr n))
    unfold w_Runner_note
    exact db_never
abbrev st_Runner_keep : Stmt := inClass (top 22) 17
theorem sc_Runner_keep : FnScope ["self", "number", "text"] ["self", "number", "text"] (defScope st_Runner_keep) := ⟨rfl, rfl, rfl, by decide +kernel, rfl, by decide +kernel, by decide +kernel⟩
theorem ok_Runner_keep (T : Txt K mg) (S : Cs Pg w K mg base n) (F : Fun K "keep" "Runner.keep" st_Runner_keep f fd) : FnOk Pg w K mg base CX0 (n + 1) f fd ["self", "number", "text"] (spW K pr (n + 1) 32) := fn_okQ F sc_Runner_keep rfl rfl rfl fun cdv A outer s H E hr => by
    have nd := sc_Runner_keep.nd
    have hu := hu150 hr
    show SdB _ (defBody st_Runner_keep) (w_Runner_keep (wpc pr n))
    unfold w_Runner_keep
    exact db_never
abbrev st_Runner_enter : Stmt := inClass (top 22) 18
theorem sc_Runner_enter : FnScope ["self", "number"] ["self", "number"] (defScope st_Runner_enter) := ⟨rfl, rfl, rfl, by decide +kernel, rfl, by decide +kernel, by decide +kernel⟩
theorem ok_Runner_enter (T : Txt K mg) (S : Cs Pg w K mg base n) (F : Fun K "enter" "Runner.enter" st_Runner_enter f fd) : FnOk Pg w K mg base CX0 (n + 1) f fd ["self", "number"] (spW K pr (n + 1) 33) := fn_okQ F sc_Runner_enter rfl rfl rfl fun cdv A outer s H E hr => by
    have nd := sc_Runner_enter.nd
    have hu := hu150 hr
    show SdB _ (defBody st_Runner_enter) (w_Runner_enter (wpc pr n))
    unfold w_Runner_enter
    exact db_never
abbrev st_Runner_come_back : Stmt := inClass (top 22) 19
theorem sc_Runner_come_back : FnScope ["self", "number"] ["self", "number"] (defScope st_Runner_come_back) := ⟨rfl, rfl, rfl, by decide +kernel, rfl, by decide +kernel, by decide +kernel⟩
theorem ok_Runner_come_back (T : Txt K mg) (S : Cs Pg w K mg base n) (F : Fun K "come_back" "Runner.come_back" st_Runner_come_back f fd) : FnOk Pg w K mg base CX0 (n + 1) f fd ["self", "number"] (spW K pr (n + 1) 34) := fn_okQ F sc_Runner_come_back rfl rfl rfl fun cdv A outer s H E hr => by
    have nd := sc_Runner_come_back.nd
    have hu := hu150 hr
    show SdB _ (defBody st_Runner_come_back) (w_Runner_come_back (wpc pr n))
    unfold w_Runner_come_back
    exact db_never
abbrev st_pieces_of : Stmt := top 23
theorem sc_pieces_of : FnScope ["value", "depth", "pieces", "mark"] ["value", "depth"] (defScope st_pieces_of) := ⟨rfl, rfl, rfl, by decide +kernel, rfl, by decide +kernel, by decide +kernel⟩
theorem ok_pieces_of (T : Txt K mg) (S : Cs Pg w K mg base n) (F : Fun K "pieces_of" "pieces_of" st_pieces_of f fd) : FnOk Pg w K mg base CX0 (n + 1) f fd ["value", "depth"] (spW K pr (n + 1) 35) := fn_okQ F sc_pieces_of rfl rfl rfl fun cdv A outer s H E hr => by
    have nd := sc_pieces_of.nd
    have hu := hu150 hr
    show SdB _ (defBody st_pieces_of) (w_pieces_of (wpc pr n))
    unfold w_pieces_of
    exact (db_cons (ds_if (dt_cmp (o_eq hu) (d_ix (d_var 0) d_int (fun _ _ => rfl)) d_str (nomark _)) (db_one (ds_ret (d_lst (da_cons (d_ty b_str2 (by rfl) T.n_str bt_str (da_cons (d_ix (d_var 0) d_int (fun _ _ => rfl)) da_nil)) da_nil)))) db_nil)
      (db_cons (ds_if (dt_cmp (o_eq hu) (d_ix (d_var 0) d_int (fun _ _ => rfl)) d_str (nomark _)) (db_one (ds_ret (d_lst (da_cons d_str da_nil)))) db_nil)
      (db_cons (ds_if (dt_cmp (o_eq hu) (d_ix (d_var 0) d_int (fun _ _ => rfl)) (d_tup da_nil) (nomark _)) (db_one (ds_ret (d_lst (da_cons (d_ix (d_var 0) d_int (fun _ _ => rfl)) da_nil)))) db_nil)
      (db_cons (ds_set (i := 2) nd (d_lst (da_cons (d_op o_add d_str (d_ix (d_var 0) d_int (fun _ _ => rfl))) da_nil)))
      (db_cons (ds_for PassesOwn.never rfl (di_seq (d_ix (d_var 0) d_int (fun _ _ => rfl))) (dg_name (i := 3) nd)
      (db_one (ds_expr (d_mt PySem.F.plainAttrs_list PySem.F.slot_list_extend PySem.F.type_list_extend ty_list m_extend (d_var 2) (da_cons (d_lst (da_cons d_str (da_cons (d_tup (da_cons (d_var 1) (da_cons (d_var 3) da_nil))) da_nil))) da_nil)))))
      (db_one (ds_ret (d_op o_add (d_var 2) (d_lst (da_cons d_str da_nil))))))))))
abbrev st_run : Stmt := top 25
theorem sc_run : FnScope ["term", "depth", "most"] ["term", "depth", "most"] (defScope st_run) := ⟨rfl, rfl, rfl, by decide +kernel, rfl, by decide +kernel, by decide +kernel⟩
theorem ok_run (T : Txt K mg) (S : Cs Pg w K mg base n) (F : FunD K "run" "run" st_run f fd) : FnOk Pg w K mg base CX0 (n + 1) f fd ["term", "depth", "most"] (spW K pr (n + 1) 36) := fn_okD F sc_run rfl rfl rfl fun cdv A outer s H E hr => by
    have nd := sc_run.nd
    have hu := hu150 hr
    show SdB _ (defBody st_run) (w_run (wpc pr n))
    unfold w_run
    exact (db_one (ds_ret (d_meth (pr := pr) (pl := _) (mt_cons S.m_Runner_go mt_nil) hr (d_new S.n_Runner hr (by rfl) (da_cons (d_var 0) (da_cons (d_var 1) da_nil))) (da_cons (d_var 2) da_nil))))
abbrev st__law_draws : Stmt := top 27
theorem sc__law_draws : FnScope ["_law_script", "_law_many", "_law_found", "_law_k", "_law_cell"] ["_law_script", "_law_many"] (defScope st__law_draws) := ⟨rfl, rfl, rfl, by decide +kernel, rfl, by decide +kernel, by decide +kernel⟩
theorem ok__law_draws (T : Txt K mg) (S : Cs Pg w K mg base n) (F : Fun K "_law_draws" "_law_draws" st__law_draws f fd) : FnOk Pg w K mg base CX0 (n + 1) f fd ["_law_script", "_law_many"] (spW K pr (n + 1) 37) := fn_okQ F sc__law_draws rfl rfl rfl fun cdv A outer s H E hr => by
    have nd := sc__law_draws.nd
    have hu := hu150 hr
    show SdB _ (defBody st__law_draws) (w__law_draws (wpc pr n))
    unfold w__law_draws
    exact (db_cons (ds_set (i := 2) nd (d_lst da_nil))
      (db_cons (ds_for PassesOwn.never rfl (di_r1 (by rfl) T.n_range (da_cons (d_var 1) da_nil)) (dg_name (i := 3) nd)
      (db_cons (ds_set (i := 4) nd d_int)
      (db_cons (ds_if (dt_cmp o_gt (d_bi b_len (by rfl) T.n_len PySem.boot_len (da_cons (d_var 0) da_nil)) d_int (nomark _)) (db_one (ds_set (i := 4) nd (d_op o_mod (d_ix (d_var 0) (d_op o_mod (d_var 3) (d_bi b_len (by rfl) T.n_len PySem.boot_len (da_cons (d_var 0) da_nil))) (fun _ _ => rfl)) (d_op o_pow d_int d_int)))) db_nil)
      (db_one (ds_expr (d_mt PySem.F.plainAttrs_list PySem.F.slot_list_append PySem.F.type_list_append ty_list m_append (d_var 2) (da_cons (d_op o_add (d_var 4) (d_op o_mul d_int (d_op o_div (d_var 3) (d_bi (b_max rfl) (by rfl) T.n_max bt_max (da_cons d_int (da_cons (d_bi b_len (by rfl) T.n_len PySem.boot_len (da_cons (d_var 0) da_nil)) da_nil)))))) da_nil)))))))
      (db_one (ds_ret (d_var 2)))))
abbrev st__law_number : Stmt := top 28
theorem sc__law_number : FnScope ["_law_draw"] ["_law_draw"] (defScope st__law_number) := ⟨rfl, rfl, rfl, by decide +kernel, rfl, by decide +kernel, by decide +kernel⟩
theorem ok__law_number (T : Txt K mg) (S : Cs Pg w K mg base n) (F : Fun K "_law_number" "_law_number" st__law_number f fd) : FnOk Pg w K mg base CX0 (n + 1) f fd ["_law_draw"] (spW K pr (n + 1) 38) := fn_okQ F sc__law_number rfl rfl rfl fun cdv A outer s H E hr => by
    have nd := sc__law_number.nd
    have hu := hu150 hr
    show SdB _ (defBody st__law_number) (w__law_number (wpc pr n))
    unfold w__law_number
    exact (db_one (ds_ret (d_ix (d_lst (da_cons (d_op o_mod (d_var 0) d_int) (da_cons (d_op o_mod (d_op o_mul (d_var 0) d_int) (d_op o_pow d_int d_int)) (da_cons (d_op o_sub (d_op o_sub (d_op o_pow d_int d_int) d_int) (d_op o_mod (d_var 0) d_int)) da_nil)))) (d_op o_mod (d_op o_div (d_var 0) d_int) d_int) (fun _ _ => rfl))))
abbrev st__law_built : Stmt := top 29
theorem sc__law_built : FnScope ["_law_draws_here", "_law_deep", "_law_draw", "_law_number_here", "_law_one", "_law_other", "_law_op"] ["_law_draws_here", "_law_deep"] (defScope st__law_built) := ⟨rfl, rfl, rfl, by decide +kernel, rfl, by decide +kernel, by decide +kernel⟩
theorem ok__law_built (T : Txt K mg) (S : Cs Pg w K mg base n) (F : Fun K "_law_built" "_law_built" st__law_built f fd) : FnOk Pg w K mg base CX0 (n + 1) f fd ["_law_draws_here", "_law_deep"] (spW K pr (n + 1) 39) := fn_okQ F sc__law_built rfl rfl rfl fun cdv A outer s H E hr => by
    have nd := sc__law_built.nd
    have hu := hu150 hr
    show SdB _ (defBody st__law_built) (w__law_built (wpc pr n))
    unfold w__law_built w__law_built_t4 w__law_built_t3 w__law_built_t2 w__law_built_t1
    exact (db_cons (ds_set (i := 2) nd d_int)
      (db_cons (ds_if (dt_cmp o_gt (d_bi b_len (by rfl) T.n_len PySem.boot_len (da_cons (d_var 0) da_nil)) d_int (nomark _)) (db_one (ds_set (i := 2) nd (d_mt PySem.F.plainAttrs_list PySem.F.slot_list_pop PySem.F.type_list_pop ty_list m_popAt (d_var 0) (da_cons d_int da_nil)))) db_nil)
      (db_cons (ds_if (dt_w (dw_or (dt_cmp (o_eq hu) (d_var 1) d_int (nomark _)) (dw_or (dt_cmp (o_eq hu) (d_bi b_len (by rfl) T.n_len PySem.boot_len (da_cons (d_var 0) da_nil)) d_int (nomark _)) (dw_or1 (dt_cmp (o_eq hu) (d_op o_mod (d_var 2) d_int) d_int (nomark _)))))) (db_cons (ds_set (i := 3) nd (d_call S.c__law_number hr (by rfl) (da_cons (d_op o_div (d_var 2) d_int) da_nil)))
      (db_one (ds_ret (d_lst (da_cons (d_tup (da_cons d_str (da_cons (d_var 3) da_nil))) (da_cons (d_var 3) (da_cons d_int da_nil))))))) db_nil)
      (db_cons (ds_set (i := 4) nd (d_call S.c__law_built hr (by rfl) (da_cons (d_var 0) (da_cons (d_op o_sub (d_var 1) d_int) da_nil))))
      (db_cons (ds_set (i := 5) nd (d_call S.c__law_built hr (by rfl) (da_cons (d_var 0) (da_cons (d_op o_sub (d_var 1) d_int) da_nil))))
      (db_cons (ds_set (i := 6) nd (d_ix d_str (d_op o_mod (d_op o_div (d_var 2) d_int) d_int) (fun _ _ => rfl)))
      (db_cons (ds_set (i := 3) nd (d_op o_add (d_ix (d_var 4) d_int (fun _ _ => rfl)) (d_ix (d_var 5) d_int (fun _ _ => rfl))))
      (db_cons (ds_if (dt_cmp (o_eq hu) (d_var 6) d_str (nomark _)) (db_one (ds_set (i := 3) nd (d_op o_sub (d_ix (d_var 4) d_int (fun _ _ => rfl)) (d_ix (d_var 5) d_int (fun _ _ => rfl))))) db_nil)
      (db_cons (ds_if (dt_cmp (o_eq hu) (d_var 6) d_str (nomark _)) (db_one (ds_set (i := 3) nd (d_op o_mul (d_ix (d_var 4) d_int (fun _ _ => rfl)) (d_ix (d_var 5) d_int (fun _ _ => rfl))))) db_nil)
      (db_one (ds_ret (d_lst (da_cons (d_tup (da_cons d_str (da_cons (d_var 6) (da_cons (d_ix (d_var 4) d_int (fun _ _ => rfl)) (da_cons (d_ix (d_var 5) d_int (fun _ _ => rfl)) da_nil))))) (da_cons (d_op o_mod (d_var 3) (d_op o_pow d_int d_int)) (da_cons (d_op o_add (d_op o_add (d_ix (d_var 4) d_int (fun _ _ => rfl)) (d_ix (d_var 5) d_int (fun _ _ => rfl))) d_int) da_nil)))))))))))))))
abbrev st_law : Stmt := top 30
theorem sc_law : FnScope ["_law_script", "_law_draws_here", "_law_depth_asked", "_law_short", "_law_top", "_law_one", "_law_term", "_law_text", "_law_ops", "_law_number_here", "_law_yes", "_law_due", "_law_few"] ["_law_script"] (defScope st_law) := ⟨rfl, rfl, rfl, by decide +kernel, rfl, by decide +kernel, by decide +kernel⟩
theorem ok_law (T : Txt K mg) (S : Cs Pg w K mg base n) (F : Fun K "law" "law" st_law f fd) : FnOk Pg w K mg base CX0 (n + 1) f fd ["_law_script"] (spW K pr (n + 1) 40) := fn_okQ F sc_law rfl rfl rfl fun cdv A outer s H E hr => by
    have nd := sc_law.nd
    have hu := hu150 hr
    show SdB _ (defBody st_law) (w_law (wpc pr n))
    unfold w_law w_law_b5 w_law_t4 w_law_t3 w_law_t2 w_law_t1
    exact (db_cons (ds_set (i := 1) nd (d_call S.c__law_draws hr (by rfl) (da_cons (d_var 0) (da_cons d_int da_nil))))
      (db_cons (ds_set (i := 2) nd (d_op o_mod (d_mt PySem.F.plainAttrs_list PySem.F.slot_list_pop PySem.F.type_list_pop ty_list m_popAt (d_var 1) (da_cons d_int da_nil)) d_int))
      (db_cons (ds_set (i := 3) nd (d_mt PySem.F.plainAttrs_list PySem.F.slot_list_pop PySem.F.type_list_pop ty_list m_popAt (d_var 1) (da_cons d_int da_nil)))
      (db_cons (ds_set (i := 4) nd (d_mt PySem.F.plainAttrs_list PySem.F.slot_list_pop PySem.F.type_list_pop ty_list m_popAt (d_var 1) (da_cons d_int da_nil)))
      (db_cons (ds_set (i := 5) nd (d_call S.c__law_built hr (by rfl) (da_cons (d_var 1) (da_cons d_int da_nil))))
      (db_cons (ds_set (i := 6) nd (d_ix (d_var 5) d_int (fun _ _ => rfl)))
      (db_cons (ds_set (i := 7) nd (d_ty b_str2 (by rfl) T.n_str bt_str (da_cons (d_ix (d_var 5) d_int (fun _ _ => rfl)) da_nil)))
      (db_cons (ds_set (i := 8) nd (d_ix (d_var 5) d_int (fun _ _ => rfl)))
      (db_cons (ds_if (dt_cmp o_gt (d_op o_mod (d_var 4) d_int) d_int (nomark _)) (db_cons (ds_set (i := 9) nd (d_call S.c__law_number hr (by rfl) (da_cons (d_op o_div (d_var 4) d_int) da_nil)))
      (db_cons (ds_if (dt_cmp (o_eq hu) (d_op o_mod (d_op o_div (d_var 4) d_int) d_int) d_int (nomark _)) (db_one (ds_set (i := 9) nd (d_ix (d_var 5) d_int (fun _ _ => rfl)))) db_nil)
      (db_cons (ds_set (i := 6) nd (d_tup (da_cons d_str (da_cons (d_ix d_str (d_op o_sub (d_op o_mod (d_var 4) d_int) d_int) (fun _ _ => rfl)) (da_cons (d_var 6) (da_cons (d_tup (da_cons d_str (da_cons (d_var 9) da_nil))) da_nil))))))
      (db_cons (ds_set (i := 10) nd (d_or (d_and (d_cmp (o_eq hu) (d_op o_mod (d_var 4) d_int) d_int (nomark _)) (d_one (d_cmp o_lt (d_ix (d_var 5) d_int (fun _ _ => rfl)) (d_var 9) (nomark _)))) (d_one (d_and (d_cmp (o_eq hu) (d_op o_mod (d_var 4) d_int) d_int (nomark _)) (d_one (d_cmp (o_eq hu) (d_ix (d_var 5) d_int (fun _ _ => rfl)) (d_var 9) (nomark _)))))))
      (db_cons (ds_set (i := 7) nd (d_ix (d_lst (da_cons d_str (da_cons d_str da_nil))) (d_ty b_int (by rfl) T.n_int bt_int (da_cons (d_var 10) da_nil)) (fun _ _ => rfl)))
      (db_one (ds_set (i := 8) nd (d_op o_add (d_var 8) d_int)))))))) db_nil)
      (db_cons (ds_if (dt_cmp (o_eq hu) (d_var 2) d_int (nomark _)) (db_one (ds_ret (d_cmp (o_eqD hu) (d_callD 2 S.c_run hr (by rfl) (da_cons (d_var 6) (da_cons d_int (da_cons (d_op o_mod (d_var 3) d_int) da_nil)))) (d_tup (da_cons d_str (da_cons d_str (da_cons (d_tup (da_cons d_int (da_cons d_int (da_cons d_int da_nil)))) (da_cons (d_lst da_nil) da_nil))))) (nomark _)))) db_nil)
      (db_cons (ds_set (i := 11) nd (d_tup (da_cons d_str (da_cons (d_var 7) (da_cons (d_tup (da_cons (d_op o_mul d_int (d_var 8)) (da_cons d_int (da_cons d_int da_nil)))) (da_cons (d_lst da_nil) da_nil))))))
      (db_cons (ds_if (dt_w (dw_or (dt_cmp (o_neD hu) (d_callD 2 S.c_run hr (by rfl) (da_cons (d_var 6) (da_cons (d_var 2) (da_cons (d_op o_add (d_op o_mul d_int (d_var 8)) (d_op o_mod (d_var 3) d_int)) da_nil)))) (d_var 11) (nomark _)) (dw_or1 (dt_cmp (o_neD hu) (d_callD 0 S.c_run hr (by rfl) (da_cons (d_var 6) da_nil)) (d_var 11) (nomark _))))) (db_one (ds_ret d_bl)) db_nil)
      (db_cons (ds_if (dt_cmp (o_eq hu) (d_var 8) d_int (nomark _)) (db_one (ds_ret d_bl)) db_nil)
      (db_cons (ds_set (i := 12) nd (d_op o_mod (d_var 3) (d_op o_mul d_int (d_var 8))))
      (db_one (ds_ret (d_cmp (o_eqD hu) (d_callD 2 S.c_run hr (by rfl) (da_cons (d_var 6) (da_cons (d_var 2) (da_cons (d_var 12) da_nil)))) (d_tup (da_cons d_str (da_cons d_str (da_cons (d_tup (da_cons (d_var 12) (da_cons d_int (da_cons d_int da_nil)))) (da_cons (d_lst da_nil) da_nil))))) (nomark _))))))))))))))))))
end
theorem all_mk {l : PySem.W.OpenLaw} {w : World} {K : PySem.W.Frag} {h : Heap} {mg : Str → Option Value} {fa f0 f1 f2 f3 f4 f5 f6 f7 f8 f9 f10 f11 f12 f13 f14 f15 f16 f17 f18 f19 f20 f21 f22 f23 f24 f25 f26 f27 f28 f29 f30 f31 f32 f33 f34 f35 f36 f37 f38 f39 f40 C_Runner : Addr} (X : K.In h) (G : h.Ns mainGlobals mg) (hfa : mg "law" = some (.ref fa))
    {od0 an0 od1 an1 od2 an2 od3 an3 od4 an4 od5 an5 od6 an6 od7 an7 od8 an8 od9 an9 od10 an10 od11 an11 od12 an12 od13 an13 od14 an14 od15 an15 od16 an16 od17 an17 od18 an18 od19 an19 od20 an20 od21 an21 od22 an22 od23 an23 od24 an24 od25 an25 od26 an26 od27 an27 od28 an28 od29 an29 od30 an30 od31 an31 od32 an32 od33 an33 od34 an34 od35 an35 od36 an36 od37 an37 od38 an38 od39 an39 od40 an40 : Option Addr} {sl0 sl1 sl2 sl3 sl4 sl5 sl6 sl7 sl8 sl9 sl10 sl11 sl12 sl13 sl14 sl15 sl16 sl17 sl18 sl19 sl20 sl21 sl22 sl23 sl24 sl25 sl26 sl27 sl28 sl29 sl30 sl31 sl32 sl33 sl34 sl35 sl36 sl37 sl38 sl39 sl40 : Array (Option Value)} {oc0 kV0 dc0 pm0 cd0 ct0 oc1 kV1 dc1 pm1 cd1 ct1 oc2 kV2 dc2 pm2 cd2 ct2 oc3 kV3 dc3 pm3 cd3 ct3 oc4 kV4 dc4 pm4 cd4 ct4 oc5 kV5 dc5 pm5 cd5 ct5 oc6 kV6 dc6 pm6 cd6 ct6 oc7 kV7 dc7 pm7 cd7 ct7 oc8 kV8 dc8 pm8 cd8 ct8 oc9 kV9 dc9 pm9 cd9 ct9 oc10 kV10 dc10 pm10 cd10 ct10 oc11 kV11 dc11 pm11 cd11 ct11 oc12 kV12 dc12 pm12 cd12 ct12 oc13 kV13 dc13 pm13 cd13 ct13 oc14 kV14 dc14 pm14 cd14 ct14 oc15 kV15 dc15 pm15 cd15 ct15 oc16 kV16 dc16 pm16 cd16 ct16 oc17 kV17 dc17 pm17 cd17 ct17 oc18 kV18 dc18 pm18 cd18 ct18 oc19 kV19 dc19 pm19 cd19 ct19 oc20 kV20 dc20 pm20 cd20 ct20 oc21 kV21 dc21 pm21 cd21 ct21 oc22 kV22 dc22 pm22 cd22 ct22 oc23 kV23 dc23 pm23 cd23 ct23 oc24 kV24 dc24 pm24 cd24 ct24 oc25 kV25 dc25 pm25 cd25 ct25 oc26 kV26 dc26 pm26 cd26 ct26 oc27 kV27 dc27 pm27 cd27 ct27 oc28 kV28 dc28 pm28 cd28 ct28 oc29 kV29 dc29 pm29 cd29 ct29 oc30 kV30 dc30 pm30 cd30 ct30 oc31 kV31 dc31 pm31 cd31 ct31 oc32 kV32 dc32 pm32 cd32 ct32 oc33 kV33 dc33 pm33 cd33 ct33 oc34 kV34 dc34 pm34 cd34 ct34 oc35 kV35 dc35 pm35 cd35 ct35 oc36 kV36 dc36 pm36 cd36 ct36 oc37 kV37 dc37 pm37 cd37 ct37 oc38 kV38 dc38 pm38 cd38 ct38 oc39 kV39 dc39 pm39 cd39 ct39 oc40 kV40 dc40 pm40 cd40 ct40 : Value}
    (aC_Runner : PySem.W.nsIn K mainGlobals "Runner" = some (some (.ref C_Runner)))
    (pg_Runner : PySem.W.plainGet K C_Runner Str.empty = true) (hd_Runner : PySem.W.hasDictIn K C_Runner = true) (po_Runner : PySem.W.plainOver K C_Runner = true) (sa_Runner : PySem.W.findIn K (.ref C_Runner) "__setattr__" = some (some (.builtin "object.__setattr__"))) (kc_Runner : PySem.W.keepIn K (.ref C_Runner) = true)
    (mk_Runner : PySem.W.makesIn K C_Runner = true)
    (nf_Runner_cells : PySem.W.findIn K (.ref C_Runner) "cells" = some none)
    (nf_Runner_ending : PySem.W.findIn K (.ref C_Runner) "ending" = some none)
    (nf_Runner_firsts : PySem.W.findIn K (.ref C_Runner) "firsts" = some none)
    (nf_Runner_hand : PySem.W.findIn K (.ref C_Runner) "hand" = some none)
    (nf_Runner_labels : PySem.W.findIn K (.ref C_Runner) "labels" = some none)
    (nf_Runner_log : PySem.W.findIn K (.ref C_Runner) "log" = some none)
    (nf_Runner_pile : PySem.W.findIn K (.ref C_Runner) "pile" = some none)
    (nf_Runner_steps : PySem.W.findIn K (.ref C_Runner) "steps" = some none)
    (nf_Runner_still : PySem.W.findIn K (.ref C_Runner) "still" = some none)
    (nf_Runner_things : PySem.W.findIn K (.ref C_Runner) "things" = some none)
    (nf_Runner_told : PySem.W.findIn K (.ref C_Runner) "told" = some none)
    (nf_Runner_wanted : PySem.W.findIn K (.ref C_Runner) "wanted" = some none)
    (am_Runner___init__ : PySem.W.findIn K (.ref C_Runner) "__init__" = some (some (.ref f15)))
    (am_Runner_go : PySem.W.findIn K (.ref C_Runner) "go" = some (some (.ref f16)))
    (am_Runner_advance : PySem.W.findIn K (.ref C_Runner) "advance" = some (some (.ref f17)))
    (am_Runner_outcome : PySem.W.findIn K (.ref C_Runner) "outcome" = some (some (.ref f18)))
    (am_Runner_settle : PySem.W.findIn K (.ref C_Runner) "settle" = some (some (.ref f19)))
    (am_Runner_tell_next : PySem.W.findIn K (.ref C_Runner) "tell_next" = some (some (.ref f20)))
    (am_Runner_tell_value : PySem.W.findIn K (.ref C_Runner) "tell_value" = some (some (.ref f21)))
    (am_Runner_take_step : PySem.W.findIn K (.ref C_Runner) "take_step" = some (some (.ref f22)))
    (am_Runner_take_apart : PySem.W.findIn K (.ref C_Runner) "take_apart" = some (some (.ref f23)))
    (am_Runner_use_value : PySem.W.findIn K (.ref C_Runner) "use_value" = some (some (.ref f24)))
    (am_Runner_go_into : PySem.W.findIn K (.ref C_Runner) "go_into" = some (some (.ref f25)))
    (am_Runner_take_frame : PySem.W.findIn K (.ref C_Runner) "take_frame" = some (some (.ref f26)))
    (am_Runner_bind : PySem.W.findIn K (.ref C_Runner) "bind" = some (some (.ref f27)))
    (am_Runner_make : PySem.W.findIn K (.ref C_Runner) "make" = some (some (.ref f28)))
    (am_Runner_mark_for : PySem.W.findIn K (.ref C_Runner) "mark_for" = some (some (.ref f29)))
    (am_Runner_bear : PySem.W.findIn K (.ref C_Runner) "bear" = some (some (.ref f30)))
    (am_Runner_note : PySem.W.findIn K (.ref C_Runner) "note" = some (some (.ref f31)))
    (am_Runner_keep : PySem.W.findIn K (.ref C_Runner) "keep" = some (some (.ref f32)))
    (am_Runner_enter : PySem.W.findIn K (.ref C_Runner) "enter" = some (some (.ref f33)))
    (am_Runner_come_back : PySem.W.findIn K (.ref C_Runner) "come_back" = some (some (.ref f34)))
    (a0 : PySem.W.nsIn K mainGlobals "with_parts" = some (some (.ref f0)))
    (l0 : K.lookup f0 = some ⟨oc0, od0, .func (PySem.W.fnOf "with_parts" "with_parts" (defArgs st_with_parts) (defBody st_with_parts) (defScope st_with_parts) .none kV0 dc0 pm0 an0 cd0 ct0), sl0⟩) (c0 : PySem.W.codeIn K cd0 "with_parts" = true) (k0 : PySem.W.keepIn K (.ref f0) = true)
    (a1 : PySem.W.nsIn K mainGlobals "with_lasts" = some (some (.ref f1)))
    (l1 : K.lookup f1 = some ⟨oc1, od1, .func (PySem.W.fnOf "with_lasts" "with_lasts" (defArgs st_with_lasts) (defBody st_with_lasts) (defScope st_with_lasts) .none kV1 dc1 pm1 an1 cd1 ct1), sl1⟩) (c1 : PySem.W.codeIn K cd1 "with_lasts" = true) (k1 : PySem.W.keepIn K (.ref f1) = true)
    (a2 : PySem.W.nsIn K mainGlobals "scopes" = some (some (.ref f2)))
    (l2 : K.lookup f2 = some ⟨oc2, od2, .func (PySem.W.fnOf "scopes" "scopes" (defArgs st_scopes) (defBody st_scopes) (defScope st_scopes) .none kV2 dc2 pm2 an2 cd2 ct2), sl2⟩) (c2 : PySem.W.codeIn K cd2 "scopes" = true) (k2 : PySem.W.keepIn K (.ref f2) = true)
    (a3 : PySem.W.nsIn K mainGlobals "let_scopes" = some (some (.ref f3)))
    (l3 : K.lookup f3 = some ⟨oc3, od3, .func (PySem.W.fnOf "let_scopes" "let_scopes" (defArgs st_let_scopes) (defBody st_let_scopes) (defScope st_let_scopes) .none kV3 dc3 pm3 an3 cd3 ct3), sl3⟩) (c3 : PySem.W.codeIn K cd3 "let_scopes" = true) (k3 : PySem.W.keepIn K (.ref f3) = true)
    (a4 : PySem.W.nsIn K mainGlobals "rows_scopes" = some (some (.ref f4)))
    (l4 : K.lookup f4 = some ⟨oc4, od4, .func (PySem.W.fnOf "rows_scopes" "rows_scopes" (defArgs st_rows_scopes) (defBody st_rows_scopes) (defScope st_rows_scopes) .none kV4 dc4 pm4 an4 cd4 ct4), sl4⟩) (c4 : PySem.W.codeIn K cd4 "rows_scopes" = true) (k4 : PySem.W.keepIn K (.ref f4) = true)
    (a5 : PySem.W.nsIn K mainGlobals "put" = some (some (.ref f5)))
    (l5 : K.lookup f5 = some ⟨oc5, od5, .func (PySem.W.fnOf "put" "put" (defArgs st_put) (defBody st_put) (defScope st_put) .none kV5 dc5 pm5 an5 cd5 ct5), sl5⟩) (c5 : PySem.W.codeIn K cd5 "put" = true) (k5 : PySem.W.keepIn K (.ref f5) = true)
    (a6 : PySem.W.nsIn K mainGlobals "changed" = some (some (.ref f6)))
    (l6 : K.lookup f6 = some ⟨oc6, od6, .func (PySem.W.fnOf "changed" "changed" (defArgs st_changed) (defBody st_changed) (defScope st_changed) .none kV6 dc6 pm6 an6 cd6 ct6), sl6⟩) (c6 : PySem.W.codeIn K cd6 "changed" = true) (k6 : PySem.W.keepIn K (.ref f6) = true)
    (a7 : PySem.W.nsIn K mainGlobals "without" = some (some (.ref f7)))
    (l7 : K.lookup f7 = some ⟨oc7, od7, .func (PySem.W.fnOf "without" "without" (defArgs st_without) (defBody st_without) (defScope st_without) .none kV7 dc7 pm7 an7 cd7 ct7), sl7⟩) (c7 : PySem.W.codeIn K cd7 "without" = true) (k7 : PySem.W.keepIn K (.ref f7) = true)
    (a8 : PySem.W.nsIn K mainGlobals "is_mark" = some (some (.ref f8)))
    (l8 : K.lookup f8 = some ⟨oc8, od8, .func (PySem.W.fnOf "is_mark" "is_mark" (defArgs st_is_mark) (defBody st_is_mark) (defScope st_is_mark) .none kV8 dc8 pm8 an8 cd8 ct8), sl8⟩) (c8 : PySem.W.codeIn K cd8 "is_mark" = true) (k8 : PySem.W.keepIn K (.ref f8) = true)
    (a9 : PySem.W.nsIn K mainGlobals "is_value" = some (some (.ref f9)))
    (l9 : K.lookup f9 = some ⟨oc9, od9, .func (PySem.W.fnOf "is_value" "is_value" (defArgs st_is_value) (defBody st_is_value) (defScope st_is_value) .none kV9 dc9 pm9 an9 cd9 ct9), sl9⟩) (c9 : PySem.W.codeIn K cd9 "is_value" = true) (k9 : PySem.W.keepIn K (.ref f9) = true)
    (a10 : PySem.W.nsIn K mainGlobals "reckoned" = some (some (.ref f10)))
    (l10 : K.lookup f10 = some ⟨oc10, od10, .func (PySem.W.fnOf "reckoned" "reckoned" (defArgs st_reckoned) (defBody st_reckoned) (defScope st_reckoned) .none kV10 dc10 pm10 an10 cd10 ct10), sl10⟩) (c10 : PySem.W.codeIn K cd10 "reckoned" = true) (k10 : PySem.W.keepIn K (.ref f10) = true)
    (a11 : PySem.W.nsIn K mainGlobals "truth" = some (some (.ref f11)))
    (l11 : K.lookup f11 = some ⟨oc11, od11, .func (PySem.W.fnOf "truth" "truth" (defArgs st_truth) (defBody st_truth) (defScope st_truth) .none kV11 dc11 pm11 an11 cd11 ct11), sl11⟩) (c11 : PySem.W.codeIn K cd11 "truth" = true) (k11 : PySem.W.keepIn K (.ref f11) = true)
    (a12 : PySem.W.nsIn K mainGlobals "picked" = some (some (.ref f12)))
    (l12 : K.lookup f12 = some ⟨oc12, od12, .func (PySem.W.fnOf "picked" "picked" (defArgs st_picked) (defBody st_picked) (defScope st_picked) .none kV12 dc12 pm12 an12 cd12 ct12), sl12⟩) (c12 : PySem.W.codeIn K cd12 "picked" = true) (k12 : PySem.W.keepIn K (.ref f12) = true)
    (a13 : PySem.W.nsIn K mainGlobals "alternative_of" = some (some (.ref f13)))
    (l13 : K.lookup f13 = some ⟨oc13, od13, .func (PySem.W.fnOf "alternative_of" "alternative_of" (defArgs st_alternative_of) (defBody st_alternative_of) (defScope st_alternative_of) .none kV13 dc13 pm13 an13 cd13 ct13), sl13⟩) (c13 : PySem.W.codeIn K cd13 "alternative_of" = true) (k13 : PySem.W.keepIn K (.ref f13) = true)
    (a14 : PySem.W.nsIn K mainGlobals "fits" = some (some (.ref f14)))
    (l14 : K.lookup f14 = some ⟨oc14, od14, .func (PySem.W.fnOf "fits" "fits" (defArgs st_fits) (defBody st_fits) (defScope st_fits) .none kV14 dc14 pm14 an14 cd14 ct14), sl14⟩) (c14 : PySem.W.codeIn K cd14 "fits" = true) (k14 : PySem.W.keepIn K (.ref f14) = true)
    (im15 : PySem.W.isFn K (.ref f15) = true)
    (l15 : K.lookup f15 = some ⟨oc15, od15, .func (PySem.W.fnOf "__init__" "Runner.__init__" (defArgs st_Runner___init__) (defBody st_Runner___init__) (defScope st_Runner___init__) .none kV15 dc15 pm15 an15 cd15 ct15), sl15⟩) (c15 : PySem.W.codeIn K cd15 "Runner.__init__" = true) (k15 : PySem.W.keepIn K (.ref f15) = true)
    (im16 : PySem.W.isFn K (.ref f16) = true)
    (l16 : K.lookup f16 = some ⟨oc16, od16, .func (PySem.W.fnOf "go" "Runner.go" (defArgs st_Runner_go) (defBody st_Runner_go) (defScope st_Runner_go) .none kV16 dc16 pm16 an16 cd16 ct16), sl16⟩) (c16 : PySem.W.codeIn K cd16 "Runner.go" = true) (k16 : PySem.W.keepIn K (.ref f16) = true)
    (im17 : PySem.W.isFn K (.ref f17) = true)
    (l17 : K.lookup f17 = some ⟨oc17, od17, .func (PySem.W.fnOf "advance" "Runner.advance" (defArgs st_Runner_advance) (defBody st_Runner_advance) (defScope st_Runner_advance) .none kV17 dc17 pm17 an17 cd17 ct17), sl17⟩) (c17 : PySem.W.codeIn K cd17 "Runner.advance" = true) (k17 : PySem.W.keepIn K (.ref f17) = true)
    (im18 : PySem.W.isFn K (.ref f18) = true)
    (l18 : K.lookup f18 = some ⟨oc18, od18, .func (PySem.W.fnOf "outcome" "Runner.outcome" (defArgs st_Runner_outcome) (defBody st_Runner_outcome) (defScope st_Runner_outcome) .none kV18 dc18 pm18 an18 cd18 ct18), sl18⟩) (c18 : PySem.W.codeIn K cd18 "Runner.outcome" = true) (k18 : PySem.W.keepIn K (.ref f18) = true)
    (im19 : PySem.W.isFn K (.ref f19) = true)
    (l19 : K.lookup f19 = some ⟨oc19, od19, .func (PySem.W.fnOf "settle" "Runner.settle" (defArgs st_Runner_settle) (defBody st_Runner_settle) (defScope st_Runner_settle) .none kV19 dc19 pm19 an19 cd19 ct19), sl19⟩) (c19 : PySem.W.codeIn K cd19 "Runner.settle" = true) (k19 : PySem.W.keepIn K (.ref f19) = true)
    (im20 : PySem.W.isFn K (.ref f20) = true)
    (l20 : K.lookup f20 = some ⟨oc20, od20, .func (PySem.W.fnOf "tell_next" "Runner.tell_next" (defArgs st_Runner_tell_next) (defBody st_Runner_tell_next) (defScope st_Runner_tell_next) .none kV20 dc20 pm20 an20 cd20 ct20), sl20⟩) (c20 : PySem.W.codeIn K cd20 "Runner.tell_next" = true) (k20 : PySem.W.keepIn K (.ref f20) = true)
    (im21 : PySem.W.isFn K (.ref f21) = true)
    (l21 : K.lookup f21 = some ⟨oc21, od21, .func (PySem.W.fnOf "tell_value" "Runner.tell_value" (defArgs st_Runner_tell_value) (defBody st_Runner_tell_value) (defScope st_Runner_tell_value) .none kV21 dc21 pm21 an21 cd21 ct21), sl21⟩) (c21 : PySem.W.codeIn K cd21 "Runner.tell_value" = true) (k21 : PySem.W.keepIn K (.ref f21) = true)
    (im22 : PySem.W.isFn K (.ref f22) = true)
    (l22 : K.lookup f22 = some ⟨oc22, od22, .func (PySem.W.fnOf "take_step" "Runner.take_step" (defArgs st_Runner_take_step) (defBody st_Runner_take_step) (defScope st_Runner_take_step) .none kV22 dc22 pm22 an22 cd22 ct22), sl22⟩) (c22 : PySem.W.codeIn K cd22 "Runner.take_step" = true) (k22 : PySem.W.keepIn K (.ref f22) = true)
    (im23 : PySem.W.isFn K (.ref f23) = true)
    (l23 : K.lookup f23 = some ⟨oc23, od23, .func (PySem.W.fnOf "take_apart" "Runner.take_apart" (defArgs st_Runner_take_apart) (defBody st_Runner_take_apart) (defScope st_Runner_take_apart) .none kV23 dc23 pm23 an23 cd23 ct23), sl23⟩) (c23 : PySem.W.codeIn K cd23 "Runner.take_apart" = true) (k23 : PySem.W.keepIn K (.ref f23) = true)
    (im24 : PySem.W.isFn K (.ref f24) = true)
    (l24 : K.lookup f24 = some ⟨oc24, od24, .func (PySem.W.fnOf "use_value" "Runner.use_value" (defArgs st_Runner_use_value) (defBody st_Runner_use_value) (defScope st_Runner_use_value) .none kV24 dc24 pm24 an24 cd24 ct24), sl24⟩) (c24 : PySem.W.codeIn K cd24 "Runner.use_value" = true) (k24 : PySem.W.keepIn K (.ref f24) = true)
    (im25 : PySem.W.isFn K (.ref f25) = true)
    (l25 : K.lookup f25 = some ⟨oc25, od25, .func (PySem.W.fnOf "go_into" "Runner.go_into" (defArgs st_Runner_go_into) (defBody st_Runner_go_into) (defScope st_Runner_go_into) .none kV25 dc25 pm25 an25 cd25 ct25), sl25⟩) (c25 : PySem.W.codeIn K cd25 "Runner.go_into" = true) (k25 : PySem.W.keepIn K (.ref f25) = true)
    (im26 : PySem.W.isFn K (.ref f26) = true)
    (l26 : K.lookup f26 = some ⟨oc26, od26, .func (PySem.W.fnOf "take_frame" "Runner.take_frame" (defArgs st_Runner_take_frame) (defBody st_Runner_take_frame) (defScope st_Runner_take_frame) .none kV26 dc26 pm26 an26 cd26 ct26), sl26⟩) (c26 : PySem.W.codeIn K cd26 "Runner.take_frame" = true) (k26 : PySem.W.keepIn K (.ref f26) = true)
    (im27 : PySem.W.isFn K (.ref f27) = true)
    (l27 : K.lookup f27 = some ⟨oc27, od27, .func (PySem.W.fnOf "bind" "Runner.bind" (defArgs st_Runner_bind) (defBody st_Runner_bind) (defScope st_Runner_bind) .none kV27 dc27 pm27 an27 cd27 ct27), sl27⟩) (c27 : PySem.W.codeIn K cd27 "Runner.bind" = true) (k27 : PySem.W.keepIn K (.ref f27) = true)
    (im28 : PySem.W.isFn K (.ref f28) = true)
    (l28 : K.lookup f28 = some ⟨oc28, od28, .func (PySem.W.fnOf "make" "Runner.make" (defArgs st_Runner_make) (defBody st_Runner_make) (defScope st_Runner_make) .none kV28 dc28 pm28 an28 cd28 ct28), sl28⟩) (c28 : PySem.W.codeIn K cd28 "Runner.make" = true) (k28 : PySem.W.keepIn K (.ref f28) = true)
    (im29 : PySem.W.isFn K (.ref f29) = true)
    (l29 : K.lookup f29 = some ⟨oc29, od29, .func (PySem.W.fnOf "mark_for" "Runner.mark_for" (defArgs st_Runner_mark_for) (defBody st_Runner_mark_for) (defScope st_Runner_mark_for) .none kV29 dc29 pm29 an29 cd29 ct29), sl29⟩) (c29 : PySem.W.codeIn K cd29 "Runner.mark_for" = true) (k29 : PySem.W.keepIn K (.ref f29) = true)
    (im30 : PySem.W.isFn K (.ref f30) = true)
    (l30 : K.lookup f30 = some ⟨oc30, od30, .func (PySem.W.fnOf "bear" "Runner.bear" (defArgs st_Runner_bear) (defBody st_Runner_bear) (defScope st_Runner_bear) .none kV30 dc30 pm30 an30 cd30 ct30), sl30⟩) (c30 : PySem.W.codeIn K cd30 "Runner.bear" = true) (k30 : PySem.W.keepIn K (.ref f30) = true)
    (im31 : PySem.W.isFn K (.ref f31) = true)
    (l31 : K.lookup f31 = some ⟨oc31, od31, .func (PySem.W.fnOf "note" "Runner.note" (defArgs st_Runner_note) (defBody st_Runner_note) (defScope st_Runner_note) .none kV31 dc31 pm31 an31 cd31 ct31), sl31⟩) (c31 : PySem.W.codeIn K cd31 "Runner.note" = true) (k31 : PySem.W.keepIn K (.ref f31) = true)
    (im32 : PySem.W.isFn K (.ref f32) = true)
    (l32 : K.lookup f32 = some ⟨oc32, od32, .func (PySem.W.fnOf "keep" "Runner.keep" (defArgs st_Runner_keep) (defBody st_Runner_keep) (defScope st_Runner_keep) .none kV32 dc32 pm32 an32 cd32 ct32), sl32⟩) (c32 : PySem.W.codeIn K cd32 "Runner.keep" = true) (k32 : PySem.W.keepIn K (.ref f32) = true)
    (im33 : PySem.W.isFn K (.ref f33) = true)
    (l33 : K.lookup f33 = some ⟨oc33, od33, .func (PySem.W.fnOf "enter" "Runner.enter" (defArgs st_Runner_enter) (defBody st_Runner_enter) (defScope st_Runner_enter) .none kV33 dc33 pm33 an33 cd33 ct33), sl33⟩) (c33 : PySem.W.codeIn K cd33 "Runner.enter" = true) (k33 : PySem.W.keepIn K (.ref f33) = true)
    (im34 : PySem.W.isFn K (.ref f34) = true)
    (l34 : K.lookup f34 = some ⟨oc34, od34, .func (PySem.W.fnOf "come_back" "Runner.come_back" (defArgs st_Runner_come_back) (defBody st_Runner_come_back) (defScope st_Runner_come_back) .none kV34 dc34 pm34 an34 cd34 ct34), sl34⟩) (c34 : PySem.W.codeIn K cd34 "Runner.come_back" = true) (k34 : PySem.W.keepIn K (.ref f34) = true)
    (a35 : PySem.W.nsIn K mainGlobals "pieces_of" = some (some (.ref f35)))
    (l35 : K.lookup f35 = some ⟨oc35, od35, .func (PySem.W.fnOf "pieces_of" "pieces_of" (defArgs st_pieces_of) (defBody st_pieces_of) (defScope st_pieces_of) .none kV35 dc35 pm35 an35 cd35 ct35), sl35⟩) (c35 : PySem.W.codeIn K cd35 "pieces_of" = true) (k35 : PySem.W.keepIn K (.ref f35) = true)
    {T_run : Addr} {dc_run : Value} {dd_run : Option Addr} {dn_run : Nat} {ds_run : Array (Option Value)} {dt_run_0 dt_run_1 : Tok}
    (a36 : PySem.W.nsIn K mainGlobals "run" = some (some (.ref f36)))
    (l36 : K.lookup f36 = some ⟨oc36, od36, .func (PySem.W.fnOf "run" "run" (defArgs st_run) (defBody st_run) (defScope st_run) (.ref T_run) kV36 dc36 pm36 an36 cd36 ct36), sl36⟩) (c36 : PySem.W.codeIn K cd36 "run" = true) (k36 : PySem.W.keepIn K (.ref f36) = true)
    (dl_run : K.lookup T_run = some ⟨dc_run, dd_run, .seq #[.int 8 dt_run_0, .int 400 dt_run_1] dn_run, ds_run⟩)
    (a37 : PySem.W.nsIn K mainGlobals "_law_draws" = some (some (.ref f37)))
    (l37 : K.lookup f37 = some ⟨oc37, od37, .func (PySem.W.fnOf "_law_draws" "_law_draws" (defArgs st__law_draws) (defBody st__law_draws) (defScope st__law_draws) .none kV37 dc37 pm37 an37 cd37 ct37), sl37⟩) (c37 : PySem.W.codeIn K cd37 "_law_draws" = true) (k37 : PySem.W.keepIn K (.ref f37) = true)
    (a38 : PySem.W.nsIn K mainGlobals "_law_number" = some (some (.ref f38)))
    (l38 : K.lookup f38 = some ⟨oc38, od38, .func (PySem.W.fnOf "_law_number" "_law_number" (defArgs st__law_number) (defBody st__law_number) (defScope st__law_number) .none kV38 dc38 pm38 an38 cd38 ct38), sl38⟩) (c38 : PySem.W.codeIn K cd38 "_law_number" = true) (k38 : PySem.W.keepIn K (.ref f38) = true)
    (a39 : PySem.W.nsIn K mainGlobals "_law_built" = some (some (.ref f39)))
    (l39 : K.lookup f39 = some ⟨oc39, od39, .func (PySem.W.fnOf "_law_built" "_law_built" (defArgs st__law_built) (defBody st__law_built) (defScope st__law_built) .none kV39 dc39 pm39 an39 cd39 ct39), sl39⟩) (c39 : PySem.W.codeIn K cd39 "_law_built" = true) (k39 : PySem.W.keepIn K (.ref f39) = true)
    (a40 : PySem.W.nsIn K mainGlobals "law" = some (some (.ref f40)))
    (l40 : K.lookup f40 = some ⟨oc40, od40, .func (PySem.W.fnOf "law" "law" (defArgs st_law) (defBody st_law) (defScope st_law) .none kV40 dc40 pm40 an40 cd40 ct40), sl40⟩) (c40 : PySem.W.codeIn K cd40 "law" = true) (k40 : PySem.W.keepIn K (.ref f40) = true)
    (z_int : PySem.W.nsIn K mainGlobals "int" = some none)
    (z_isinstance : PySem.W.nsIn K mainGlobals "isinstance" = some none)
    (z_len : PySem.W.nsIn K mainGlobals "len" = some none)
    (z_list : PySem.W.nsIn K mainGlobals "list" = some none)
    (z_max : PySem.W.nsIn K mainGlobals "max" = some none)
    (z_range : PySem.W.nsIn K mainGlobals "range" = some none)
    (z_reversed : PySem.W.nsIn K mainGlobals "reversed" = some none)
    (z_str : PySem.W.nsIn K mainGlobals "str" = some none)
    {ga_VALUES : Addr} {gn_VALUES : Nat} {gs_VALUES : Array (Option Value)} {gt_VALUES_0 gt_VALUES_1 gt_VALUES_2 : Tok} (gg_VALUES : PySem.W.nsIn K mainGlobals "VALUES" = some (some (.ref ga_VALUES))) (gk_VALUES : K.lookup ga_VALUES = some ⟨.type "tuple", none, .seq #[.str "number" gt_VALUES_0, .str "fun" gt_VALUES_1, .str "made" gt_VALUES_2] gn_VALUES, gs_VALUES⟩)
    : ∃ fd : FuncData, (∀ (s : Shared) (v : Value), BindsTo s fd ⟨[v], []⟩ [("_law_script", v)]) ∧ ∀ base : Heap, K.In base → base.Ns mainGlobals mg → FnOk l.prog w K mg base CX0 60 fa fd ["_law_script"] (spW K pr 60 40) := by
  have e := hfa.symm.trans (PySem.W.mg_of X G a40)
  cases e
  have T : Txt K mg := ⟨PySem.W.mg_none_of X G z_int, PySem.W.mg_none_of X G z_isinstance, PySem.W.mg_none_of X G z_len, PySem.W.mg_none_of X G z_list, PySem.W.mg_none_of X G z_max, PySem.W.mg_none_of X G z_range, PySem.W.mg_none_of X G z_reversed, PySem.W.mg_none_of X G z_str, ⟨.ref ga_VALUES, .ref ga_VALUES, PySem.W.mg_of X G gg_VALUES, rfl, fun H => rep_ktup (xs := [V.str "number", V.str "fun", V.str "made"]) gk_VALUES (show 3 ≤ sizeLine by decide) (.cons ⟨_, rfl⟩ (.cons ⟨_, rfl⟩ (.cons ⟨_, rfl⟩ .nil))) (reps_cons rep_str (reps_cons rep_str (reps_cons rep_str reps_nil)))⟩, ⟨C_Runner, aC_Runner, ⟨pg_Runner, hd_Runner, po_Runner, sa_Runner⟩, nf_Runner_cells⟩, ⟨C_Runner, aC_Runner, ⟨pg_Runner, hd_Runner, po_Runner, sa_Runner⟩, nf_Runner_ending⟩, ⟨C_Runner, aC_Runner, ⟨pg_Runner, hd_Runner, po_Runner, sa_Runner⟩, nf_Runner_firsts⟩, ⟨C_Runner, aC_Runner, ⟨pg_Runner, hd_Runner, po_Runner, sa_Runner⟩, nf_Runner_hand⟩, ⟨C_Runner, aC_Runner, ⟨pg_Runner, hd_Runner, po_Runner, sa_Runner⟩, nf_Runner_labels⟩, ⟨C_Runner, aC_Runner, ⟨pg_Runner, hd_Runner, po_Runner, sa_Runner⟩, nf_Runner_log⟩, ⟨C_Runner, aC_Runner, ⟨pg_Runner, hd_Runner, po_Runner, sa_Runner⟩, nf_Runner_pile⟩, ⟨C_Runner, aC_Runner, ⟨pg_Runner, hd_Runner, po_Runner, sa_Runner⟩, nf_Runner_steps⟩, ⟨C_Runner, aC_Runner, ⟨pg_Runner, hd_Runner, po_Runner, sa_Runner⟩, nf_Runner_still⟩, ⟨C_Runner, aC_Runner, ⟨pg_Runner, hd_Runner, po_Runner, sa_Runner⟩, nf_Runner_things⟩, ⟨C_Runner, aC_Runner, ⟨pg_Runner, hd_Runner, po_Runner, sa_Runner⟩, nf_Runner_told⟩, ⟨C_Runner, aC_Runner, ⟨pg_Runner, hd_Runner, po_Runner, sa_Runner⟩, nf_Runner_wanted⟩⟩
  have K_Runner : Kl K mg "Runner" C_Runner := ⟨aC_Runner, PySem.W.mg_of X G aC_Runner, ⟨pg_Runner, hd_Runner, po_Runner, sa_Runner⟩⟩
  have F0 := fun_mk (st := st_with_parts) l0 c0 k0
  have B0 : Binds K _ ["term", "given"] [] := F0.binds (fun _ _ _ _ _ _ us hl => match us, hl with | [_, _], _ => rfl)
  have M0 := PySem.W.mg_of X G a0
  have F1 := fun_mk (st := st_with_lasts) l1 c1 k1
  have B1 : Binds K _ ["tuples", "lasts"] [] := F1.binds (fun _ _ _ _ _ _ us hl => match us, hl with | [_, _], _ => rfl)
  have M1 := PySem.W.mg_of X G a1
  have F2 := fun_mk (st := st_scopes) l2 c2 k2
  have B2 : Binds K _ ["term"] [] := F2.binds (fun _ _ _ _ _ _ us hl => match us, hl with | [_], _ => rfl)
  have M2 := PySem.W.mg_of X G a2
  have F3 := fun_mk (st := st_let_scopes) l3 c3 k3
  have B3 : Binds K _ ["pairs", "body"] [] := F3.binds (fun _ _ _ _ _ _ us hl => match us, hl with | [_, _], _ => rfl)
  have M3 := PySem.W.mg_of X G a3
  have F4 := fun_mk (st := st_rows_scopes) l4 c4 k4
  have B4 : Binds K _ ["body", "steps"] [] := F4.binds (fun _ _ _ _ _ _ us hl => match us, hl with | [_, _], _ => rfl)
  have M4 := PySem.W.mg_of X G a4
  have F5 := fun_mk (st := st_put) l5 c5 k5
  have B5 : Binds K _ ["term", "marks"] [] := F5.binds (fun _ _ _ _ _ _ us hl => match us, hl with | [_, _], _ => rfl)
  have M5 := PySem.W.mg_of X G a5
  have F6 := fun_mk (st := st_changed) l6 c6 k6
  have B6 : Binds K _ ["term", "marks"] [] := F6.binds (fun _ _ _ _ _ _ us hl => match us, hl with | [_, _], _ => rfl)
  have M6 := PySem.W.mg_of X G a6
  have F7 := fun_mk (st := st_without) l7 c7 k7
  have B7 : Binds K _ ["marks", "names"] [] := F7.binds (fun _ _ _ _ _ _ us hl => match us, hl with | [_, _], _ => rfl)
  have M7 := PySem.W.mg_of X G a7
  have F8 := fun_mk (st := st_is_mark) l8 c8 k8
  have B8 : Binds K _ ["term"] [] := F8.binds (fun _ _ _ _ _ _ us hl => match us, hl with | [_], _ => rfl)
  have M8 := PySem.W.mg_of X G a8
  have F9 := fun_mk (st := st_is_value) l9 c9 k9
  have B9 : Binds K _ ["term"] [] := F9.binds (fun _ _ _ _ _ _ us hl => match us, hl with | [_], _ => rfl)
  have M9 := PySem.W.mg_of X G a9
  have F10 := fun_mk (st := st_reckoned) l10 c10 k10
  have B10 : Binds K _ ["op", "one", "other"] [] := F10.binds (fun _ _ _ _ _ _ us hl => match us, hl with | [_, _, _], _ => rfl)
  have M10 := PySem.W.mg_of X G a10
  have F11 := fun_mk (st := st_truth) l11 c11 k11
  have B11 : Binds K _ ["holds"] [] := F11.binds (fun _ _ _ _ _ _ us hl => match us, hl with | [_], _ => rfl)
  have M11 := PySem.W.mg_of X G a11
  have F12 := fun_mk (st := st_picked) l12 c12 k12
  have B12 : Binds K _ ["value", "alternatives"] [] := F12.binds (fun _ _ _ _ _ _ us hl => match us, hl with | [_, _], _ => rfl)
  have M12 := PySem.W.mg_of X G a12
  have F13 := fun_mk (st := st_alternative_of) l13 c13 k13
  have B13 : Binds K _ ["value", "alternatives"] [] := F13.binds (fun _ _ _ _ _ _ us hl => match us, hl with | [_, _], _ => rfl)
  have M13 := PySem.W.mg_of X G a13
  have F14 := fun_mk (st := st_fits) l14 c14 k14
  have B14 : Binds K _ ["value", "frame"] [] := F14.binds (fun _ _ _ _ _ _ us hl => match us, hl with | [_, _], _ => rfl)
  have M14 := PySem.W.mg_of X G a14
  have F15 := fun_mk (st := st_Runner___init__) l15 c15 k15
  have B15 : Binds K _ ["self", "term", "depth"] [] := F15.binds (fun _ _ _ _ _ _ us hl => match us, hl with | [_, _, _], _ => rfl)
  have F16 := fun_mk (st := st_Runner_go) l16 c16 k16
  have B16 : Binds K _ ["self", "most"] [] := F16.binds (fun _ _ _ _ _ _ us hl => match us, hl with | [_, _], _ => rfl)
  have F17 := fun_mk (st := st_Runner_advance) l17 c17 k17
  have B17 : Binds K _ ["self", "most"] [] := F17.binds (fun _ _ _ _ _ _ us hl => match us, hl with | [_, _], _ => rfl)
  have F18 := fun_mk (st := st_Runner_outcome) l18 c18 k18
  have B18 : Binds K _ ["self"] [] := F18.binds (fun _ _ _ _ _ _ us hl => match us, hl with | [_], _ => rfl)
  have F19 := fun_mk (st := st_Runner_settle) l19 c19 k19
  have B19 : Binds K _ ["self"] [] := F19.binds (fun _ _ _ _ _ _ us hl => match us, hl with | [_], _ => rfl)
  have F20 := fun_mk (st := st_Runner_tell_next) l20 c20 k20
  have B20 : Binds K _ ["self"] [] := F20.binds (fun _ _ _ _ _ _ us hl => match us, hl with | [_], _ => rfl)
  have F21 := fun_mk (st := st_Runner_tell_value) l21 c21 k21
  have B21 : Binds K _ ["self"] [] := F21.binds (fun _ _ _ _ _ _ us hl => match us, hl with | [_], _ => rfl)
  have F22 := fun_mk (st := st_Runner_take_step) l22 c22 k22
  have B22 : Binds K _ ["self"] [] := F22.binds (fun _ _ _ _ _ _ us hl => match us, hl with | [_], _ => rfl)
  have F23 := fun_mk (st := st_Runner_take_apart) l23 c23 k23
  have B23 : Binds K _ ["self", "term"] [] := F23.binds (fun _ _ _ _ _ _ us hl => match us, hl with | [_, _], _ => rfl)
  have F24 := fun_mk (st := st_Runner_use_value) l24 c24 k24
  have B24 : Binds K _ ["self", "value", "frame"] [] := F24.binds (fun _ _ _ _ _ _ us hl => match us, hl with | [_, _, _], _ => rfl)
  have F25 := fun_mk (st := st_Runner_go_into) l25 c25 k25
  have B25 : Binds K _ ["self", "term", "frame"] [] := F25.binds (fun _ _ _ _ _ _ us hl => match us, hl with | [_, _, _], _ => rfl)
  have F26 := fun_mk (st := st_Runner_take_frame) l26 c26 k26
  have B26 : Binds K _ ["self"] [] := F26.binds (fun _ _ _ _ _ _ us hl => match us, hl with | [_], _ => rfl)
  have F27 := fun_mk (st := st_Runner_bind) l27 c27 k27
  have B27 : Binds K _ ["self", "pairs", "body"] [] := F27.binds (fun _ _ _ _ _ _ us hl => match us, hl with | [_, _, _], _ => rfl)
  have F28 := fun_mk (st := st_Runner_make) l28 c28 k28
  have B28 : Binds K _ ["self", "shape", "given"] [] := F28.binds (fun _ _ _ _ _ _ us hl => match us, hl with | [_, _, _], _ => rfl)
  have F29 := fun_mk (st := st_Runner_mark_for) l29 c29 k29
  have B29 : Binds K _ ["self", "label", "text"] [] := F29.binds (fun _ _ _ _ _ _ us hl => match us, hl with | [_, _, _], _ => rfl)
  have F30 := fun_mk (st := st_Runner_bear) l30 c30 k30
  have B30 : Binds K _ ["self", "label"] [] := F30.binds (fun _ _ _ _ _ _ us hl => match us, hl with | [_, _], _ => rfl)
  have F31 := fun_mk (st := st_Runner_note) l31 c31 k31
  have B31 : Binds K _ ["self", "event", "number"] [] := F31.binds (fun _ _ _ _ _ _ us hl => match us, hl with | [_, _, _], _ => rfl)
  have F32 := fun_mk (st := st_Runner_keep) l32 c32 k32
  have B32 : Binds K _ ["self", "number", "text"] [] := F32.binds (fun _ _ _ _ _ _ us hl => match us, hl with | [_, _, _], _ => rfl)
  have F33 := fun_mk (st := st_Runner_enter) l33 c33 k33
  have B33 : Binds K _ ["self", "number"] [] := F33.binds (fun _ _ _ _ _ _ us hl => match us, hl with | [_, _], _ => rfl)
  have F34 := fun_mk (st := st_Runner_come_back) l34 c34 k34
  have B34 : Binds K _ ["self", "number"] [] := F34.binds (fun _ _ _ _ _ _ us hl => match us, hl with | [_, _], _ => rfl)
  have F35 := fun_mk (st := st_pieces_of) l35 c35 k35
  have B35 : Binds K _ ["value", "depth"] [] := F35.binds (fun _ _ _ _ _ _ us hl => match us, hl with | [_, _], _ => rfl)
  have M35 := PySem.W.mg_of X G a35
  have F36 : FunD K "run" "run" st_run f36 _ := ⟨⟨_, _, _, _, _, _, _, _, _, _, rfl, l36, c36⟩, k36⟩
  have B36 : ∃ us : List Value, Vals (([8, 400] : List Int).map V.int) us ∧ ∀ j, j ≤ 2 → Binds K (PySem.W.fnOf "run" "run" (defArgs st_run) (defBody st_run) (defScope st_run) (.ref T_run) kV36 dc36 pm36 an36 cd36 ct36) ["term", "depth", "most"] (us.drop j) := ⟨[.int 8 dt_run_0, .int 400 dt_run_1], .cons ⟨_, rfl⟩ (.cons ⟨_, rfl⟩ (.nil)), fun j hj => match j, hj with | 0, _ => (fun s us kin hl => (match us, (show us.length = 1 by simpa using hl) with | [_], _ => PySem.W.binds_K kin rfl dl_run rfl rfl rfl)) | 1, _ => (fun s us kin hl => (match us, (show us.length = 2 by simpa using hl) with | [_, _], _ => PySem.W.binds_K kin rfl dl_run rfl rfl rfl)) | 2, _ => (fun s us kin hl => (match us, (show us.length = 3 by simpa using hl) with | [_, _, _], _ => PySem.W.binds_K kin rfl dl_run rfl rfl rfl)) | (j + 3), h => absurd h (by omega)⟩
  have M36 := PySem.W.mg_of X G a36
  have F37 := fun_mk (st := st__law_draws) l37 c37 k37
  have B37 : Binds K _ ["_law_script", "_law_many"] [] := F37.binds (fun _ _ _ _ _ _ us hl => match us, hl with | [_, _], _ => rfl)
  have M37 := PySem.W.mg_of X G a37
  have F38 := fun_mk (st := st__law_number) l38 c38 k38
  have B38 : Binds K _ ["_law_draw"] [] := F38.binds (fun _ _ _ _ _ _ us hl => match us, hl with | [_], _ => rfl)
  have M38 := PySem.W.mg_of X G a38
  have F39 := fun_mk (st := st__law_built) l39 c39 k39
  have B39 : Binds K _ ["_law_draws_here", "_law_deep"] [] := F39.binds (fun _ _ _ _ _ _ us hl => match us, hl with | [_, _], _ => rfl)
  have M39 := PySem.W.mg_of X G a39
  have F40 := fun_mk (st := st_law) l40 c40 k40
  have B40 : Binds K _ ["_law_script"] [] := F40.binds (fun _ _ _ _ _ _ us hl => match us, hl with | [_], _ => rfl)
  have M40 := PySem.W.mg_of X G a40
  refine ⟨PySem.W.fnOf "law" "law" (defArgs st_law) (defBody st_law) (defScope st_law) .none kV40 dc40 pm40 an40 cd40 ct40, fun s v => .of_eq rfl, fun base _ _ => ?_⟩
  have CS : ∀ n, Cs l.prog w K mg base n := fun n => by
    induction n with
    | zero => exact ⟨ca_zero F0 B0 M0, ca_zero F1 B1 M1, ca_zero F2 B2 M2, ca_zero F3 B3 M3, ca_zero F4 B4 M4, ca_zero F5 B5 M5, ca_zero F6 B6 M6, ca_zero F7 B7 M7, ca_zero F8 B8 M8, ca_zero F9 B9 M9, ca_zero F10 B10 M10, ca_zero F11 B11 M11, ca_zero F12 B12 M12, ca_zero F13 B13 M13, ca_zero F14 B14 M14, ca_zero F35 B35 M35, ⟨_, _, fnok_zero, B36, k36, M36⟩, ca_zero F37 B37 M37, ca_zero F38 B38 M38, ca_zero F39 B39 M39, ca_zero F40 B40 M40, cm_mk K_Runner ⟨am_Runner___init__, im15, k15⟩ fnok_zero B15, cm_mk K_Runner ⟨am_Runner_go, im16, k16⟩ fnok_zero B16, cm_mk K_Runner ⟨am_Runner_advance, im17, k17⟩ fnok_zero B17, cm_mk K_Runner ⟨am_Runner_outcome, im18, k18⟩ fnok_zero B18, cm_mk K_Runner ⟨am_Runner_settle, im19, k19⟩ fnok_zero B19, cm_mk K_Runner ⟨am_Runner_tell_next, im20, k20⟩ fnok_zero B20, cm_mk K_Runner ⟨am_Runner_tell_value, im21, k21⟩ fnok_zero B21, cm_mk K_Runner ⟨am_Runner_take_step, im22, k22⟩ fnok_zero B22, cm_mk K_Runner ⟨am_Runner_take_apart, im23, k23⟩ fnok_zero B23, cm_mk K_Runner ⟨am_Runner_use_value, im24, k24⟩ fnok_zero B24, cm_mk K_Runner ⟨am_Runner_go_into, im25, k25⟩ fnok_zero B25, cm_mk K_Runner ⟨am_Runner_take_frame, im26, k26⟩ fnok_zero B26, cm_mk K_Runner ⟨am_Runner_bind, im27, k27⟩ fnok_zero B27, cm_mk K_Runner ⟨am_Runner_make, im28, k28⟩ fnok_zero B28, cm_mk K_Runner ⟨am_Runner_mark_for, im29, k29⟩ fnok_zero B29, cm_mk K_Runner ⟨am_Runner_bear, im30, k30⟩ fnok_zero B30, cm_mk K_Runner ⟨am_Runner_note, im31, k31⟩ fnok_zero B31, cm_mk K_Runner ⟨am_Runner_keep, im32, k32⟩ fnok_zero B32, cm_mk K_Runner ⟨am_Runner_enter, im33, k33⟩ fnok_zero B33, cm_mk K_Runner ⟨am_Runner_come_back, im34, k34⟩ fnok_zero B34, cn_zero (j := 41) rfl K_Runner ⟨mk_Runner, am_Runner___init__, im15, kc_Runner⟩⟩
    | succ n ih => exact ⟨ca_succ F0 B0 M0 (ok_with_parts T ih F0), ca_succ F1 B1 M1 (ok_with_lasts T ih F1), ca_succ F2 B2 M2 (ok_scopes T ih F2), ca_succ F3 B3 M3 (ok_let_scopes T ih F3), ca_succ F4 B4 M4 (ok_rows_scopes T ih F4), ca_succ F5 B5 M5 (ok_put T ih F5), ca_succ F6 B6 M6 (ok_changed T ih F6), ca_succ F7 B7 M7 (ok_without T ih F7), ca_succ F8 B8 M8 (ok_is_mark T ih F8), ca_succ F9 B9 M9 (ok_is_value T ih F9), ca_succ F10 B10 M10 (ok_reckoned T ih F10), ca_succ F11 B11 M11 (ok_truth T ih F11), ca_succ F12 B12 M12 (ok_picked T ih F12), ca_succ F13 B13 M13 (ok_alternative_of T ih F13), ca_succ F14 B14 M14 (ok_fits T ih F14), ca_succ F35 B35 M35 (ok_pieces_of T ih F35), ⟨_, _, ok_run T ih F36, B36, k36, M36⟩, ca_succ F37 B37 M37 (ok__law_draws T ih F37), ca_succ F38 B38 M38 (ok__law_number T ih F38), ca_succ F39 B39 M39 (ok__law_built T ih F39), ca_succ F40 B40 M40 (ok_law T ih F40), cm_mk K_Runner ⟨am_Runner___init__, im15, k15⟩ (ok_Runner___init__ T ih F15) B15, cm_mk K_Runner ⟨am_Runner_go, im16, k16⟩ (ok_Runner_go T ih F16) B16, cm_mk K_Runner ⟨am_Runner_advance, im17, k17⟩ (ok_Runner_advance T ih F17) B17, cm_mk K_Runner ⟨am_Runner_outcome, im18, k18⟩ (ok_Runner_outcome T ih F18) B18, cm_mk K_Runner ⟨am_Runner_settle, im19, k19⟩ (ok_Runner_settle T ih F19) B19, cm_mk K_Runner ⟨am_Runner_tell_next, im20, k20⟩ (ok_Runner_tell_next T ih F20) B20, cm_mk K_Runner ⟨am_Runner_tell_value, im21, k21⟩ (ok_Runner_tell_value T ih F21) B21, cm_mk K_Runner ⟨am_Runner_take_step, im22, k22⟩ (ok_Runner_take_step T ih F22) B22, cm_mk K_Runner ⟨am_Runner_take_apart, im23, k23⟩ (ok_Runner_take_apart T ih F23) B23, cm_mk K_Runner ⟨am_Runner_use_value, im24, k24⟩ (ok_Runner_use_value T ih F24) B24, cm_mk K_Runner ⟨am_Runner_go_into, im25, k25⟩ (ok_Runner_go_into T ih F25) B25, cm_mk K_Runner ⟨am_Runner_take_frame, im26, k26⟩ (ok_Runner_take_frame T ih F26) B26, cm_mk K_Runner ⟨am_Runner_bind, im27, k27⟩ (ok_Runner_bind T ih F27) B27, cm_mk K_Runner ⟨am_Runner_make, im28, k28⟩ (ok_Runner_make T ih F28) B28, cm_mk K_Runner ⟨am_Runner_mark_for, im29, k29⟩ (ok_Runner_mark_for T ih F29) B29, cm_mk K_Runner ⟨am_Runner_bear, im30, k30⟩ (ok_Runner_bear T ih F30) B30, cm_mk K_Runner ⟨am_Runner_note, im31, k31⟩ (ok_Runner_note T ih F31) B31, cm_mk K_Runner ⟨am_Runner_keep, im32, k32⟩ (ok_Runner_keep T ih F32) B32, cm_mk K_Runner ⟨am_Runner_enter, im33, k33⟩ (ok_Runner_enter T ih F33) B33, cm_mk K_Runner ⟨am_Runner_come_back, im34, k34⟩ (ok_Runner_come_back T ih F34) B34, cn_ofCm (j := 41) rfl K_Runner mk_Runner kc_Runner ih.m_Runner___init__⟩
  exact ok_law T (CS (59)) F40
end K33
set_option Elab.async false
set_option linter.all false
set_option maxRecDepth 100000
set_option maxHeartbeats 4000000
namespace K33
open PySem PySem.Spec PyProof.Rows L2 WL
/-! ### a runner -/
structure Ad where
  r : Addr
  pp : Addr
  ps : Addr
  pt : Addr
  pd : Addr
  pl : Addr
  pg : Addr
def Fs (A : Ad) (h w : T) (k : Int) (e : T) : List (Str × T) := [("hand", h), ("wanted", w), ("pile", .ref A.pp), ("still", .ref A.ps), ("told", .ref A.pt), ("things", .ref A.pd), ("labels", .ref A.pl), ("log", .ref A.pg), ("steps", .int k), ("cells", .int 0), ("firsts", .int 0), ("ending", e)]
section
variable {A : Ad} {h w e v : T} {k : Int}
theorem lk_hand : (Fs A h w k e).lookup ("hand" : Str) = some (h : T) := rfl
theorem lk_wanted : (Fs A h w k e).lookup ("wanted" : Str) = some (w : T) := rfl
theorem lk_pile : (Fs A h w k e).lookup ("pile" : Str) = some (.ref A.pp : T) := rfl
theorem lk_still : (Fs A h w k e).lookup ("still" : Str) = some (.ref A.ps : T) := rfl
theorem lk_told : (Fs A h w k e).lookup ("told" : Str) = some (.ref A.pt : T) := rfl
theorem lk_things : (Fs A h w k e).lookup ("things" : Str) = some (.ref A.pd : T) := rfl
theorem lk_labels : (Fs A h w k e).lookup ("labels" : Str) = some (.ref A.pl : T) := rfl
theorem lk_log : (Fs A h w k e).lookup ("log" : Str) = some (.ref A.pg : T) := rfl
theorem lk_steps : (Fs A h w k e).lookup ("steps" : Str) = some (.int k : T) := rfl
theorem lk_cells : (Fs A h w k e).lookup ("cells" : Str) = some (.int 0 : T) := rfl
theorem lk_firsts : (Fs A h w k e).lookup ("firsts" : Str) = some (.int 0 : T) := rfl
theorem lk_ending : (Fs A h w k e).lookup ("ending" : Str) = some (e : T) := rfl
theorem pt_hand : putFT "hand" v (Fs A h w k e) = Fs A v w k e := rfl
theorem pt_wanted : putFT "wanted" v (Fs A h w k e) = Fs A h v k e := rfl
theorem pt_ending : putFT "ending" v (Fs A h w k e) = Fs A h w k v := rfl
theorem pt_steps {j : Int} : putFT "steps" (.int j) (Fs A h w k e) = Fs A h w j e := rfl
theorem nm_go : (Fs A h w k e).lookup ("go" : Str) = none := rfl
theorem nm_advance : (Fs A h w k e).lookup ("advance" : Str) = none := rfl
theorem nm_outcome : (Fs A h w k e).lookup ("outcome" : Str) = none := rfl
theorem nm_settle : (Fs A h w k e).lookup ("settle" : Str) = none := rfl
theorem nm_tell_next : (Fs A h w k e).lookup ("tell_next" : Str) = none := rfl
theorem nm_tell_value : (Fs A h w k e).lookup ("tell_value" : Str) = none := rfl
theorem nm_take_step : (Fs A h w k e).lookup ("take_step" : Str) = none := rfl
theorem nm_take_apart : (Fs A h w k e).lookup ("take_apart" : Str) = none := rfl
theorem nm_use_value : (Fs A h w k e).lookup ("use_value" : Str) = none := rfl
theorem nm_take_frame : (Fs A h w k e).lookup ("take_frame" : Str) = none := rfl
theorem nm_go_into : (Fs A h w k e).lookup ("go_into" : Str) = none := rfl
theorem fs_len : (Fs A h w k e).length = 12 := rfl
theorem tb1 {i : Nat} : List.lookup ("Runner" : Str) [("Runner", i)] = some i := rfl
end
structure Di (A : Ad) : Prop where
  a1 : A.pp ≠ A.r
  a2 : A.ps ≠ A.r
  a3 : A.pt ≠ A.r
  a4 : A.pg ≠ A.r
  b1 : A.ps ≠ A.pp
  b2 : A.pt ≠ A.pp
  b3 : A.pg ≠ A.pp
  c1 : A.pt ≠ A.ps
  c2 : A.pg ≠ A.ps
  d1 : A.pg ≠ A.pt
structure Rn (A : Ad) (C : Hw) (h w : T) (P S U : List T) (k : Int) (e : T) : Prop where
  r : C A.r = some (.ins "Runner" (Fs A h w k e))
  pp : C A.pp = some (.lst P)
  ps : C A.ps = some (.lst S)
  pt : C A.pt = some (.lst U)
  pg : C A.pg = some (.lst [])
def Fr (A : Ad) (C C' : Hw) : Prop := ∀ a o, a ≠ A.r → a ≠ A.pp → a ≠ A.ps → a ≠ A.pt → C a = some o → C' a = some o
section
variable {A : Ad} {C C' C2 : Hw} {h w e h' w' e' : T} {P S U P' : List T} {k k' : Int} {o : O}
theorem Fr.refl (A : Ad) (C : Hw) : Fr A C C := fun _ _ _ _ _ _ h => h
theorem Fr.trans (a : Fr A C C') (b : Fr A C' C2) : Fr A C C2 := fun c o h1 h2 h3 h4 h => b c o h1 h2 h3 h4 (a c o h1 h2 h3 h4 h)
theorem Fr.r (f : Fr A C C') : Fr A C (up C' A.r o) := fun c u h1 h2 h3 h4 h => by rw [up_ne h1]; exact f c u h1 h2 h3 h4 h
theorem Fr.pp (f : Fr A C C') : Fr A C (up C' A.pp o) := fun c u h1 h2 h3 h4 h => by rw [up_ne h2]; exact f c u h1 h2 h3 h4 h
theorem Fr.ps (f : Fr A C C') : Fr A C (up C' A.ps o) := fun c u h1 h2 h3 h4 h => by rw [up_ne h3]; exact f c u h1 h2 h3 h4 h
theorem Fr.pt (f : Fr A C C') : Fr A C (up C' A.pt o) := fun c u h1 h2 h3 h4 h => by rw [up_ne h4]; exact f c u h1 h2 h3 h4 h
theorem Ex.fr (f : Ex C C') : Fr A C C' := fun c u _ _ _ _ h => f c u h
theorem Rn.setR (R : Rn A C h w P S U k e) (d : Di A) : Rn A (up C A.r (.ins "Runner" (Fs A h' w' k' e'))) h' w' P S U k' e' :=
  ⟨up_same, by rw [up_ne d.a1]; exact R.pp, by rw [up_ne d.a2]; exact R.ps, by rw [up_ne d.a3]; exact R.pt, by rw [up_ne d.a4]; exact R.pg⟩
theorem Rn.setP (R : Rn A C h w P S U k e) (d : Di A) : Rn A (up C A.pp (.lst P')) h w P' S U k e :=
  ⟨by rw [up_ne d.a1.symm]; exact R.r, up_same, by rw [up_ne d.b1]; exact R.ps, by rw [up_ne d.b2]; exact R.pt, by rw [up_ne d.b3]; exact R.pg⟩
theorem Rn.setS (R : Rn A C h w P S U k e) (d : Di A) : Rn A (up C A.ps (.lst P')) h w P P' U k e :=
  ⟨by rw [up_ne d.a2.symm]; exact R.r, by rw [up_ne d.b1.symm]; exact R.pp, up_same, by rw [up_ne d.c1]; exact R.pt, by rw [up_ne d.c2]; exact R.pg⟩
theorem Rn.setT (R : Rn A C h w P S U k e) (d : Di A) : Rn A (up C A.pt (.lst P')) h w P S P' k e :=
  ⟨by rw [up_ne d.a3.symm]; exact R.r, by rw [up_ne d.b2.symm]; exact R.pp, by rw [up_ne d.c1.symm]; exact R.ps, up_same, by rw [up_ne d.d1]; exact R.pg⟩
theorem Rn.ex (R : Rn A C h w P S U k e) (f : Ex C C') : Rn A C' h w P S U k e := ⟨f _ _ R.r, f _ _ R.pp, f _ _ R.ps, f _ _ R.pt, f _ _ R.pg⟩
end
local macro_rules | `(tactic| walk_at "ws") => `(tactic| try simp (config := { decide := true }) only [eVar, eC, eBin, eUn, aNil, aCons, eTup, eLst, eCall, eBi, eMt, eIf, eAnd, eOr, eNot, tTru, tBl, tAn, tOr', tNo, eChain, wAdd, wSub, wMul, wDiv, wMod, wPow, wNeg, wLt, wLe, wGt, wGe, wIsN, wNotN, wIdx, oNo, oSome, wSl, eSl, bLen, bMax, bMin, bTuple, bList, eIsi, tyN, gNm, gsNil, gsCons, gTp, gSb, sPass, sSeq, sExpr, sRet, sRetN, sIf, sAsg, sBrk, sCont, sNever, sFor, iSeq, iR1, iR2, iEn, capW, tYes, eComp, tyL', tyS, mAppend, mPop, mPopAt, wEq, wNe, wIn, wNotIn, wEq_str, wEq_int, erase0, atI_0, atI_1, atI_2, atI_3, atI_4, atI_m1, atI_m2, atI_m3, atI_m4, wEq_bl,
  List.map_cons, List.map_nil, List.length_cons, List.length_nil, List.replicate, List.cons_append, List.nil_append, List.getElem?_cons_zero, List.getElem?_cons_succ, List.set_cons_zero, List.set_cons_succ, Option.some.injEq, T.int.injEq, T.str.injEq, T.bl.injEq, T.ref.injEq, T.tup.injEq, T.cl.injEq, exists_eq_left', exists_eq_left, exists_eq', exists_and_left, and_assoc, List.cons.injEq, and_true, true_and, reduceCtorEq, false_and, exists_false, List.append_nil, if_true, if_false, Bool.not_not, decide_eq_true_eq, Bool.not_eq_true', decide_eq_false_iff_not, Bool.false_eq_true, List.nil_eq, Option.bind_none, Option.bind_some, Option.join_some, Nat.reduceAdd, Nat.reduceSub, Nat.sub_self, Nat.zero_add, Nat.sub_zero, beq_iff_eq, Bool.not_false, Bool.not_true])
local macro_rules | `(tactic| walk_at "wo") => `(tactic| try simp (config := { decide := true }) only [*, eFld, gFd, eMth, aApp, up_same, up_ne, O.ins.injEq, O.lst.injEq, ne_eq, not_false_eq_true, List.mem_cons, List.not_mem_nil, or_false, tb1, Option.some.injEq, eq_self_iff_true, fs_len, lk_hand, lk_wanted, lk_pile, lk_still, lk_told, lk_things, lk_labels, lk_log, lk_steps, lk_cells, lk_firsts, lk_ending, pt_hand, pt_wanted, pt_steps, pt_ending, nm_go, nm_advance, nm_outcome, nm_settle, nm_tell_next, nm_tell_value, nm_take_step, nm_take_apart, nm_use_value, nm_go_into, eVar, eC, eBin, eUn, aNil, aCons, eTup, eLst, eCall, eBi, eMt, eIf, eAnd, eOr, eNot, tTru, tBl, tAn, tOr', tNo, eChain, wAdd, wSub, wMul, wDiv, wMod, wPow, wNeg, wLt, wLe, wGt, wGe, wIsN, wNotN, wIdx, oNo, oSome, wSl, eSl, bLen, bMax, bMin, bTuple, bList, eIsi, tyN, gNm, gsNil, gsCons, gTp, gSb, sPass, sSeq, sExpr, sRet, sRetN, sIf, sAsg, sBrk, sCont, sNever, sFor, iSeq, iR1, iR2, iEn, capW, tYes, eComp, tyL', tyS, mAppend, mPop, mPopAt, wEq, wNe, wIn, wNotIn, wEq_str, wEq_int, erase0, atI_0, atI_1, atI_2, atI_3, atI_4, atI_m1, atI_m2, atI_m3, atI_m4, wEq_bl,
  List.map_cons, List.map_nil, List.length_cons, List.length_nil, List.replicate, List.cons_append, List.nil_append, List.getElem?_cons_zero, List.getElem?_cons_succ, List.set_cons_zero, List.set_cons_succ, Option.some.injEq, T.int.injEq, T.str.injEq, T.bl.injEq, T.ref.injEq, T.tup.injEq, T.cl.injEq, exists_eq_left', exists_eq_left, exists_eq', exists_and_left, and_assoc, List.cons.injEq, and_true, true_and, reduceCtorEq, false_and, exists_false, List.append_nil, if_true, if_false, Bool.not_not, decide_eq_true_eq, Bool.not_eq_true', decide_eq_false_iff_not, Bool.false_eq_true, List.nil_eq, Option.bind_none, Option.bind_some, Option.join_some, Nat.reduceAdd, Nat.reduceSub, Nat.sub_self, Nat.zero_add, Nat.sub_zero, beq_iff_eq, Bool.not_false, Bool.not_true])
section
variable {A : Ad} {C : Hw} {h w e : T} {P S U : List T} {k : Int} {Q : WK} {χ : WX} {n : Nat}
theorem s_go_into {t f : T} (d : Di A) (R : Rn A C h w P S U k e) (hl' : P.length ≤ 100000) (q : ∀ C', Fr A C C' → Rn A C' t w (P ++ [f]) S U k e → Q .non C') : wpc pr (n + 1) i_Runner_go_into [.ref A.r, t, f] C Q χ := by
  refine u_Runner_go_into rfl ?_
  unfold w_Runner_go_into
  obtain ⟨hr, hpp, hps, hpt, hpg⟩ := id R
  obtain ⟨a1, a2, a3, a4, b1, b2, b3, c1, c2, d1⟩ := id d
  have a1' := a1.symm
  walk_at "wo"
  exact ⟨small63' hl', q _ (Fr.r (Fr.pp (Fr.refl _ _))) ((R.setP d).setR d)⟩
/-! ### terms of ops -/
inductive Tm where
  | num (v : Int)
  | yn (b : Bool)
  | op (o : Str) (a b : Tm)
def tt : Tm → T
  | .num v => .tup [.str "number", .int v]
  | .yn b => .tup [.str "made", .str (if b = true then "Yes" else "No"), .tup []]
  | .op o a b => .tup [.str "does", .str o, tt a, tt b]
def ops : Tm → Nat
  | .op _ a b => ops a + ops b + 1
  | _ => 0
abbrev M : Int := 1000000000000000000
def okT : Tm → Prop
  | .num v => 0 ≤ v ∧ v < M
  | .yn _ => True
  | .op _ a b => okT a ∧ okT b
def reck (o : Str) (x y : Int) : Option Tm :=
  if o = "<" then some (.yn (decide (x < y))) else if o = "=" then some (.yn (x == y)) else if o = "+" then some (.num ((x + y) % M)) else if o = "-" then some (.num ((x - y) % M)) else if o = "*" then some (.num ((x * y) % M)) else none
def isNum : Tm → Option Int
  | .num v => some v
  | _ => none
def val : Tm → Option Tm
  | .num v => some (.num v)
  | .yn b => some (.yn b)
  | .op o a b => ((val a).bind isNum).bind fun x => ((val b).bind isNum).bind fun y => reck o x y
inductive Fm where
  | L (o : Str) (b : Tm)
  | R (o : Str) (x : Int)
def ft : Fm → T
  | .L o b => .tup [.str "left", .str o, tt b]
  | .R o x => .tup [.str "right", .str o, .int x]
def okF : Fm → Prop
  | .L _ b => okT b
  | .R _ x => 0 ≤ x ∧ x < M
def resV : Tm → List Fm → Option Tm
  | v, [] => some v
  | v, .L o b :: fs => (isNum v).bind fun x => ((val b).bind isNum).bind fun y => (reck o x y).bind fun z => resV z fs
  | v, .R o x :: fs => (isNum v).bind fun y => (reck o x y).bind fun z => resV z fs
def res (t : Tm) (fs : List Fm) : Option Tm := (val t).bind fun v => resV v fs
def remF : List Fm → Nat
  | [] => 0
  | .L _ b :: fs => 2 + 3 * ops b + remF fs
  | .R _ _ :: fs => 1 + remF fs
def rem (t : Tm) (fs : List Fm) : Nat := 3 * ops t + remF fs
def pile (fs : List Fm) : List T := (fs.map ft).reverse
theorem pile_cons {f : Fm} {fs : List Fm} : pile (f :: fs) = pile fs ++ [ft f] := by unfold pile; rw [List.map_cons, List.reverse_cons]
theorem pile_len {fs : List Fm} : (pile fs).length = fs.length := by unfold pile; simp
theorem remF_len : ∀ fs : List Fm, fs.length ≤ remF fs
  | [] => Nat.le_refl _
  | .L _ b :: fs => by have := remF_len fs; simp [remF]; omega
  | .R _ _ :: fs => by have := remF_len fs; simp [remF]; omega
def next : Tm → List Fm → Option (Tm × List Fm)
  | .op o a b, fs => some (a, .L o b :: fs)
  | .num v, .L o b :: fs => some (b, .R o v :: fs)
  | .num v, .R o x :: fs => (reck o x v).map fun z => (z, fs)
  | _, _ => none
theorem reck_val {o : Str} {x y : Int} {z : Tm} (h : reck o x y = some z) : val z = some z ∧ ops z = 0 ∧ okT z := by
  unfold reck at h
  split at h
  · cases h; exact ⟨rfl, rfl, trivial⟩
  · split at h
    · cases h; exact ⟨rfl, rfl, trivial⟩
    · split at h
      · cases h; exact ⟨rfl, rfl, Int.emod_nonneg _ (by decide), Int.emod_lt_of_pos _ (by decide)⟩
      · split at h
        · cases h; exact ⟨rfl, rfl, Int.emod_nonneg _ (by decide), Int.emod_lt_of_pos _ (by decide)⟩
        · split at h
          · cases h; exact ⟨rfl, rfl, Int.emod_nonneg _ (by decide), Int.emod_lt_of_pos _ (by decide)⟩
          · cases h
/-- a step keeps what comes of it -/
theorem next_of {t : Tm} {fs : List Fm} {r : Tm} (h : res t fs = some r) : (rem t fs = 0 ∧ fs = [] ∧ t = r ∧ ((∃ v, t = .num v) ∨ ∃ b, t = .yn b)) ∨ ∃ t' fs', next t fs = some (t', fs') ∧ res t' fs' = some r ∧ rem t fs = rem t' fs' + 1 := by
  cases t with
  | num v =>
    cases fs with
    | nil => left; simp [res, val, resV] at h; exact ⟨rfl, rfl, h, .inl ⟨v, rfl⟩⟩
    | cons f fs =>
      right
      cases f with
      | L o b =>
        refine ⟨b, .R o v :: fs, rfl, ?_, by simp [rem, remF, ops]; omega⟩
        simp only [res, val, resV, show isNum (.num v) = some v from rfl, Option.bind_some] at h ⊢
        cases hb : val b with
        | none => rw [hb] at h; simp at h
        | some w =>
          rw [hb] at h
          cases hw : isNum w with
          | none => simp [hw] at h
          | some y =>
            simp only [hw, Option.bind_some] at h ⊢
            exact h
      | R o x =>
        simp only [res, val, resV, isNum, Option.bind_some] at h
        cases hz : reck o x v with
        | none => rw [hz] at h; simp at h
        | some z =>
          rw [hz] at h
          obtain ⟨h1, h2, _⟩ := reck_val hz
          refine ⟨z, fs, by simp [next, hz], ?_, by simp [rem, remF, ops, h2]; omega⟩
          simp only [res, h1, Option.bind_some] at h ⊢
          exact h
  | yn b =>
    cases fs with
    | nil => left; simp [res, val, resV] at h; exact ⟨rfl, rfl, h, .inr ⟨b, rfl⟩⟩
    | cons f fs => cases f <;> simp [res, val, resV, isNum] at h
  | op o a b =>
    right
    refine ⟨a, .L o b :: fs, rfl, ?_, by simp [rem, remF, ops]; omega⟩
    simp only [res, val] at h ⊢
    cases ha : val a with
    | none => rw [ha] at h; simp at h
    | some v =>
      rw [ha] at h
      simp only [Option.bind_some, resV] at h ⊢
      cases hv : isNum v with
      | none => simp [hv] at h
      | some x =>
        simp only [hv, Option.bind_some] at h ⊢
        cases hb : val b with
        | none => rw [hb] at h; simp at h
        | some w =>
          rw [hb] at h
          simp only [Option.bind_some] at h ⊢
          cases hw : isNum w with
          | none => simp [hw] at h
          | some y =>
            simp only [hw, Option.bind_some] at h ⊢
            exact h
theorem next_ok {t t' : Tm} {fs fs' : List Fm} (h : next t fs = some (t', fs')) (o1 : okT t) (o2 : ∀ f ∈ fs, okF f) : okT t' ∧ ∀ f ∈ fs', okF f := by
  cases t with
  | num v =>
    cases fs with
    | nil => simp [next] at h
    | cons f fs =>
      cases f with
      | L o b =>
        simp [next] at h
        obtain ⟨rfl, rfl⟩ := h
        refine ⟨o2 (.L o b) (by simp), fun f hf => ?_⟩
        rcases List.mem_cons.mp hf with rfl | hf
        · exact o1
        · exact o2 f (by simp [hf])
      | R o x =>
        simp [next] at h
        obtain ⟨z, h1, rfl, rfl⟩ := h
        exact ⟨(reck_val h1).2.2, fun f hf => o2 f (by simp [hf])⟩
  | yn b => cases fs <;> simp [next] at h
  | op o a b =>
    simp [next] at h
    obtain ⟨rfl, rfl⟩ := h
    refine ⟨o1.1, fun f hf => ?_⟩
    rcases List.mem_cons.mp hf with rfl | hf
    · exact o1.2
    · exact o2 f hf
end
set_option Elab.async false
set_option linter.all false
set_option maxRecDepth 100000
set_option maxHeartbeats 4000000
open PySem PySem.Spec PyProof.Rows L2 WL
section
variable {A : Ad} {C : Hw} {h w e v x h' w' e' : T} {P S U : List T} {k k' : Int} {Q : WK} {χ : WX} {n i : Nat} {τ : Sw} {f m : Str} {b : WS} {D : We} {Pc : Calls} {Qg : Sw → Hw → Prop}
theorem ite_t {p q : Prop} (h : p) : if true = true then p else q := h
theorem ite_f {p q : Prop} (h : q) : if false = true then p else q := h
theorem ite_p {p q : Prop} {b : Bool} (hb : b = true) (h : p) : if b = true then p else q := by rw [if_pos hb]; exact h
theorem ite_n {p q : Prop} {b : Bool} (hb : b = false) (h : q) : if b = true then p else q := by subst hb; exact h
theorem ite_c {c p q : Prop} [Decidable c] (hc : c) (h : p) : if c then p else q := by rw [if_pos hc]; exact h
theorem ite_d {c p q : Prop} [Decidable c] (hc : ¬ c) (h : q) : if c then p else q := by rw [if_neg hc]; exact h
theorem eqS {a b : Str} {v : Bool} (h : (a == b) = v) (q : Q (.bl v) C) : wEqG false (.str a) (.str b) C Q := by rw [wEq_str, if_neg (by decide), h]; exact q
theorem eqI {a b : Int} {v : Bool} (h : (a == b) = v) (q : Q (.bl v) C) : wEqG false (.int a) (.int b) C Q := by rw [wEq_int, if_neg (by decide), h]; exact q
theorem eqSc {a b : Str} {v : Bool} (h : (a == b) = v) (q : Q (.bl v) C) : eC (.str b) τ C (fun y C2 => wEq (.str a) y C2 Q) χ := eqS h q
theorem eqIc {a b : Int} {v : Bool} (h : (a == b) = v) (q : Q (.bl v) C) : eC (.int b) τ C (fun y C2 => wEq (.int a) y C2 Q) χ := eqI h q
theorem eqT0 (q : Q (.bl true) C) : wEqG false (.tup []) (.tup []) C Q := ⟨by unfold isFlat flat flats; rfl, by unfold isFlat flat flats; rfl, by rw [show WL.eqT (.tup []) (.tup []) = true by unfold WL.eqT eqTs; rfl]; exact q⟩
theorem fs_lt : (Fs A h w k e).length < 1000 := Nat.le_of_ble_eq_true rfl
theorem q_call (R : Rn A C h w P S U k e) (hm : (Fs A h w k e).lookup m = none) (q : Pc i [.ref A.r] C (fun _ C1 => b D (some (.ref A.r) :: τ) C1) D.xc) : sSeq (sExpr (eMth Pc [("Runner", i)] m (eVar 0) aNil)) b D (some (.ref A.r) :: τ) C :=
  ⟨_, rfl, _, _, _, _, rfl, R.r, tb1, hm, q⟩
theorem x_call (R : Rn A C h w P S U k e) (hm : (Fs A h w k e).lookup m = none) (q : Pc i [.ref A.r] C (fun _ C1 => D.nx (some (.ref A.r) :: τ) C1) D.xc) : sExpr (eMth Pc [("Runner", i)] m (eVar 0) aNil) D (some (.ref A.r) :: τ) C :=
  ⟨_, rfl, _, _, _, _, rfl, R.r, tb1, hm, q⟩
theorem gs (hp : putFT f v (Fs A h w k e) = Fs A h' w' k' e') (R : Rn A C h w P S U k e) (q : Qg (some (.ref A.r) :: τ) (up C A.r (.ins "Runner" (Fs A h' w' k' e')))) : gFd ["Runner"] f (eVar 0) v (some (.ref A.r) :: τ) C Qg χ :=
  ⟨_, rfl, _, _, _, rfl, R.r, .head _, fs_lt, hp ▸ q⟩
theorem en_y {K : Bool → Hw → Prop} (R : Rn A C h w P S U k .non) (q : K true C) : tBl (eBin wIsN (eFld ["Runner"] "ending" (eVar 0)) (eC .non)) (some (.ref A.r) :: τ) C K χ :=
  ⟨_, rfl, _, _, _, _, rfl, R.r, .head _, lk_ending, rfl, true, rfl, q⟩
theorem en_n {K : Bool → Hw → Prop} {l : List T} (R : Rn A C h w P S U k (.tup l)) (q : K false C) : tBl (eBin wIsN (eFld ["Runner"] "ending" (eVar 0)) (eC .non)) (some (.ref A.r) :: τ) C K χ :=
  ⟨_, rfl, _, _, _, _, rfl, R.r, .head _, lk_ending, rfl, false, rfl, q⟩
end
set_option Elab.async false
set_option linter.all false
set_option maxRecDepth 100000
set_option maxHeartbeats 4000000
open PySem PySem.Spec PyProof.Rows L2 WL
/-! tests by a word or a number, one after another: what is not taken is not walked -/
section
variable {A B : WS} {D : We} {τ : Sw} {C : Hw} {i k : Nat} {v : T} {r : List T} {s s' w : Str} {x y : Int}
theorem k_yes (h : τ[i]? = some (some (.str w))) (hw : w = s) (q : A { D with nx := B D } τ C) : sSeq (sIf (tBl (eBin wEq (eVar i) (eC (.str s)))) A sPass) B D τ C := by
  refine ⟨_, h, ?_⟩
  simp only [eC]
  rw [wEq, wEq_str, hw]
  refine ⟨true, by simp, ?_⟩
  rw [if_pos rfl]; exact q
theorem k_no (h : τ[i]? = some (some (.str w))) (hw : w ≠ s) (q : B D τ C) : sSeq (sIf (tBl (eBin wEq (eVar i) (eC (.str s)))) A sPass) B D τ C := by
  refine ⟨_, h, ?_⟩
  simp only [eC]
  rw [wEq, wEq_str]
  refine ⟨false, by simp [hw], ?_⟩
  rw [if_neg (by decide)]; exact q
theorem k_yesI (h : τ[i]? = some (some (.int x))) (hw : x = y) (q : A { D with nx := B D } τ C) : sSeq (sIf (tBl (eBin wEq (eVar i) (eC (.int y)))) A sPass) B D τ C := by
  refine ⟨_, h, ?_⟩
  simp only [eC]
  rw [wEq, wEq_int, hw]
  refine ⟨true, by simp, ?_⟩
  rw [if_pos rfl]; exact q
theorem k_noI (h : τ[i]? = some (some (.int x))) (hw : x ≠ y) (q : B D τ C) : sSeq (sIf (tBl (eBin wEq (eVar i) (eC (.int y)))) A sPass) B D τ C := by
  refine ⟨_, h, ?_⟩
  simp only [eC]
  rw [wEq, wEq_int]
  refine ⟨false, by simp [hw], ?_⟩
  rw [if_neg (by decide)]; exact q
/-- the first word of the first variable -/
theorem k_yesX (h : τ[0]? = some (some (.tup (.str w :: r)))) (hw : w = s) (q : A { D with nx := B D } τ C) : sSeq (sIf (tBl (eBin wEq (eBin wIdx (eVar 0) (eC (.int 0))) (eC (.str s)))) A sPass) B D τ C := by
  refine ⟨_, h, _, atI_0, ?_⟩
  simp only [eC]
  rw [wEq, wEq_str, hw]
  refine ⟨true, by simp, ?_⟩
  rw [if_pos rfl]; exact q
theorem k_noX (h : τ[0]? = some (some (.tup (.str w :: r)))) (hw : w ≠ s) (q : B D τ C) : sSeq (sIf (tBl (eBin wEq (eBin wIdx (eVar 0) (eC (.int 0))) (eC (.str s)))) A sPass) B D τ C := by
  refine ⟨_, h, _, atI_0, ?_⟩
  simp only [eC]
  rw [wEq, wEq_str]
  refine ⟨false, by simp [hw], ?_⟩
  rw [if_neg (by decide)]; exact q
end
section
variable {C : Hw} {Q : WK} {χ : WX} {n : Nat}
theorem pw18 : (10 : Int) ^ Int.toNat 18 = M := by decide
theorem s_truth {b : Bool} (q : Q (tt (.yn b)) C) : wpc pr (n + 1) i_truth [.bl b] C Q χ := by
  refine u_truth rfl ?_
  unfold w_truth
  walk_at "ws"
  refine ⟨b, rfl, ?_⟩
  unfold tt at q
  cases b
  · exact q
  · exact q
theorem s_reckoned {op : Str} {x y : Int} {z : Tm} (hx : 0 ≤ x) (hx' : x < M) (h : reck op x y = some z) (q : Q (tt z) C) : wpc pr (n + 2) i_reckoned [.str op, .int x, .int y] C Q χ := by
  refine u_reckoned rfl ?_
  unfold w_reckoned
  have p : CPow 10 18 := ⟨by decide, by decide, by decide⟩
  unfold reck at h
  by_cases c1 : op = "<"
  · rw [if_pos c1] at h
    cases h
    refine k_yes rfl c1 ?_
    refine ⟨_, rfl, _, rfl, ?_⟩
    dsimp only [wLt, aNil]
    exact s_truth q
  rw [if_neg c1] at h
  refine k_no rfl c1 ?_
  by_cases c2 : op = "="
  · rw [if_pos c2] at h
    cases h
    refine k_yes rfl c2 ?_
    refine ⟨_, rfl, _, rfl, eqI rfl ?_⟩
    dsimp only [aNil]
    exact s_truth q
  rw [if_neg c2] at h
  refine k_no rfl c2 ?_
  by_cases c3 : op = "+"
  · rw [if_pos c3] at h
    cases h
    subst c3
    exact ⟨_, rfl, eqSc (by decide +kernel) ⟨true, rfl, ite_t ⟨_, rfl, _, rfl, _, rfl, p, by decide, Nat.le_of_ble_eq_true rfl, q⟩⟩⟩
  rw [if_neg c3] at h
  by_cases c4 : op = "-"
  · rw [if_pos c4] at h
    cases h
    subst c4
    exact ⟨_, rfl, eqSc (by decide +kernel) ⟨false, rfl, ite_f ⟨_, rfl, eqSc (by decide +kernel) ⟨true, rfl, ite_t ⟨_, rfl, _, rfl, _, rfl, p, by decide, Nat.le_of_ble_eq_true rfl, q⟩⟩⟩⟩⟩
  rw [if_neg c4] at h
  by_cases c5 : op = "*"
  · rw [if_pos c5] at h
    cases h
    subst c5
    simp only [M] at hx'
    exact ⟨_, rfl, eqSc (by decide +kernel) ⟨false, rfl, ite_f ⟨_, rfl, eqSc (by decide +kernel) ⟨false, rfl, ite_f ⟨_, rfl, _, rfl, .inl ⟨by omega, by omega⟩, _, rfl, p, by decide, Nat.le_of_ble_eq_true rfl, q⟩⟩⟩⟩⟩
  rw [if_neg c5] at h
  cases h
def isV : Tm → Bool
  | .op _ _ _ => false
  | _ => true
theorem s_is_value {t : Tm} (q : Q (.bl (isV t)) C) : wpc pr (n + 1) i_is_value [tt t] C Q χ := by
  refine u_is_value rfl ?_
  unfold w_is_value g_VALUES
  cases t
  all_goals
    unfold tt
    walk_at "ws"
    refine ⟨flat_str, by decide, ?_⟩
    exact q
end
section
variable {A : Ad} {C : Hw} {h w e : T} {P S U : List T} {k : Int} {n : Nat} {X Y : WS} {D : We} {a : Addr} {z : Str} {l : List T}
/-! tests, one after another: what is not taken is not walked -/
theorem sf_no {i : Nat} {τ : Sw} {s : Str} (h : τ[i]? = some (some (.str z))) (hw : z ≠ s) (q : Y D τ C) : sIf (tBl (eBin wEq (eVar i) (eC (.str s)))) X Y D τ C := by
  refine ⟨_, h, ?_⟩
  simp only [eC]
  rw [wEq, wEq_str]
  refine ⟨false, by simp [hw], ?_⟩
  rw [if_neg (by decide)]; exact q
theorem sf_yes {i : Nat} {τ : Sw} {s : Str} (h : τ[i]? = some (some (.str z))) (hw : z = s) (q : X D τ C) : sIf (tBl (eBin wEq (eVar i) (eC (.str s)))) X Y D τ C := by
  refine ⟨_, h, ?_⟩
  simp only [eC]
  rw [wEq, wEq_str, hw]
  refine ⟨true, by simp, ?_⟩
  rw [if_pos rfl]; exact q
theorem sx_no {i : Nat} {τ : Sw} {s : Str} (h : τ[i]? = some (some (.tup (.str z :: l)))) (hw : z ≠ s) (q : Y D τ C) : sIf (tBl (eBin wEq (eBin wIdx (eVar i) (eC (.int 0))) (eC (.str s)))) X Y D τ C := by
  refine ⟨_, h, _, atI_0, ?_⟩
  simp only [eC]
  rw [wEq, wEq_str]
  refine ⟨false, by simp [hw], ?_⟩
  rw [if_neg (by decide)]; exact q
theorem sx_yes {i : Nat} {τ : Sw} {s : Str} (h : τ[i]? = some (some (.tup (.str z :: l)))) (hw : z = s) (q : X D τ C) : sIf (tBl (eBin wEq (eBin wIdx (eVar i) (eC (.int 0))) (eC (.str s)))) X Y D τ C := by
  refine ⟨_, h, _, atI_0, ?_⟩
  simp only [eC]
  rw [wEq, wEq_str, hw]
  refine ⟨true, by simp, ?_⟩
  rw [if_pos rfl]; exact q
abbrev fld (f : Str) : WE := eFld ["Runner"] f (eVar 0)
theorem i1y (R : Rn A C .non w P S U k e) (q : X D [some (.ref A.r)] C) : sIf (tBl (eBin wIsN (fld "hand") (eC (.non)))) X Y D [some (.ref A.r)] C := by
  refine ⟨_, rfl, _, _, _, _, rfl, R.r, by simp, lk_hand, ?_⟩
  refine ⟨rfl, true, rfl, ?_⟩
  exact q
theorem i1n (R : Rn A C (.tup (.str z :: l)) w P S U k e) (q : Y D [some (.ref A.r)] C) : sIf (tBl (eBin wIsN (fld "hand") (eC (.non)))) X Y D [some (.ref A.r)] C := by
  refine ⟨_, rfl, _, _, _, _, rfl, R.r, by simp, lk_hand, ?_⟩
  refine ⟨rfl, false, rfl, ?_⟩
  exact q
theorem i2n (R : Rn A C (.tup (.str z :: l)) w P S U k e) (hz : z ≠ "stop") (q : Y D [some (.ref A.r)] C) : sIf (tBl (eBin wEq (eBin wIdx (fld "hand") (eC (.int 0))) (eC (.str "stop")))) X Y D [some (.ref A.r)] C := by
  refine ⟨_, rfl, _, _, _, _, rfl, R.r, by simp, lk_hand, ?_⟩
  refine ⟨_, atI_0, ?_⟩
  simp only [eC]
  rw [wEq, wEq_str]
  refine ⟨false, by simp [hz], ?_⟩
  exact q
theorem i3 {t : Tm} (R : Rn A C (tt t) w P S U k e) (q : if isV t = true then Y D [some (.ref A.r)] C else X D [some (.ref A.r)] C) : sIf (tNo (tTru (eCall (wpc pr (n + 1)) 9 (aCons (fld "hand") aNil)))) X Y D [some (.ref A.r)] C := by
  refine ⟨_, rfl, _, _, _, _, rfl, R.r, by simp, lk_hand, ?_⟩
  simp only [aNil]
  refine s_is_value (n := n) (t := t) ?_
  refine ⟨_, rfl, ?_⟩
  cases h : isV t
  · rw [h] at q; exact q
  · rw [h] at q; exact q
theorem i4 (R : Rn A C h w P S U k e) (q : ∀ p, C p = none → if P = [] then X D [some (.ref A.r)] (up C p (.lst [])) else Y D [some (.ref A.r)] (up C p (.lst []))) : sIf (tBl (eBin wEq (fld "pile") (eLst aNil))) X Y D [some (.ref A.r)] C := by
  refine ⟨_, rfl, _, _, _, _, rfl, R.r, by simp, lk_pile, ?_⟩
  refine ⟨small63 (by simp), fun p hp => ?_⟩
  have R1 := R.ex (Ex.new (o := .lst []) hp)
  have q' := q p hp
  by_cases c : P = []
  · rw [if_pos c] at q'
    subst c
    refine ⟨_, _, R1.pp, up_same, fun _ => ⟨by unfold flats; rfl, by unfold flats; rfl⟩, ?_⟩
    rw [show eqTs [] [] = true by unfold eqTs; rfl]
    refine ⟨true, rfl, ?_⟩
    exact q'
  · rw [if_neg c] at q'
    have hl : P.length ≠ ([] : List T).length := by simpa using c
    refine ⟨_, _, R1.pp, up_same, fun h => absurd h hl, ?_⟩
    rw [eqTs_len hl]
    refine ⟨false, rfl, ?_⟩
    exact q'
theorem at_last {P : List T} {f : T} : atI (P ++ [f]) (-1) = some f := by
  unfold atI ixN
  rw [if_neg (by decide), if_pos (by simp; omega)]
  have e : ((-1 : Int) + ((P ++ [f]).length : Nat)).toNat = P.length := by simp; omega
  rw [e]
  simp
theorem i5n (R : Rn A C h w (P ++ [.tup (.str z :: l)]) S U k e) (hz : z ≠ "back") (q : Y D [some (.ref A.r)] C) : sIf (tBl (eBin wEq (eBin wIdx (eBin wIdx (fld "pile") (eUn wNeg (eC (.int 1)))) (eC (.int 0))) (eC (.str "back")))) X Y D [some (.ref A.r)] C := by
  refine ⟨_, rfl, _, _, _, _, rfl, R.r, by simp, lk_pile, ?_⟩
  refine ⟨_, _, R.pp, at_last, _, atI_0, ?_⟩
  simp only [eC]
  rw [wEq, wEq_str]
  refine ⟨false, by simp [hz], ?_⟩
  exact q
theorem i6y {v : Int} {f : Fm} (R : Rn A C (tt (.num v)) w (P ++ [ft f]) S U k e) (hf : ∀ {Q : WK} {χ : WX}, Q (.bl true) C → wpc pr (n + 1) i_fits [tt (.num v), ft f] C Q χ) (q : X D [some (.ref A.r)] C) : sIf (tTru (eCall (wpc pr (n + 1)) 14 (aCons (fld "hand") (aCons (eBin wIdx (fld "pile") (eUn wNeg (eC (.int 1)))) aNil)))) X Y D [some (.ref A.r)] C := by
  refine ⟨_, rfl, _, _, _, _, rfl, R.r, by simp, lk_hand, ?_⟩
  refine ⟨_, rfl, _, _, _, _, rfl, R.r, by simp, lk_pile, ?_⟩
  refine ⟨_, _, R.pp, at_last, ?_⟩
  simp only [aNil]
  refine hf ?_
  refine ⟨true, rfl, ?_⟩
  exact q
end
section
variable {A : Ad} {C : Hw} {w e : T} {S U : List T} {k : Int} {Q : WK} {χ : WX} {n : Nat}
theorem getl {P : List T} {f : T} : (P ++ [f])[(P ++ [f]).length - 1]? = some f := by simp
theorem s_take_step {t t' : Tm} {fs fs' : List Fm} (d : Di A) (R : Rn A C (tt t) w (pile fs) S U k e) (hl : fs.length ≤ 1000) (hn : next t fs = some (t', fs')) (o1 : okT t) (o2 : ∀ f ∈ fs, okF f) (q : ∀ C', Fr A C C' → Rn A C' (tt t') w (pile fs') S U k e → Q .non C') :
    wpc pr (n + 5) i_Runner_take_step [.ref A.r] C Q χ := by
  refine u_Runner_take_step rfl ?_
  unfold w_Runner_take_step
  refine ⟨_, rfl, _, _, _, _, rfl, R.r, .head _, lk_hand, ?_⟩
  dsimp only [aNil]
  refine s_is_value ⟨_, rfl, ?_⟩
  have hpl := pile_len (fs := fs)
  cases t with
  | yn b => cases fs <;> simp [next] at hn
  | op o a b =>
    simp only [next, Option.some.injEq, Prod.mk.injEq] at hn
    obtain ⟨rfl, rfl⟩ := hn
    refine ite_f ?_
    refine ⟨_, rfl, _, _, _, _, rfl, R.r, tb1, nm_take_apart, _, rfl, _, _, _, _, rfl, R.r, .head _, lk_hand, ?_⟩
    dsimp only [aNil]
    refine u_Runner_take_apart rfl ?_
    unfold w_Runner_take_apart
    refine ⟨_, rfl, _, atI_0, ?_⟩
    refine sf_no rfl (by decide +kernel) (sf_yes rfl rfl ?_)
    refine ⟨_, rfl, _, _, _, _, rfl, R.r, tb1, nm_go_into, _, rfl, _, atI_2, _, rfl, _, atI_1, _, rfl, _, atI_3, small63 (by simp), ?_⟩
    dsimp only [aNil]
    refine s_go_into (n := n + 2) d R (by omega) fun C' f R' => q C' f ?_
    rw [pile_cons]; exact R'
  | num v =>
    refine ite_t ?_
    cases fs with
    | nil => simp [next] at hn
    | cons f fs =>
      have hpp := R.pp
      have hget : (pile fs ++ [ft f])[fs.length + 1 - 1]? = some (ft f) := by rw [show fs.length + 1 - 1 = (pile fs).length by rw [pile_len]; omega]; simp
      have hdl : (pile fs ++ [ft f]).dropLast = pile fs := by simp
      rw [pile_cons] at R hpp hpl
      have R1 : Rn A (up C A.pp (.lst (pile fs ++ [ft f]).dropLast)) (tt (.num v)) w (pile fs) S U k e := by rw [hdl]; exact R.setP d
      have F1 : Fr A C (up C A.pp (.lst (pile fs ++ [ft f]).dropLast)) := Fr.pp (Fr.refl _ _)
      have hpl' := pile_len (fs := fs)
      refine ⟨_, rfl, _, _, _, _, rfl, R.r, tb1, nm_use_value, _, rfl, _, _, _, _, rfl, R.r, .head _, lk_hand, ?_⟩
      refine ⟨_, rfl, _, _, _, _, rfl, R.r, tb1, nm_take_frame, ?_⟩
      dsimp only [aNil]
      refine u_Runner_take_frame rfl ?_
      refine ⟨_, rfl, _, _, _, _, rfl, R.r, .head _, lk_pile, ⟨_, _, rfl, R.pp⟩, _, _, _, rfl, rfl, R.pp, getl, ?_⟩
      dsimp only [aNil]
      refine u_Runner_use_value rfl ?_
      unfold w_Runner_use_value
      generalize up C A.pp (.lst (pile fs ++ [ft f]).dropLast) = C1 at R1 F1
      clear hdl hget hpp R hpl
      cases f with
      | L o b =>
        simp only [next, Option.some.injEq, Prod.mk.injEq] at hn
        obtain ⟨rfl, rfl⟩ := hn
        refine sx_no (z := "left") rfl (by decide +kernel) (sx_no rfl (by decide +kernel) (sx_yes rfl rfl ?_))
        refine ⟨_, rfl, _, _, _, _, rfl, R1.r, tb1, nm_go_into, _, rfl, _, atI_2, _, rfl, _, atI_1, _, rfl, _, atI_1, small63 (by simp), ?_⟩
        dsimp only [aNil]
        refine s_go_into (n := n + 2) d R1 (by simp at hl; omega) fun C' f R' => q C' (F1.trans f) ?_
        rw [pile_cons]; exact R'
      | R o x =>
        simp only [next] at hn
        cases hz : reck o x v with
        | none => rw [hz] at hn; cases hn
        | some z =>
          rw [hz] at hn
          simp only [Option.map_some, Option.some.injEq, Prod.mk.injEq] at hn
          obtain ⟨rfl, rfl⟩ := hn
          have hx := o2 (.R o x) (by simp)
          refine sx_no (z := "right") rfl (by decide +kernel) (sx_no rfl (by decide +kernel) (sx_no rfl (by decide +kernel) (sx_yes rfl rfl ?_)))
          refine ⟨_, rfl, _, atI_1, _, rfl, _, atI_2, _, rfl, _, atI_1, ?_⟩
          dsimp only [aNil]
          refine s_reckoned (n := n + 1) hx.1 hx.2 hz ?_
          refine ⟨_, rfl, A.r, _, _, rfl, R1.r, by simp, by rw [fs_len]; decide, ?_⟩
          exact q _ (F1.trans (Fr.r (Fr.refl _ _))) (R1.setR d)
end
set_option Elab.async false
set_option linter.all false
set_option maxRecDepth 100000
set_option maxHeartbeats 4000000
open PySem PySem.Spec PyProof.Rows L2 WL
def txt : Tm → Str
  | .num v => Str.ofString (toString v)
  | .yn b => if b = true then "Yes" else "No"
  | _ => ""
def told (x : Str) : T := .tup [.str "told", .str x]
section
variable {A : Ad} {C : Hw} {w e : T} {P S U : List T} {k : Int} {Q : WK} {χ : WX} {n : Nat}
theorem lg {v : Int} (h : 0 ≤ v ∧ v < M) : v.natAbs.log2 < 1920 := by
  have h1 : v.natAbs < 2 ^ 64 := by have := h.1; have := h.2; simp only [M] at this; omega
  have : v.natAbs.log2 < 64 := by
    by_cases c : v.natAbs = 0
    · rw [c]; decide
    · exact (Nat.log2_lt c).mpr h1
  omega
theorem s_pieces {t : Tm} {D : Int} (hv : isV t = true) (ho : okT t) (q : ∀ p C', C p = none → Ex C C' → C' p = some (.lst [.str (txt t)]) → Q (.ref p) C') : wpc pr (n + 1) i_pieces_of [tt t, .int D] C Q χ := by
  refine u_pieces_of rfl ?_
  unfold w_pieces_of
  cases t with
  | num v =>
    refine k_yesX rfl rfl ?_
    exact ⟨_, rfl, _, atI_1, .inl ⟨v, rfl, lg ho, Nat.le_of_ble_eq_true rfl, fun p hp => q p _ hp (Ex.new hp) up_same⟩⟩
  | yn b =>
    refine k_noX rfl (by decide +kernel) (k_noX rfl (by decide +kernel) ?_)
    refine ⟨_, rfl, _, atI_2, Nat.zero_le _, eqT0 ⟨true, rfl, ite_t ?_⟩⟩
    exact ⟨_, rfl, _, atI_1, Nat.le_of_ble_eq_true rfl, fun p hp => q p _ hp (Ex.new hp) up_same⟩
  | op o a b => cases hv
theorem s_tell_value {t : Tm} {W : Int} (d : Di A) (hv : isV t = true) (ho : okT t) (R : Rn A C (tt t) (.int W) P [] U k e) (q : ∀ C', Fr A C C' → Rn A C' .non (.int W) P [.str (txt t)] U k e → Q .non C') : wpc pr (n + 2) i_Runner_tell_value [.ref A.r] C Q χ := by
  refine u_Runner_tell_value rfl ?_
  unfold w_Runner_tell_value
  refine ⟨_, rfl, _, _, _, _, rfl, R.r, .head _, lk_still, ⟨_, _, rfl, R.ps⟩, _, rfl, _, _, _, _, rfl, R.r, .head _, lk_hand, ?_⟩
  refine ⟨_, rfl, _, _, _, _, rfl, R.r, .head _, lk_wanted, ?_⟩
  dsimp only [wSub, eC, aNil]
  refine s_pieces (n := n) hv ho fun p C1 hp hE hp1 => ?_
  have R1 := R.ex hE
  refine ⟨_, _, rfl, hp1, fun p2 hp2 => ?_⟩
  have R2 := R1.ex (Ex.new (o := .lst [T.str (txt t)].reverse) hp2)
  refine ⟨_, _, _, _, rfl, rfl, R2.ps, up_same, Nat.le_of_ble_eq_true rfl, ?_⟩
  have R3 := R2.setS (P' := [T.str (txt t)]) d
  have F3 : Fr A C (up (up C1 p2 (.lst [T.str (txt t)].reverse)) A.ps (.lst [T.str (txt t)])) := Fr.ps (Ex.fr (hE.trans (Ex.new hp2)))
  refine gs (χ := χ) pt_hand R3 ?_
  exact q _ (Fr.r F3) (R3.setR d)
theorem nil_nil {a p : Addr} {c : Hw} {Q : WK} (h1 : c a = some (.lst [])) (h2 : c p = some (.lst [])) (q : Q (.bl true) c) : wEqG false (.ref a) (.ref p) c Q :=
  ⟨_, _, h1, h2, fun _ => ⟨by unfold flats; rfl, by unfold flats; rfl⟩, by rw [show eqTs [] [] = true by unfold eqTs; rfl]; exact q⟩
theorem s_tn_end {x : Str} (d : Di A) (hx : x.length ≤ 1000) (R : Rn A C .non w P [] [.str x] k e) (q : ∀ C', Fr A C C' → Rn A C' .non w P [] [.str x] k (told x) → Q .non C') : wpc pr (n + 1) i_Runner_tell_next [.ref A.r] C Q χ := by
  refine u_Runner_tell_next rfl ?_
  unfold w_Runner_tell_next
  refine ⟨_, rfl, _, _, _, _, rfl, R.r, .head _, lk_still, Nat.zero_le _, fun p hp => ?_⟩
  have R1 := R.ex (Ex.new (o := .lst []) hp)
  have F1 : Fr A C (up C p (.lst [])) := Ex.fr (Ex.new hp)
  refine nil_nil R1.ps up_same ⟨true, rfl, ite_t ?_⟩
  have hpt : (up C p (.lst [])) A.pt = some (.lst (List.map T.str [x])) := R1.pt
  refine ⟨⟨_, rfl⟩, _, rfl, _, _, _, _, rfl, R1.r, .head _, lk_told, _, _, [x], rfl, rfl, hpt, Nat.zero_le _, by simp; omega, Nat.le_of_ble_eq_true rfl, ?_⟩
  refine gs (χ := χ) pt_ending R1 ?_
  exact q _ (Fr.r F1) (R1.setR d)
theorem isSS : isCls "str" "str" = true := by decide +kernel
theorem isTS : isCls "tuple" "str" = false := by decide +kernel
theorem ne_nil {y : T} {P' : List T} {p : Addr} {c : Hw} {Q : WK} (h1 : c A.ps = some (.lst (y :: P'))) (h2 : c p = some (.lst [])) (q : Q (.bl false) c) : wEqG false (.ref A.ps) (.ref p) c Q :=
  ⟨_, _, h1, h2, fun h => by simp at h, by rw [show eqTs (y :: P') [] = false by unfold eqTs; rfl]; exact q⟩
theorem trS {c : Hw} : tru (.bl (isCls "str" "str")) c true := by rw [isSS]; rfl
theorem trT {c : Hw} : tru (.bl (isCls "tuple" "str")) c false := by rw [isTS]; rfl
theorem s_tn_pop {y : T} {n' : Nat} (d : Di A) (R : Rn A C .non w P [y] [] k e) (q : ∀ C', Fr A C C' → Rn A C' .non w P [] [] k e →
    sIf (tTru (eIsi (eVar 1) "str")) (sExpr (eMt tyL' mAppend (eFld ["Runner"] "told" (eVar 0)) (aCons (eVar 1) aNil))) (sIf (tBl (eBin wLe (eBin wIdx (eVar 1) (eC (.int 0))) (eC (.int 0)))) (sExpr (eMt tyL' mAppend (eFld ["Runner"] "told" (eVar 0)) (aCons (eC (.str "?")) aNil))) (sSeq (sAsg (eBin wIdx (eVar 1) (eC (.int 0))) (gFd ["Runner"] "wanted" (eVar 0)))
    (sAsg (eBin wIdx (eVar 1) (eC (.int 1))) (gFd ["Runner"] "hand" (eVar 0))))) { nx := fun _ C' => Q .non C', rt := Q, xc := χ } [some (.ref A.r), some y] C') : wpc pr (n + 1) i_Runner_tell_next [.ref A.r] C Q χ := by
  refine u_Runner_tell_next rfl ?_
  unfold w_Runner_tell_next
  refine ⟨_, rfl, _, _, _, _, rfl, R.r, .head _, lk_still, Nat.zero_le _, fun p hp => ?_⟩
  have R1 := R.ex (Ex.new (o := .lst []) hp)
  have F1 : Fr A C (up C p (.lst [])) := Ex.fr (Ex.new hp)
  refine ne_nil R1.ps up_same ⟨false, rfl, ite_f ?_⟩
  refine ⟨_, rfl, _, _, _, _, rfl, R1.r, .head _, lk_still, ⟨_, _, rfl, R1.ps⟩, _, _, _, rfl, rfl, R1.ps, rfl, ?_⟩
  exact q _ (Fr.ps F1) (R1.setS (P' := []) d)
theorem s_tn_text {x : Str} (d : Di A) (R : Rn A C .non w P [.str x] [] k e) (q : ∀ C', Fr A C C' → Rn A C' .non w P [] [.str x] k e → Q .non C') : wpc pr (n + 1) i_Runner_tell_next [.ref A.r] C Q χ := by
  refine s_tn_pop (n' := n) d R fun C2 F2 R2 => ?_
  refine ⟨_, rfl, _, rfl, true, trS, ite_t ?_⟩
  refine ⟨_, rfl, _, _, _, _, rfl, R2.r, .head _, lk_told, ⟨_, _, rfl, R2.pt⟩, _, rfl, _, _, _, rfl, rfl, R2.pt, Nat.le_of_ble_eq_true rfl, ?_⟩
  exact q _ (Fr.pt F2) (R2.setT d)
theorem s_tn_start {t : T} {D : Int} {l : List T} (hl : t = .tup l) (d : Di A) (R : Rn A C .non w P [.tup [.int D, t]] [] k e) (q0 : D ≤ 0 → ∀ C', Fr A C C' → Rn A C' .non w P [] [.str "?"] k e → Q .non C') (q1 : 0 < D → ∀ C', Fr A C C' → Rn A C' t (.int D) P [] [] k e → Q .non C') : wpc pr (n + 1) i_Runner_tell_next [.ref A.r] C Q χ := by
  refine s_tn_pop (n' := n) d R fun C2 F2 R2 => ?_
  refine ⟨_, rfl, _, rfl, false, trT, ite_f ?_⟩
  refine ⟨_, rfl, _, atI_0, decide (D ≤ 0), rfl, ?_⟩
  by_cases c : D ≤ 0
  · refine ite_p (decide_eq_true c) ?_
    refine ⟨_, rfl, _, _, _, _, rfl, R2.r, .head _, lk_told, ⟨_, _, rfl, R2.pt⟩, _, _, _, rfl, rfl, R2.pt, Nat.le_of_ble_eq_true rfl, ?_⟩
    exact q0 c _ (Fr.pt F2) (R2.setT d)
  · refine ite_n (decide_eq_false c) ?_
    refine ⟨_, rfl, _, atI_0, ?_⟩
    refine gs (χ := χ) pt_wanted R2 ?_
    have R3 := R2.setR (h' := .non) (w' := .int D) (k' := k) (e' := e) d
    refine ⟨_, rfl, _, atI_1, ?_⟩
    refine gs (χ := χ) pt_hand R3 ?_
    exact q1 (by omega) _ (Fr.r (Fr.r F2)) (R3.setR d)
theorem s_fits {v : Int} {f : Fm} (q : Q (.bl true) C) : wpc pr (n + 1) i_fits [tt (.num v), ft f] C Q χ := by
  have ret : eBin wEq (eBin wIdx (eVar 0) (eC (.int 0))) (eC (.str "number")) [some (tt (.num v)), some (ft f)] C Q χ := ⟨_, rfl, _, atI_0, eqSc (by decide +kernel) q⟩
  refine u_fits rfl ?_
  unfold w_fits
  cases f
  · refine ⟨_, rfl, _, atI_0, eqSc (v := false) (by decide +kernel) ⟨_, rfl, ite_f ?_⟩⟩
    refine ⟨_, rfl, _, atI_0, eqSc (v := false) (by decide +kernel) ⟨_, rfl, ite_f ?_⟩⟩
    exact ⟨_, rfl, _, atI_0, eqSc (v := true) (by decide +kernel) ⟨_, rfl, ite_t (ite_t ret)⟩⟩
  · refine ⟨_, rfl, _, atI_0, eqSc (v := false) (by decide +kernel) ⟨_, rfl, ite_f ?_⟩⟩
    refine ⟨_, rfl, _, atI_0, eqSc (v := false) (by decide +kernel) ⟨_, rfl, ite_f ?_⟩⟩
    refine ⟨_, rfl, _, atI_0, eqSc (v := false) (by decide +kernel) ⟨_, rfl, ite_f ?_⟩⟩
    exact ⟨_, rfl, _, atI_0, eqSc (v := true) (by decide +kernel) ⟨_, rfl, ite_t ret⟩⟩
theorem tt_tup : ∀ t : Tm, ∃ l, tt t = .tup l
  | .num _ => ⟨_, rfl⟩
  | .yn _ => ⟨_, rfl⟩
  | .op _ _ _ => ⟨_, rfl⟩
theorem txt_len {t : Tm} (hv : isV t = true) (ho : okT t) : (txt t).length ≤ 1000 := by
  cases t with
  | num v =>
    have h0 := ho.1
    obtain ⟨m, rfl⟩ : ∃ m : Nat, v = m := ⟨v.toNat, by omega⟩
    show (Str.ofString (toString (Int.ofNat m))).length ≤ 1000
    rw [text_ofNat]
    show ((Nat.toDigits 10 m).map Char.toNat).toArray.size ≤ 1000
    rw [List.size_toArray, List.length_map]
    have : (Nat.toDigits 10 m).length ≤ 18 := digits10_le (by decide) (by have := ho.2; simp only [M] at this; omega)
    omega
  | yn b => cases b <;> decide
  | op o a b => cases hv
def stI (A : Ad) (C : Hw) (t : Tm) (fs : List Fm) (r : Tm) (st : Bool) (D : Int) (w : T) (k : Int) (m : Nat) (τ : Sw) (C' : Hw) : Prop := τ = [some (.ref A.r)] ∧ Fr A C C' ∧ (
        (m = 4 ∧ st = true ∧ fs = [] ∧ Rn A C' .non w [] [.tup [.int D, tt t]] [] k .non) ∨
        (m = 3 ∧ (st = true → 0 < D) ∧ ∃ W, Rn A C' (tt t) (.int W) (pile fs) [] [] k .non) ∨
        (m = 2 ∧ rem t fs = 0 ∧ (st = true → 0 < D) ∧ isV t = true ∧ t = r ∧ ∃ w', Rn A C' .non w' [] [.str (txt r)] [] k .non) ∨
        (m = 1 ∧ ∃ x w', x.length ≤ 1000 ∧ ((rem t fs = 0 ∧ x = txt r ∧ (st = true → 0 < D)) ∨ (st = true ∧ D ≤ 0 ∧ x = "?")) ∧ Rn A C' .non w' [] [] [.str x] k .non) ∨
        (m = 0 ∧ ∃ x w', ((rem t fs = 0 ∧ x = txt r ∧ (st = true → 0 < D)) ∨ (st = true ∧ D ≤ 0 ∧ x = "?")) ∧ Rn A C' .non w' [] [] [.str x] k (told x)))
/-- what settle does: a run that goes on stays as it is, one that is done is told -/
theorem s_settle {t : Tm} {fs : List Fm} {r : Tm} {st : Bool} {D : Int} (d : Di A) (hl : fs.length ≤ 1000) (hr : res t fs = some r) (o1 : okT t) 
    (R : (st = false ∧ ∃ W, Rn A C (tt t) (.int W) (pile fs) [] [] k .non) ∨ (st = true ∧ fs = [] ∧ Rn A C .non w [] [.tup [.int D, tt t]] [] k .non))
    (q1 : rem t fs ≠ 0 → (st = true → 0 < D) → ∀ C' W, Fr A C C' → Rn A C' (tt t) (.int W) (pile fs) [] [] k .non → Q .non C')
    (q2 : ∀ x C' w', ((rem t fs = 0 ∧ x = txt r ∧ (st = true → 0 < D)) ∨ (st = true ∧ D ≤ 0 ∧ x = "?")) → Fr A C C' → Rn A C' .non w' [] [] [.str x] k (told x) → Q .non C') :
    wpc pr (n + 4) i_Runner_settle [.ref A.r] C Q χ := by
  refine u_Runner_settle rfl ?_
  unfold w_Runner_settle
  have hstart : ∃ m, (m = 3 ∧ (st = true → 0 < D) ∧ ∃ W, Rn A C (tt t) (.int W) (pile fs) [] [] k .non) ∨ (m = 4 ∧ st = true ∧ fs = [] ∧ Rn A C .non w [] [.tup [.int D, tt t]] [] k .non) := by
    rcases R with ⟨h, hR⟩ | ⟨h, h', hR⟩
    · exact ⟨3, .inl ⟨rfl, (fun z => by rw [h] at z; cases z), hR⟩⟩
    · exact ⟨4, .inr ⟨rfl, h, h', hR⟩⟩
  obtain ⟨m0, hstart⟩ := hstart
  refine while_inv (stI A C t fs r st D w k) (m := m0)
    ⟨rfl, Fr.refl _ _, by rcases hstart with ⟨h1, h2, h3⟩ | h; exact .inr (.inl ⟨h1, h2, h3⟩); exact .inl h⟩ ?_
  rintro m τ C' N ⟨rfl, hF, hp⟩ hN
  rcases hp with ⟨rfl, h1, h2, R1⟩ | ⟨rfl, h1, W, R1⟩ | ⟨rfl, h1, h2, h3, h4, w', R1⟩ | ⟨rfl, x, w', hx, h1, R1⟩ | ⟨rfl, x, w', h1, R1⟩
  · obtain ⟨l, hl'⟩ := tt_tup t
    subst h2
    refine en_y R1 (ite_t ?_)
    refine i1y R1 (x_call R1 nm_tell_next ?_)
    refine s_tn_start (n := n + 2) hl' d R1 (fun hD C2 f R2 => ?_) (fun hD C2 f R2 => ?_)
    · exact hN 1 _ _ (by decide) ⟨rfl, hF.trans f, .inr (.inr (.inr (.inl ⟨rfl, _, _, by decide, .inr ⟨h1, hD, rfl⟩, R2⟩)))⟩
    · exact hN 3 _ _ (by decide) ⟨rfl, hF.trans f, .inr (.inl ⟨rfl, fun _ => hD, _, R2⟩)⟩
  · refine en_y R1 (ite_t ?_)
    have hd : ∃ z l, tt t = .tup (.str z :: l) ∧ z ≠ "stop" := by
      cases t with
      | num v => exact ⟨_, _, rfl, by decide +kernel⟩
      | yn b => exact ⟨_, _, rfl, by decide +kernel⟩
      | op o a b => exact ⟨_, _, rfl, by decide +kernel⟩
    obtain ⟨z, l, ht, hz⟩ := hd
    refine i1n (z := z) (l := l) (ht ▸ R1) (i2n (z := z) (l := l) (ht ▸ R1) hz (i3 (n := n + 2) R1 ?_))
    rcases next_of hr with ⟨e1, e2, e3, e4⟩ | ⟨t', fs', e1, e2, e3⟩
    · have hv : isV t = true := by rcases e4 with ⟨v, rfl⟩ | ⟨b, rfl⟩ <;> rfl
      subst e2
      refine ite_c hv ?_
      refine i4 R1 fun p hp => ?_
      refine ite_c (show pile [] = [] from rfl) ?_
      have R2 := R1.ex (Ex.new (o := .lst []) hp)
      refine x_call R2 nm_tell_value ?_
      refine s_tell_value (n := n + 1) d hv o1 R2 fun C2 f R3 => ?_
      exact hN 2 _ _ (by decide) ⟨rfl, (hF.trans (Ex.fr (Ex.new hp))).trans f, .inr (.inr (.inl ⟨rfl, e1, h1, hv, e3, _, e3 ▸ R3⟩))⟩
    · have hne : rem t fs ≠ 0 := by omega
      have back : ∀ C1, Ex C' C1 → Q .non C1 := fun C1 hE => q1 hne h1 C1 W (hF.trans (Ex.fr hE)) (R1.ex hE)
      cases t with
      | yn b => cases fs <;> simp [next] at e1
      | op o a b =>
        refine ite_d (by simp [isV]) ?_
        exact back _ (Ex.refl _)
      | num v =>
        cases fs with
        | nil => simp [next] at e1
        | cons f fs =>
          refine ite_c (show isV (.num v) = true from rfl) ?_
          refine i4 R1 fun p hp => ?_
          refine ite_d (by rw [pile_cons]; simp) ?_
          have hE : Ex C' (up C' p (.lst [])) := Ex.new hp
          have R2 := R1.ex hE
          rw [pile_cons] at R2
          have hf : ∃ y l, ft f = .tup (.str y :: l) ∧ y ≠ "back" := by
            cases f with
            | L o b => exact ⟨_, _, rfl, by decide +kernel⟩
            | R o x => exact ⟨_, _, rfl, by decide +kernel⟩
          obtain ⟨y, l2, hf1, hf2⟩ := hf
          refine i5n (z := y) (l := l2) (hf1 ▸ R2) hf2 (i6y (n := n + 2) (v := v) (f := f) R2 (fun {Q χ} q => s_fits q) ?_)
          exact back _ hE
  · refine en_y R1 (ite_t ?_)
    refine i1y R1 (x_call R1 nm_tell_next ?_)
    refine s_tn_text (n := n + 2) d R1 fun C2 f R2 => ?_
    exact hN 1 _ _ (by decide) ⟨rfl, hF.trans f, .inr (.inr (.inr (.inl ⟨rfl, _, _, txt_len (h4 ▸ h3) (h4 ▸ o1), .inl ⟨h1, rfl, h2⟩, R2⟩)))⟩
  · refine en_y R1 (ite_t ?_)
    refine i1y R1 (x_call R1 nm_tell_next ?_)
    refine s_tn_end (n := n + 2) d hx R1 fun C2 f R2 => ?_
    exact hN 0 _ _ (by decide) ⟨rfl, hF.trans f, .inr (.inr (.inr (.inr ⟨rfl, _, _, h1, R2⟩)))⟩
  · refine en_n R1 (ite_f ?_)
    exact q2 x _ _ h1 hF R1
end
set_option Elab.async false
set_option linter.all false
set_option maxRecDepth 100000
set_option maxHeartbeats 4000000
open PySem PySem.Spec PyProof.Rows L2 WL
def spent : T := .tup [.str "spent", .str ""]
section
variable {A : Ad} {C : Hw} {w e : T} {P S U : List T} {k : Int} {Q : WK} {χ : WX} {n : Nat}
theorem res_of {t : Tm} {r : Tm} (h : val t = some r) : res t [] = some r := by simp [res, h, resV]
def avI (A : Ad) (C : Hw) (t r : Tm) (D : Int) (most m : Nat) (τ : Sw) (C' : Hw) : Prop := τ = [some (.ref A.r), some (.int most)] ∧ Fr A C C' ∧ ((∃ t1 fs1 j W, m = rem t1 fs1 ∧ 0 < D ∧ res t1 fs1 = some r ∧ okT t1 ∧ (∀ f ∈ fs1, okF f) ∧ rem t1 fs1 ≠ 0 ∧ rem t1 fs1 + j = 3 * ops t ∧ j ≤ most ∧ Rn A C' (tt t1) (.int W) (pile fs1) [] [] (j : Nat) .non) ∨
      (m = 0 ∧ ∃ w, 0 < D ∧ 3 * ops t ≤ most ∧ Rn A C' .non w [] [] [.str (txt r)] (3 * ops t : Nat) (told (txt r))) ∨ (m = 0 ∧ ∃ w, D ≤ 0 ∧ Rn A C' .non w [] [] [.str "?"] 0 (told "?")))
/-- the loop: by steps -/
theorem s_advance {t : Tm} {r : Tm} {D : Int} {most : Nat} (d : Di A) (hv : val t = some r) (o1 : okT t) (hops : 3 * ops t ≤ 900) (R : Rn A C .non (.int 0) [] [.tup [.int D, tt t]] [] 0 .non)
    (q0 : D ≤ 0 → ∀ C' w, Fr A C C' → Rn A C' .non w [] [] [.str "?"] 0 (told "?") → Q .non C')
    (q1 : 0 < D → 3 * ops t ≤ most → ∀ C' w, Fr A C C' → Rn A C' .non w [] [] [.str (txt r)] (3 * ops t : Nat) (told (txt r)) → Q .non C')
    (q2 : 0 < D → most < 3 * ops t → ∀ C' h w P, Fr A C C' → Rn A C' h w P [] [] (most : Nat) .non → Q .non C') :
    wpc pr (n + 6) i_Runner_advance [.ref A.r, .int most] C Q χ := by
  refine u_Runner_advance rfl ?_
  unfold w_Runner_advance
  refine q_call R nm_settle ?_
  have hrem : rem t [] = 3 * ops t := by simp [rem, remF]
  -- the loop, from a settled state
  have loop : ∀ C1, (∃ m, avI A C t r D most m [some (.ref A.r), some (.int most)] C1) →
      sWhile (tAn (tBl (eBin wIsN (eFld ["Runner"] "ending" (eVar 0)) (eC (.non)))) (tBl (eBin wLt (eFld ["Runner"] "steps" (eVar 0)) (eVar 1))))
        (sSeq (sAsg (eBin wAdd (eFld ["Runner"] "steps" (eVar 0)) (eC (.int 1))) (gFd ["Runner"] "steps" (eVar 0)))
        (sSeq (sExpr (eMth (wpc pr (n + 5)) [("Runner", 22)] "take_step" (eVar 0) aNil))
        (sExpr (eMth (wpc pr (n + 5)) [("Runner", 19)] "settle" (eVar 0) aNil)))) { nx := fun _ C' => Q .non C', rt := Q, xc := χ } [some (.ref A.r), some (.int most)] C1 := by
    intro C1 hst
    obtain ⟨m0, start⟩ := hst
    refine while_inv (avI A C t r D most) (m := m0) start ?_
    rintro m τ C2 N ⟨rfl, hF2, hp⟩ hN
    clear start
    rcases hp with ⟨t1, fs1, j, W, rfl, hD, h1, h2, h3, h4, h5, h6, R2⟩ | ⟨rfl, w2, hD, h1, R2⟩ | ⟨rfl, w2, hD, R2⟩
    · refine en_y R2 (ite_t ?_)
      refine ⟨_, rfl, _, _, _, _, rfl, R2.r, .head _, lk_steps, _, rfl, decide ((j : Int) < (most : Int)), rfl, ?_⟩
      by_cases c : j < most
      · have c' : (j : Int) < (most : Int) := by omega
        refine ite_p (decide_eq_true c') ?_
        refine ⟨_, rfl, _, _, _, _, rfl, R2.r, .head _, lk_steps, ?_⟩
        refine gs (χ := χ) (k' := (j : Int) + 1) pt_steps R2 ?_
        rcases next_of h1 with ⟨e1, _⟩ | ⟨t', fs', e1, e2, e3⟩
        · exact absurd e1 h4
        obtain ⟨ok1, ok2⟩ := next_ok e1 h2 h3
        have hlen : fs1.length ≤ 1000 := by have := remF_len fs1; unfold rem at h5; omega
        have hlen' : fs'.length ≤ 1000 := by have := remF_len fs'; unfold rem at e3 h5; omega
        have R3 := R2.setR (h' := tt t1) (w' := .int W) (k' := (j : Int) + 1) (e' := .non) d
        refine q_call R3 nm_take_step ?_
        refine s_take_step (n := n) d R3 hlen e1 h2 h3 fun C4 f4 R4 => ?_
        refine x_call R4 nm_settle ?_
        have F4 : Fr A C C4 := (hF2.trans (Fr.r (Fr.refl _ _))).trans f4
        have ej : ((j : Int) + 1) = ((j + 1 : Nat) : Int) := by omega
        rw [ej] at R4
        refine s_settle (n := n + 1) (w := .non) (st := false) (D := D) d hlen' e2 ok1 (.inl ⟨rfl, W, R4⟩) (fun hne _ C5 W' f5 R5 => ?_) (fun x C5 w' hx f5 R5 => ?_)
        · exact hN (rem t' fs') _ _ (by omega) ⟨rfl, F4.trans f5, .inl ⟨t', fs', j + 1, W', rfl, hD, e2, ok1, ok2, hne, by omega, by omega, R5⟩⟩
        · rcases hx with ⟨e0, rfl, _⟩ | ⟨z, _⟩
          · have e7 : j + 1 = 3 * ops t := by omega
            rw [e7] at R5
            exact hN 0 _ _ (by omega) ⟨rfl, F4.trans f5, .inr (.inl ⟨rfl, w', hD, by omega, R5⟩)⟩
          · cases z
      · have ej : j = most := by omega
        subst ej
        refine ite_n (decide_eq_false (Int.lt_irrefl _)) ?_
        exact q2 hD (by omega) _ _ _ _ hF2 R2
    · refine en_n R2 (ite_f (ite_f ?_))
      exact q1 hD h1 _ _ hF2 R2
    · refine en_n R2 (ite_f (ite_f ?_))
      exact q0 hD _ _ hF2 R2
  refine s_settle (n := n + 1) (st := true) (fs := []) (D := D) d (by simp) (res_of hv) o1 (.inr ⟨rfl, rfl, R⟩) (fun hne hD C' W f R' => loop C' ⟨_, rfl, f, .inl ⟨t, [], 0, W, rfl, hD rfl, res_of hv, o1, by simp, hne, by rw [hrem]; rfl, Nat.zero_le _, R'⟩⟩) (fun x C' w' hx f R' => loop C' ⟨0, rfl, f, .inr ?_⟩)
  rcases hx with ⟨e0, rfl, hD⟩ | ⟨_, hD, rfl⟩
  · rw [hrem] at e0
    rw [e0]
    exact .inl ⟨rfl, w', hD rfl, Nat.zero_le _, R'⟩
  · exact .inr ⟨rfl, w', hD, R'⟩
theorem s_outcome {h : T} {a b : Str} (R : Rn A C h w P S U k e) (he : (e = .non ∧ a = "spent" ∧ b = "") ∨ e = .tup [.str a, .str b]) (q : ∀ p C', Ex C C' → C' p = some (.lst []) → Q (.tup [.str a, .str b, .tup [.int k, .int 0, .int 0], .ref p]) C') : wpc pr (n + 1) i_Runner_outcome [.ref A.r] C Q χ := by
  refine u_Runner_outcome rfl ?_
  have key : eTup (aCons (eBin wIdx (eVar 1) (eC (.int 0))) (aCons (eBin wIdx (eVar 1) (eC (.int 1))) (aCons (eTup (aCons (eFld ["Runner"] "steps" (eVar 0)) (aCons (eFld ["Runner"] "cells" (eVar 0)) (aCons (eFld ["Runner"] "firsts" (eVar 0)) aNil)))) (aCons (eBi bList (aCons (eFld ["Runner"] "log" (eVar 0)) aNil)) aNil)))) [some (.ref A.r), some (.tup [.str a, .str b])] C Q χ := by
    refine ⟨_, rfl, _, atI_0, ?_⟩
    refine ⟨_, rfl, _, atI_1, ?_⟩
    refine ⟨_, rfl, _, _, _, _, rfl, R.r, .head _, lk_steps, ?_⟩
    refine ⟨_, rfl, _, _, _, _, rfl, R.r, .head _, lk_cells, ?_⟩
    refine ⟨_, rfl, _, _, _, _, rfl, R.r, .head _, lk_firsts, ?_⟩
    refine ⟨Nat.le_of_ble_eq_true rfl, ?_⟩
    refine ⟨_, rfl, _, _, _, _, rfl, R.r, .head _, lk_log, ?_⟩
    refine ⟨_, rfl, _, R.pg, fun p hp => ⟨Nat.le_of_ble_eq_true rfl, ?_⟩⟩
    exact q p _ (Ex.new hp) up_same
  rcases he with ⟨rfl, rfl, rfl⟩ | rfl
  · refine ⟨_, rfl, _, _, _, _, rfl, R.r, .head _, lk_ending, rfl, true, rfl, ?_⟩
    exact ite_t ⟨Nat.le_of_ble_eq_true rfl, key⟩
  · refine ⟨_, rfl, _, _, _, _, rfl, R.r, .head _, lk_ending, rfl, false, rfl, ?_⟩
    refine ite_f ?_
    exact ⟨_, rfl, _, _, _, _, rfl, R.r, .head _, lk_ending, key⟩
end
section
variable {C : Hw} {Q : WK} {χ : WX} {n : Nat}
theorem putFT_len {f : Str} {v : T} : ∀ {fs : List (Str × T)} {m : Nat}, fs.length ≤ m → (putFT f v fs).length ≤ m + 1
  | [], m, _ => by simp [putFT]
  | (g, x) :: fs, m, h => by
    rw [List.length_cons] at h
    unfold putFT
    split
    · rw [List.length_cons]; omega
    · have := putFT_len (f := f) (v := v) (fs := fs) (m := fs.length) (Nat.le_refl _)
      rw [List.length_cons]; omega
theorem ia {m : Nat} {f : Str} {v : T} {B : WS} {D : We} {τ : Sw} {r : Addr} {fs : List (Str × T)} (hr : C r = some (.ins "Runner" fs)) (h0 : τ[0]? = some (some (.ref r))) (hl : fs.length ≤ m) (hm : m < 1000) (q : ∀ C', C' r = some (.ins "Runner" (putFT f v fs)) → (putFT f v fs).length ≤ m + 1 → ExB r C C' → B D τ C') : sSeq (sAsg (eC v) (gFd ["Runner"] f (eVar 0))) B D τ C :=
  ⟨_, h0, r, _, _, rfl, hr, by simp, by omega, q _ up_same (putFT_len hl) fun a o h e => by rw [up_ne h]; exact e⟩
theorem il {m : Nat} {f : Str} {a : WA} {xs : List T} {B : WS} {D : We} {τ : Sw} {r : Addr} {fs : List (Str × T)} (hr : C r = some (.ins "Runner" fs)) (h0 : τ[0]? = some (some (.ref r))) (hl : fs.length ≤ m) (hm : m < 1000) (ha : ∀ Q : List T → Hw → Prop, Q xs C → a τ C Q D.xc) (hx : xs.length ≤ 1000)
    (q : ∀ p C', C p = none → p ≠ r → C' p = some (.lst xs) → C' r = some (.ins "Runner" (putFT f (.ref p) fs)) → (putFT f (.ref p) fs).length ≤ m + 1 → ExB r C C' → B D τ C') : sSeq (sAsg (eLst a) (gFd ["Runner"] f (eVar 0))) B D τ C := by
  refine ha _ ⟨small63 (by omega), fun p hp => ?_⟩
  have hne : r ≠ p := cne hr hp
  refine ⟨_, h0, r, _, _, rfl, by rw [up_ne hne]; exact hr, by simp, by omega, q p _ hp hne.symm (by rw [up_ne hne.symm]; exact up_same) up_same (putFT_len hl) fun a o h e => ?_⟩
  rw [up_ne h, up_ne (cne e hp)]; exact e
theorem id0 {m : Nat} {f : Str} {B : WS} {D : We} {τ : Sw} {r : Addr} {fs : List (Str × T)} (hr : C r = some (.ins "Runner" fs)) (h0 : τ[0]? = some (some (.ref r))) (hl : fs.length ≤ m) (hm : m < 1000)
    (q : ∀ p C', C p = none → p ≠ r → C' r = some (.ins "Runner" (putFT f (.ref p) fs)) → (putFT f (.ref p) fs).length ≤ m + 1 → ExB r C C' → B D τ C') : sSeq (sAsg eDict0 (gFd ["Runner"] f (eVar 0))) B D τ C := by
  intro p hp
  have hne : r ≠ p := cne hr hp
  refine ⟨_, h0, r, _, _, rfl, by rw [up_ne hne]; exact hr, by simp, by omega, q p _ hp hne.symm up_same (putFT_len hl) fun a o h e => ?_⟩
  rw [up_ne h, up_ne (cne e hp)]; exact e
def out (a b : Str) (k : Nat) (p : Addr) : T := .tup [.str a, .str b, .tup [.int k, .int 0, .int 0], .ref p]
theorem s_run {t : Tm} {r : Tm} {D : Int} {most : Nat} (hv : val t = some r) (o1 : okT t) (hops : 3 * ops t ≤ 900)
    (q : ∀ (p : Addr) (C' : Hw) (a b : Str) (k : Nat), Ex C C' → C' p = some (.lst []) → ((D ≤ 0 ∧ a = "told" ∧ b = "?" ∧ k = 0) ∨ (0 < D ∧ 3 * ops t ≤ most ∧ a = "told" ∧ b = txt r ∧ k = 3 * ops t) ∨ (0 < D ∧ most < 3 * ops t ∧ a = "spent" ∧ b = "" ∧ k = most)) → Q (out a b k p) C') :
    wpc pr (n + 9) i_run [tt t, .int D, .int most] C Q χ := by
  refine u_run rfl ?_
  unfold w_run
  walk_at "wo"
  refine u_new_Runner rfl fun r0 hr0 => ?_
  refine u_Runner___init__ rfl ?_
  unfold w_Runner___init__
  refine ia (m := 0) up_same rfl (by simp) (by decide) fun C1 r1 l1 x1 => ?_
  refine ia r1 rfl l1 (by decide) fun C2 r2 l2 x2 => ?_
  refine il (xs := []) r2 rfl l2 (by decide) (fun Q h => h) (by decide) fun pp C3 n3 ne3 p3 r3 l3 x3 => ?_
  refine il (xs := [.tup [.int D, tt t]]) r3 rfl l3 (by decide) (fun Q h => ⟨_, rfl, _, rfl, small63 (by simp), h⟩) (by simp) fun ps C4 n4 ne4 p4 r4 l4 x4 => ?_
  refine il (xs := []) r4 rfl l4 (by decide) (fun Q h => h) (by decide) fun pt C5 n5 ne5 p5 r5 l5 x5 => ?_
  refine id0 r5 rfl l5 (by decide) fun pd C6 n6 ne6 r6 l6 x6 => ?_
  refine il (xs := []) r6 rfl l6 (by decide) (fun Q h => h) (by decide) fun pl C7 n7 ne7 p7 r7 l7 x7 => ?_
  refine il (xs := []) r7 rfl l7 (by decide) (fun Q h => h) (by decide) fun pg C8 n8 ne8 p8 r8 l8 x8 => ?_
  refine ia r8 rfl l8 (by decide) fun C9 r9 l9 x9 => ?_
  refine ia r9 rfl l9 (by decide) fun Ca ra la xa => ?_
  refine ia ra rfl la (by decide) fun Cb rb lb xb => ?_
  refine ⟨_, rfl, r0, _, _, rfl, rb, by simp, by omega, ?_⟩
  generalize hCc : up Cb r0 _ = Cc
  have xc : ExB r0 Cb Cc := hCc ▸ fun a o h e => by rw [up_ne h]; exact e
  have rc : Cc r0 = some (.ins "Runner" (Fs ⟨r0, pp, ps, pt, pd, pl, pg⟩ .non (.int 0) 0 .non)) := hCc ▸ up_same
  clear hCc
  have g3 : ExB r0 C3 Cc := ((((((((x4.trans x5).trans x6).trans x7).trans x8).trans x9).trans xa).trans xb).trans xc)
  have g4 : ExB r0 C4 Cc := (((((((x5.trans x6).trans x7).trans x8).trans x9).trans xa).trans xb).trans xc)
  have g5 : ExB r0 C5 Cc := ((((((x6.trans x7).trans x8).trans x9).trans xa).trans xb).trans xc)
  have g8 : ExB r0 C8 Cc := (((x9.trans xa).trans xb).trans xc)
  have f5 : C5 pp = some (.lst []) := x5 _ _ ne3 (x4 _ _ ne3 p3)
  have f4 : C4 pp = some (.lst []) := x4 _ _ ne3 p3
  have e5 : C5 ps = some (.lst [.tup [.int D, tt t]]) := x5 _ _ ne4 p4
  have s7 : ExB r0 C5 C7 := x6.trans x7
  have d : Di ⟨r0, pp, ps, pt, pd, pl, pg⟩ := ⟨ne3, ne4, ne5, ne8, (cne p3 n4).symm, (cne f4 n5).symm, (cne (s7 _ _ ne3 f5) n8).symm, (cne p4 n5).symm, (cne (s7 _ _ ne4 e5) n8).symm, (cne (s7 _ _ ne5 p5) n8).symm⟩
  have R : Rn ⟨r0, pp, ps, pt, pd, pl, pg⟩ Cc .non (.int 0) [] [.tup [.int D, tt t]] [] 0 .non := ⟨rc, g3 _ _ ne3 p3, g4 _ _ ne4 p4, g5 _ _ ne5 p5, g8 _ _ ne8 p8⟩
  have hx0 : ∀ a o, C a = some o → a ≠ r0 ∧ Cc a = some o := fun a o h => by
    have hne := cne h hr0
    refine ⟨hne, ?_⟩
    have h1 : C1 a = some o := x1 _ _ hne (by rw [up_ne hne]; exact h)
    exact g3 _ _ hne (x3 _ _ hne (x2 _ _ hne h1))
  have fin : ∀ C', Fr ⟨r0, pp, ps, pt, pd, pl, pg⟩ Cc C' → Ex C C' := fun C' f a o h => by
    have hne := (hx0 a o h).1
    have h1 : C1 a = some o := x1 _ _ hne (by rw [up_ne hne]; exact h)
    have h2 : C2 a = some o := x2 _ _ hne h1
    have h3 := x3 _ _ hne h2
    have h4 := x4 _ _ hne h3
    exact f a o hne (cne h2 n3) (cne h3 n4) (cne h4 n5) (hx0 a o h).2
  refine ⟨rfl, _, rfl, _, _, rc, _, tb1, nm_go, ?_⟩
  refine u_Runner_go rfl ?_
  unfold w_Runner_go
  clear l1 l2 l3 l4 l5 l6 l7 l8 l9 la lb r1 r2 r3 r4 r5 r6 r7 r8 r9 ra rb x1 x2 x3 x4 x5 x6 x7 x8 x9 xa xb xc g3 g4 g5 g8 f5 f4 e5 s7 p3 p4 p5 p7 p8 n3 n4 n5 n6 n7 n8 ne3 ne4 ne5 ne6 ne7 ne8 hx0
  have done : ∀ (C' : Hw) (h w : T) (P S U : List T) (k : Nat) (e : T) (a b : Str), Fr ⟨r0, pp, ps, pt, pd, pl, pg⟩ Cc C' → Rn ⟨r0, pp, ps, pt, pd, pl, pg⟩ C' h w P S U k e → ((e = .non ∧ a = "spent" ∧ b = "") ∨ e = .tup [.str a, .str b]) →
      ((D ≤ 0 ∧ a = "told" ∧ b = "?" ∧ k = 0) ∨ (0 < D ∧ 3 * ops t ≤ most ∧ a = "told" ∧ b = txt r ∧ k = 3 * ops t) ∨ (0 < D ∧ most < 3 * ops t ∧ a = "spent" ∧ b = "" ∧ k = most)) → wpc pr (n + 7) i_Runner_outcome [.ref r0] C' Q χ := fun C' h w P S U k e a b f R' he hc =>
    s_outcome (n := n + 6) (A := ⟨r0, pp, ps, pt, pd, pl, pg⟩) R' he fun p C2 hE hp => q p C2 a b k ((fin C' f).trans hE) hp hc
  refine ⟨_, rfl, _, _, _, _, rfl, rc, tb1, nm_advance, _, rfl, ?_⟩
  simp only [aNil]
  refine s_advance (n := n + 1) (A := ⟨r0, pp, ps, pt, pd, pl, pg⟩) d hv o1 hops R (fun hD C' w f R' => ?_) (fun hD hm C' w f R' => ?_) (fun hD hm C' h w P f R' => ?_)
  · exact ⟨_, rfl, _, _, _, _, rfl, R'.r, tb1, nm_outcome, done C' _ _ _ _ _ 0 _ "told" "?" f R' (.inr rfl) (.inl ⟨hD, rfl, rfl, rfl⟩)⟩
  · exact ⟨_, rfl, _, _, _, _, rfl, R'.r, tb1, nm_outcome, done C' _ _ _ _ _ _ _ "told" (txt r) f R' (.inr rfl) (.inr (.inl ⟨hD, hm, rfl, rfl, rfl⟩))⟩
  · exact ⟨_, rfl, _, _, _, _, rfl, R'.r, tb1, nm_outcome, done C' _ _ _ _ _ _ _ "spent" "" f R' (.inl ⟨rfl, rfl, rfl⟩) (.inr (.inr ⟨hD, hm, rfl, rfl, rfl⟩))⟩
end
set_option Elab.async false
set_option linter.all false
set_option maxRecDepth 100000
set_option maxHeartbeats 4000000
open PySem PySem.Spec PyProof.Rows L2 WL
section
variable {C : Hw} {Q : WK} {χ : WX} {n : Nat}
theorem s_draws {ns : List Int} {m : Nat} (h63 : ns.length ≤ 63) (hm : m ≤ 100) (q : ∀ p (ds : List Int), C p = none → ds.length = m → (∀ d ∈ ds, 0 ≤ d) → Q (.ref p) (up C p (.lst (ds.map T.int)))) :
    wpc pr (n + 1) i__law_draws [.cl (ns.map T.int), .int m] C Q χ := by
  refine u__law_draws rfl ?_
  unfold w__law_draws
  refine ⟨Nat.zero_le _, fun p hp => ?_⟩
  refine ⟨_, rfl, _, rfl, by omega, by omega, ?_⟩
  refine for_rng (fun i τ C' => ∃ x3 x4, ∃ ds : List Int, τ = [some (.cl (ns.map T.int)), some (.int m), some (.ref p), x3, x4] ∧ C' = up C p (.lst (ds.map T.int)) ∧ ds.length = i ∧ ∀ d ∈ ds, 0 ≤ d) ⟨none, none, [], rfl, rfl, rfl, by simp⟩ (fun _ => trivial) ?_ ?_
  · rintro i τ C' N hi ⟨x3, x4, ds, rfl, rfl, hd, hn⟩ hN
    have hlen : ((ns.map T.int).length : Int) = (ns.length : Int) := by rw [List.length_map]
    have fin : ∀ (u : Int) (D' : We), 0 ≤ u → D'.nx = N → sExpr (eMt tyL' mAppend (eVar 2) (aCons (eBin wAdd (eVar 4) (eBin wMul (eC (.int 7919)) (eBin wDiv (eVar 3) (eBi bMax (aCons (eC (.int 1)) (aCons (eBi bLen (aCons (eVar 0) aNil)) aNil)))))) aNil)) D' [some (.cl (ns.map T.int)), some (.int m), some (.ref p), some (.int (0 + i)), some (.int u)] (up C p (.lst (ds.map T.int))) := fun u D' hu hD => by
      refine ⟨_, rfl, ⟨_, _, rfl, up_same⟩, _, rfl, _, rfl, _, rfl, _, rfl, _, _, rfl, ⟨by split <;> omega, by split <;> omega⟩, .inl ⟨by decide, by decide⟩, _, _, _, rfl, rfl, up_same, small63' (by rw [List.length_map]; omega), ?_⟩
      have hdv : (0 : Int) ≤ (0 + (i : Int)) / (if ((ns.map T.int).length : Int) > 1 then ((ns.map T.int).length : Int) else 1) := Int.ediv_nonneg (by omega) (by split <;> omega)
      rw [hD]
      generalize (0 + (i : Int)) / (if ((ns.map T.int).length : Int) > 1 then ((ns.map T.int).length : Int) else 1) = t at hdv ⊢
      refine hN _ _ ⟨_, _, ds ++ [u + 7919 * t], rfl, ?_, by rw [List.length_append, hd]; rfl, ?_⟩
      · rw [up_up, List.map_append]; rfl
      · intro x hx
        rcases List.mem_append.mp hx with hx | hx
        · exact hn x hx
        · rw [List.mem_singleton.mp hx]; omega
    refine ⟨_, rfl, _, rfl, decide (((ns.map T.int).length : Int) > 0), rfl, ?_⟩
    by_cases c : ((ns.map T.int).length : Int) > 0
    · refine ite_p (decide_eq_true c) ?_
      obtain ⟨d, h1, h2⟩ := atT_ints (ds := ns) (i := (0 + (i : Int)) % ((ns.map T.int).length : Int)) (Int.emod_nonneg _ (by omega)) (by rw [hlen]; exact Int.emod_lt_of_pos _ (by omega))
      exact ⟨_, rfl, _, rfl, _, rfl, _, rfl, c, _, h1, ⟨by decide, by decide, by decide⟩, by decide, fin _ _ (Int.emod_nonneg d (b := 10 ^ Int.toNat 18) (by decide)) rfl⟩
    · exact ite_n (decide_eq_false c) (fin 0 _ (Int.le_refl _) rfl)
  · rintro τ C' ⟨x3, x4, ds, rfl, rfl, hd, hn⟩
    exact ⟨_, rfl, q p ds hp hd hn⟩
end
section
variable {C : Hw} {Q : WK} {χ : WX} {n : Nat}
theorem s_number {d : Int} (q : ∀ x C', 0 ≤ x → x < M → Ex C C' → Q (.int x) C') : wpc pr (n + 1) i__law_number [.int d] C Q χ := by
  refine u__law_number rfl ?_
  unfold w__law_number
  walk_at "ws"
  rw [pw18]
  have p : CPow 10 18 := ⟨by decide, by decide, by decide⟩
  refine ⟨.inr ⟨by decide, by decide⟩, p, p, fun a ha => ⟨⟨by decide, by decide⟩, ?_⟩⟩
  have h0 : d / 5 % 3 = 0 ∨ d / 5 % 3 = 1 ∨ d / 5 % 3 = 2 := by omega
  rcases h0 with e | e | e <;> rw [e]
  · exact ⟨_, up_same, _, atI_0, q _ _ (Int.emod_nonneg _ (by decide)) (by have := Int.emod_lt_of_pos d (show (0 : Int) < 5 by decide); simp only [M]; omega) (Ex.new ha)⟩
  · exact ⟨_, up_same, _, atI_1, q _ _ (Int.emod_nonneg _ (by decide)) (Int.emod_lt_of_pos _ (by decide)) (Ex.new ha)⟩
  · exact ⟨_, up_same, _, atI_2, q _ _ (by simp only [M]; omega) (by simp only [M]; omega) (Ex.new ha)⟩
theorem _root_.WL.ExB.new' {p c : Addr} {C C1 : Hw} {o : O} (e : ExB p C C1) (h : C1 c = none) : ExB p C (up C1 c o) := fun a u n z => by have := e a u n z; rw [up_ne (cne this h)]; exact this
theorem op3 {x : Int} : ∃ op : Str, (∃ ch, atI (Str.ofString "+-*").cps.toList (x % 3) = some ch ∧ (⟨#[ch]⟩ : Str) = op) ∧ (op = "+" ∨ op = "-" ∨ op = "*") := by
  have hc : x % 3 = 0 ∨ x % 3 = 1 ∨ x % 3 = 2 := by omega
  rcases hc with e | e | e <;> rw [e]
  · exact ⟨"+", ⟨_, rfl, rfl⟩, .inl rfl⟩
  · exact ⟨"-", ⟨_, rfl, rfl⟩, .inr (.inl rfl)⟩
  · exact ⟨"*", ⟨_, rfl, rfl⟩, .inr (.inr rfl)⟩
structure Bt (t : Tm) (v : Int) : Prop where
  val : val t = some (.num v)
  ok : okT t
  v0 : 0 ≤ v
  v1 : v < M
theorem t4_test {p : Addr} {k : Nat} {d : Int} {ds : List Int} {C : Hw} {D : We} {X B : WS} (hp : C p = some (.lst (ds.map T.int)))
    (q1 : (k = 0 ∨ ds = [] ∨ d % 4 = 0) → X { D with nx := B D } [some (.ref p), some (.int k), some (.int d), none, none, none, none] C)
    (q2 : ¬ (k = 0 ∨ ds = [] ∨ d % 4 = 0) → B D [some (.ref p), some (.int k), some (.int d), none, none, none, none] C) :
    sSeq (sIf (tOr' (tBl (eBin wEq (eVar 1) (eC (.int 0)))) (tOr' (tBl (eBin wEq (eBi bLen (aCons (eVar 0) aNil)) (eC (.int 0)))) (tBl (eBin wEq (eBin wMod (eVar 2) (eC (.int 4))) (eC (.int 0)))))) X sPass) B D [some (.ref p), some (.int k), some (.int d), none, none, none, none] C := by
  refine ⟨_, rfl, eqIc rfl ⟨_, rfl, ?_⟩⟩
  by_cases c1 : (k : Int) = 0
  · exact ite_p (beq_iff_eq.mpr c1) (ite_t (q1 (.inl (by omega))))
  refine ite_n (beq_eq_false_iff_ne.mpr c1) ?_
  refine ⟨_, rfl, _, rfl, _, hp, eqIc rfl ⟨_, rfl, ?_⟩⟩
  by_cases c2 : ((ds.map T.int).length : Int) = 0
  · exact ite_p (beq_iff_eq.mpr c2) (ite_t (q1 (.inr (.inl (List.length_eq_zero_iff.mp (by rw [List.length_map] at c2; omega))))))
  refine ite_n (beq_eq_false_iff_ne.mpr c2) ?_
  refine ⟨_, rfl, by decide, eqIc rfl ⟨_, rfl, ?_⟩⟩
  by_cases c3 : d % 4 = 0
  · exact ite_p (beq_iff_eq.mpr c3) (q1 (.inr (.inr c3)))
  · refine ite_n (beq_eq_false_iff_ne.mpr c3) (q2 ?_)
    rintro (h | h | h)
    · exact c1 (by omega)
    · exact c2 (by rw [h]; rfl)
    · exact c3 h
theorem b_leaf {p : Addr} {k : Nat} {d : Int} {ds : List Int} {C : Hw} {Q : WK} {D : We} (hD : D.rt = Q) (hp : C p = some (.lst (ds.map T.int))) (hc : k = 0 ∨ ds = [] ∨ d % 4 = 0)
    (q : ∀ t v a C', ExB p C C' → C' p = some (.lst (ds.map T.int)) → ops t = 0 → a ≠ p → C' a = some (.lst [tt t, .int v, .int (ops t : Nat)]) → Bt t v → Q (.ref a) C') :
    w__law_built_t4 (wpc pr (n + 1)) D [some (.ref p), some (.int k), some (.int d), none, none, none, none] C := by
  subst hD
  refine t4_test hp (fun _ => ?_) (fun h => absurd hc h)
  refine ⟨_, rfl, ⟨by decide, by decide⟩, ?_⟩
  dsimp only [aNil]
  refine s_number fun x C1 x0 x1 hE => ⟨_, rfl, Nat.le_of_ble_eq_true rfl, _, rfl, Nat.le_of_ble_eq_true rfl, fun a ha => ?_⟩
  have hne : p ≠ a := cne (hE _ _ hp) ha
  exact q (.num x) x a _ (Ex.exB (hE.trans (Ex.new ha)) p) (by rw [up_ne hne]; exact hE _ _ hp) rfl hne.symm up_same ⟨rfl, ⟨x0, x1⟩, x0, x1⟩
theorem b_head {p : Addr} {k : Nat} {ds : List Int} {C : Hw} {D : We} {P : Calls} (hp : C p = some (.lst (ds.map T.int)))
    (q : ∀ d r C1, ExB p C C1 → C1 p = some (.lst (r.map T.int)) → r.length ≤ ds.length → (r ≠ [] → r.length + 1 ≤ ds.length) → w__law_built_t4 P D [some (.ref p), some (.int k), some (.int d), none, none, none, none] C1) :
    w__law_built P D [some (.ref p), some (.int k), none, none, none, none, none] C := by
  unfold w__law_built
  refine ⟨_, rfl, _, rfl, _, hp, decide (((ds.map T.int).length : Int) > 0), rfl, ?_⟩
  cases ds with
  | nil => exact ite_n (decide_eq_false (by decide)) (q 0 [] C (ExB.refl _ _) hp (by simp) (by simp))
  | cons d r =>
    refine ite_p (decide_eq_true (by rw [List.length_map, List.length_cons]; omega)) ?_
    refine ⟨_, rfl, ⟨_, _, rfl, hp⟩, _, _, _, 0, _, rfl, rfl, hp, by decide, by decide, seq0 (Nat.succ_pos _), rfl, ?_⟩
    exact q d r (up C p (.lst (r.map T.int))) (ExB.put (ExB.refl _ _)) up_same (by simp) (by simp)
theorem b_go {p : Addr} {k : Nat} {d : Int} {ds : List Int} {C : Hw} {D : We} (hp : C p = some (.lst (ds.map T.int))) (c1 : k ≠ 0) (c2 : ds ≠ []) (c3 : ¬ d % 4 = 0) {P : Calls} (q : w__law_built_t3 P D [some (.ref p), some (.int k), some (.int d), none, none, none, none] C) :
    w__law_built_t4 P D [some (.ref p), some (.int k), some (.int d), none, none, none, none] C :=
  t4_test hp (fun h => by rcases h with h | h | h; exact absurd h c1; exact absurd h c2; exact absurd h c3) fun _ => q
theorem cast_k {p : Addr} {x y : Int} {m i : Nat} {C : Hw} {Q : WK} {χ : WX} (h : x = y) (q : wpc pr m i [.ref p, .int y] C Q χ) : wpc pr m i [.ref p, .int x] C Q χ := h ▸ q
theorem reck3 {op : Str} {x y : Int} (h : op = "+" ∨ op = "-" ∨ op = "*") : reck op x y = some (.num ((if op = "-" then x - y else if op = "*" then x * y else x + y) % M)) := by
  rcases h with rfl | rfl | rfl
  · rfl
  · rfl
  · rfl
theorem s_built {p : Addr} : ∀ (k : Nat) {C : Hw} {Q : WK} {χ : WX} {ds : List Int}, C p = some (.lst (ds.map T.int)) →
    (∀ t v a C' (r : List Int), ExB p C C' → C' p = some (.lst (r.map T.int)) → ops t + r.length ≤ ds.length → a ≠ p → C' a = some (.lst [tt t, .int v, .int (ops t : Nat)]) → Bt t v → Q (.ref a) C') →
    wpc pr (n + k + 2) i__law_built [.ref p, .int k] C Q χ := by
  intro k
  induction k with
  | zero =>
    intro C Q χ ds hp q
    refine u__law_built rfl (b_head (k := 0) hp fun d r C1 e1 hp1 hl _ => ?_)
    exact b_leaf (k := 0) rfl hp1 (.inl rfl) fun t v a C' e hp' h0 ha h1 h2 => q t v a C' r (e1.trans e) hp' (by omega) ha h1 h2
  | succ k ih =>
    intro C Q χ ds hp q
    refine u__law_built rfl (b_head (k := k + 1) hp fun d r C1 e1 hp1 hl hl2 => ?_)
    by_cases c : r = [] ∨ d % 4 = 0
    · exact b_leaf (n := n + (k + 1)) (k := k + 1) rfl hp1 (.inr c) fun t v a C' e hp' h0 ha h1 h2 => q t v a C' r (e1.trans e) hp' (by omega) ha h1 h2
    · have c2 : r ≠ [] := fun h => c (.inl h)
      have c3 : ¬ d % 4 = 0 := fun h => c (.inr h)
      have hl3 := hl2 c2
      refine b_go (k := k + 1) hp1 (by omega) c2 c3 ?_
      unfold w__law_built_t3
      have ek : (((k + 1 : Nat) : Int) - 1) = (k : Int) := by omega
      refine ⟨_, rfl, _, rfl, ?_⟩
      dsimp only [wSub, aNil, eC]
      refine cast_k ek (ih hp1 fun ta va a C2 r2 e2 hp2 hl4 na ha b1 => ?_)
      refine ⟨_, rfl, _, rfl, ?_⟩
      dsimp only [wSub, aNil, eC]
      refine cast_k ek (ih hp2 fun tb vb b C3 r3 e3 hp3 hl5 nb hb b2 => ?_)
      have ha3 := e3 _ _ na ha
      obtain ⟨op, ⟨ch, e4, hch⟩, hop⟩ := op3 (x := d / 4)
      have p18 : CPow 10 18 := ⟨by decide, by decide, by decide⟩
      have fin : ∀ z : Int, z = (if op = "-" then va - vb else if op = "*" then va * vb else va + vb) → w__law_built_t1 (wpc pr (n + (k + 1) + 1)) { nx := fun x C' => Q T.non C', rt := Q, xc := χ } [some (.ref p), some (.int (k + 1 : Nat)), some (.int d), some (.int z), some (.ref a), some (.ref b), some (.str op)] C3 := fun z hz => by
        unfold w__law_built_t1
        have hv : val (.op op ta tb) = some (.num (z % M)) := by
          simp only [val, b1.val, b2.val, Option.bind_some, isNum]
          rw [reck3 hop, hz]
        have q' : ∀ c, C3 c = none → Q (.ref c) (up C3 c (.lst [.tup [.str "does", .str op, tt ta, tt tb], .int (z % M), .int ((ops ta : Int) + (ops tb : Int) + 1)])) := fun c hc => by
          have hne : p ≠ c := cne hp3 hc
          refine q (.op op ta tb) (z % M) c _ r3 (((e1.trans e2).trans e3).new' hc) (by rw [up_ne hne]; exact hp3) (by simp [ops]; omega) hne.symm ?_ ⟨hv, ⟨b1.ok, b2.ok⟩, Int.emod_nonneg _ (by decide), Int.emod_lt_of_pos _ (by decide)⟩
          rw [up_same]
          simp [tt, ops]
        exact ⟨_, rfl, _, rfl, _, _, ha3, atI_0, _, rfl, _, _, hb, atI_0, Nat.le_of_ble_eq_true rfl, _, rfl, p18, by decide, _, rfl, _, _, ha3, atI_2, _, rfl, _, _, hb, atI_2, Nat.le_of_ble_eq_true rfl, q'⟩
      subst hch
      refine ⟨_, rfl, ⟨by decide, by decide⟩, by decide, by decide, ch, e4, ?_⟩
      refine ⟨_, rfl, _, _, ha3, atI_1, _, rfl, _, _, hb, atI_1, ?_⟩
      by_cases o1 : (⟨#[ch]⟩ : Str) = "-"
      · refine k_yes rfl o1 ?_
        refine ⟨_, rfl, _, _, ha3, atI_1, _, rfl, _, _, hb, atI_1, ?_⟩
        exact k_no rfl (by rw [o1]; decide +kernel) (fin _ (by rw [if_pos o1]))
      · refine k_no rfl o1 ?_
        by_cases o2 : (⟨#[ch]⟩ : Str) = "*"
        · refine k_yes rfl o2 ?_
          have h0 := b1.v0
          have h1 := b1.v1
          simp only [M] at h1
          exact ⟨_, rfl, _, _, ha3, atI_1, _, rfl, _, _, hb, atI_1, .inl ⟨by omega, by omega⟩, fin _ (by rw [if_neg o1, if_pos o2])⟩
        · exact k_no rfl o2 (fin _ (by rw [if_neg o1, if_neg o2]))
end
set_option Elab.async false
set_option linter.all false
set_option maxRecDepth 100000
set_option maxHeartbeats 4000000
open PySem PySem.Spec PyProof.Rows L2 WL
section
variable {C : Hw} {Q : WK} {χ : WX} {n : Nat}
theorem eqOut {a b : Str} {k : Int} {p p' : Addr} (hp : C p = some (.lst [])) (hp' : C p' = some (.lst [])) : EqH C 100 (.tup [.str a, .str b, .tup [.int k, .int 0, .int 0], .ref p]) (.tup [.str a, .str b, .tup [.int k, .int 0, .int 0], .ref p']) true := by
  refine .inr (.inl ⟨_, _, fun _ => true, rfl, rfl, fun j x y hx hy => ?_, by simp⟩)
  have fl : ∀ v : T, flat v 50 = true → EqH C 99 v v true := fun v h => .inl ⟨flat_mono _ h (by decide), flat_mono _ h (by decide), (eqT_refl _ h).symm⟩
  match j with
  | 0 => simp at hx hy; subst hx; subst hy; exact fl _ flat_str
  | 1 => simp at hx hy; subst hx; subst hy; exact fl _ flat_str
  | 2 =>
    simp at hx hy; subst hx; subst hy
    refine fl _ (flat_tup fun x hx => ?_)
    simp only [List.mem_cons, List.not_mem_nil, or_false] at hx
    rcases hx with rfl | rfl | rfl <;> exact flat_int
  | 3 =>
    simp at hx hy; subst hx; subst hy
    exact .inr (.inr ⟨p, p', [], [], fun _ => true, rfl, rfl, hp, hp', fun _ j x y h => by simp at h, rfl⟩)
  | j + 4 => simp at hx
end
section
variable {C : Hw} {D : We} {n : Nat}
theorem eqOut' {C : Hw} {a b : Str} {k k' : Int} {p p' : Addr} (hk : k = k') (hp : C p = some (.lst [])) (hp' : C p' = some (.lst [])) : EqH C 100 (.tup [.str a, .str b, .tup [.int k, .int 0, .int 0], .ref p]) (.tup [.str a, .str b, .tup [.int k', .int 0, .int 0], .ref p']) true := hk ▸ eqOut hp hp'
theorem cast_m {u v : T} {x : Int} {m m' i : Nat} {C : Hw} {Q : WK} {χ : WX} (h : x = (m : Int)) (q : wpc pr m' i [u, v, .int m] C Q χ) : wpc pr m' i ([u, v, .int x] ++ []) C Q χ := h ▸ q
theorem t1 {x0 x1 x4 x5 x9 x10 x11 : Option T} {t r : Tm} {tx : T} {da sh : Int} (hv : val t = some r) (o1 : okT t) (ho : ops t ≤ 100) (h0 : ops t ≠ 0) (hda : 0 < da) (hsh : 0 ≤ sh) (hD : ∀ C, D.rt (.bl true) C) :
    w_law_t1 (wpc pr (n + 9)) D [x0, x1, some (.int da), some (.int sh), x4, x5, some (tt t), some tx, some (.int (ops t : Nat)), x9, x10, x11, none] C := by
  unfold w_law_t1
  have h3 : (0 : Int) < 3 * ((ops t : Nat) : Int) := by omega
  have hf0 : 0 ≤ sh % (3 * ((ops t : Nat) : Int)) := Int.emod_nonneg _ (by omega)
  have hf1 : sh % (3 * ((ops t : Nat) : Int)) < 3 * ((ops t : Nat) : Int) := Int.emod_lt_of_pos _ h3
  obtain ⟨m, hm⟩ : ∃ m : Nat, sh % (3 * ((ops t : Nat) : Int)) = (m : Int) := ⟨(sh % (3 * ((ops t : Nat) : Int))).toNat, by omega⟩
  refine ⟨_, rfl, _, rfl, .inl ⟨by decide, by decide⟩, h3, ?_⟩
  refine ⟨_, rfl, _, rfl, _, rfl, ?_⟩
  dsimp only [aNil]
  refine cast_m hm (s_run (n := n) (most := m) hv o1 (by omega) fun p C' a b k hE hp hc => ?_)
  rcases hc with ⟨z, _⟩ | ⟨_, z, _⟩ | ⟨_, _, rfl, rfl, rfl⟩
  · omega
  · omega
  · exact ⟨_, rfl, Nat.le_of_ble_eq_true rfl, Nat.zero_le _, fun p' hp' => ⟨Nat.le_of_ble_eq_true rfl, true, eqOut' hm.symm ((Ex.new hp') _ _ hp) up_same, hD _⟩⟩
theorem t4 {x0 x1 x4 x5 x9 x10 : Option T} {t r : Tm} {da sh : Int} (hv : val t = some r) (o1 : okT t) (ho : ops t ≤ 100) (hda : 0 ≤ da) (hsh : 0 ≤ sh) (hD : ∀ C, D.rt (.bl true) C) :
    w_law_t4 (wpc pr (n + 9)) D [x0, x1, some (.int da), some (.int sh), x4, x5, some (tt t), some (.str (txt r)), some (.int (ops t : Nat)), x9, x10, none, none] C := by
  unfold w_law_t4
  by_cases c : da = 0
  · subst c
    obtain ⟨m, hm⟩ : ∃ m : Nat, sh % 9 = (m : Int) := ⟨(sh % 9).toNat, by omega⟩
    refine k_yesI rfl rfl ?_
    refine ⟨_, rfl, _, rfl, by decide, ?_⟩
    dsimp only [aNil, eC]
    refine cast_m hm (s_run (n := n) (most := m) hv o1 (by omega) fun p C' a b k hE hp hc => ?_)
    rcases hc with ⟨_, rfl, rfl, rfl⟩ | ⟨z, _⟩ | ⟨z, _⟩
    · exact ⟨Nat.le_of_ble_eq_true rfl, Nat.zero_le _, fun p' hp' => ⟨Nat.le_of_ble_eq_true rfl, true, eqOut ((Ex.new hp') _ _ hp) up_same, hD _⟩⟩
    · omega
    · omega
  · refine k_noI rfl c ?_
    have hda' : 0 < da := by omega
    unfold w_law_t3
    obtain ⟨m, hm⟩ : ∃ m : Nat, sh % 3 = (m : Int) := ⟨(sh % 3).toNat, by omega⟩
    have e3 : (3 : Int) * ((ops t : Nat) : Int) = ((3 * ops t : Nat) : Int) := by omega
    have e4 : (3 : Int) * ((ops t : Nat) : Int) + sh % 3 = ((3 * ops t + m : Nat) : Int) := by omega
    refine ⟨_, rfl, _, rfl, .inl ⟨by decide, by decide⟩, Nat.le_of_ble_eq_true rfl, Nat.zero_le _, fun pd hpd => ⟨Nat.le_of_ble_eq_true rfl, ?_⟩⟩
    refine ⟨_, rfl, _, rfl, _, rfl, .inl ⟨by decide, by decide⟩, _, rfl, by decide, ?_⟩
    dsimp only [aNil]
    refine cast_m e4 (s_run (n := n) (most := 3 * ops t + m) hv o1 (by omega) fun p C1 a b k hE hp hc => ?_)
    have hd1 := hE _ _ (up_same (C := C) (a := pd))
    rcases hc with ⟨z, _⟩ | ⟨_, _, rfl, rfl, rfl⟩ | ⟨_, z, _⟩
    · omega
    · refine ⟨_, rfl, true, eqOut' e3.symm hp hd1, false, rfl, ite_f ?_⟩
      refine ⟨_, rfl, ?_⟩
      dsimp only [aNil]
      refine s_run (n := n) (D := 8) (most := 400) hv o1 (by omega) fun p2 C2 a b k hE2 hp2 hc => ?_
      rcases hc with ⟨z, _⟩ | ⟨_, _, rfl, rfl, rfl⟩ | ⟨_, z, _⟩
      · omega
      · refine ⟨_, rfl, true, eqOut' e3.symm hp2 (hE2 _ _ hd1), false, rfl, ite_f ?_⟩
        show w_law_t2 _ _ _ _
        unfold w_law_t2
        by_cases c0 : ops t = 0
        · refine k_yesI rfl (by rw [c0]; rfl) ?_
          exact hD _
        · refine k_noI rfl (by omega) ?_
          exact t1 hv o1 ho c0 hda' hsh hD
      · omega
    · omega
end
section
variable {C : Hw} {D : We} {n : Nat}
theorem b5_tail {x0 x1 x2 x3 x7 : Option T} {t : Tm} {v d3 nh : Int} {a : Addr} (ha : C a = some (.lst [tt t, .int v, .int (ops t : Nat)])) (hc : d3 % 3 = 1 ∨ d3 % 3 = 2)
    (q : ∀ (op : Str) (r : Tm) (x10 : Option T) (C' : Hw), reck op v nh = some r → D.nx [x0, x1, x2, x3, some (.int d3), some (.ref a), some (.tup [.str "does", .str op, tt t, .tup [.str "number", .int nh]]), some (.str (txt r)), some (.int ((ops t : Int) + 1)), some (.int nh), x10, none, none] C') :
    ((sSeq (sAsg (eTup (aCons (eC (.str "does")) (aCons (eBin wIdx (eC (.str "<=")) (eBin wSub (eBin wMod (eVar 4) (eC (.int 3))) (eC (.int 1)))) (aCons (eVar 6) (aCons (eTup (aCons (eC (.str "number")) (aCons (eVar 9) aNil))) aNil))))) (gNm 6))
    (sSeq (sAsg (eOr (eAnd (eBin wEq (eBin wMod (eVar 4) (eC (.int 3))) (eC (.int 1))) (eBin wLt (eBin wIdx (eVar 5) (eC (.int 1))) (eVar 9))) (eAnd (eBin wEq (eBin wMod (eVar 4) (eC (.int 3))) (eC (.int 2))) (eBin wEq (eBin wIdx (eVar 5) (eC (.int 1))) (eVar 9)))) (gNm 10))
    (sSeq (sAsg (eBin wIdx (eLst (aCons (eC (.str "No")) (aCons (eC (.str "Yes")) aNil))) (eBi bInt (aCons (eVar 10) aNil))) (gNm 7))
    (sAsg (eBin wAdd (eVar 8) (eC (.int 1))) (gNm 8)))))) D [x0, x1, x2, x3, some (.int d3), some (.ref a), some (tt t), x7, some (.int (ops t : Nat)), some (.int nh), none, none, none] C := by
  have fin : ∀ (op : Str) (kb : Bool) (C' : Hw), reck op v nh = some (.yn kb) → 
      sSeq (sAsg (eBin wIdx (eLst (aCons (eC (.str "No")) (aCons (eC (.str "Yes")) aNil))) (eBi bInt (aCons (eVar 10) aNil))) (gNm 7)) (sAsg (eBin wAdd (eVar 8) (eC (.int 1))) (gNm 8)) D [x0, x1, x2, x3, some (.int d3), some (.ref a), some (.tup [.str "does", .str op, tt t, .tup [.str "number", .int nh]]), x7, some (.int (ops t : Nat)), some (.int nh), some (.bl kb), none, none] C' := fun op kb C' hk => by
    refine ⟨Nat.le_of_ble_eq_true rfl, fun p1 hp1 => ⟨_, rfl, .inr ⟨kb, rfl, ?_⟩⟩⟩
    have q' := q op (.yn kb) (some (.bl kb))
    cases kb
    · exact ⟨_, _, up_same, rfl, _, rfl, q' _ hk⟩
    · exact ⟨_, _, up_same, rfl, _, rfl, q' _ hk⟩
  have md : (0 : Int) < 3 := by decide
  rcases hc with e | e
  · refine ⟨_, rfl, md, ?_⟩
    dsimp only [wSub, eC]
    refine ⟨Nat.le_of_ble_eq_true rfl, 60, (by rw [e]; rfl), _, rfl, _, rfl, Nat.le_of_ble_eq_true rfl, Nat.le_of_ble_eq_true rfl, ?_⟩
    refine ⟨_, rfl, md, eqIc (v := true) (by rw [e]; rfl) ⟨_, rfl, ite_t ?_⟩⟩
    refine ⟨_, rfl, _, _, ha, atI_1, _, rfl, decide (v < nh), rfl, ?_⟩
    by_cases cv : v < nh
    · exact ite_p (decide_eq_true cv) (fin "<" true _ (by show some (Tm.yn (decide (v < nh))) = _; rw [decide_eq_true cv]))
    · refine ite_n (decide_eq_false cv) ?_
      refine ⟨_, rfl, md, eqIc (v := false) (by rw [e]; rfl) ⟨_, rfl, ite_f ?_⟩⟩
      exact fin "<" false _ (by show some (Tm.yn (decide (v < nh))) = _; rw [decide_eq_false cv])
  · refine ⟨_, rfl, md, ?_⟩
    dsimp only [wSub, eC]
    refine ⟨Nat.le_of_ble_eq_true rfl, 61, (by rw [e]; rfl), _, rfl, _, rfl, Nat.le_of_ble_eq_true rfl, Nat.le_of_ble_eq_true rfl, ?_⟩
    refine ⟨_, rfl, md, eqIc (v := false) (by rw [e]; rfl) ⟨_, rfl, ite_f ⟨_, rfl, ite_f ?_⟩⟩⟩
    refine ⟨_, rfl, md, eqIc (v := true) (by rw [e]; rfl) ⟨_, rfl, ite_t ?_⟩⟩
    exact ⟨_, rfl, _, _, ha, atI_1, _, rfl, eqI rfl (fin "=" (v == nh) _ rfl)⟩
theorem b5 {x0 x1 x2 x3 x7 : Option T} {t : Tm} {v d3 : Int} {a : Addr} (ha : C a = some (.lst [tt t, .int v, .int (ops t : Nat)])) (b : Bt t v) (c : 0 < d3 % 3)
    (q : ∀ (nh : Int) (op : Str) (r : Tm) (x10 : Option T) (C' : Hw), 0 ≤ nh → nh < M → reck op v nh = some r → D.nx [x0, x1, x2, x3, some (.int d3), some (.ref a), some (.tup [.str "does", .str op, tt t, .tup [.str "number", .int nh]]), some (.str (txt r)), some (.int ((ops t : Int) + 1)), some (.int nh), x10, none, none] C') :
    w_law_b5 (wpc pr (n + 1)) D [x0, x1, x2, x3, some (.int d3), some (.ref a), some (tt t), x7, some (.int (ops t : Nat)), none, none, none, none] C := by
  have hc : d3 % 3 = 1 ∨ d3 % 3 = 2 := by omega
  unfold w_law_b5
  have rest : ∀ nh C', (nh = v ∨ (0 ≤ nh ∧ nh < M)) → C' a = some (.lst [tt t, .int v, .int (ops t : Nat)]) → ((sSeq (sAsg (eTup (aCons (eC (.str "does")) (aCons (eBin wIdx (eC (.str "<=")) (eBin wSub (eBin wMod (eVar 4) (eC (.int 3))) (eC (.int 1)))) (aCons (eVar 6) (aCons (eTup (aCons (eC (.str "number")) (aCons (eVar 9) aNil))) aNil))))) (gNm 6))
    (sSeq (sAsg (eOr (eAnd (eBin wEq (eBin wMod (eVar 4) (eC (.int 3))) (eC (.int 1))) (eBin wLt (eBin wIdx (eVar 5) (eC (.int 1))) (eVar 9))) (eAnd (eBin wEq (eBin wMod (eVar 4) (eC (.int 3))) (eC (.int 2))) (eBin wEq (eBin wIdx (eVar 5) (eC (.int 1))) (eVar 9)))) (gNm 10))
    (sSeq (sAsg (eBin wIdx (eLst (aCons (eC (.str "No")) (aCons (eC (.str "Yes")) aNil))) (eBi bInt (aCons (eVar 10) aNil))) (gNm 7))
    (sAsg (eBin wAdd (eVar 8) (eC (.int 1))) (gNm 8)))))) D [x0, x1, x2, x3, some (.int d3), some (.ref a), some (tt t), x7, some (.int (ops t : Nat)), some (.int nh), none, none, none] C' := fun nh C' hn ha' => by
    have hn' : 0 ≤ nh ∧ nh < M := by
      rcases hn with rfl | h
      · exact ⟨b.v0, b.v1⟩
      · exact h
    exact b5_tail ha' hc fun op r x10 C2 hk => q nh op r x10 C2 hn'.1 hn'.2 hk
  generalize hB : ((sSeq (sAsg (eTup (aCons (eC (.str "does")) (aCons (eBin wIdx (eC (.str "<=")) (eBin wSub (eBin wMod (eVar 4) (eC (.int 3))) (eC (.int 1)))) (aCons (eVar 6) (aCons (eTup (aCons (eC (.str "number")) (aCons (eVar 9) aNil))) aNil))))) (gNm 6))
    (sSeq (sAsg (eOr (eAnd (eBin wEq (eBin wMod (eVar 4) (eC (.int 3))) (eC (.int 1))) (eBin wLt (eBin wIdx (eVar 5) (eC (.int 1))) (eVar 9))) (eAnd (eBin wEq (eBin wMod (eVar 4) (eC (.int 3))) (eC (.int 2))) (eBin wEq (eBin wIdx (eVar 5) (eC (.int 1))) (eVar 9)))) (gNm 10))
    (sSeq (sAsg (eBin wIdx (eLst (aCons (eC (.str "No")) (aCons (eC (.str "Yes")) aNil))) (eBi bInt (aCons (eVar 10) aNil))) (gNm 7))
    (sAsg (eBin wAdd (eVar 8) (eC (.int 1))) (gNm 8)))))) = B at rest
  walk_at "ws"
  refine ⟨⟨by decide, by decide⟩, s_number (n := n) fun x C2 x0' x1' hE => ⟨⟨by decide, by decide⟩, ?_⟩⟩
  have ha2 := hE _ _ ha
  by_cases c2 : d3 / 3 % 2 = 0
  · rw [if_pos c2]
    exact ⟨_, ha2, _, atI_1, rest v C2 (.inl rfl) ha2⟩
  · rw [if_neg c2]
    exact rest x C2 (.inr ⟨x0', x1'⟩) ha2
end
theorem a_call2 {P : Calls} {i j k : Nat} {x y : T} {B : WS} {D : We} {τ : Sw} {C : Hw} (h : τ[i]? = some (some x)) (q : P j [x, y] C (fun v C1 => B D (τ.set k (some v)) C1) D.xc) : sSeq (sAsg (eCall P j (aCons (eVar i) (aCons (eC y) aNil))) (gNm k)) B D τ C := ⟨_, h, q⟩
theorem law_true (ns : List Int) (h63 : ns.length ≤ 63) : wpc pr 60 i_law [.cl (ns.map T.int)] (fun _ => none) (fun v _ => v = .bl true) (fun _ _ => False) := by
  refine u_law rfl ?_
  unfold w_law
  refine a_call2 rfl ?_
  refine s_draws (n := 58) (m := 18) h63 (by decide) fun p ds hp hl hn => ?_
  obtain ⟨d1, d2, d3, es, rfl⟩ : ∃ d1 d2 d3 es, ds = d1 :: d2 :: d3 :: es := by
    match ds, hl with
    | a :: b :: c :: r, _ => exact ⟨a, b, c, r, rfl⟩
  have hes : es.length = 15 := by simpa using hl
  have n1 : 0 ≤ d1 := hn d1 (by simp)
  have n2 : 0 ≤ d2 := hn d2 (by simp)
  clear hn hl
  have hda : 0 ≤ d1 % 41 := Int.emod_nonneg _ (by decide)
  refine ⟨_, rfl, ⟨_, _, rfl, up_same⟩, _, _, _, 0, _, rfl, rfl, up_same, by decide, by decide, seq0 (Nat.succ_pos _), rfl, by decide, ?_⟩
  refine ⟨_, rfl, ⟨_, _, rfl, up_same⟩, _, _, _, 0, _, rfl, rfl, up_same, by decide, by decide, seq0 (Nat.succ_pos _), rfl, ?_⟩
  refine ⟨_, rfl, ⟨_, _, rfl, up_same⟩, _, _, _, 0, _, rfl, rfl, up_same, by decide, by decide, seq0 (Nat.succ_pos _), rfl, ?_⟩
  refine a_call2 rfl ?_
  refine s_built (n := 52) (ds := es) 5 up_same fun t v a C1 r e1 hp1 hl na ha b => ?_
  clear hp e1 hp1
  have hlg := lg ⟨b.v0, b.v1⟩
  refine ⟨_, rfl, _, _, ha, atI_0, ?_⟩
  refine ⟨_, rfl, _, _, ha, atI_1, .inl ⟨v, rfl, hlg, ?_⟩⟩
  refine ⟨_, rfl, _, _, ha, atI_2, ?_⟩
  have ho : ops t ≤ 100 := by omega
  refine ⟨_, rfl, by decide, decide (d3 % 3 > 0), rfl, ?_⟩
  by_cases c : 0 < d3 % 3
  · refine ite_p (decide_eq_true c) ?_
    refine b5 (n := 58) ha b c fun nh op r x10 C' h0 h1 hrk => ?_
    have hv : val (.op op t (.num nh)) = some r := by
      simp only [val, b.val, Option.bind_some, isNum]
      exact hrk
    have := t4 (n := 50) (C := C') (D := { nx := fun x C' => False, rt := fun v x => v = T.bl true }) (x0 := some (.cl (ns.map T.int))) (x1 := some (.ref p)) (x4 := some (.int d3)) (x5 := some (.ref a)) (x9 := some (.int nh)) (x10 := x10) (t := .op op t (.num nh)) (da := d1 % 41) (sh := d2) hv ⟨b.ok, h0, h1⟩ (by simp [ops]; omega) hda n2 fun _ => rfl
    simpa [tt, ops] using this
  · refine ite_n (decide_eq_false c) ?_
    exact t4 (n := 50) b.val b.ok ho hda n2 fun _ => rfl
end K33
set_option Elab.async false
set_option linter.all false
set_option maxRecDepth 100000
set_option maxHeartbeats 4000000
open PySem PySem.W PyProof.Rows
def PySem.W.Fast.tw13972629652554556978 : Unit := ()
def PySem.W.Fast.tw13091422471423102740 : Unit := ()
def PySem.W.Fast.tw15768748929301804458 : PySem.Program := PySem.Challenge.pw_idlegraph_k33_sums
theorem PySem.W.Fast.te15768748929301804458 : PySem.Challenge.pw_idlegraph_k33_sums = PySem.W.Fast.tw15768748929301804458 := rfl
def PySem.W.Fast.tw11258619316218265975 : Unit := ()
def PySem.W.Fast.tw1786866789426449508 : Unit := ()
def PySem.W.Fast.tw16845828674775138816 : Unit := ()
def PySem.W.Fast.tw17517822330298888170 : Unit := ()
def PySem.W.Fast.tw12862447836084353511 : Unit := ()
def PySem.W.Fast.tw5274885743773441819 : Unit := ()
def PySem.W.Fast.tw143215738204671266 : Unit := ()
def PySem.W.Fast.tw6997147281368722085 : Unit := ()
def PySem.W.Fast.tw1459335949298699411 : Unit := ()
def PySem.W.Fast.tw12360786984804533043 : Unit := ()
def PySem.W.Fast.tw2475393577949016067 : Unit := ()
def PySem.W.Fast.tw14533912469898897449 : Unit := ()
set_option maxRecDepth 100000 in
set_option maxHeartbeats 0 in
theorem PySem.Challenge.cw_idlegraph_k33_sums_holds : PySem.Challenge.rw_idlegraph_k33_sums.Holds := by
  w_on; o_law; k_head; (case hw => w_witness2)
  k_fill
  refine L2.walk_ofK (l := PySem.Challenge.rw_idlegraph_k33_sums) (n := 63) (k := 60) (x := "_law_script") (CX := L2.CX0) (sp := fun K => WL.spW K K33.pr 60 40) rfl (by decide) rfl ⟨rfl, by decide, by decide⟩ (fun w h Y => PySem.W.kIn_of Y) ?F (fun K H a ns hl hO hS => WL.law_sp hO hS (K33.law_true ns hl)) (fun _ _ _ _ z => z)
  case F =>
    intro w mg fa h KX G hmg
    refine' K33.all_mk KX G hmg ?aC_Runner ?pg_Runner ?hd_Runner ?po_Runner ?sa_Runner ?kc_Runner ?mk_Runner ?nf_Runner_cells ?nf_Runner_ending ?nf_Runner_firsts ?nf_Runner_hand ?nf_Runner_labels ?nf_Runner_log ?nf_Runner_pile ?nf_Runner_steps ?nf_Runner_still ?nf_Runner_things ?nf_Runner_told ?nf_Runner_wanted ?am_Runner___init__ ?am_Runner_go ?am_Runner_advance ?am_Runner_outcome ?am_Runner_settle ?am_Runner_tell_next ?am_Runner_tell_value ?am_Runner_take_step ?am_Runner_take_apart ?am_Runner_use_value ?am_Runner_go_into ?am_Runner_take_frame ?am_Runner_bind ?am_Runner_make ?am_Runner_mark_for ?am_Runner_bear ?am_Runner_note ?am_Runner_keep ?am_Runner_enter ?am_Runner_come_back ?a0 ?l0 ?c0 ?k0 ?a1 ?l1 ?c1 ?k1 ?a2 ?l2 ?c2 ?k2 ?a3 ?l3 ?c3 ?k3 ?a4 ?l4 ?c4 ?k4 ?a5 ?l5 ?c5 ?k5 ?a6 ?l6 ?c6 ?k6 ?a7 ?l7 ?c7 ?k7 ?a8 ?l8 ?c8 ?k8 ?a9 ?l9 ?c9 ?k9 ?a10 ?l10 ?c10 ?k10 ?a11 ?l11 ?c11 ?k11 ?a12 ?l12 ?c12 ?k12 ?a13 ?l13 ?c13 ?k13 ?a14 ?l14 ?c14 ?k14 ?im15 ?l15 ?c15 ?k15 ?im16 ?l16 ?c16 ?k16 ?im17 ?l17 ?c17 ?k17 ?im18 ?l18 ?c18 ?k18 ?im19 ?l19 ?c19 ?k19 ?im20 ?l20 ?c20 ?k20 ?im21 ?l21 ?c21 ?k21 ?im22 ?l22 ?c22 ?k22 ?im23 ?l23 ?c23 ?k23 ?im24 ?l24 ?c24 ?k24 ?im25 ?l25 ?c25 ?k25 ?im26 ?l26 ?c26 ?k26 ?im27 ?l27 ?c27 ?k27 ?im28 ?l28 ?c28 ?k28 ?im29 ?l29 ?c29 ?k29 ?im30 ?l30 ?c30 ?k30 ?im31 ?l31 ?c31 ?k31 ?im32 ?l32 ?c32 ?k32 ?im33 ?l33 ?c33 ?k33 ?im34 ?l34 ?c34 ?k34 ?a35 ?l35 ?c35 ?k35 ?a36 ?l36 ?c36 ?k36 ?dl_run ?a37 ?l37 ?c37 ?k37 ?a38 ?l38 ?c38 ?k38 ?a39 ?l39 ?c39 ?k39 ?a40 ?l40 ?c40 ?k40 ?z_int ?z_isinstance ?z_len ?z_list ?z_max ?z_range ?z_reversed ?z_str ?gg_VALUES ?gk_VALUES
    (case aC_Runner => k_is)
    (case pg_Runner => k_is)
    (case hd_Runner => k_is)
    (case po_Runner => k_is)
    (case sa_Runner => k_is)
    (case kc_Runner => k_is)
    (case mk_Runner => k_is)
    (case nf_Runner_cells => k_is)
    (case nf_Runner_ending => k_is)
    (case nf_Runner_firsts => k_is)
    (case nf_Runner_hand => k_is)
    (case nf_Runner_labels => k_is)
    (case nf_Runner_log => k_is)
    (case nf_Runner_pile => k_is)
    (case nf_Runner_steps => k_is)
    (case nf_Runner_still => k_is)
    (case nf_Runner_things => k_is)
    (case nf_Runner_told => k_is)
    (case nf_Runner_wanted => k_is)
    (case am_Runner___init__ => k_is)
    (case am_Runner_go => k_is)
    (case am_Runner_advance => k_is)
    (case am_Runner_outcome => k_is)
    (case am_Runner_settle => k_is)
    (case am_Runner_tell_next => k_is)
    (case am_Runner_tell_value => k_is)
    (case am_Runner_take_step => k_is)
    (case am_Runner_take_apart => k_is)
    (case am_Runner_use_value => k_is)
    (case am_Runner_go_into => k_is)
    (case am_Runner_take_frame => k_is)
    (case am_Runner_bind => k_is)
    (case am_Runner_make => k_is)
    (case am_Runner_mark_for => k_is)
    (case am_Runner_bear => k_is)
    (case am_Runner_note => k_is)
    (case am_Runner_keep => k_is)
    (case am_Runner_enter => k_is)
    (case am_Runner_come_back => k_is)
    (case a0 => k_is)
    (case l0 => k_is)
    (case c0 => k_is)
    (case k0 => k_is)
    (case a1 => k_is)
    (case l1 => k_is)
    (case c1 => k_is)
    (case k1 => k_is)
    (case a2 => k_is)
    (case l2 => k_is)
    (case c2 => k_is)
    (case k2 => k_is)
    (case a3 => k_is)
    (case l3 => k_is)
    (case c3 => k_is)
    (case k3 => k_is)
    (case a4 => k_is)
    (case l4 => k_is)
    (case c4 => k_is)
    (case k4 => k_is)
    (case a5 => k_is)
    (case l5 => k_is)
    (case c5 => k_is)
    (case k5 => k_is)
    (case a6 => k_is)
    (case l6 => k_is)
    (case c6 => k_is)
    (case k6 => k_is)
    (case a7 => k_is)
    (case l7 => k_is)
    (case c7 => k_is)
    (case k7 => k_is)
    (case a8 => k_is)
    (case l8 => k_is)
    (case c8 => k_is)
    (case k8 => k_is)
    (case a9 => k_is)
    (case l9 => k_is)
    (case c9 => k_is)
    (case k9 => k_is)
    (case a10 => k_is)
    (case l10 => k_is)
    (case c10 => k_is)
    (case k10 => k_is)
    (case a11 => k_is)
    (case l11 => k_is)
    (case c11 => k_is)
    (case k11 => k_is)
    (case a12 => k_is)
    (case l12 => k_is)
    (case c12 => k_is)
    (case k12 => k_is)
    (case a13 => k_is)
    (case l13 => k_is)
    (case c13 => k_is)
    (case k13 => k_is)
    (case a14 => k_is)
    (case l14 => k_is)
    (case c14 => k_is)
    (case k14 => k_is)
    (case im15 => k_is)
    (case l15 => k_is)
    (case c15 => k_is)
    (case k15 => k_is)
    (case im16 => k_is)
    (case l16 => k_is)
    (case c16 => k_is)
    (case k16 => k_is)
    (case im17 => k_is)
    (case l17 => k_is)
    (case c17 => k_is)
    (case k17 => k_is)
    (case im18 => k_is)
    (case l18 => k_is)
    (case c18 => k_is)
    (case k18 => k_is)
    (case im19 => k_is)
    (case l19 => k_is)
    (case c19 => k_is)
    (case k19 => k_is)
    (case im20 => k_is)
    (case l20 => k_is)
    (case c20 => k_is)
    (case k20 => k_is)
    (case im21 => k_is)
    (case l21 => k_is)
    (case c21 => k_is)
    (case k21 => k_is)
    (case im22 => k_is)
    (case l22 => k_is)
    (case c22 => k_is)
    (case k22 => k_is)
    (case im23 => k_is)
    (case l23 => k_is)
    (case c23 => k_is)
    (case k23 => k_is)
    (case im24 => k_is)
    (case l24 => k_is)
    (case c24 => k_is)
    (case k24 => k_is)
    (case im25 => k_is)
    (case l25 => k_is)
    (case c25 => k_is)
    (case k25 => k_is)
    (case im26 => k_is)
    (case l26 => k_is)
    (case c26 => k_is)
    (case k26 => k_is)
    (case im27 => k_is)
    (case l27 => k_is)
    (case c27 => k_is)
    (case k27 => k_is)
    (case im28 => k_is)
    (case l28 => k_is)
    (case c28 => k_is)
    (case k28 => k_is)
    (case im29 => k_is)
    (case l29 => k_is)
    (case c29 => k_is)
    (case k29 => k_is)
    (case im30 => k_is)
    (case l30 => k_is)
    (case c30 => k_is)
    (case k30 => k_is)
    (case im31 => k_is)
    (case l31 => k_is)
    (case c31 => k_is)
    (case k31 => k_is)
    (case im32 => k_is)
    (case l32 => k_is)
    (case c32 => k_is)
    (case k32 => k_is)
    (case im33 => k_is)
    (case l33 => k_is)
    (case c33 => k_is)
    (case k33 => k_is)
    (case im34 => k_is)
    (case l34 => k_is)
    (case c34 => k_is)
    (case k34 => k_is)
    (case a35 => k_is)
    (case l35 => k_is)
    (case c35 => k_is)
    (case k35 => k_is)
    (case a36 => k_is)
    (case l36 => k_is)
    (case c36 => k_is)
    (case k36 => k_is)
    (case dl_run => k_is)
    (case a37 => k_is)
    (case l37 => k_is)
    (case c37 => k_is)
    (case k37 => k_is)
    (case a38 => k_is)
    (case l38 => k_is)
    (case c38 => k_is)
    (case k38 => k_is)
    (case a39 => k_is)
    (case l39 => k_is)
    (case c39 => k_is)
    (case k39 => k_is)
    (case a40 => k_is)
    (case l40 => k_is)
    (case c40 => k_is)
    (case k40 => k_is)
    (case z_int => k_is)
    (case z_isinstance => k_is)
    (case z_len => k_is)
    (case z_list => k_is)
    (case z_max => k_is)
    (case z_range => k_is)
    (case z_reversed => k_is)
    (case z_str => k_is)
    (case gg_VALUES => k_is)
    (case gk_VALUES => k_is)
#print axioms PySem.Challenge.cw_idlegraph_k33_sums_holds