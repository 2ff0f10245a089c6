import PyProof.Rows.All
import Wide.All
import OpenK.AllK
import Wide.FinOn
import Lean
import PyProof.EqAt
import PyProof.EqKinds
import PyProof.TupleCall
import PySem.Challenge.RW_shorthead_k24_letters_parted
set_option Elab.async false
set_option linter.all false
set_option maxRecDepth 100000
/-! THE HAND LAYER, for ints, bools, texts, own classes, LISTS and tuples (index, slices, in, append, pop ..), calls, loops. Paste it whole ahead of your own text; what your proof does not reach may be deleted. -/
namespace L2
open PySem PySem.Spec PyProof.Rows

/-- a key: an int or a str -/
abbrev Key := Sum Int Str
def keyIs : Key → Value → Bool
  | .inl k, v => Value.isInt k v
  | .inr x, v => Value.isStrOf x v
def keyH (w : World) : Key → Int
  | .inl k => hashInt k
  | .inr x => hashStr w x
theorem keyIs_shape : ∀ {k : Key} {v : Value}, keyIs k v = true → (∃ i t, k = Sum.inl i ∧ v = Value.int i t) ∨ (∃ x t, k = Sum.inr x ∧ v = Value.str x t)
  | .inl i, v, h => by
    obtain ⟨t, e⟩ := Value.isInt_shape (k := i) (v := v) h
    exact .inl ⟨i, t, rfl, e⟩
  | .inr x, v, h => by
    obtain ⟨t, e⟩ := Value.isStrOf_shape (x := x) (v := v) h
    exact .inr ⟨x, t, rfl, e⟩
theorem keyIs_int (i : Int) (t : Tok) : keyIs (.inl i) (.int i t) = true := by simp [keyIs, Value.isInt]
theorem keyIs_str (x : Str) (t : Tok) : keyIs (.inr x) (.str x t) = true := by simp [keyIs, Value.isStrOf]
theorem key_ll (a b : Int) : decide ((Sum.inl a : Key) = Sum.inl b) = (a == b) := by
  by_cases e : a = b
  · subst e; simp
  · have h : ¬ (Sum.inl a : Key) = Sum.inl b := fun q => e (Sum.inl.inj q)
    rw [decide_eq_false h]
    exact (beq_eq_false_iff_ne.mpr e).symm
theorem key_rr (a b : Str) : decide ((Sum.inr a : Key) = Sum.inr b) = decide (a = b) := by
  by_cases e : a = b
  · subst e; simp
  · have h : ¬ (Sum.inr a : Key) = Sum.inr b := fun q => e (Sum.inr.inj q)
    rw [decide_eq_false h, decide_eq_false e]
theorem key_lr (a : Int) (b : Str) : decide ((Sum.inl a : Key) = Sum.inr b) = false := decide_eq_false (fun q => nomatch q)
theorem key_rl (a : Str) (b : Int) : decide ((Sum.inr a : Key) = Sum.inl b) = false := decide_eq_false (fun q => nomatch q)

def mixKind (prog : Program) (w : World) : PySem.KeyKind prog w Key where
  is := keyIs
  hash := keyH w
  inj := fun v a b ha hb => by
    rcases keyIs_shape ha with ⟨i, t, rfl, rfl⟩ | ⟨x, t, rfl, rfl⟩
    · rcases keyIs_shape hb with ⟨j, u, rfl, e⟩ | ⟨y, u, rfl, e⟩
      · injection e with e1 _; rw [e1]
      · exact nomatch e
    · rcases keyIs_shape hb with ⟨j, u, rfl, e⟩ | ⟨y, u, rfl, e⟩
      · exact nomatch e
      · injection e with e1 _; rw [e1]
  byValue := fun k v h => by
    rcases keyIs_shape h with ⟨i, t, rfl, rfl⟩ | ⟨x, t, rfl, rfl⟩ <;> rfl
  pyHash := fun hv h => by
    rcases keyIs_shape hv with ⟨i, t, rfl, rfl⟩ | ⟨x, t, rfl, rfl⟩
    · exact wpAny_pyHash_int h
    · exact wpAny_pyHash_str h
  eqBool := fun hu hv h => by
    rcases keyIs_shape hu with ⟨i, t, rfl, rfl⟩ | ⟨x, t, rfl, rfl⟩
    · rcases keyIs_shape hv with ⟨j, u, rfl, rfl⟩ | ⟨y, u, rfl, rfl⟩
      · rw [key_ll] at h; exact wpAny_eqBool_int h
      · rw [key_lr] at h; exact SeqAt.EqAt.int_str i t y u _ _ _ _ h
    · rcases keyIs_shape hv with ⟨j, u, rfl, rfl⟩ | ⟨y, u, rfl, rfl⟩
      · rw [key_rl] at h; exact SeqAt.EqAt.str_int x t j u _ _ _ _ h
      · rw [key_rr] at h; exact wpAny_eqBool_str h
  «strs» := fun k x t v h => by
    rcases keyIs_shape h with ⟨i, u, rfl, e⟩ | ⟨y, u, rfl, e⟩
    · exact nomatch e
    · injection e with e1 _
      subst e1
      cases v <;> rfl

theorem mixKind_int (prog : Program) (w : World) (i : Int) (t : Tok) : (mixKind prog w).is (.inl i) (.int i t) = true := keyIs_int i t
theorem mixKind_str (prog : Program) (w : World) (x : Str) (t : Tok) : (mixKind prog w).is (.inr x) (.str x t) = true := keyIs_str x t
end L2

namespace L2
open PySem PySem.Spec PyProof.Rows

/-- a value, without the heap -/
inductive V where
  | non | bl (b : Bool) | int (i : Int) | str (x : Str) | byt (b : Array UInt8) | flt (b : UInt64) | ref (a : Addr) | ty (n : String)
  deriving DecidableEq

def RelV : V → Value → Prop
  | .non, u => u = Value.none
  | .bl b, u => u = Value.bool b
  | .int i, u => ∃ t, u = Value.int i t
  | .str x, u => ∃ t, u = Value.str x t
  | .byt b, u => ∃ t, u = Value.bytes b t
  | .flt b, u => ∃ t, u = Value.float b t
  | .ref a, u => u = Value.ref a
  | .ty n, u => u = Value.type n

abbrev Vals : List V → List Value → Prop := Paired RelV
theorem Vals.length {xs : List V} {us : List Value} (r : Vals xs us) : xs.length = us.length := Paired.length r
theorem Vals.get : ∀ {xs : List V} {us : List Value} {i : Nat} {x : V}, Vals xs us → xs[i]? = some x → ∃ u, us[i]? = some u ∧ RelV x u
  | _, _, _, _, .nil, e => by simp at e
  | _, _, 0, _, .cons r _, e => by simp at e; subst e; exact ⟨_, rfl, r⟩
  | _, _, i + 1, x, .cons _ t, e => by
    obtain ⟨u, h1, h2⟩ := Vals.get (i := i) (x := x) t (by simpa using e)
    exact ⟨u, by simpa using h1, h2⟩
theorem Vals.set {x : V} {u : Value} (r : RelV x u) : ∀ {xs : List V} {us : List Value} (i : Nat), Vals xs us → Vals (xs.set i x) (us.set i u)
  | _, _, _, .nil => .nil
  | _, _, 0, .cons _ t => .cons r t
  | _, _, i + 1, .cons q t => .cons q (Vals.set r i t)
theorem Vals.append : ∀ {xs ys : List V} {us ws : List Value}, Vals xs us → Vals ys ws → Vals (xs ++ ys) (us ++ ws)
  | _, _, _, _, .nil, s => s
  | _, _, _, _, .cons r t, s => .cons r (Vals.append t s)
theorem Vals.take : ∀ {xs : List V} {us : List Value} (n : Nat), Vals xs us → Vals (xs.take n) (us.take n)
  | _, _, 0, _ => .nil
  | _, _, _ + 1, .nil => .nil
  | _, _, n + 1, .cons r t => .cons r (Vals.take n t)
theorem Vals.drop : ∀ {xs : List V} {us : List Value} (n : Nat), Vals xs us → Vals (xs.drop n) (us.drop n)
  | _, _, 0, r => r
  | _, _, _ + 1, .nil => .nil
  | _, _, n + 1, .cons _ t => Vals.drop n t
def RelO : Option V → Option Value → Prop
  | some v, some u => RelV v u
  | none, none => True
  | _, _ => False
def KV {κ : Type} : List (κ × V) → List (κ × Value) → Prop := Paired fun (p : κ × V) (q : κ × Value) => p.1 = q.1 ∧ RelV p.2 q.2

/-- a key of a dict (00_mix): an int or a text -/
def kV : Key → V
  | .inl i => .int i
  | .inr x => .str x

/-- what stands at a tracked address -/
inductive HO where
  /-- a list -/
  | lst (xs : List V)
  /-- a tuple (never changes) -/
  | tup (xs : List V)
  /-- a dict whose keys are ints and texts; one whose keys are tuples of ints and texts (the empty one is both) -/
  | dK (kvs : List (Key × V)) | dT (kvs : List (List Key × V))
  /-- a set of ints: its members, its size -/
  | set (S : Int → Bool) (n : Nat)
  /-- an instance of the class at C, its dict at dx, its attributes -/
  | ins (C dx : Addr) (fs : List (Str × V))
  /-- the dict of the instance at x -/
  | own (x : Addr)
  /-- the dict of an exception -/
  | xd (fs : List (Str × V))
  /-- a bound method, f of x -/
  | met (f x : Addr)
  /-- a range object lo, lo + 1, .. below hi -/
  | rng (lo hi : Int)
  /-- a thing that is known to the object (the script; a dict while a loop walks it): read, never written while it is so -/
  | frz (o : Obj) (u : HO)
  /-- a code object's table -/
  | tbl (ps : Array Value)
  /-- any other thing, by what is true of its one object (a def of one's own: SetO a S n := HO.ext fun h => ..) -/
  | ext (φ : Heap → Prop)

abbrev Hp := Addr → Option HO
def upd (H : Hp) (a : Addr) (o : HO) : Hp := fun b => if b = a then some o else H b
theorem upd_same {H : Hp} {a : Addr} {o : HO} : upd H a o a = some o := by unfold upd; rw [if_pos rfl]
theorem upd_ne {H : Hp} {a b : Addr} {o : HO} (h : b ≠ a) : upd H a o b = H b := by unfold upd; rw [if_neg h]
/-- two objects of different content stand apart -/
theorem ne_of {H : Hp} {a b : Addr} {o u : HO} (h : H a = some o) (h' : H b = some u) (d : o ≠ u) : a ≠ b := by
  intro e; subst e; rw [h] at h'; exact d (Option.some.inj h')
theorem ne_of_none {H : Hp} {a b : Addr} {o : HO} (h : H a = some o) (h' : H b = none) : a ≠ b := by
  intro e; subst e; rw [h] at h'; cases h'

section
variable (P : Program) (w : World)
def NoD (h : Heap) (a : Addr) : Prop := ∃ o, h.get? a = some o ∧ o.dict = none
def ObjOk (H : Hp) (h : Heap) (a : Addr) : HO → Prop
  | .lst xs => xs.length ≤ sizeLine ∧ ∃ (its : List Value) (n : Nat), Vals xs its ∧ h.get? a = some { cls := .type "list", data := .seq its.toArray n }
  | .tup xs => xs.length ≤ sizeLine ∧ ∃ its : List Value, Vals xs its ∧ IsTup h a its.toArray ∧ NoD h a
  | .dK kvs => kvs.length ≤ sizeLine ∧ (a == sysModules) = false ∧ ∃ vs, KV kvs vs ∧ h.DictOf (mixKind P w) a vs
  | .dT kvs => kvs.length ≤ sizeLine ∧ (a == sysModules) = false ∧ ∃ xs : List (List Key × Addr × Value),
      Paired (fun (p : List Key × V) (q : List Key × Addr × Value) => p.1 = q.1 ∧ H q.2.1 = some (.tup (p.1.map kV)) ∧ RelV p.2 q.2.2) kvs xs ∧
      ∃ o es ep, h.get? a = some o ∧ o.ExactDict ∧ o.data = .dict es ep ∧ es.toList = xs.map (entryOfKey (tupleKind (mixKind P w))) ∧ (xs.map (·.1)).Nodup
  | .set S n => h.SetOf (intKind P w) a S n
  | .ins C dx fs => H dx = some (.own a) ∧ fs.length ≤ 1000 ∧ dx ≠ a ∧ h.get? a = some (PySem.W.instObj C dx) ∧
      ∃ mA, h.Ns1 dx mA ∧ (∀ f, RelO (fs.lookup f) (mA f)) ∧ PySem.Within mA (fs.map (·.1))
  | .own _ => ∃ o, h.get? a = some o
  | .xd fs => ∃ mA, h.Ns1 a mA ∧ ∀ f, RelO (fs.lookup f) (mA f)
  | .rng lo hi => ∃ t u v, h.get? a = some { cls := .type "range", data := .fields #[.int lo t, .int hi u, .int 1 v] }
  | .frz o u => h.get? a = some o ∧ ObjOk H h a u
  | .tbl ps => h.get? a = some { cls := .none, data := .fields ps }
  | .met f x => h.get? a = some (PySem.W.methodObj (.ref f) (.ref x))
  | .ext φ => φ h ∧ (∃ o, h.get? a = some o) ∧ ∀ h1 h2 : Heap, φ h1 → (∀ o, h1.get? a = some o → h2.get? a = some o) → φ h2
/-- the abstract heap is held -/
def HOk (H : Hp) (h : Heap) : Prop := ∀ a o, H a = some o → ObjOk P w H h a o
end

section
variable {P : Program} {w : World} {H H' : Hp} {h h' : Heap} {a : Addr} {o : HO}
theorem ObjOk.lt (x : ObjOk P w H h a o) : a < h.objs.size := by
  cases o with
  | lst xs => obtain ⟨_, _, _, _, e⟩ := x; exact Heap.lt_size e
  | tup xs => obtain ⟨_, _, _, p, _⟩ := x; exact p.lt
  | dK kvs => obtain ⟨_, _, _, _, o, _, _, e, _⟩ := x; exact Heap.lt_size e
  | dT kvs => obtain ⟨_, _, _, _, o, _, _, e, _⟩ := x; exact Heap.lt_size e
  | set S n => obtain ⟨o, _, _, _, e, _⟩ := x; exact Heap.lt_size e
  | ins C dx fs => obtain ⟨_, _, _, e, _⟩ := x; exact Heap.lt_size e
  | own y => obtain ⟨_, e⟩ := x; exact Heap.lt_size e
  | xd fs => obtain ⟨_, ⟨_, _, _, e, _⟩, _⟩ := x; exact Heap.lt_size e
  | rng lo hi => obtain ⟨_, _, _, e⟩ := x; exact Heap.lt_size e
  | frz ob u => obtain ⟨e, _⟩ := x; exact Heap.lt_size e
  | tbl ps => exact Heap.lt_size (show h.get? a = some _ from x)
  | met f y => exact Heap.lt_size (show h.get? a = some _ from x)
  | ext φ => obtain ⟨_, ⟨_, e⟩, _⟩ := x; exact Heap.lt_size e
theorem Paired.mapP {α β : Type} {F G : α → β → Prop} : ∀ {l₁ : List α} {l₂ : List β}, Paired F l₁ l₂ → (∀ a b, F a b → G a b) → Paired G l₁ l₂
  | _, _, .nil, _ => .nil
  | _, _, .cons r t, f => .cons (f _ _ r) (Paired.mapP t f)
/-- what an object's description leans on: its own object, its own dict, the tuples -/
theorem ObjOk.stay (x : ObjOk P w H h a o) (k : ∀ b u, (b = a ∨ H b = some (.own a)) → h.get? b = some u → h'.get? b = some u)
    (ho : ∀ b, H b = some (.own a) → H' b = some (.own a)) (ht : ∀ b xs, H b = some (.tup xs) → H' b = some (.tup xs)) : ObjOk P w H' h' a o := by
  induction o with
  | lst xs => obtain ⟨z, its, n, r, e⟩ := x; exact ⟨z, its, n, r, k _ _ (.inl rfl) e⟩
  | tup xs => obtain ⟨z, its, r, ⟨ob, e, c⟩, od, ed, dn⟩ := x; exact ⟨z, its, r, ⟨ob, k _ _ (.inl rfl) e, c⟩, od, k _ _ (.inl rfl) ed, dn⟩
  | dK kvs => obtain ⟨z, y, vs, r, ob, es, ep, e, c⟩ := x; exact ⟨z, y, vs, r, ob, es, ep, k _ _ (.inl rfl) e, c⟩
  | dT kvs =>
    obtain ⟨z, y, xs, r, ob, es, ep, e, c⟩ := x
    exact ⟨z, y, xs, Paired.mapP r fun p q z => ⟨z.1, ht _ _ z.2.1, z.2.2⟩, ob, es, ep, k _ _ (.inl rfl) e, c⟩
  | set S n => obtain ⟨ob, es, ep, t, e, c⟩ := x; exact ⟨ob, es, ep, t, k _ _ (.inl rfl) e, c⟩
  | ins C dx fs =>
    obtain ⟨d, z, ne, e, mA, ⟨od, es, ep, e2, c⟩, r⟩ := x
    exact ⟨ho _ d, z, ne, k _ _ (.inl rfl) e, mA, ⟨od, es, ep, k _ _ (.inr d) e2, c⟩, r⟩
  | own y => obtain ⟨ob, e⟩ := x; exact ⟨ob, k _ _ (.inl rfl) e⟩
  | xd fs => obtain ⟨mA, ⟨od, es, ep, e, c⟩, r⟩ := x; exact ⟨mA, ⟨od, es, ep, k _ _ (.inl rfl) e, c⟩, r⟩
  | rng lo hi => obtain ⟨t, u, v, e⟩ := x; exact ⟨t, u, v, k _ _ (.inl rfl) e⟩
  | frz ob u ih => obtain ⟨e, q⟩ := x; exact ⟨k _ _ (.inl rfl) e, ih q⟩
  | tbl ps =>
    have e : h.get? a = some { cls := .none, data := .fields ps } := x
    show h'.get? a = some { cls := .none, data := .fields ps }
    exact k a _ (.inl rfl) e
  | met f y =>
    have e : h.get? a = some (PySem.W.methodObj (.ref f) (.ref y)) := x
    show h'.get? a = some (PySem.W.methodObj (.ref f) (.ref y))
    exact k a _ (.inl rfl) e
  | ext φ => obtain ⟨p, ⟨o, e⟩, st⟩ := x; exact ⟨st _ _ p fun o q => k _ _ (.inl rfl) q, ⟨o, k _ _ (.inl rfl) e⟩, st⟩
theorem HOk.lt (x : HOk P w H h) (e : H a = some o) : a < h.objs.size := (x a o e).lt
theorem HOk.fresh (x : HOk P w H h) (e : h.objs.size ≤ a) : H a = none := by
  cases q : H a with
  | none => rfl
  | some u => exact absurd (Nat.lt_of_lt_of_le (x.lt q) e) (Nat.lt_irrefl _)
/-- every object of the heap is kept -/
theorem HOk.kept (x : HOk P w H h) (k : ∀ b u, h.get? b = some u → h'.get? b = some u) : HOk P w H h' := fun a o e =>
  (x a o e).stay (fun b u _ q => k b u q) (fun _ q => q) fun _ _ q => q
/-- a new object is laid and tracked -/
theorem HOk.laid (x : HOk P w H h) (k : ∀ b u, h.get? b = some u → h'.get? b = some u) (hp : h.objs.size ≤ a) (new : ObjOk P w (upd H a o) h' a o) : HOk P w (upd H a o) h' := fun b u e => by
  have hn := x.fresh hp
  by_cases hb : b = a
  · subst hb; rw [upd_same] at e; cases e; exact new
  · rw [upd_ne hb] at e
    exact (x b u e).stay (fun c v _ q => k c v q) (fun c q => by rw [upd_ne (ne_of_none q hn)]; exact q) fun c xs q => by rw [upd_ne (ne_of_none q hn)]; exact q
end

/-- what may be read as u: it is u, or a known u -/
def Rd (H : Hp) (a : Addr) (u : HO) : Prop := H a = some u ∨ ∃ o, H a = some (.frz o u)
theorem Rd.ok {P : Program} {w : World} {H : Hp} {h : Heap} {a : Addr} {u : HO} (r : Rd H a u) (x : HOk P w H h) : ObjOk P w H h a u := by
  rcases r with r | ⟨o, r⟩
  · exact x a u r
  · obtain ⟨_, q⟩ := x a _ r
    exact q
/-- what may be written -/
def Mut : Option HO → Prop
  | some (.lst _) => True
  | some (.dK _) => True
  | some (.dT _) => True
  | some (.set _ _) => True
  | some (.ins _ _ _) => True
  | some (.ext _) => True
  | _ => False
section
variable {P : Program} {w : World} {H : Hp} {h h' : Heap} {x e : Addr} {o' : HO}
/-- the object at e is changed: x itself, or the dict of the instance x -/
theorem HOk.write (ok : HOk P w H h) (mu : Mut (H x)) (he : e = x ∨ H e = some (.own x)) (k : ∀ b u, b ≠ e → h.get? b = some u → h'.get? b = some u) (heo : ∃ u, h'.get? e = some u)
    (new : ObjOk P w (upd H x o') h' x o') : HOk P w (upd H x o') h' := fun b u q => by
  have nown : ∀ c y, H c = some (.own y) → c ≠ x := fun c y r z => by subst z; rw [r] at mu; exact mu
  have ntup : ∀ c xs, H c = some (.tup xs) → c ≠ x := fun c xs r z => by subst z; rw [r] at mu; exact mu
  by_cases hb : b = x
  · subst hb; rw [upd_same] at q; cases q; exact new
  · rw [upd_ne hb] at q
    by_cases hbe : b = e
    · have q' : H b = some (.own x) := by
        rcases he with z | z
        · exact absurd (hbe.trans z) hb
        · rw [hbe]; exact z
      rw [q] at q'; cases q'
      obtain ⟨v, hv⟩ := heo
      exact ⟨v, by rw [hbe]; exact hv⟩
    · refine (ok b u q).stay (fun c v hc r => k c v ?_ r) (fun c r => by rw [upd_ne (nown c b r)]; exact r) fun c xs r => by rw [upd_ne (ntup c xs r)]; exact r
      rcases hc with rfl | hc
      · exact hbe
      · rintro rfl
        rcases he with z | z
        · exact nown c b hc z
        · rw [hc] at z; cases z; exact hb rfl
end

/-! ### kept unless tracked; of the frames at fs (the callers') the slots may change (an exception that passes writes there); of the records at ex (iterators) nothing is said -/
structure Un (fs ex : List Addr) (H H' : Hp) (h h' : Heap) : Prop where
  keep : ∀ b o, h.get? b = some o → H b = none → b ∉ fs → b ∉ ex → h'.get? b = some o
  slot : ∀ b o, h.get? b = some o → H b = none → b ∈ fs → b ∉ ex → ∃ sl, h'.get? b = some { o with slots := sl }
  free : ∀ b o, h.get? b = some o → H b = none → b ∉ ex → H' b = none
  there : ∀ b o, h.get? b = some o → b ∉ ex → ∃ o', h'.get? b = some o'
  tups : ∀ b xs, H b = some (.tup xs) → H' b = some (.tup xs)
  frzs : ∀ b o u, H b = some (.frz o u) → H' b = some (.frz o u)
  tbls : ∀ b ps, H b = some (.tbl ps) → ∃ more, H' b = some (.tbl (ps ++ more))
section
variable {fs fs' ex ex' : List Addr} {H H1 H2 : Hp} {h h1 h2 h' : Heap} {a x e : Addr} {o : HO}
theorem Un.any (u : Un fs ex H H1 h h1) {b : Addr} {ob : Obj} (q : h.get? b = some ob) (n : H b = none) (hx : b ∉ ex) : ∃ sl, h1.get? b = some { ob with slots := sl } := by
  by_cases hb : b ∈ fs
  · exact u.slot b ob q n hb hx
  · exact ⟨ob.slots, u.keep b ob q n hb hx⟩
theorem Un.kept (k : ∀ b u, h.get? b = some u → h'.get? b = some u) : Un fs ex H H h h' :=
  ⟨fun b ob q _ _ _ => k b ob q, fun b ob q _ _ _ => ⟨ob.slots, k b ob q⟩, fun _ _ _ n _ => n, fun b ob q _ => ⟨ob, k b ob q⟩, fun _ _ q => q, fun _ _ _ q => q, fun _ ps q => ⟨#[], by rw [q]; simp⟩⟩
theorem Un.refl : Un fs ex H H h h := Un.kept fun _ _ q => q
theorem Un.laid (k : ∀ b u, h.get? b = some u → h'.get? b = some u) (hp : h.objs.size ≤ a) (hn : H a = none) : Un fs ex H (upd H a o) h h' where
  keep := fun b u q _ _ _ => k b u q
  slot := fun b u q _ _ _ => ⟨u.slots, k b u q⟩
  free := fun b u q n _ => by rw [upd_ne (Nat.ne_of_lt (Nat.lt_of_lt_of_le (Heap.lt_size q) hp))]; exact n
  there := fun b u q _ => ⟨u, k b u q⟩
  tups := fun b xs q => by rw [upd_ne (ne_of_none q hn)]; exact q
  frzs := fun b u xs q => by rw [upd_ne (ne_of_none q hn)]; exact q
  tbls := fun b ps q => ⟨#[], by rw [upd_ne (ne_of_none q hn), q]; simp⟩
theorem Un.write (mu : Mut (H x)) (he : e = x ∨ H e = some (.own x)) (k : ∀ b u, b ≠ e → h.get? b = some u → h'.get? b = some u) (heo : ∃ u, h'.get? e = some u) : Un fs ex H (upd H x o) h h' := by
  have hx : ∀ b, H b = none → b ≠ x := fun b n z => by subst z; rw [n] at mu; exact mu
  have hb : ∀ b, H b = none → b ≠ e := fun b n z => by
    subst z
    rcases he with r | r
    · exact hx b n r
    · rw [n] at r; cases r
  have hm : ∀ b u, H b = some u → ¬ Mut (some u) → b ≠ x := fun b u q nm z => by subst z; rw [q] at mu; exact nm mu
  refine ⟨fun b u q n _ _ => k b u (hb b n) q, fun b u q n _ _ => ⟨u.slots, k b u (hb b n) q⟩, fun b u q n _ => by rw [upd_ne (hx b n)]; exact n, fun b u q _ => ?_,
    fun b xs q => by rw [upd_ne (hm b _ q fun z => z)]; exact q, fun b u xs q => by rw [upd_ne (hm b _ q fun z => z)]; exact q, fun b ps q => ⟨#[], by rw [upd_ne (hm b _ q fun z => z), q]; simp⟩⟩
  by_cases hbe : b = e
  · subst hbe; exact heo
  · exact ⟨u, k b u hbe q⟩
end

/-! ### the heap without what is tracked -/
def trk (h : Heap) (H : Hp) : List Addr := (List.range h.objs.size).filter fun a => (H a).isSome
def hidT (h : Heap) (H : Hp) : Heap := PySem.W.hideAll h (trk h H)
theorem hidT_size (h : Heap) (H : Hp) : (hidT h H).objs.size = h.objs.size := PySem.W.hideAll_size _ _
theorem hidT_get {h : Heap} {H : Hp} {b : Addr} {o : Obj} (e : h.get? b = some o) (n : H b = none) : (hidT h H).get? b = some o :=
  PySem.W.hideAll_get _ e fun hm => by
    have q : (H b).isSome = true := (List.mem_filter.mp hm).2
    rw [n] at q; simp at q
theorem of_hidT {h : Heap} {H : Hp} {b : Addr} {o : Obj} (e : (hidT h H).get? b = some o) : h.get? b = some o ∧ H b = none := by
  have e' : h.get? b = some o := PySem.W.of_hideAll (trk h H) e
  refine ⟨e', ?_⟩
  cases q : H b with
  | none => rfl
  | some x =>
    have hm : b ∈ trk h H := List.mem_filter.mpr ⟨List.mem_range.mpr (Heap.lt_size e'), by simp [q]⟩
    have z : (hidT h H).get? b = none := PySem.W.hideAll_none (trk h H) hm
    rw [z] at e; cases e

/-! ### OpenK's ledger, filled with every new object but one -/
end L2

namespace L2
open PySem PySem.Spec PyProof.Rows

/-- the module's facts, over the base: the heap at the law's entry without what is tracked there -/
structure Mod (K : PySem.W.Frag) (mg : Str → Option Value) (base : Heap) : Prop where
  kin : K.In base
  glob : base.Ns mainGlobals mg
  blt : ∃ mb, base.Ns builtinsNs mb ∧ ∀ x : Str, x ≠ "__name__" → mb x = bootBuiltins x
  nolimit : base.NoLimit

/-- the context: a def's body (or a comprehension's block) running. base: fixed through the whole law; s₀, H₀: the entry; outer: the frames whose slots others may change (a def's callers); stack: all frames that run;
   ex: iterators that were made ahead of the entry and are walked here (a comprehension's); fn: the names whose cells were made at the entry (a def: all; a comprehension's block: its own); calm: not within an except suite; pn: pins that every state bears; xe: what is wanted of an exception that leaves the code -/
structure Cx where
  prog : Program
  w : World
  K : PySem.W.Frag
  mg : Str → Option Value
  base : Heap
  A : Around
  N : List Str
  s₀ : Shared
  H₀ : Hp
  env : Env
  outer : List Env
  stack : List Env
  ex : List Addr
  fn : Str → Bool
  calm : Bool
  pn : List (Addr × Obj)
  xe : Value → Shared → Prop
/-- the callers' frames -/
def frs (l : List Env) : List Addr := l.filterMap (·.frame)
abbrev Cx.fs (X : Cx) : List Addr := frs X.outer

def Vis (sc : Scope) (x : Str) : Prop := sc.names.lookup x = some .local ∨ sc.names.lookup x = some .cell ∨ sc.names.lookup x = some .free
def Loc (sc : Scope) (x : Str) : Prop := sc.names.lookup x = some .local ∨ sc.names.lookup x = some .cell
def Look (env : Env) (h : Heap) (m : Str → Option Value) (x : Str) (u : Value) : Prop :=
  (env.kindOf x = some .local ∧ m x = some u) ∨ ((env.kindOf x = some .cell ∨ env.kindOf x = some .free) ∧ ∃ c, env.cells.lookup x = some c ∧ h.IsCell c (some u))

structure Cx.Ok (X : Cx) : Prop where
  mod : Mod X.K X.mg X.base
  kind : X.env.scope.kind = .function
  glob : X.env.globals = mainGlobals
  blt : X.env.builtins = builtinsNs
  above : X.s₀.heap.objs.size ≤ X.env.locals
  inj : ∀ x y c, X.env.cells.lookup x = some c → X.env.cells.lookup y = some c → x = y
  has : ∀ x, (X.env.kindOf x = some .cell ∨ X.env.kindOf x = some .free) → ∃ c, X.env.cells.lookup x = some c
  cab : ∀ x c, X.fn x = true → X.env.cells.lookup x = some c → X.s₀.heap.objs.size ≤ c
  hd : X.calm = true → X.A.handled = none
  frames : X.A.frames = some X.stack
  stk : X.stack = X.outer ∨ (X.stack = X.env :: X.outer ∧ X.env.frame = some X.env.locals)
  exf : ∀ b ∈ X.ex, b ≠ X.env.locals ∧ ∀ x c, X.env.cells.lookup x = some c → c ≠ b
  bs : ∀ b o, X.base.get? b = some o → X.s₀.heap.get? b = some o ∧ X.H₀ b = none
  bsz : X.base.objs.size ≤ X.s₀.heap.objs.size
  noex : ∀ b o, X.base.get? b = some o → b ∉ X.ex
  exfs : ∀ b ∈ X.ex, b ∉ X.fs
  funs : X.s₀.heap.FunFrames X.base X.outer
  frf : ∀ b ∈ X.fs, X.H₀ b = none

structure Inv (X : Cx) (pins : List (Addr × Obj)) (σ : List (Option V)) (H : Hp) (s : Shared) : Prop where
  ok : X.Ok
  os : s.os = X.s₀.os
  bare : AllBare s.gens
  base : Un X.fs X.ex X.H₀ H X.s₀.heap s.heap
  loc : ∃ m, s.heap.Ns X.env.locals m ∧ ∀ (i : Nat) (x : Str) (v : V), X.N[i]? = some x → σ[i]? = some (some v) → Vis X.env.scope x → ∃ u, RelV v u ∧ Look X.env s.heap m x u
  cell : ∀ x c, X.env.cells.lookup x = some c → ∃ v, s.heap.IsCell c v
  free : H X.env.locals = none
  freeC : ∀ x c, X.env.cells.lookup x = some c → H c = none
  pin : ∀ p ∈ X.pn ++ pins, s.heap.get? p.1 = some p.2 ∧ H p.1 = none ∧ p.1 ≠ X.env.locals ∧ p.1 ∉ X.fs ∧ ∀ v, p.2.data ≠ .cell v
  hok : HOk X.prog X.w H s.heap
  len : σ.length = X.N.length

section
variable {X : Cx} {pins : List (Addr × Obj)} {σ : List (Option V)} {H H' : Hp} {s : Shared} {h' : Heap}

theorem Cx.Ok.nofr (ok : X.Ok) {b : Addr} {o : Obj} (e : X.base.get? b = some o) : b ∉ X.fs := fun hb => by
  have := (ok.funs.mem hb).1
  rw [e] at this; cases this
theorem Inv.bs (I : Inv X pins σ H s) : ∀ b o, X.base.get? b = some o → s.heap.get? b = some o ∧ H b = none := fun b o e =>
  ⟨I.base.keep b o (I.ok.bs b o e).1 (I.ok.bs b o e).2 (I.ok.nofr e) (I.ok.noex b o e), I.base.free b o (I.ok.bs b o e).1 (I.ok.bs b o e).2 (I.ok.noex b o e)⟩
theorem Inv.bk (I : Inv X pins σ H s) : ∀ b o, X.base.get? b = some o → s.heap.get? b = some o := fun b o e => (I.bs b o e).1
theorem Inv.mod (I : Inv X pins σ H s) : Mod X.K X.mg X.base := I.ok.mod
theorem Inv.kIn (I : Inv X pins σ H s) : X.K.In s.heap := I.ok.mod.kin.keeps I.bk
theorem Inv.lt (I : Inv X pins σ H s) : X.env.locals < s.heap.objs.size := let ⟨_, hn, _⟩ := I.loc; hn.lt
theorem Inv.sz (I : Inv X pins σ H s) : X.s₀.heap.objs.size ≤ s.heap.objs.size := Nat.le_trans I.ok.above (Nat.le_of_lt I.lt)
theorem Inv.nofs (I : Inv X pins σ H s) {a : Addr} (h : s.heap.objs.size ≤ a) : a ∉ X.fs := fun hb => by
  obtain ⟨_, o, ho, _⟩ := I.ok.funs.mem hb
  exact absurd (Nat.lt_of_lt_of_le (Heap.lt_size ho) (Nat.le_trans I.sz h)) (Nat.lt_irrefl _)
theorem Inv.cne (I : Inv X pins σ H s) : ∀ x c, X.env.cells.lookup x = some c → c ≠ X.env.locals := fun x c e z => by
  obtain ⟨v, o, ho, hd⟩ := I.cell x c e
  obtain ⟨m, ⟨o', es, ep, ho', hd', _⟩, _⟩ := I.loc
  rw [z, ho'] at ho; cases ho; rw [hd'] at hd; cases hd
theorem Inv.funs (I : Inv X pins σ H s) : s.heap.FunFrames X.base X.outer := by
  have all : ∀ (l : List Env), (∀ b ∈ frs l, b ∈ X.fs) → X.s₀.heap.FunFrames X.base l → s.heap.FunFrames X.base l := by
    intro l
    induction l with
    | nil => intro _ _; trivial
    | cons env r ih =>
      intro hs hl
      obtain ⟨hk, ⟨L, o, hf, hn, ho, hd⟩, hr⟩ := hl
      have hL : L ∈ X.fs := hs L (by unfold frs; rw [List.filterMap_cons, hf]; exact List.mem_cons_self)
      obtain ⟨sl, e⟩ := I.base.slot L o ho (I.ok.frf L hL) hL fun z => I.ok.exfs L z hL
      exact ⟨hk, ⟨L, _, hf, hn, e, hd⟩, ih (fun b hb => hs b (by unfold frs; rw [List.filterMap_cons, hf]; exact List.mem_cons_of_mem _ hb)) hr⟩
  exact all X.outer (fun _ hb => hb) I.ok.funs

/-- the frames that run, for a call -/
theorem Inv.stack (I : Inv X pins σ H s) : s.heap.FunFrames X.base X.stack := by
  rcases I.ok.stk with e | ⟨e, hf⟩
  · rw [e]; exact I.funs
  · rw [e]
    obtain ⟨m, hn, _⟩ := I.loc
    refine .cons (by rw [I.ok.kind]; decide) hf hn ?_ I.funs
    exact Heap.get?_none_of_le (Nat.le_trans I.ok.bsz I.ok.above)
theorem Inv.stkSub (I : Inv X pins σ H s) : ∀ b ∈ frs X.stack, b ∈ X.env.locals :: X.fs := fun b hb => by
  rcases I.ok.stk with e | ⟨e, hf⟩
  · rw [e] at hb; exact List.mem_cons_of_mem _ hb
  · rw [e] at hb
    unfold frs at hb
    rw [List.filterMap_cons, hf] at hb
    exact hb
theorem Inv.stkFree (I : Inv X pins σ H s) : ∀ b ∈ frs X.stack, H b = none := fun b hb => by
  rcases List.mem_cons.mp (I.stkSub b hb) with e | hb
  · rw [e]; exact I.free
  · obtain ⟨_, o, ho, _⟩ := I.ok.funs.mem hb
    exact I.base.free b o ho (I.ok.frf b hb) fun z => I.ok.exfs b z hb

/-- THE STEP: the untracked objects but the frame and the records at ch are kept (the callers' frames up to slots), the frame's map is kept, the new abstract heap is held -/
theorem Inv.step {g' : Array GenState} {t' : Nat} {d' : Drawn} {ch : List Addr} (I : Inv X pins σ H s)
    (hch : ∀ b ∈ ch, (b ∈ X.ex ∨ X.s₀.heap.objs.size ≤ b) ∧ b ≠ X.env.locals ∧ (∀ x c, X.env.cells.lookup x = some c → c ≠ b) ∧ ∀ p ∈ X.pn ++ pins, p.1 ≠ b)
    (keep : ∀ b o, b ≠ X.env.locals → b ∉ X.fs → b ∉ ch → s.heap.get? b = some o → H b = none → h'.get? b = some o)
    (slot : ∀ b o, b ≠ X.env.locals → b ∈ X.fs → b ∉ ch → s.heap.get? b = some o → H b = none → ∃ sl, h'.get? b = some { o with slots := sl }) (free : ∀ b o, b ∉ ch → s.heap.get? b = some o → H b = none → H' b = none)
    (there : ∀ b o, b ∉ ch → s.heap.get? b = some o → ∃ o', h'.get? b = some o')
    (tups : ∀ b xs, H b = some (.tup xs) → H' b = some (.tup xs)) (frzs : ∀ b o u, H b = some (.frz o u) → H' b = some (.frz o u)) (tbls : ∀ b ps, H b = some (.tbl ps) → ∃ more, H' b = some (.tbl (ps ++ more)))
    (ns : ∀ m, s.heap.Ns X.env.locals m → h'.Ns X.env.locals m) (hok : HOk X.prog X.w H' h') (hg : AllBare g') :
    Inv X pins σ H' { s with heap := h', gens := g', drawn := d', toks := t' } := by
  have neL : ∀ b o, X.s₀.heap.get? b = some o → b ≠ X.env.locals := fun b o e => Nat.ne_of_lt (Nat.lt_of_lt_of_le (Heap.lt_size e) I.ok.above)
  have neC : ∀ b o, X.s₀.heap.get? b = some o → b ∉ X.ex → b ∉ ch := fun b o e hx hb => by
    rcases (hch b hb).1 with z | z
    · exact hx z
    · exact absurd (Nat.lt_of_lt_of_le (Heap.lt_size e) z) (Nat.lt_irrefl _)
  have cellK : ∀ x c, X.env.cells.lookup x = some c → ∀ v, s.heap.IsCell c v → h'.IsCell c v := fun x c e v ⟨o, ho, hd⟩ => by
    have nch : c ∉ ch := fun z => (hch c z).2.2.1 x c e rfl
    by_cases hc : c ∈ X.fs
    · obtain ⟨sl, q⟩ := slot c o (I.cne x c e) hc nch ho (I.freeC x c e)
      exact ⟨_, q, hd⟩
    · exact ⟨o, keep c o (I.cne x c e) hc nch ho (I.freeC x c e), hd⟩
  refine ⟨I.ok, I.os, hg, ⟨fun b o e n hb hx => ?_, fun b o e n hb hx => ?_, fun b o e n hx => ?_, fun b o e hx => ?_, fun b xs e => tups b xs (I.base.tups b xs e), fun b o xs e => frzs b o xs (I.base.frzs b o xs e), fun b ps e => ?_⟩, ?_, fun x c e => ?_, ?_, fun x c e => ?_, fun p hp => ?_, hok, I.len⟩
  · exact keep b o (neL b o e) hb (neC b o e hx) (I.base.keep b o e n hb hx) (I.base.free b o e n hx)
  · obtain ⟨sl, e1⟩ := I.base.slot b o e n hb hx
    obtain ⟨sl', e2⟩ := slot b _ (neL b o e) hb (neC b o e hx) e1 (I.base.free b o e n hx)
    exact ⟨sl', e2⟩
  · obtain ⟨o', e1⟩ := I.base.there b o e hx
    exact free b o' (neC b o e hx) e1 (I.base.free b o e n hx)
  · obtain ⟨o', e1⟩ := I.base.there b o e hx
    exact there b o' (neC b o e hx) e1
  · obtain ⟨m1, e1⟩ := I.base.tbls b ps e
    obtain ⟨m2, e2⟩ := tbls b _ e1
    exact ⟨m1 ++ m2, by rw [e2, Array.append_assoc]⟩
  · obtain ⟨m, hn, hl⟩ := I.loc
    refine ⟨m, ns m hn, fun i x v e1 e2 e3 => ?_⟩
    obtain ⟨u, r, l⟩ := hl i x v e1 e2 e3
    refine ⟨u, r, ?_⟩
    rcases l with l | ⟨k, c, e, z⟩
    · exact .inl l
    · exact .inr ⟨k, c, e, cellK x c e _ z⟩
  · obtain ⟨v, z⟩ := I.cell x c e
    exact ⟨v, cellK x c e v z⟩
  · obtain ⟨m, ⟨o, _, _, ho, _⟩, _⟩ := I.loc
    exact free _ o (fun z => (hch _ z).2.1 rfl) ho I.free
  · obtain ⟨v, o, ho, hd⟩ := I.cell x c e
    exact free c o (fun z => (hch c z).2.2.1 x c e rfl) ho (I.freeC x c e)
  · obtain ⟨e, n, ne, nf, d⟩ := I.pin p hp
    have nch : p.1 ∉ ch := fun z => (hch p.1 z).2.2.2 p hp rfl
    exact ⟨keep p.1 p.2 ne nf nch e n, free p.1 p.2 nch e n, ne, nf, d⟩
/-- .. where the frame's own object is kept too -/
theorem Inv.un {t' : Nat} (I : Inv X pins σ H s) (u : Un X.fs [] H H' s.heap h') (hok : HOk X.prog X.w H' h') : Inv X pins σ H' { s with heap := h', toks := t' } := by
  obtain ⟨m, ⟨o, es, ep, ho, r⟩, _⟩ := id I.loc
  obtain ⟨sl, hL⟩ := u.any ho I.free (by simp)
  exact I.step (g' := s.gens) (d' := s.drawn) (ch := []) (fun _ z => nomatch z) (fun b o _ hb _ e n => u.keep b o e n hb (by simp)) (fun b o _ hb _ e n => u.slot b o e n hb (by simp)) (fun b o _ e n => u.free b o e n (by simp)) (fun b o _ e => u.there b o e (by simp)) u.tups u.frzs u.tbls (fun m' hm => by
    obtain ⟨o', es', ep', ho', r'⟩ := hm
    rw [ho] at ho'; cases ho'
    exact ⟨_, es', ep', hL, r'⟩) hok I.bare
/-- behind a call (or a comprehension's block): the slots of this frame may have changed too, the records at ch may have turned -/
theorem Inv.call {g' : Array GenState} {t' : Nat} {d' : Drawn} {ch : List Addr} (I : Inv X pins σ H s) (u : Un (frs X.stack) ch H H' s.heap h') (hok : HOk X.prog X.w H' h') (hg : AllBare g')
    (hch : ∀ b ∈ ch, (b ∈ X.ex ∨ X.s₀.heap.objs.size ≤ b) ∧ b ≠ X.env.locals ∧ (∀ x c, X.env.cells.lookup x = some c → c ≠ b) ∧ ∀ p ∈ X.pn ++ pins, p.1 ≠ b) :
    Inv X pins σ H' { s with heap := h', gens := g', drawn := d', toks := t' } := by
  obtain ⟨m, ⟨o, es, ep, ho, r⟩, _⟩ := id I.loc
  obtain ⟨sl, hL⟩ := u.any ho I.free fun z => (hch _ z).2.1 rfl
  exact I.step (ch := ch) hch (fun b o hL hb hc e n => u.keep b o e n (fun z => (List.mem_cons.mp (I.stkSub b z)).elim hL hb) hc) (fun b o _ _ hc e n => u.any e n hc) (fun b o hc e n => u.free b o e n hc) (fun b o hc e => u.there b o e hc) u.tups u.frzs u.tbls (fun m' hm => by
    obtain ⟨o', es', ep', ho', r'⟩ := hm
    rw [ho] at ho'; cases ho'
    exact ⟨_, es', ep', hL, r'⟩) hok hg
/-- an untracked record of ours (an iterator) has turned -/
theorem Inv.turned {t' : Nat} {it : Addr} (I : Inv X pins σ H s) (k : ∀ b o, b ≠ it → s.heap.get? b = some o → h'.get? b = some o) (hn : H it = none) (hL : it ≠ X.env.locals)
    (h1 : it ∈ X.ex ∨ X.s₀.heap.objs.size ≤ it) (h2 : ∀ x c, X.env.cells.lookup x = some c → c ≠ it) (h3 : ∀ p ∈ X.pn ++ pins, p.1 ≠ it) : Inv X pins σ H { s with heap := h', toks := t' } := by
  have nit : ∀ b u, H b = some u → b ≠ it := fun b u e z => by rw [z, hn] at e; cases e
  refine I.step (g' := s.gens) (d' := s.drawn) (ch := [it]) (fun b hb => ?_) (fun b o _ _ hc e _ => k b o (fun z => hc (by simp [z])) e) (fun b o _ _ hc e _ => ⟨o.slots, k b o (fun z => hc (by simp [z])) e⟩) (fun _ _ _ _ n => n)
    (fun b o hc e => ⟨o, k b o (fun z => hc (by simp [z])) e⟩) (fun _ _ e => e) (fun _ _ _ e => e) (fun b ps e => ⟨#[], by rw [e]; simp⟩) (fun m hm => ?_) (fun b u e => ?_) I.bare
  · have e : b = it := by simpa using hb
    subst e
    exact ⟨h1, hL, h2, h3⟩
  · obtain ⟨o, es, ep, ho, r⟩ := hm
    exact ⟨o, es, ep, k _ o (Ne.symm hL) ho, r⟩
  · refine (I.hok b u e).stay (fun c v hc q => k c v ?_ q) (fun _ q => q) fun _ _ q => q
    rcases hc with z | z
    · rw [z]; exact nit b u e
    · exact nit c _ z
theorem Inv.tok (I : Inv X pins σ H s) (t : Nat) : Inv X pins σ H { s with toks := t } := I.un (h' := s.heap) (t' := t) Un.refl I.hok
/-- all objects kept -/
theorem Inv.kept {t' : Nat} (I : Inv X pins σ H s) (k : ∀ b u, s.heap.get? b = some u → h'.get? b = some u) : Inv X pins σ H { s with heap := h', toks := t' } := I.un (Un.kept k) (I.hok.kept k)
/-- a new object laid and tracked -/
theorem Inv.laid {a : Addr} {o : HO} {t' : Nat} (I : Inv X pins σ H s) (k : ∀ b u, s.heap.get? b = some u → h'.get? b = some u) (hp : s.heap.objs.size ≤ a) (new : ObjOk X.prog X.w (upd H a o) h' a o) :
    Inv X pins σ (upd H a o) { s with heap := h', toks := t' } := I.un (Un.laid k hp (I.hok.fresh hp)) (I.hok.laid k hp new)
/-- an object written -/
theorem Inv.write {x e : Addr} {o : HO} {t' : Nat} (I : Inv X pins σ H s) (mu : Mut (H x)) (he : e = x ∨ H e = some (.own x)) (k : ∀ b u, b ≠ e → s.heap.get? b = some u → h'.get? b = some u) (heo : ∃ u, h'.get? e = some u)
    (new : ObjOk X.prog X.w (upd H x o) h' x o) : Inv X pins σ (upd H x o) { s with heap := h', toks := t' } := I.un (Un.write mu he k heo) (I.hok.write mu he k heo new)
theorem Inv.pins_of {pins' : List (Addr × Obj)} (I : Inv X pins σ H s) (h : ∀ p ∈ pins', s.heap.get? p.1 = some p.2 ∧ H p.1 = none ∧ p.1 ≠ X.env.locals ∧ p.1 ∉ X.fs ∧ ∀ v, p.2.data ≠ .cell v) : Inv X pins' σ H s :=
  ⟨I.ok, I.os, I.bare, I.base, I.loc, I.cell, I.free, I.freeC, fun p hp => (List.mem_append.mp hp).elim (fun z => I.pin p (List.mem_append_left _ z)) (h p), I.hok, I.len⟩

theorem nodup_ix {N : List Str} (hN : N.Nodup) {i j : Nat} {x : Str} (a : N[i]? = some x) (b : N[j]? = some x) : i = j := by
  obtain ⟨h1, e1⟩ := List.getElem?_eq_some_iff.mp a
  obtain ⟨h2, e2⟩ := List.getElem?_eq_some_iff.mp b
  exact (List.getElem_inj hN).mp (e1.trans e2.symm)

/-- a name is stored; what changed -/
theorem store_ok2 {M : Model} {A : Around} {E : Value → Shared → Prop} {i : Nat} {x : Str} {v : V} {u : Value} {Q : Unit → Shared → Prop} (I : Inv X pins σ H s) (hN : X.N.Nodup) (hi : X.N[i]? = some x) (hx : Loc X.env.scope x) (r : RelV v u)
    (h : ∀ s', Inv X pins (σ.set i (some v)) H s' → (∃ a, Heap.SameBut a s.heap s'.heap ∧ (a = X.env.locals ∨ X.env.cells.lookup x = some a)) → Q () s') (hf : X.fn x = true ∨ X.env.scope.names.lookup x = some .local := by first | exact .inl rfl | exact .inr rfl | assumption) : wpAny M A (storeName X.env x u) Q E s := by
  obtain ⟨m, hn, hl⟩ := id I.loc
  have hcls : (X.env.scope.kind == .class || (X.env.scope.kind == .module && X.env.locals != X.env.globals)) = false := by rw [I.ok.kind]; rfl
  have hiσ : i < σ.length := by rw [I.len]; exact (List.getElem?_eq_some_iff.mp hi).1
  have cne := I.cne
  have tracked : ∀ {a : Addr} {h' : Heap}, (∃ o, s.heap.get? a = some o ∧ H a = none) → Heap.SameBut a s.heap h' → HOk X.prog X.w H h' := fun {a h'} ha hs b ob e => by
    obtain ⟨_, _, hfree⟩ := ha
    refine (I.hok b ob e).stay (fun c w' hc q => (hs.2 c ?_).trans q) (fun _ q => q) fun _ _ q => q
    rintro rfl
    rcases hc with rfl | hc
    · rw [hfree] at e; cases e
    · rw [hfree] at hc; cases hc
  rcases hx with hk | hk
  · refine wpAny_storeName_local hk hn (fun h' hn' hs => ?_) hcls
    obtain ⟨oL, _, _, hoL, _⟩ := id hn
    refine h _ ⟨I.ok, I.os, I.bare, ⟨fun b o e n hb hx => ?_, fun b o e n hb hx => ?_, I.base.free, fun b o e hx => ?_, I.base.tups, I.base.frzs, I.base.tbls⟩, ⟨_, hn', fun j y v' e1 e2 e3 => ?_⟩, fun y c e => ?_, I.free, I.freeC, fun p hp => ?_, tracked ⟨oL, hoL, I.free⟩ hs, by simpa using I.len⟩ ⟨_, hs, .inl rfl⟩
    · exact (hs.2 b (Nat.ne_of_lt (Nat.lt_of_lt_of_le (Heap.lt_size e) I.ok.above))).trans (I.base.keep b o e n hb hx)
    · obtain ⟨sl, e1⟩ := I.base.slot b o e n hb hx
      exact ⟨sl, (hs.2 b (Nat.ne_of_lt (Nat.lt_of_lt_of_le (Heap.lt_size e) I.ok.above))).trans e1⟩
    · obtain ⟨o', e1⟩ := I.base.there b o e hx
      exact ⟨o', (hs.2 b (Nat.ne_of_lt (Nat.lt_of_lt_of_le (Heap.lt_size e) I.ok.above))).trans e1⟩
    · by_cases hj : j = i
      · subst hj
        rw [hi] at e1; cases e1
        rw [List.getElem?_set_self hiσ] at e2
        cases e2
        exact ⟨u, r, .inl ⟨hk, by simp⟩⟩
      · rw [List.getElem?_set_ne (Ne.symm hj)] at e2
        obtain ⟨u', r', q⟩ := hl j y v' e1 e2 e3
        refine ⟨u', r', ?_⟩
        rcases q with ⟨k, e⟩ | ⟨k, c, e, z⟩
        · refine .inl ⟨k, ?_⟩
          have : y ≠ x := fun e => hj (nodup_ix hN e1 (e ▸ hi))
          simp [this, e]
        · exact .inr ⟨k, c, e, z.sameBut hs (cne y c e)⟩
    · obtain ⟨w', z⟩ := I.cell y c e
      exact ⟨w', z.sameBut hs (cne y c e)⟩
    · obtain ⟨e, n, ne, nf, d⟩ := I.pin p hp
      exact ⟨(hs.2 p.1 ne).trans e, n, ne, nf, d⟩
  · have hfn : X.fn x = true := by
      rcases hf with z | z
      · exact z
      · rw [z] at hk; cases hk
    obtain ⟨c, hc⟩ := I.ok.has x (.inl hk)
    obtain ⟨w', z⟩ := I.cell x c hc
    refine wpAny_storeName_cell I.ok.kind hk hc z (fun h' hc' hs => ?_)
    obtain ⟨oc, hoc, hocd⟩ := id z
    refine h { s with heap := h' } ⟨I.ok, I.os, I.bare, ⟨fun b o e n hb hx => ?_, fun b o e n hb hx => ?_, I.base.free, fun b o e hx => ?_, I.base.tups, I.base.frzs, I.base.tbls⟩, ⟨m, hn.sameBut hs (Ne.symm (cne x c hc)), fun j y v' e1 e2 e3 => ?_⟩, fun y c' e => ?_, I.free, I.freeC, fun p hp => ?_, tracked ⟨oc, hoc, I.freeC x c hc⟩ hs, by simpa using I.len⟩ ⟨c, hs, .inr hc⟩
    · exact (hs.2 b (Nat.ne_of_lt (Nat.lt_of_lt_of_le (Heap.lt_size e) (I.ok.cab x c hfn hc)))).trans (I.base.keep b o e n hb hx)
    · obtain ⟨sl, e1⟩ := I.base.slot b o e n hb hx
      exact ⟨sl, (hs.2 b (Nat.ne_of_lt (Nat.lt_of_lt_of_le (Heap.lt_size e) (I.ok.cab x c hfn hc)))).trans e1⟩
    · obtain ⟨o', e1⟩ := I.base.there b o e hx
      exact ⟨o', (hs.2 b (Nat.ne_of_lt (Nat.lt_of_lt_of_le (Heap.lt_size e) (I.ok.cab x c hfn hc)))).trans e1⟩
    · by_cases hj : j = i
      · subst hj
        rw [hi] at e1; cases e1
        rw [List.getElem?_set_self hiσ] at e2
        cases e2
        exact ⟨u, r, .inr ⟨.inl hk, c, hc, hc'⟩⟩
      · rw [List.getElem?_set_ne (Ne.symm hj)] at e2
        obtain ⟨u', r', q⟩ := hl j y v' e1 e2 e3
        refine ⟨u', r', ?_⟩
        rcases q with q | ⟨k, c', e, z'⟩
        · exact .inl q
        · refine .inr ⟨k, c', e, z'.sameBut hs ?_⟩
          rintro rfl
          exact hj (nodup_ix hN e1 (I.ok.inj _ _ _ e hc ▸ hi))
    · by_cases hcc : c' = c
      · subst hcc; exact ⟨_, hc'⟩
      · obtain ⟨w2, z2⟩ := I.cell y c' e
        exact ⟨w2, z2.sameBut hs hcc⟩
    · obtain ⟨e, n, ne, nf, d⟩ := I.pin p hp
      refine ⟨(hs.2 p.1 ?_).trans e, n, ne, nf, d⟩
      intro q
      rw [q, hoc] at e
      have q' : oc = p.2 := Option.some.inj e
      exact d w' (by rw [← q']; exact hocd)
theorem store_ok {M : Model} {A : Around} {E : Value → Shared → Prop} {i : Nat} {x : Str} {v : V} {u : Value} {Q : Unit → Shared → Prop} (I : Inv X pins σ H s) (hN : X.N.Nodup) (hi : X.N[i]? = some x) (hx : Loc X.env.scope x) (r : RelV v u)
    (h : ∀ s', Inv X pins (σ.set i (some v)) H s' → Q () s') (hf : X.fn x = true ∨ X.env.scope.names.lookup x = some .local := by first | exact .inl rfl | exact .inr rfl | assumption) : wpAny M A (storeName X.env x u) Q E s :=
  store_ok2 I hN hi hx r (fun s' I' _ => h s' I') hf
/-- behind a call or a block, the state as it is -/
theorem Inv.call' {s' : Shared} {ch : List Addr} (I : Inv X pins σ H s) (ho : s'.os = s.os) (u : Un (frs X.stack) ch H H' s.heap s'.heap) (hok : HOk X.prog X.w H' s'.heap) (hg : AllBare s'.gens)
    (hch : ∀ b ∈ ch, (b ∈ X.ex ∨ X.s₀.heap.objs.size ≤ b) ∧ b ≠ X.env.locals ∧ (∀ x c, X.env.cells.lookup x = some c → c ≠ b) ∧ ∀ p ∈ X.pn ++ pins, p.1 ≠ b) : Inv X pins σ H' s' := by
  obtain ⟨h', g', d', t', o'⟩ := s'
  have e : o' = s.os := ho
  subst e
  exact I.call (g' := g') (t' := t') (d' := d') u hok hg hch
end

/-! ### the judgements -/
/-- an exception: its class, its own dict's address (where it has one), the abstract heap behind it -/
abbrev XK := Value → Option Addr → Hp → Prop
abbrev St := List (Option V)
abbrev VK := V → Hp → Prop
/-- an expression's reading; a test's; an argument list's -/
abbrev TE := St → Hp → VK → Prop
abbrev TT := St → Hp → (Bool → Hp → Prop) → Prop
abbrev TA := St → Hp → (List V → Hp → Prop) → Prop
/-- what is wanted behind a statement -/
structure Ends where
  nx : St → Hp → Prop
  rt : VK
  bk : St → Hp → Prop := fun _ _ => False
  ct : St → Hp → Prop := fun _ _ => False
abbrev TS := Ends → St → Hp → Prop

def EP (X : Cx) (pins : List (Addr × Obj)) (σ : St) (Q : VK) (u : Value) (s' : Shared) : Prop := ∃ v H', Inv X pins σ H' s' ∧ RelV v u ∧ Q v H'
def TP (X : Cx) (pins : List (Addr × Obj)) (σ : St) (Q : Bool → Hp → Prop) (b : Bool) (s' : Shared) : Prop := ∃ H', Inv X pins σ H' s' ∧ Q b H'
def AP (X : Cx) (pins : List (Addr × Obj)) (σ : St) (Q : List V → Hp → Prop) (us : List Value) (s' : Shared) : Prop := ∃ vs H', Inv X pins σ H' s' ∧ Vals vs us ∧ Q vs H'
def SP (X : Cx) (pins : List (Addr × Obj)) (D : Ends) (f : Flow) (s' : Shared) : Prop :=
  match f with
  | .next => ∃ σ' H', Inv X pins σ' H' s' ∧ D.nx σ' H'
  | .brk => ∃ σ' H', Inv X pins σ' H' s' ∧ D.bk σ' H'
  | .cont => ∃ σ' H', Inv X pins σ' H' s' ∧ D.ct σ' H'
  | .ret u => ∃ v σ' H', Inv X pins σ' H' s' ∧ RelV v u ∧ D.rt v H'

def PE (X : Cx) (e : Expr) (t : TE) : Prop :=
  ∀ (pins : List (Addr × Obj)) (s : Shared) (σ : St) (H : Hp) (Q : VK), Inv X pins σ H s → t σ H Q → wpAny (model X.prog X.w) X.A (eval e X.env) (EP X pins σ Q) X.xe s
def PT (X : Cx) (e : Expr) (t : TT) : Prop :=
  ∀ (pins : List (Addr × Obj)) (s : Shared) (σ : St) (H : Hp) (Q : Bool → Hp → Prop), Inv X pins σ H s → t σ H Q → wpAny (model X.prog X.w) X.A (isTrue e X.env (eval e X.env)) (TP X pins σ Q) X.xe s
/-- a test whatever its 'whole' is (and, or) -/
def PW (X : Cx) (e : Expr) (t : TT) : Prop :=
  ∀ (whole : Sem Value) (pins : List (Addr × Obj)) (s : Shared) (σ : St) (H : Hp) (Q : Bool → Hp → Prop), Inv X pins σ H s → t σ H Q → wpAny (model X.prog X.w) X.A (isTrue e X.env whole) (TP X pins σ Q) X.xe s
theorem PW.pt {X : Cx} {e : Expr} {t : TT} (h : PW X e t) : PT X e t := h _
/-- an argument list (no star), from the left -/
def PA (X : Cx) (es : List Expr) (t : TA) : Prop :=
  ∀ (pos : Pos) (pins : List (Addr × Obj)) (s : Shared) (σ : St) (H : Hp) (Q : List V → Hp → Prop), Inv X pins σ H s → t σ H Q → wpAny (model X.prog X.w) X.A (spliced (backTo pos (starEach es X.env))) (AP X pins σ Q) X.xe s
def PS (X : Cx) (st : Stmt) (t : TS) : Prop :=
  ∀ (pins : List (Addr × Obj)) (s : Shared) (σ : St) (H : Hp) (D : Ends), Inv X pins σ H s → t D σ H → wpAny (model X.prog X.w) X.A (exec st X.env) (SP X pins D) X.xe s
def PSs (X : Cx) (st : List Stmt) (t : TS) : Prop :=
  ∀ (pins : List (Addr × Obj)) (s : Shared) (σ : St) (H : Hp) (D : Ends), Inv X pins σ H s → t D σ H → wpAny (model X.prog X.w) X.A (execs st X.env) (SP X pins D) X.xe s
/-- weaken the end -/
theorem thn {α : Type} {t : Sem α} {Q Q' : α → Shared → Prop} {M : Model} {A : Around} {E : Value → Shared → Prop} {s : Shared} (h : wpAny M A t Q E s) (hQ : ∀ a s, Q a s → Q' a s) : wpAny M A t Q' E s := wpAny_mono h hQ fun _ _ x => x
end L2

namespace L2
open PySem PySem.Spec PyProof.Rows
section
variable {X : Cx}

/-! ### names and constants -/
def tVar (i : Nat) : TE := fun σ H Q => ∃ v, σ[i]? = some (some v) ∧ Q v H
def tC (v : V) : TE := fun _ H Q => Q v H
theorem pe_var {i : Nat} {x : Str} {pos : Pos} (hN : X.N[i]? = some x) (hv : Vis X.env.scope x) (hd : (x == ("__debug__" : Str)) = false := by decide) (hcd : (x == ("__classdict__" : Str)) = false := by decide) : PE X (.Name x pos) (tVar i) := by
  intro pins s σ H Q I h
  obtain ⟨v, e, h⟩ := h
  obtain ⟨m, hn, hl⟩ := I.loc
  obtain ⟨u, r, l⟩ := hl i x v hN e hv
  have fin : EP X pins σ Q u s := ⟨v, H, I, r, h⟩
  rcases l with ⟨hk, hm⟩ | ⟨hk, c, hc, hcell⟩
  · exact wpAny_Name (wpAny_loadName_local I.ok.kind hk hn hm fin) hd
  · rcases hk with hk | hk
    · exact wpAny_Name (wpAny_loadName_cell I.ok.kind hk hc hcell fin) hd
    · exact wpAny_Name (wpAny_loadName_free I.ok.kind hk hc hcell fin hcd) hd
theorem pe_int {i j pos} : PE X (.Constant (.int i) j pos) (tC (.int i)) := fun _ _ _ H _ I h => wpAny_Constant_int ⟨.int i, H, I.tok _, ⟨_, rfl⟩, h⟩
theorem pe_bl {b j pos} : PE X (.Constant (.bool b) j pos) (tC (.bl b)) := fun _ _ _ H _ I h => Constant_bool ⟨.bl b, H, I, rfl, h⟩
theorem pe_non {j pos} : PE X (.Constant .none j pos) (tC .non) := fun _ _ _ H _ I h => Constant_none ⟨.non, H, I, rfl, h⟩
theorem pe_str {x j pos} : PE X (.Constant (.str x) j pos) (tC (.str x)) := fun _ _ _ H _ I h => Calls.Constant_str ⟨.str x, H, I.tok _, ⟨_, rfl⟩, h⟩

/-- a global name of the def -/
def Gl (X : Cx) (x : Str) : Prop := X.env.kindOf x = some .globalImplicit
theorem ld_glob {E : Value → Shared → Prop} {pins : List (Addr × Obj)} {s : Shared} {σ : St} {H : Hp} {x : Str} {u : Value} {pos : Pos} {Q : Value → Shared → Prop} (I : Inv X pins σ H s) (hg : Gl X x) (hm : X.mg x = some u) (h : Q u s)
    (hd : (x == ("__debug__" : Str)) = false := by decide) : wpAny (model X.prog X.w) X.A (eval (.Name x pos) X.env) Q E s :=
  Calls.Name_function_global I.ok.kind hg (Calls.loadGlobal_global (by rw [I.ok.glob]; exact I.mod.glob.keeps I.bk) hm h) hd
theorem ld_blt {E : Value → Shared → Prop} {pins : List (Addr × Obj)} {s : Shared} {σ : St} {H : Hp} {x : Str} {u : Value} {pos : Pos} {Q : Value → Shared → Prop} (I : Inv X pins σ H s) (hg : Gl X x) (hm : X.mg x = none) (hv : bootBuiltins x = some u) (h : Q u s)
    (hn : x ≠ "__name__" := by decide) (hd : (x == ("__debug__" : Str)) = false := by decide) : wpAny (model X.prog X.w) X.A (eval (.Name x pos) X.env) Q E s := by
  obtain ⟨mb, h1, h2⟩ := I.mod.blt
  exact Calls.Name_function_global I.ok.kind hg (Calls.loadGlobal_builtin (by rw [I.ok.glob]; exact I.mod.glob.keeps I.bk) hm (by rw [I.ok.blt]; exact h1.keeps I.bk) ((h2 x hn).trans hv) h) hd
theorem pe_bltn {x : Str} {v : V} {u : Value} {pos : Pos} (hg : Gl X x) (hm : X.mg x = none) (hv : bootBuiltins x = some u) (r : RelV v u) (hn : x ≠ "__name__" := by decide) (hd : (x == ("__debug__" : Str)) = false := by decide) : PE X (.Name x pos) (tC v) :=
  fun _ _ _ H _ I h => ld_blt I hg hm hv ⟨v, H, I, r, h⟩ hn hd

/-! ### arithmetic -/
variable {a b : Expr} {ta tb : TE} {pos : Pos}
/-! ### comparisons -/
/-- a comparison as a value, as a test -/
def tB (t : TE) : TT := fun σ H Q => t σ H fun x H1 => ∃ c, x = .bl c ∧ Q c H1
/-- an expression whose value is a bool, as a test -/
theorem pt_val {e : Expr} {t : TE} (h : PE X e t) (he : ∀ whole, isTrue e X.env whole = (do let v ← whole; standAt e.pos; holding [v] (truthy v)) := by intro _; rfl) : PT X e (tB t) := by
  intro pins s σ H Q I hw
  refine isTrue_plain (thn (h pins s σ H _ I hw) fun v s1 ⟨x, H1, I1, r1, q1⟩ => ?_) (he _)
  obtain ⟨d, rfl, q⟩ := q1
  cases r1
  exact wpAny_truthy_bool ⟨H1, I1, q⟩

/-! ### and, or, not -/
variable {tA tB' : TT} {rest : List Expr}
def tAnd (t u : TT) : TT := fun σ H Q => t σ H fun c H1 => if c = true then u σ H1 Q else Q false H1
def tOr (t u : TT) : TT := fun σ H Q => t σ H fun c H1 => if c = true then Q true H1 else u σ H1 Q
def tNot (t : TT) : TT := fun σ H Q => t σ H fun c H1 => Q (!c) H1
theorem pw_and1 (ha : PT X a tA) : PW X (.BoolOp .And [a] pos) tA := by
  intro wh pins s σ H Q I h
  refine isTrue_and (thn (ha pins s σ H Q I h) fun c s1 e => ?_)
  cases c with
  | true => exact isTrue_and_nil e
  | false => exact e
theorem pw_or1 (ha : PT X a tA) : PW X (.BoolOp .Or [a] pos) tA := by
  intro wh pins s σ H Q I h
  refine isTrue_or (thn (ha pins s σ H Q I h) fun c s1 e => ?_)
  cases c with
  | false => exact isTrue_or_nil e
  | true => exact e
theorem pw_and (ha : PT X a tA) (hb : PW X (.BoolOp .And (b :: rest) pos) tB') : PW X (.BoolOp .And (a :: b :: rest) pos) (tAnd tA tB') := by
  intro wh pins s σ H Q I h
  refine isTrue_and (thn (ha pins s σ H _ I h) fun c s1 ⟨H1, I1, q1⟩ => ?_)
  cases c with
  | true => exact hb wh pins s1 σ H1 Q I1 q1
  | false => exact ⟨H1, I1, q1⟩
theorem pw_or (ha : PT X a tA) (hb : PW X (.BoolOp .Or (b :: rest) pos) tB') : PW X (.BoolOp .Or (a :: b :: rest) pos) (tOr tA tB') := by
  intro wh pins s σ H Q I h
  refine isTrue_or (thn (ha pins s σ H _ I h) fun c s1 ⟨H1, I1, q1⟩ => ?_)
  cases c with
  | true => exact ⟨H1, I1, q1⟩
  | false => exact hb wh pins s1 σ H1 Q I1 q1
theorem pt_not (ha : PT X a tA) : PT X (.UnaryOp .Not a pos) (tNot tA) := by
  intro pins s σ H Q I h
  exact isTrue_not (ha pins s σ H (fun c H1 => Q (!c) H1) I h)
/-- .. as values (bools) -/
def tAndV (ta tb : TE) : TE := fun σ H Q => ta σ H fun x H1 => ∃ c, x = .bl c ∧ if c = true then tb σ H1 Q else Q (.bl false) H1
def tNotV (ta : TE) : TE := fun σ H Q => ta σ H fun x H1 => ∃ c, x = .bl c ∧ Q (.bl (!c)) H1
theorem pe_one {op} {t : TE} (h : PE X a t) : PE X (.BoolOp op [a] pos) t := fun pins s σ H Q I hw => BoolOp_one (h pins s σ H Q I hw)
theorem pe_and (ha : PE X a ta) (hb : PE X (.BoolOp .And (b :: rest) pos) tb) : PE X (.BoolOp .And (a :: b :: rest) pos) (tAndV ta tb) := by
  intro pins s σ H Q I h
  refine BoolOp_and (thn (ha pins s σ H _ I h) fun v s1 ⟨x, H1, I1, r1, q1⟩ => ?_)
  obtain ⟨c, rfl, q1⟩ := q1
  cases r1
  refine wpAny_truthy_bool ?_
  cases c with
  | true => exact hb pins s1 σ H1 Q I1 q1
  | false => exact ⟨.bl false, H1, I1, rfl, q1⟩
theorem pe_not (ha : PE X a ta) : PE X (.UnaryOp .Not a pos) (tNotV ta) := by
  intro pins s σ H Q I h
  refine UnaryOp_ (thn (ha pins s σ H _ I h) fun v s1 ⟨x, H1, I1, r1, q1⟩ => ?_)
  obtain ⟨c, rfl, q1⟩ := q1
  cases r1
  exact not_of (wpAny_truthy_bool ⟨.bl (!c), H1, I1, rfl, q1⟩)
/-- a if t else b -/
def tIf (t : TT) (ta tb : TE) : TE := fun σ H Q => t σ H fun c H1 => if c = true then ta σ H1 Q else tb σ H1 Q
theorem pe_ifExp {c : Expr} (hc : PT X c tA) (ha : PE X a ta) (hb : PE X b tb) : PE X (.IfExp c a b pos) (tIf tA ta tb) := by
  intro pins s σ H Q I h
  refine wpAny_IfExp (thn (hc pins s σ H _ I h) fun d s1 ⟨H1, I1, q1⟩ => ?_)
  cases d with
  | true => exact ha pins s1 σ H1 Q I1 q1
  | false => exact hb pins s1 σ H1 Q I1 q1
end
end L2

namespace L2
open PySem PySem.Spec PyProof.Rows

/-! ### a list, a tuple that is read: tracked, frozen, or an object of the module -/
def SqL (K : PySem.W.Frag) (H : Hp) (a : Addr) (xs : List V) : Prop :=
  Rd H a (.lst xs) ∨
    ∃ (o : Obj) (its : Array Value) (n : Nat), K.lookup a = some o ∧ o.cls = .type "list" ∧ o.dict = none ∧ o.data = .seq its n ∧ its.size ≤ sizeLine ∧ Vals xs its.toList
def SqT (K : PySem.W.Frag) (H : Hp) (a : Addr) (xs : List V) : Prop :=
  Rd H a (.tup xs) ∨
    ∃ (o : Obj) (its : Array Value) (n : Nat), K.lookup a = some o ∧ o.cls = .type "tuple" ∧ o.data = .seq its n ∧ its.size ≤ sizeLine ∧ Vals xs its.toList
def absV : Value → Option V
  | .none => some .non
  | .bool b => some (.bl b)
  | .int i _ => some (.int i)
  | .str x _ => some (.str x)
  | .bytes b _ => some (.byt b)
  | .float b _ => some (.flt b)
  | .ref a => some (.ref a)
  | .type n => some (.ty n)
  | _ => none
theorem RelV.abs {x : V} {u : Value} (r : RelV x u) : absV u = some x := by
  cases x with
  | non => cases r; rfl
  | bl _ => cases r; rfl
  | int _ => obtain ⟨t, rfl⟩ := r; rfl
  | str _ => obtain ⟨t, rfl⟩ := r; rfl
  | byt _ => obtain ⟨t, rfl⟩ := r; rfl
  | flt _ => obtain ⟨t, rfl⟩ := r; rfl
  | ref _ => cases r; rfl
  | ty _ => cases r; rfl
theorem RelV.inj {x y : V} {u : Value} (r : RelV x u) (q : RelV y u) : x = y := Option.some.inj (r.abs.symm.trans q.abs)
theorem Vals.inj : ∀ {xs ys : List V} {us : List Value}, Vals xs us → Vals ys us → xs = ys
  | _, _, _, .nil, .nil => rfl
  | _, _, _, .cons r t, .cons r' t' => by rw [r.inj r', Vals.inj t t']
section
variable {X : Cx} {pins : List (Addr × Obj)} {σ : St} {H : Hp} {s : Shared} {a : Addr} {xs ys : List V}
theorem SqL.of {K : PySem.W.Frag} (h : H a = some (.lst xs)) : SqL K H a xs := .inl (.inl h)
theorem SqT.of {K : PySem.W.Frag} (h : H a = some (.tup xs)) : SqT K H a xs := .inl (.inl h)
theorem Inv.list (I : Inv X pins σ H s) (h : SqL X.K H a xs) : ∃ its : List Value, Vals xs its ∧ PlainL s.heap a its.toArray ∧ xs.length ≤ sizeLine := by
  rcases h with h | ⟨o, its, n, hk, hc, hd, hs, hz, r⟩
  · obtain ⟨z, its, n, r, e⟩ := h.ok I.hok
    exact ⟨its, r, ⟨_, n, e, rfl, rfl, rfl⟩, z⟩
  · refine ⟨its.toList, r, ⟨o, n, I.kIn a o hk, hc, hd, by simpa using hs⟩, ?_⟩
    have e := r.length
    simp only [Array.length_toList] at e
    omega
theorem Inv.tuple (I : Inv X pins σ H s) (h : SqT X.K H a xs) : ∃ its : List Value, Vals xs its ∧ IsTup s.heap a its.toArray ∧ xs.length ≤ sizeLine := by
  rcases h with h | ⟨o, its, n, hk, hc, hs, hz, r⟩
  · obtain ⟨z, its, r, p, _⟩ := h.ok I.hok
    exact ⟨its, r, p, z⟩
  · refine ⟨its.toList, r, ⟨o, I.kIn a o hk, hc, n, by simpa using hs⟩, ?_⟩
    have e := r.length
    simp only [Array.length_toList] at e
    omega
theorem Inv.list_inj (I : Inv X pins σ H s) (h : SqL X.K H a xs) (h' : SqL X.K H a ys) : xs = ys := by
  obtain ⟨its, r, ⟨o, n, e, _, _, d⟩, _⟩ := I.list h
  obtain ⟨its', r', ⟨o', n', e', _, _, d'⟩, _⟩ := I.list h'
  rw [e] at e'; cases e'
  rw [d] at d'
  injection d' with d1 _
  have : its = its' := by simpa using congrArg Array.toList d1
  subst this
  exact r.inj r'
theorem Inv.tuple_inj (I : Inv X pins σ H s) (h : SqT X.K H a xs) (h' : SqT X.K H a ys) : xs = ys := by
  obtain ⟨its, r, ⟨o, e, _, n, d⟩, _⟩ := I.tuple h
  obtain ⟨its', r', ⟨o', e', _, n', d'⟩, _⟩ := I.tuple h'
  rw [e] at e'; cases e'
  rw [d] at d'
  injection d' with d1 _
  have : its = its' := by simpa using congrArg Array.toList d1
  subst this
  exact r.inj r'
end

/-! ### another wish about exceptions -/
abbrev Cx.wish (X : Cx) (E : Value → Shared → Prop) : Cx := { X with xe := E }
/-- no exception leaves -/
abbrev Cx.nox (X : Cx) : Cx := X.wish fun _ _ => False
theorem Cx.Ok.wish {X : Cx} (ok : X.Ok) (E : Value → Shared → Prop) : (X.wish E).Ok :=
  ⟨ok.mod, ok.kind, ok.glob, ok.blt, ok.above, ok.inj, ok.has, ok.cab, ok.hd, ok.frames, ok.stk, ok.exf, ok.bs, ok.bsz, ok.noex, ok.exfs, ok.funs, ok.frf⟩
theorem Cx.Ok.unwish {X : Cx} {E : Value → Shared → Prop} (ok : (X.wish E).Ok) : X.Ok :=
  ⟨ok.mod, ok.kind, ok.glob, ok.blt, ok.above, ok.inj, ok.has, ok.cab, ok.hd, ok.frames, ok.stk, ok.exf, ok.bs, ok.bsz, ok.noex, ok.exfs, ok.funs, ok.frf⟩
section
variable {X : Cx} {pins : List (Addr × Obj)} {σ : St} {H : Hp} {s : Shared} {E : Value → Shared → Prop}
theorem Inv.wish (I : Inv X pins σ H s) (E : Value → Shared → Prop) : Inv (X.wish E) pins σ H s := ⟨I.ok.wish E, I.os, I.bare, I.base, I.loc, I.cell, I.free, I.freeC, I.pin, I.hok, I.len⟩
theorem Inv.unwish (I : Inv (X.wish E) pins σ H s) : Inv X pins σ H s := ⟨I.ok.unwish, I.os, I.bare, I.base, I.loc, I.cell, I.free, I.freeC, I.pin, I.hok, I.len⟩
theorem SP.unwish {D : Ends} {f : Flow} {s' : Shared} (h : SP (X.wish E) pins D f s') : SP X pins D f s' := by
  cases f with
  | next => obtain ⟨σ', H', I, q⟩ := h; exact ⟨σ', H', I.unwish, q⟩
  | brk => obtain ⟨σ', H', I, q⟩ := h; exact ⟨σ', H', I.unwish, q⟩
  | cont => obtain ⟨σ', H', I, q⟩ := h; exact ⟨σ', H', I.unwish, q⟩
  | ret u => obtain ⟨v, σ', H', I, r, q⟩ := h; exact ⟨v, σ', H', I.unwish, r, q⟩
theorem PSs.nox {st : List Stmt} {t : TS} (h : PSs X.nox st t) : PSs X st t := fun pins s σ H D I hw =>
  wpAny_mono (h pins s σ H D (I.wish _) hw) (fun _ _ q => q.unwish) fun _ _ z => False.elim z
end

/-! ### blocks and small statements -/
section
variable {X : Cx} {st : Stmt} {rest : List Stmt} {t u : TS} {e : Expr} {te : TE} {pos : Pos}
def tNext : TS := fun D σ H => D.nx σ H
def tSeq (t u : TS) : TS := fun D σ H => t { D with nx := u D } σ H
theorem pss_nil : PSs X [] tNext := fun _ _ σ H _ I h => wpAny_execs_nil ⟨σ, H, I, h⟩
theorem pss_cons (h1 : PS X st t) (h2 : PSs X rest u) : PSs X (st :: rest) (tSeq t u) := by
  intro pins s σ H D I h
  refine wpAny_execs_cons (thn (h1 pins s σ H { D with nx := u D } I h) fun f s1 q => ?_)
  cases f with
  | next =>
    obtain ⟨σ', H', I', q⟩ := q
    exact h2 pins s1 σ' H' D I' q
  | ret v => exact q
  | brk => exact q
  | cont => exact q
theorem pss_one (h1 : PS X st t) : PSs X [st] t := by
  intro pins s σ H D I h
  refine wpAny_execs_cons (thn (h1 pins s σ H D I h) fun f s1 q => ?_)
  cases f with
  | next => exact wpAny_execs_nil q
  | ret v => exact q
  | brk => exact q
  | cont => exact q
/-- in a def's body nothing is shown -/
theorem Inv.quiet {pins : List (Addr × Obj)} {σ : St} {H : Hp} {s : Shared} (I : Inv X pins σ H s) : interactive X.env = false := by simp [interactive, I.ok.kind]
/-- an expression whose value is dropped -/
def tDrop (te : TE) : TS := fun D σ H => te σ H fun _ H1 => D.nx σ H1
theorem ps_expr (he : PE X e te) (hs : swapsWith e none pos.line X.env = pure false := by rfl) : PS X (.Expr e pos) (tDrop te) := by
  intro pins s σ H D I h
  exact wpAny_Expr_any (thn (he pins s σ H _ I h) fun v s1 ⟨x, H1, I1, r1, q1⟩ => ⟨σ, H1, I1, q1⟩) I.quiet hs
def tRet (te : TE) : TS := fun D σ H => te σ H D.rt
theorem ps_ret (he : PE X e te) : PS X (.Return (some e) pos) (tRet te) := by
  intro pins s σ H D I h
  exact wpAny_Return_some (thn (he pins s σ H _ I h) fun v s1 ⟨x, H1, I1, r1, q1⟩ => ⟨x, σ, H1, I1, r1, q1⟩)
def tIfS (c : TT) (t u : TS) : TS := fun D σ H => c σ H fun b H1 => if b = true then t D σ H1 else u D σ H1
theorem ps_if {c : Expr} {a b : List Stmt} {tc : TT} (hc : PT X c tc) (ha : PSs X a t) (hb : PSs X b u) : PS X (.If c a b pos) (tIfS tc t u) := by
  intro pins s σ H D I h
  refine wpAny_If (thn (hc pins s σ H _ I h) fun d s1 ⟨H1, I1, q1⟩ => ?_)
  cases d with
  | true => exact ha pins s1 σ H1 D I1 q1
  | false => exact hb pins s1 σ H1 D I1 q1
/-- code that the proof never comes to -/
def tNever : TS := fun _ _ _ => False
theorem ps_never : PS X st tNever := fun _ _ _ _ _ _ h => h.elim
end

/-! ### targets -/
abbrev TG := V → St → Hp → (St → Hp → Prop) → Prop
abbrev TGs := List V → St → Hp → (St → Hp → Prop) → Prop
def PG (X : Cx) (target : Expr) (t : TG) : Prop :=
  ∀ (pins : List (Addr × Obj)) (s : Shared) (σ : St) (H : Hp) (v : V) (u : Value) (Q : St → Hp → Prop), Inv X pins σ H s → RelV v u → t v σ H Q →
    wpAny (model X.prog X.w) X.A (assign target X.env u) (fun _ s' => ∃ σ' H', Inv X pins σ' H' s' ∧ Q σ' H') X.xe s
/-- several targets, one after another -/
def PGs (X : Cx) (ts : List Expr) (t : TGs) : Prop :=
  ∀ (pins : List (Addr × Obj)) (s : Shared) (σ : St) (H : Hp) (vs : List V) (us : List Value) (Q : St → Hp → Prop), Inv X pins σ H s → Vals vs us → t vs σ H Q →
    wpAny (model X.prog X.w) X.A (assignInOrder ((assignEach ts X.env).map (·.2)) us) (fun _ s' => ∃ σ' H', Inv X pins σ' H' s' ∧ Q σ' H') X.xe s
/-- o[i] = v, by values -/
abbrev TSet := V → V → V → Hp → (Hp → Prop) → Prop
def PSet (X : Cx) (t : TSet) : Prop :=
  ∀ (pins : List (Addr × Obj)) (s : Shared) (σ : St) (H : Hp) (o i v : V) (ov iv u : Value) (Q : Hp → Prop), Inv X pins σ H s → RelV o ov → RelV i iv → RelV v u → t o i v H Q →
    wpAny (model X.prog X.w) X.A (setItem ov iv u) (fun _ s' => ∃ H', Inv X pins σ H' s' ∧ Q H') X.xe s
section
variable {X : Cx} {pos : Pos}
def gName (i : Nat) : TG := fun v σ H Q => Q (σ.set i (some v)) H
theorem pg_name {i : Nat} {x : Str} (hN : X.N.Nodup) (hi : X.N[i]? = some x) (hx : Loc X.env.scope x) (hf : X.fn x = true ∨ X.env.scope.names.lookup x = some .local := by first | exact .inl rfl | exact .inr rfl | assumption) : PG X (.Name x pos) (gName i) := by
  intro pins s σ H v u Q I r h
  exact wpAny_assign_Name (store_ok I hN hi hx r (fun s' I' => ⟨_, H, I', h⟩) hf)
def gNil : TGs := fun vs σ H Q => vs = [] ∧ Q σ H
def gCons (t : TG) (u : TGs) : TGs := fun vs σ H Q => ∃ v r, vs = v :: r ∧ t v σ H fun σ' H' => u r σ' H' Q
theorem pgs_nil : PGs X [] gNil := by
  intro pins s σ H vs us Q I r h
  obtain ⟨e, h⟩ := h
  subst e
  cases r
  exact assignInOrder_nil ⟨σ, H, I, h⟩
theorem pgs_cons {e : Expr} {es : List Expr} {t : TG} {u : TGs} (h1 : PG X e t) (h2 : PGs X es u)
    (hs : (assignEach (e :: es) X.env).map (·.2) = assign e X.env :: (assignEach es X.env).map (·.2) := by rfl) : PGs X (e :: es) (gCons t u) := by
  intro pins s σ H vs us Q I r h
  obtain ⟨v, vr, e1, h⟩ := h
  subst e1
  cases r with
  | cons r rr =>
    rw [hs]
    refine assignInOrder_cons (thn (h1 pins s σ H _ _ _ I r h) fun _ s1 ⟨σ1, H1, I1, q1⟩ => ?_)
    exact h2 pins s1 σ1 H1 _ _ Q I1 rr q1
/-- (a, b, ..) = a tuple of that length -/
def gTup (K : PySem.W.Frag) (n : Nat) (t : TGs) : TG := fun v σ H Q => ∃ a xs, v = .ref a ∧ SqT K H a xs ∧ xs.length = n ∧ t xs σ H Q
theorem pg_tup {es : List Expr} {k : Nat} {t : TGs} {n : Nat} (hc : X.calm = true) (h : PGs X es t)
    (hn : (assignEach es X.env).length = n := by rfl) (hst : (assignEach es X.env).findIdx? (·.1) = none := by rfl) : PG X (.Tuple es k pos) (gTup X.K n t) := by
  intro pins s σ H v u Q I r hw
  obtain ⟨a, xs, e1, hq, hl, hw⟩ := hw
  subst e1
  cases r
  obtain ⟨its, rv, ht, hz⟩ := I.tuple hq
  refine assign_Tuple_tuple (I.ok.hd hc) ht (by simp [hn, ← hl, rv.length]) hst fun h' hx => ?_
  have I1 : Inv X pins σ H { s with heap := h' } := I.kept (t' := s.toks) fun b o e => hx b o (Nat.ne_of_lt (Heap.lt_size e)) e
  exact h pins _ σ H xs _ Q I1 (by simpa using rv) hw
/-- o[i] = .. -/
def gSub (to ti : TE) (t : TSet) : TG := fun v σ H Q => to σ H fun o H1 => ti σ H1 fun i H2 => t o i v H2 fun H3 => Q σ H3
theorem pg_sub {o i : Expr} {to ti : TE} {t : TSet} (ho : PE X o to) (hi : PE X i ti) (hs : PSet X t)
    (ha : ∀ v, assign (.Subscript o i pos) X.env v = (do
      let ov ← holding [v] (eval o X.env)
      let iv ← holding [v, ov] (eval i X.env)
      standAt pos
      holding [v, ov, iv] (setItem ov iv v)
      release [v, ov, iv] []) := by intro _; rfl) : PG X (.Subscript o i pos) (gSub to ti t) := by
  intro pins s σ H v u Q I r h
  rw [ha]
  refine wpAny_bind (wpAny_holding (thn (ho pins s σ H _ I h) fun ov s1 ⟨x, H1, I1, r1, q1⟩ => ?_))
  refine wpAny_bind (wpAny_holding (thn (hi pins s1 σ H1 _ I1 q1) fun iv s2 ⟨y, H2, I2, r2, q2⟩ => ?_))
  refine wpAny_bind (wpAny_standAt (wpAny_bind (wpAny_holding (thn (hs pins s2 σ H2 x y v ov iv u _ I2 r1 r2 r q2) fun _ s3 ⟨H3, I3, q3⟩ => ?_))))
  exact wpAny_release ⟨σ, H3, I3, q3⟩
/-- target = value -/
def tAsg (te : TE) (g : TG) : TS := fun D σ H => te σ H fun x H1 => g x σ H1 D.nx
theorem ps_asg {tg e : Expr} {te : TE} {g : TG} (he : PE X e te) (hg : PG X tg g) (hs : swapsWithSole [tg] e pos.line X.env = pure false := by rfl) (hw : swappedStores [tg] e X.env = pure none := by rfl)
    (h1 : (assignEach [tg] X.env).map (·.2) = [assign tg X.env] := by rfl) : PS X (.Assign [tg] e pos) (tAsg te g) := by
  intro pins s σ H D I h
  refine wpAny_Assign_stores (thn (he pins s σ H _ I h) fun v s1 ⟨x, H1, I1, r1, q1⟩ => ?_) hs hw
  rw [h1]
  exact thn (hg pins s1 σ H1 x v _ I1 r1 q1) fun _ s2 q => q
/-- name = value -/
theorem ps_set {i : Nat} {x : Str} {e : Expr} {te : TE} {pos' : Pos} (hN : X.N.Nodup) (hi : X.N[i]? = some x) (hx : Loc X.env.scope x) (he : PE X e te) (hs : swapsWith e (some (.Name x pos')) pos.line X.env = pure false := by rfl) (hf : X.fn x = true ∨ X.env.scope.names.lookup x = some .local := by first | exact .inl rfl | exact .inr rfl | assumption) :
    PS X (.Assign [.Name x pos'] e pos) (tAsg te (gName i)) := by
  intro pins s σ H D I h
  refine wpAny_Assign_Name (thn (he pins s σ H _ I h) fun v s1 ⟨y, H1, I1, r1, q1⟩ => ?_) hs
  exact store_ok I1 hN hi hx r1 (fun s2 I2 => ⟨_, H1, I2, q1⟩) hf
/-- a, b = x, y with plain local names: stored from the right; the pair itself is not tracked (the opening rows as in PyProof/Rows/TupAssign.lean:23) -/
def tPar (i j : Nat) (ta : TA) : TS := fun D σ H => ta σ H fun vs H1 => ∃ v w, vs = [v, w] ∧ D.nx ((σ.set i (some v)).set j (some w)) H1
theorem ps_par {i j : Nat} {x y : Str} {a b : Expr} {ta : TA} {px py pt : Pos} {kt k2 pt2} (hc : X.calm = true) (hN : X.N.Nodup) (hi : X.N[i]? = some x) (hj : X.N[j]? = some y) (hij : i ≠ j)
    (hx : X.env.scope.names.lookup x = some .local) (hy : X.env.scope.names.lookup y = some .local) (ha : PA X [a, b] ta)
    (hw : swappedStores [.Tuple [.Name x px, .Name y py] kt pt] (.Tuple [a, b] k2 pt2) X.env = pure (some [x, y]))
    (hs : swapsWithSole [.Tuple [.Name x px, .Name y py] kt pt] (.Tuple [a, b] k2 pt2) pos.line X.env = pure false := by rfl) :
    PS X (.Assign [.Tuple [.Name x px, .Name y py] kt pt] (.Tuple [a, b] k2 pt2) pos) (tPar i j ta) := by
  intro pins s σ H D I h
  rw [exec_Assign_arm]
  refine wpAny_bind (wpAny_standAt ?_)
  rw [hs]
  refine wpAny_bind (wpAny_pure ?_)
  rw [if_neg (by decide)]
  refine wpAny_bind (Tuple_ (thn (ha _ pins s σ H _ I h) fun us s1 ⟨vs, H1, I1, r1, q1⟩ => ?_))
  obtain ⟨v, w, e1, q1⟩ := q1
  subst e1
  obtain ⟨u1, u2, rfl, rv, rw'⟩ : ∃ u1 u2, us = [u1, u2] ∧ RelV v u1 ∧ RelV w u2 := by
    cases r1 with
    | cons p q =>
      cases q with
      | cons p' q' =>
        cases q'
        exact ⟨_, _, rfl, p, p'⟩
  refine wpAny_newObj_type ?_ (by show 2 ≤ sizeLine; decide)
  have I2 : Inv X pins σ H1 { s1 with heap := s1.heap.push { cls := .type "tuple", data := .seq [u1, u2].toArray } } := I1.kept (t' := s1.toks) fun b o e => Heap.get?_push_of_some _ e
  rw [hw]
  refine wpAny_bind (wpAny_pure ?_)
  show wpAny (model X.prog X.w) X.A (do rule "assign.swapped-stores"; let items ← unpackItems (.ref s1.heap.objs.size) 2 none; assignInOrder [fun v => bindName X.env y v, fun v => bindName X.env x v] items.reverse; pure Flow.next) _ _ _
  refine wpAny_bind (wpAny_rule (wpAny_bind (unpackItems_tuple (items := #[u1, u2]) (I.ok.hd hc) (IsTup.new s1.heap _) fun h' hx' => ?_)))
  have I3 := I2.kept (h' := h') (t' := s1.toks) fun b o e => hx' b o (Nat.ne_of_lt (Heap.lt_size e)) e
  show wpAny _ _ (assignInOrder [fun v => bindName X.env y v, fun v => bindName X.env x v] [u2, u1] >>= fun _ => pure Flow.next) _ _ _
  refine wpAny_bind (assignInOrder_cons (wpAny_bindName (store_ok I3 hN hj (.inl hy) rw' (fun s2 I4 => ?_) (.inr hy))))
  refine assignInOrder_cons (wpAny_bindName (store_ok I4 hN hi (.inl hx) rv (fun s3 I5 => assignInOrder_nil (wpAny_pure ?_)) (.inr hx)))
  rw [List.set_comm _ _ (Ne.symm hij)] at I5
  exact ⟨_, H1, I5, q1⟩
end

/-! ### while -/
section
variable {X : Cx} {pos : Pos}
/-- the invariant W with its measure -/
def tWhile (c : TT) (tb : TS) : TS := fun D σ H => ∃ W : Nat → St → Hp → Prop, (∃ m, W m σ H) ∧ ∀ m σ H, W m σ H →
  c σ H fun b H1 => if b = true then ∃ N : St → Hp → Prop, (∀ σ' H', N σ' H' → ∃ m', m' < m ∧ W m' σ' H') ∧ tb { D with nx := N, ct := N, bk := D.nx } σ H1 else D.nx σ H1
theorem ps_while {c : Expr} {body : List Stmt} {tc : TT} {tb : TS} (hp : PassesOwn (model X.prog X.w) X.A X.env X.xe) (hc : PT X c tc) (hb : PSs X body tb) : PS X (.While c body [] pos) (tWhile tc tb) := by
  intro pins s σ H D I h
  obtain ⟨W, ⟨m0, w0⟩, turn⟩ := h
  refine wpAny_While (codeAny_whileLoop (fun n s' => ∃ σ' H', Inv X pins σ' H' s' ∧ W n σ' H') ?_ m0 ⟨σ, H, I, w0⟩)
  rintro n s1 ⟨σ1, H1, I1, w1⟩
  refine wpAny_passesOwn hp (thn (hc pins s1 σ1 H1 _ I1 (turn n σ1 H1 w1)) fun b s2 ⟨H2, I2, q2⟩ => ?_)
  cases b with
  | true =>
    obtain ⟨N, hN, q2⟩ := q2
    rw [if_pos rfl]
    refine wpAny_passesOwn hp (thn (hb pins s2 σ1 H2 _ I2 q2) fun f s3 q3 => ?_)
    cases f with
    | next =>
      obtain ⟨σ3, H3, I3, n3⟩ := q3
      obtain ⟨m', hm, w3⟩ := hN σ3 H3 n3
      exact ⟨m', hm, σ3, H3, I3, w3⟩
    | cont =>
      obtain ⟨σ3, H3, I3, n3⟩ := q3
      obtain ⟨m', hm, w3⟩ := hN σ3 H3 n3
      exact ⟨m', hm, σ3, H3, I3, w3⟩
    | brk => exact q3
    | ret v => exact q3
  | false =>
    rw [if_neg Bool.false_ne_true]
    exact wpAny_execs_nil ⟨σ1, H2, I2, q2⟩
end

/-! ### what a loop or a comprehension walks -/
/-- at turn i: it yields x (the heap may grow), or it stops -/
structure It where
  go : Nat → Hp → Prop
  yld : Nat → Hp → V → Hp → Prop
  stop : Nat → Hp → Prop
/-- the iterator's own objects may turn: they are not the frame's, not pinned, younger than the entry (or a comprehension's own) -/
def FpOk (X : Cx) (pins : List (Addr × Obj)) (H : Hp) (b : Addr) : Prop :=
  H b = none ∧ b ≠ X.env.locals ∧ b ∉ X.fs ∧ (b ∈ X.ex ∨ X.s₀.heap.objs.size ≤ b) ∧ (∀ x c, X.env.cells.lookup x = some c → c ≠ b) ∧ ∀ p ∈ X.pn ++ pins, p.1 ≠ b
theorem Inv.fpOk {X : Cx} {pins : List (Addr × Obj)} {σ : St} {H H' : Hp} {s : Shared} {b : Addr} (I : Inv X pins σ H s) (hb : s.heap.objs.size ≤ b) (hn : H' b = none) : FpOk X pins H' b := by
  refine ⟨hn, Nat.ne_of_gt (Nat.lt_of_lt_of_le I.lt hb), I.nofs hb, .inr (Nat.le_trans I.sz hb), fun x c e z => ?_, fun p hp z => ?_⟩
  · obtain ⟨v, q⟩ := I.cell x c e
    exact absurd (Nat.lt_of_lt_of_le q.lt (by rw [z]; exact hb)) (Nat.lt_irrefl _)
  · exact absurd (Nat.lt_of_lt_of_le (Heap.lt_size (I.pin p hp).1) (by rw [z]; exact hb)) (Nat.lt_irrefl _)
structure Turn (P : Program) (w : World) (K : PySem.W.Frag) (tg : Expr) (J : It) (fp : List Addr) (it : Addr) (tn : Nat → Heap → Prop) : Prop where
  mem : it ∈ fp
  obj : ∀ i h, tn i h → ∀ b ∈ fp, ∃ o, h.get? b = some o ∧ ∀ v, o.data ≠ .cell v
  keep : ∀ i h h', tn i h → (∀ b ∈ fp, ∀ o, h.get? b = some o → h'.get? b = some o) → tn i h'
  item : ∀ (X : Cx), X.prog = P → X.w = w → X.K = K → X.calm = true → ∀ (i : Nat) (pins : List (Addr × Obj)) (s : Shared) (σ : St) (H : Hp) (E : Value → Shared → Prop), Inv X pins σ H s → (∀ b ∈ fp, FpOk X pins H b) → tn i s.heap → J.go i H →
    wpAny (model P w) X.A (pyNext (.ref it)) (fun r s1 => ∃ u, r = some u ∧
      wpAny (model P w) X.A (letOwnedTupleGo tg (.ref it) u) (fun _ s2 => ∃ x H', Inv X pins σ H' s2 ∧ RelV x u ∧ J.yld i H x H' ∧ tn (i + 1) s2.heap ∧ ∀ b ∈ fp, H' b = none) E s1) E s
  done : ∀ (X : Cx), X.prog = P → X.w = w → X.K = K → X.calm = true → ∀ (i : Nat) (pins : List (Addr × Obj)) (s : Shared) (σ : St) (H : Hp) (E : Value → Shared → Prop), Inv X pins σ H s → (∀ b ∈ fp, FpOk X pins H b) → tn i s.heap → J.stop i H →
    wpAny (model P w) X.A (pyNext (.ref it)) (fun r s1 => r = none ∧ Inv X pins σ H s1) E s
  self : ∀ (A : Around) (i : Nat) (s : Shared) (Q : Value → Shared → Prop) (E : Value → Shared → Prop), tn i s.heap → Q (.ref it) s → wpAny (model P w) A (pyIter (.ref it)) Q E s
abbrev TI := St → Hp → (It → Hp → Prop) → Prop
/-- an iterator has come -/
def PIE (X : Cx) (pins : List (Addr × Obj)) (σ : St) (tg : Expr) (R : It → Hp → Prop) (itv : Value) (s2 : Shared) : Prop :=
  ∃ (it : Addr) (fp : List Addr) (tn : Nat → Heap → Prop) (J : It) (H' : Hp), itv = .ref it ∧ Inv X pins σ H' s2 ∧ Turn X.prog X.w X.K tg J fp it tn ∧ tn 0 s2.heap ∧ (∀ b ∈ fp, FpOk X pins H' b) ∧ R J H'
def PI (X : Cx) (tg iter : Expr) (wi : TI) : Prop :=
  ∀ (pins : List (Addr × Obj)) (s : Shared) (σ : St) (H : Hp) (R : It → Hp → Prop), Inv X pins σ H s → wi σ H R →
    wpAny (model X.prog X.w) X.A (eval iter X.env) (fun v s1 => wpAny (model X.prog X.w) X.A (pyIter v) (PIE X pins σ tg R) X.xe s1) X.xe s

/-- the step ahead of the store is nothing for an iterator that keeps no tuple -/
theorem go_of {M : Model} {A : Around} {E : Value → Shared → Prop} {s : Shared} {tg : Expr} {it : Addr} {u : Value} {o : Obj} {n : String} {vs : Array Value} {Q : Unit → Shared → Prop} (ho : s.heap.get? it = some o) (hc : o.cls = .type n) (hd : o.data = .fields vs)
    (hn : ["enumerate", "zip", "dict_itemiterator", "dict_reverseitemiterator", "odict_iterator", "itertools.zip_longest", "itertools.pairwise"].contains n = false) (hQ : Q () s) : wpAny M A (letOwnedTupleGo tg (.ref it) u) Q E s := by
  unfold letOwnedTupleGo
  cases tg <;> first
    | exact wpAny_pure hQ
    | (cases u <;> first
        | exact wpAny_pure hQ
        | (refine wpAny_bind (wpAny_load ho ?_)
           rw [hc, hd]
           show wpAny M A (if (["enumerate", "zip", "dict_itemiterator", "dict_reverseitemiterator", "odict_iterator", "itertools.zip_longest", "itertools.pairwise"].contains n && vs[0]? == some (rawInt _)) = true then _ else _) Q E s
           rw [if_neg (by intro h; rw [hn, Bool.false_and] at h; cases h)]
           exact wpAny_pure hQ))

/-- the list at a, as it stands at each turn (a loop may append to it) -/
def Itl (K : PySem.W.Frag) (a : Addr) : It :=
  ⟨fun i H => ∃ xs x, SqL K H a xs ∧ xs[i]? = some x, fun i H x H' => H' = H ∧ ∀ xs, SqL K H a xs → xs[i]? = some x, fun i H => ∃ xs, SqL K H a xs ∧ xs.length ≤ i⟩
def Itt (K : PySem.W.Frag) (a : Addr) : It :=
  ⟨fun i H => ∃ xs x, SqT K H a xs ∧ xs[i]? = some x, fun i H x H' => H' = H ∧ ∀ xs, SqT K H a xs → xs[i]? = some x, fun i H => ∃ xs, SqT K H a xs ∧ xs.length ≤ i⟩
/-- lo, lo + 1, .. (n of them) -/
def Itr (lo : Int) (n : Nat) : It := ⟨fun i _ => i < n, fun i H x H' => H' = H ∧ x = .int (lo + i), fun i _ => n ≤ i⟩
theorem turn_list {P : Program} {w : World} {K : PySem.W.Frag} {tg : Expr} (a it : Addr) : Turn P w K tg (Itl K a) [it] it (fun i h => h.IsListIter it a i) where
  mem := by simp
  obj := fun i h st b hb => by
    have e : b = it := by simpa using hb
    subst e
    obtain ⟨o, e, c, d⟩ := st
    exact ⟨o, e, fun v z => by rw [d] at z; cases z⟩
  keep := fun i h h' st k => st.at fun o e => k it (by simp) o e
  item := by
    intro X hP hw hK hc i pins s σ H E I hf st hg
    subst hP hw hK
    obtain ⟨xs, x, hq, hx⟩ := hg
    obtain ⟨its, rv, p, hz⟩ := I.list hq
    obtain ⟨u, hu, ru⟩ := rv.get hx
    obtain ⟨f0, f1, f2, f3, f4, f5⟩ := hf it (by simp)
    refine wpAny_pyNext_list_item st p.isList (x := u) (by simpa using hu) fun h' st' sb => ?_
    have I1 : Inv X pins σ H { s with heap := h' } := I.turned (t' := s.toks) (fun b o hb e => (sb.2 b hb).trans e) f0 f1 f3 f4 f5
    obtain ⟨o, e, c, d⟩ := id st'
    exact ⟨u, rfl, go_of (s := { s with heap := h' }) e c d (by decide) ⟨x, H, I1, ru, ⟨rfl, fun ys hy => by rw [I.list_inj hy hq]; exact hx⟩, st', fun b hb => (hf b hb).1⟩⟩
  done := by
    intro X hP hw hK hc i pins s σ H E I hf st hg
    subst hP hw hK
    obtain ⟨xs, hq, hx⟩ := hg
    obtain ⟨its, rv, p, hz⟩ := I.list hq
    obtain ⟨f0, f1, f2, f3, f4, f5⟩ := hf it (by simp)
    have hl := rv.length
    exact wpAny_pyNext_list_end (I.ok.hd hc) st p.isList (by simp; omega) fun h' eb => ⟨rfl, I.turned (t' := s.toks) (fun b o hb e => eb b o hb e) f0 f1 f3 f4 f5⟩
  self := fun _ _ _ _ _ st h => wpAny_pyIter_listiter st h
theorem turn_tuple {P : Program} {w : World} {K : PySem.W.Frag} {tg : Expr} (a it : Addr) : Turn P w K tg (Itt K a) [it] it (fun i h => h.IsTupleIter it a i) where
  mem := by simp
  obj := fun i h st b hb => by
    have e : b = it := by simpa using hb
    subst e
    obtain ⟨o, e, c, d⟩ := st
    exact ⟨o, e, fun v z => by rw [d] at z; cases z⟩
  keep := fun i h h' st k => st.at fun o e => k it (by simp) o e
  item := by
    intro X hP hw hK hc i pins s σ H E I hf st hg
    subst hP hw hK
    obtain ⟨xs, x, hq, hx⟩ := hg
    obtain ⟨its, rv, p, hz⟩ := I.tuple hq
    obtain ⟨u, hu, ru⟩ := rv.get hx
    obtain ⟨f0, f1, f2, f3, f4, f5⟩ := hf it (by simp)
    refine wpAny_pyNext_tuple_item st (show s.heap.IsTuple a its.toArray from p) (x := u) (by simpa using hu) fun h' st' sb => ?_
    have I1 : Inv X pins σ H { s with heap := h' } := I.turned (t' := s.toks) (fun b o hb e => (sb.2 b hb).trans e) f0 f1 f3 f4 f5
    obtain ⟨o, e, c, d⟩ := id st'
    exact ⟨u, rfl, go_of (s := { s with heap := h' }) e c d (by decide) ⟨x, H, I1, ru, ⟨rfl, fun ys hy => by rw [I.tuple_inj hy hq]; exact hx⟩, st', fun b hb => (hf b hb).1⟩⟩
  done := by
    intro X hP hw hK hc i pins s σ H E I hf st hg
    subst hP hw hK
    obtain ⟨xs, hq, hx⟩ := hg
    obtain ⟨its, rv, p, hz⟩ := I.tuple hq
    obtain ⟨f0, f1, f2, f3, f4, f5⟩ := hf it (by simp)
    have hl := rv.length
    exact wpAny_pyNext_tuple_end (I.ok.hd hc) st (show s.heap.IsTuple a its.toArray from p) (by simp; omega) fun h' eb => ⟨rfl, I.turned (t' := s.toks) (fun b o hb e => eb b o hb e) f0 f1 f3 f4 f5⟩
  self := fun _ _ _ _ _ st h => wpAny_pyIter_tupleiter st h
theorem turn_range {P : Program} {w : World} {K : PySem.W.Frag} {tg : Expr} (it : Addr) (lo : Int) (n : Nat) : Turn P w K tg (Itr lo n) [it] it (fun i h => IsRangeIter h it (lo + (i : Nat) * 1) ((n : Int) - (i : Nat)) 1) where
  mem := by simp
  obj := fun i h st b hb => by
    have e : b = it := by simpa using hb
    subst e
    exact ⟨_, st, fun v z => by
      have z' : Data.fields _ = Data.cell v := z
      cases z'⟩
  keep := fun i h h' st k => k it (by simp) _ st
  item := by
    intro X hP hw hK hc i pins s σ H E I hf st hg
    subst hP hw hK
    obtain ⟨f0, f1, f2, f3, f4, f5⟩ := hf it (by simp)
    have W := Walks.range (prog := X.prog) (w := X.w) (I.ok.hd hc) it lo 1 n
    refine W.item i s _ _ hg st fun v h' tk hv st' kk => ?_
    obtain ⟨t, rfl⟩ := hv
    have I1 : Inv X pins σ H { s with heap := h', toks := tk } := I.turned (fun b o hb e => kk b o (by simpa using hb) e) f0 f1 f3 f4 f5
    refine ⟨_, rfl, go_of (s := { s with heap := h', toks := tk }) (n := "range_iterator") st' rfl rfl (by decide) ⟨.int (lo + i), H, I1, ⟨t, ?_⟩, ⟨rfl, rfl⟩, st', fun b hb => (hf b hb).1⟩⟩
    rw [Int.mul_one]
  done := by
    intro X hP hw hK hc i pins s σ H E I hf st hg
    subst hP hw hK
    obtain ⟨f0, f1, f2, f3, f4, f5⟩ := hf it (by simp)
    exact wpAny_pyNext_range_end (I.ok.hd hc) st (by have : n ≤ i := hg; omega) fun h' eb => ⟨rfl, I.turned (t' := s.toks) (fun b o hb e => eb b o hb e) f0 f1 f3 f4 f5⟩
  self := fun _ _ _ _ _ st h => wpAny_pyIter_rangeiter st h
end L2

namespace L2
open PySem PySem.Spec PyProof.Rows
section
variable {X : Cx} {tg : Expr}
def iList (K : PySem.W.Frag) (tl : TE) : TI := fun σ H R => tl σ H fun x H1 => ∃ a, x = .ref a ∧ (∃ xs, SqL K H1 a xs) ∧ R (Itl K a) H1
def iTup (K : PySem.W.Frag) (tl : TE) : TI := fun σ H R => tl σ H fun x H1 => ∃ a, x = .ref a ∧ (∃ xs, SqT K H1 a xs) ∧ R (Itt K a) H1
theorem pi_list {l : Expr} {tl : TE} (hl : PE X l tl) : PI X tg l (iList X.K tl) := by
  intro pins s σ H R I h
  refine thn (hl pins s σ H _ I h) fun v s1 ⟨x, H1, I1, r1, q1⟩ => ?_
  obtain ⟨a, e, ⟨xs, hq⟩, q⟩ := q1
  subst e
  cases r1
  obtain ⟨its, rv, p, hz⟩ := I1.list hq
  refine wpAny_pyIter_list p.isList ?_
  refine ⟨s1.heap.objs.size, [s1.heap.objs.size], _, _, H1, rfl, I1.kept (t' := s1.toks) fun b o e => Heap.get?_push_of_some _ e, turn_list a _, ⟨_, Heap.get?_push_size _ rfl, rfl, rfl⟩, fun b hb => ?_, q⟩
  have e : b = s1.heap.objs.size := by simpa using hb
  subst e
  exact I1.fpOk (Nat.le_refl _) (I1.hok.fresh (Nat.le_refl _))
theorem pi_tup {l : Expr} {tl : TE} (hl : PE X l tl) : PI X tg l (iTup X.K tl) := by
  intro pins s σ H R I h
  refine thn (hl pins s σ H _ I h) fun v s1 ⟨x, H1, I1, r1, q1⟩ => ?_
  obtain ⟨a, e, ⟨xs, hq⟩, q⟩ := q1
  subst e
  cases r1
  obtain ⟨its, rv, p, hz⟩ := I1.tuple hq
  refine wpAny_pyIter_tuple (show s1.heap.IsTuple a its.toArray from p) ?_
  refine ⟨s1.heap.objs.size, [s1.heap.objs.size], _, _, H1, rfl, I1.kept (t' := s1.toks) fun b o e => Heap.get?_push_of_some _ e, turn_tuple a _, ⟨_, Heap.get?_push_size _ rfl, rfl, rfl⟩, fun b hb => ?_, q⟩
  have e : b = s1.heap.objs.size := by simpa using hb
  subst e
  exact I1.fpOk (Nat.le_refl _) (I1.hok.fresh (Nat.le_refl _))
/-- a range object just made, walked -/
theorem range_it {pins : List (Addr × Obj)} {σ : St} {H : Hp} {s : Shared} {R : It → Hp → Prop} {E : Value → Shared → Prop} {lo hi : Int} {t u v : Tok} {tk : Nat} (I : Inv X pins σ H s) (h1 : -(2 ^ 62) ≤ lo) (h2 : lo < 2 ^ 62) (h3 : -(2 ^ 62) ≤ hi) (h4 : hi < 2 ^ 62)
    (q : R (Itr lo (hi - lo).toNat) H) : wpAny (model X.prog X.w) X.A (pyIter (.ref s.heap.objs.size)) (PIE X pins σ tg R) E { s with heap := s.heap.push { cls := .type "range", data := .fields #[.int lo t, .int hi u, .int 1 v] }, toks := tk } := by
  refine wpAny_pyIter_range (IsRange.new ..) (small_one h1 h2 h3 h4) ?_
  have I1 : Inv X pins σ H { s with heap := s.heap.push { cls := .type "range", data := .fields #[.int lo t, .int hi u, .int 1 v] }, toks := tk } := I.kept fun b o e => Heap.get?_push_of_some _ e
  refine ⟨(s.heap.push { cls := .type "range", data := .fields #[.int lo t, .int hi u, .int 1 v] }).objs.size, [(s.heap.push { cls := .type "range", data := .fields #[.int lo t, .int hi u, .int 1 v] }).objs.size], _, _, H, rfl,
    I1.kept (t' := tk) fun b o e => Heap.get?_push_of_some _ e, turn_range _ lo (hi - lo).toNat, ?_, fun b hb => ?_, q⟩
  · have e1 : lo + ((0 : Nat) : Int) * 1 = lo := by simp
    have e2 : (((hi - lo).toNat : Nat) : Int) - ((0 : Nat) : Int) = Builtin.Range.rangeSize lo hi 1 := by rw [rangeSize_one]; split <;> omega
    show IsRangeIter _ _ (lo + ((0 : Nat) : Int) * 1) ((((hi - lo).toNat : Nat) : Int) - ((0 : Nat) : Int)) 1
    rw [e1, e2]
    exact Heap.get?_push_size _ rfl
  · have e : b = (s.heap.push { cls := .type "range", data := .fields #[.int lo t, .int hi u, .int 1 v] }).objs.size := by simpa using hb
    subst e
    exact I1.fpOk (Nat.le_refl _) (I1.hok.fresh (Nat.le_refl _))
def iRng1 (ta : TA) : TI := fun σ H R => ta σ H fun vs H1 => ∃ j : Int, vs = [.int j] ∧ -(2 ^ 62) ≤ j ∧ j < 2 ^ 62 ∧ R (Itr 0 j.toNat) H1
theorem pi_range1 {a : Expr} {ta : TA} {p pos : Pos} (hg : Gl X "range") (hm : X.mg "range" = none) (ha : PA X [a] ta) (hs : starEach [a] X.env = [(false, eval a X.env)] := by rfl) : PI X tg (.Call (.Name "range" p) [a] [] pos) (iRng1 ta) := by
  intro pins s σ H R I h
  refine Call_ (ld_blt I hg hm boot_range (PyProof.Rows.callWith_type1 (thn (ha pos pins s σ H _ I h) fun us s1 ⟨vs, H1, I1, r1, q1⟩ => ?_) hs rfl))
  obtain ⟨j, e, q1, q2, q⟩ := q1
  subst e
  cases r1 with
  | cons r rr =>
    cases rr
    obtain ⟨t, rfl⟩ := r
    exact call_range_1 (range_it I1 (by omega) (by omega) q1 q2 (by simpa using q))
/-! ### for -/
/-- W: the invariant by the turn and a measure; N: what the body is to reach -/
def tFor (wi : TI) (g : TG) (tb : TS) : TS := fun D σ H => wi σ H fun J H1 => ∃ W : Nat → Nat → St → Hp → Prop, (∃ m, W 0 m σ H1) ∧ ∀ i m σ H, W i m σ H →
  (J.stop i H ∧ D.nx σ H) ∨ (J.go i H ∧ ∃ N : St → Hp → Prop, (∀ σ' H', N σ' H' → ∃ m', m' < m ∧ W (i + 1) m' σ' H') ∧ ∀ x H', J.yld i H x H' → g x σ H' fun σ2 H2 => tb { D with nx := N, ct := N, bk := D.nx } σ2 H2)
/-- the records at fp as they stand -/
def pinsAt (fp : List Addr) (h : Heap) : List (Addr × Obj) := fp.filterMap fun b => (h.get? b).map fun o => (b, o)
theorem mem_pinsAt {fp : List Addr} {h : Heap} {b : Addr} {o : Obj} (hb : b ∈ fp) (e : h.get? b = some o) : (b, o) ∈ pinsAt fp h := List.mem_filterMap.mpr ⟨b, hb, by rw [e]; rfl⟩
theorem of_pinsAt {fp : List Addr} {h : Heap} {p : Addr × Obj} (hp : p ∈ pinsAt fp h) : p.1 ∈ fp ∧ h.get? p.1 = some p.2 := by
  obtain ⟨b, hb, e⟩ := List.mem_filterMap.mp hp
  cases q : h.get? b with
  | none => rw [q] at e; cases e
  | some o =>
    rw [q] at e
    have e' : (b, o) = p := Option.some.inj e
    subst e'
    exact ⟨hb, q⟩
theorem Inv.pinned {pins : List (Addr × Obj)} {σ : St} {H : Hp} {s : Shared} {fp : List Addr} (I : Inv X pins σ H s) (hf : ∀ b ∈ fp, FpOk X pins H b) (ho : ∀ b ∈ fp, ∃ o, s.heap.get? b = some o ∧ ∀ v, o.data ≠ .cell v) : Inv X (pins ++ pinsAt fp s.heap) σ H s :=
  I.pins_of fun p hp => (List.mem_append.mp hp).elim (fun z => I.pin p (List.mem_append_right _ z)) fun z => by
    obtain ⟨hb, e⟩ := of_pinsAt z
    obtain ⟨f0, f1, f2, _⟩ := hf p.1 hb
    obtain ⟨o, e', d⟩ := ho p.1 hb
    rw [e] at e'; cases e'
    exact ⟨e, f0, f1, f2, d⟩
theorem Inv.unpinned {pins pl : List (Addr × Obj)} {σ : St} {H : Hp} {s : Shared} (I : Inv X (pins ++ pl) σ H s) : Inv X pins σ H s := I.pins_of fun p hp => I.pin p (List.mem_append_right _ (List.mem_append_left _ hp))
theorem ps_for {iter : Expr} {body : List Stmt} {wi : TI} {g : TG} {tb : TS} {pos : Pos} (hp : PassesOwn (model X.prog X.w) X.A X.env X.xe) (hc : X.calm = true) (hi : PI X tg iter wi) (hg : PG X tg g) (hb : PSs X body tb)
    (hs : ∀ x, foldedSetIterable iter X.env x = pure x := by intro _; rfl) : PS X (.For tg iter body [] pos) (tFor wi g tb) := by
  intro pins s σ H D I h
  refine wpAny_For (thn (hi pins s σ H _ I h) fun v s1 h1 => thn h1 fun itv s2 h2 => ?_) hs
  obtain ⟨it, fp, tn, J, H2, e, I2, T, st2, f2, W, ⟨m0, w0⟩, turn⟩ := h2
  subst e
  -- what stays true of the iterator's objects through the loop
  have stat : ∀ {H' : Hp}, (∀ b ∈ fp, H' b = none) → ∀ b ∈ fp, FpOk X pins H' b := fun hn b hb => ⟨hn b hb, (f2 b hb).2⟩
  refine codeAny_forLoop_any (fun n s' => ∃ i σ' H', Inv X pins σ' H' s' ∧ tn i s'.heap ∧ (∀ b ∈ fp, H' b = none) ∧ W i n σ' H') ?_ m0 ⟨0, σ, H2, I2, st2, fun b hb => (f2 b hb).1, w0⟩
  rintro n s3 ⟨i, σ3, H3, I3, st3, fr3, w3⟩
  rcases turn i n σ3 H3 w3 with ⟨stop, qn⟩ | ⟨go, N, hN, step⟩
  · refine wpAny_passesOwn hp (thn (T.done X rfl rfl rfl hc i pins s3 σ3 H3 X.xe I3 (stat fr3) st3 stop) fun r s4 ⟨hr, I4⟩ => ?_)
    subst hr
    exact wpAny_execs_nil ⟨σ3, H3, I4, qn⟩
  · refine wpAny_passesOwn hp (thn (T.item X rfl rfl rfl hc i pins s3 σ3 H3 X.xe I3 (stat fr3) st3 go) fun r s4 ⟨u, hr, h4⟩ => ?_)
    subst hr
    refine wpAny_passesOwn hp (thn h4 fun _ s5 ⟨x, H5, I5, r5, y5, st5, fr5⟩ => ?_)
    have I5' := I5.pinned (stat fr5) (T.obj _ _ st5)
    refine wpAny_passesOwn hp (thn (hg _ s5 σ3 H5 x u _ I5' r5 (step x H5 y5)) fun _ s6 ⟨σ6, H6, I6, q6⟩ => ?_)
    refine wpAny_passesOwn hp (thn (hb _ s6 σ6 H6 _ I6 q6) fun f s7 q7 => ?_)
    have again : ∀ {σ7 : St} {H7 : Hp}, Inv X (pins ++ pinsAt fp s5.heap) σ7 H7 s7 → N σ7 H7 → ∃ m, m < n ∧ ∃ i σ' H', Inv X pins σ' H' s7 ∧ tn i s7.heap ∧ (∀ b ∈ fp, H' b = none) ∧ W i m σ' H' := fun {σ7 H7} I7 n7 => by
      obtain ⟨m', hm, w7⟩ := hN σ7 H7 n7
      refine ⟨m', hm, i + 1, σ7, H7, I7.unpinned, T.keep _ _ _ st5 fun b hb o e => (I7.pin (b, o) (List.mem_append_right _ (List.mem_append_right _ (mem_pinsAt hb e)))).1, fun b hb => ?_, w7⟩
      obtain ⟨o, e, d⟩ := T.obj _ _ st5 b hb
      exact (I7.pin (b, o) (List.mem_append_right _ (List.mem_append_right _ (mem_pinsAt hb e)))).2.1
    cases f with
    | next => obtain ⟨σ7, H7, I7, n7⟩ := q7; exact again I7 n7
    | cont => obtain ⟨σ7, H7, I7, n7⟩ := q7; exact again I7 n7
    | brk => obtain ⟨σ7, H7, I7, q7⟩ := q7; exact ⟨σ7, H7, I7.unpinned, q7⟩
    | ret v => obtain ⟨x7, σ7, H7, I7, r7, q7⟩ := q7; exact ⟨x7, σ7, H7, I7.unpinned, r7, q7⟩
end

/-! ### the forms one uses -/
/-- over a list that the body leaves as it is -/
theorem for_list {K : PySem.W.Frag} {a : Addr} {xs : List V} {g : TG} {tb : TS} {D : Ends} {σ : St} {H : Hp} (Pv : Nat → St → Hp → Prop) (h0 : Pv 0 σ H) (hl : ∀ i σ H, i ≤ xs.length → Pv i σ H → SqL K H a xs)
    (hs : ∀ i x σ H, xs[i]? = some x → Pv i σ H → g x σ H fun σ2 H2 => tb { D with nx := Pv (i + 1), ct := Pv (i + 1), bk := D.nx } σ2 H2) (hd : ∀ σ H, Pv xs.length σ H → D.nx σ H) :
    ∃ W : Nat → Nat → St → Hp → Prop, (∃ m, W 0 m σ H) ∧ ∀ i m σ H, W i m σ H →
      ((Itl K a).stop i H ∧ D.nx σ H) ∨ ((Itl K a).go i H ∧ ∃ N : St → Hp → Prop, (∀ σ' H', N σ' H' → ∃ m', m' < m ∧ W (i + 1) m' σ' H') ∧ ∀ x H', (Itl K a).yld i H x H' → g x σ H' fun σ2 H2 => tb { D with nx := N, ct := N, bk := D.nx } σ2 H2) := by
  refine ⟨fun i m σ H => m = xs.length - i ∧ i ≤ xs.length ∧ Pv i σ H, ⟨xs.length, by simp, Nat.zero_le _, h0⟩, ?_⟩
  rintro i m σ H ⟨rfl, hi, p⟩
  have q := hl i σ H hi p
  by_cases hlt : i < xs.length
  · refine .inr ⟨⟨xs, xs[i], q, by simp [hlt]⟩, Pv (i + 1), fun σ' H' p' => ⟨xs.length - (i + 1), by omega, rfl, hlt, p'⟩, fun x H' y => ?_⟩
    obtain ⟨e, y⟩ := y
    subst e
    exact hs i x σ _ (y xs q) p
  · have e : i = xs.length := by omega
    subst e
    exact .inl ⟨⟨xs, q, Nat.le_refl _⟩, hd σ H p⟩
theorem for_tup {K : PySem.W.Frag} {a : Addr} {xs : List V} {g : TG} {tb : TS} {D : Ends} {σ : St} {H : Hp} (Pv : Nat → St → Hp → Prop) (h0 : Pv 0 σ H) (hl : ∀ i σ H, i ≤ xs.length → Pv i σ H → SqT K H a xs)
    (hs : ∀ i x σ H, xs[i]? = some x → Pv i σ H → g x σ H fun σ2 H2 => tb { D with nx := Pv (i + 1), ct := Pv (i + 1), bk := D.nx } σ2 H2) (hd : ∀ σ H, Pv xs.length σ H → D.nx σ H) :
    ∃ W : Nat → Nat → St → Hp → Prop, (∃ m, W 0 m σ H) ∧ ∀ i m σ H, W i m σ H →
      ((Itt K a).stop i H ∧ D.nx σ H) ∨ ((Itt K a).go i H ∧ ∃ N : St → Hp → Prop, (∀ σ' H', N σ' H' → ∃ m', m' < m ∧ W (i + 1) m' σ' H') ∧ ∀ x H', (Itt K a).yld i H x H' → g x σ H' fun σ2 H2 => tb { D with nx := N, ct := N, bk := D.nx } σ2 H2) := by
  refine ⟨fun i m σ H => m = xs.length - i ∧ i ≤ xs.length ∧ Pv i σ H, ⟨xs.length, by simp, Nat.zero_le _, h0⟩, ?_⟩
  rintro i m σ H ⟨rfl, hi, p⟩
  have q := hl i σ H hi p
  by_cases hlt : i < xs.length
  · refine .inr ⟨⟨xs, xs[i], q, by simp [hlt]⟩, Pv (i + 1), fun σ' H' p' => ⟨xs.length - (i + 1), by omega, rfl, hlt, p'⟩, fun x H' y => ?_⟩
    obtain ⟨e, y⟩ := y
    subst e
    exact hs i x σ _ (y xs q) p
  · have e : i = xs.length := by omega
    subst e
    exact .inl ⟨⟨xs, q, Nat.le_refl _⟩, hd σ H p⟩
theorem for_range {lo : Int} {n : Nat} {g : TG} {tb : TS} {D : Ends} {σ : St} {H : Hp} (Pv : Nat → St → Hp → Prop) (h0 : Pv 0 σ H)
    (hs : ∀ i σ H, i < n → Pv i σ H → g (.int (lo + i)) σ H fun σ2 H2 => tb { D with nx := Pv (i + 1), ct := Pv (i + 1), bk := D.nx } σ2 H2) (hd : ∀ σ H, Pv n σ H → D.nx σ H) :
    ∃ W : Nat → Nat → St → Hp → Prop, (∃ m, W 0 m σ H) ∧ ∀ i m σ H, W i m σ H →
      ((Itr lo n).stop i H ∧ D.nx σ H) ∨ ((Itr lo n).go i H ∧ ∃ N : St → Hp → Prop, (∀ σ' H', N σ' H' → ∃ m', m' < m ∧ W (i + 1) m' σ' H') ∧ ∀ x H', (Itr lo n).yld i H x H' → g x σ H' fun σ2 H2 => tb { D with nx := N, ct := N, bk := D.nx } σ2 H2) := by
  refine ⟨fun i m σ H => m = n - i ∧ i ≤ n ∧ Pv i σ H, ⟨n, by simp, Nat.zero_le _, h0⟩, ?_⟩
  rintro i m σ H ⟨rfl, hi, p⟩
  by_cases hlt : i < n
  · refine .inr ⟨hlt, Pv (i + 1), fun σ' H' p' => ⟨n - (i + 1), by omega, rfl, hlt, p'⟩, fun x H' y => ?_⟩
    obtain ⟨e, y⟩ := y
    subst e y
    exact hs i σ _ hlt p
  · have e : i = n := by omega
    subst e
    exact .inl ⟨Nat.le_refl _, hd σ H p⟩
/-- while, by a word and a measure of the state -/
theorem while_by {c : TT} {tb : TS} {D : Ends} {σ : St} {H : Hp} (Pv : St → Hp → Prop) (μ : St → Hp → Nat) (h0 : Pv σ H)
    (hs : ∀ σ H, Pv σ H → c σ H fun b H1 => if b = true then tb { D with nx := fun σ' H' => Pv σ' H' ∧ μ σ' H' < μ σ H, ct := fun σ' H' => Pv σ' H' ∧ μ σ' H' < μ σ H, bk := D.nx } σ H1 else D.nx σ H1)
    (mono : ∀ σ H Q Q', (∀ b H1, Q b H1 → Q' b H1) → c σ H Q → c σ H Q') : tWhile c tb D σ H := by
  refine ⟨fun m σ H => m = μ σ H ∧ Pv σ H, ⟨_, rfl, h0⟩, ?_⟩
  rintro m σ H ⟨rfl, p⟩
  refine mono σ H _ _ (fun b H1 q => ?_) (hs σ H p)
  cases b with
  | true => exact ⟨_, fun σ' H' ⟨p', l⟩ => ⟨_, l, rfl, p'⟩, q⟩
  | false => exact q
end L2

namespace L2
open PySem PySem.Spec PyProof.Rows

abbrev R2 := V → V → Hp → VK → Prop
/-- a two-place operation on values: f is binaryOp op, inplaceOp op or compareOp op -/
def OpR (X : Cx) (f : Value → Value → Sem Value) (r : R2) : Prop :=
  ∀ (pins : List (Addr × Obj)) (s : Shared) (σ : St) (H : Hp) (x y : V) (v u : Value) (Q : VK), Inv X pins σ H s → RelV x v → RelV y u → r x y H Q →
    wpAny (model X.prog X.w) X.A (f v u) (EP X pins σ Q) X.xe s
/-- a one-place operation -/
def UnR (X : Cx) (f : Value → Sem Value) (r : V → Hp → VK → Prop) : Prop :=
  ∀ (pins : List (Addr × Obj)) (s : Shared) (σ : St) (H : Hp) (x : V) (v : Value) (Q : VK), Inv X pins σ H s → RelV x v → r x H Q →
    wpAny (model X.prog X.w) X.A (f v) (EP X pins σ Q) X.xe s
/-- a call of a value that is known (a builtin, a type) with values -/
def CallR (X : Cx) (f : Value) (r : List V → Hp → VK → Prop) : Prop :=
  ∀ (pins : List (Addr × Obj)) (s : Shared) (σ : St) (H : Hp) (xs : List V) (us : List Value) (Q : VK), Inv X pins σ H s → Vals xs us → r xs H Q →
    wpAny (model X.prog X.w) X.A (call f us) (EP X pins σ Q) X.xe s
def tOp (r : R2) (ta tb : TE) : TE := fun σ H Q => ta σ H fun x H1 => tb σ H1 fun y H2 => r x y H2 Q
def tUn (r : V → Hp → VK → Prop) (ta : TE) : TE := fun σ H Q => ta σ H fun x H1 => r x H1 Q
/-- ints in, under C, and a value out -/
def rI (C : Int → Int → Prop) (g : Int → Int → V) : R2 := fun x y H Q => ∃ i j, x = .int i ∧ y = .int j ∧ C i j ∧ Q (g i j) H
def rI0 (g : Int → Int → V) : R2 := fun x y H Q => ∃ i j, x = .int i ∧ y = .int j ∧ Q (g i j) H
def rU (g : Int → V) : V → Hp → VK → Prop := fun x H Q => ∃ i, x = .int i ∧ Q (g i) H

section
variable {X : Cx} {a b c : Expr} {ta tb tc : TE} {pos : Pos}

theorem binT (ha : PE X a ta) (hb : PE X b tb) {pins : List (Addr × Obj)} {s : Shared} {σ : St} {H : Hp} {R : V → V → Hp → Prop} (I : Inv X pins σ H s)
    (h : ta σ H fun x H1 => tb σ H1 fun y H2 => R x y H2) {Q : Value → Shared → Prop} {f : Value → Value → Sem Value}
    (hf : ∀ v u s2 x y H2, Inv X pins σ H2 s2 → RelV x v → RelV y u → R x y H2 → wpAny (model X.prog X.w) X.A (f v u) Q X.xe s2) :
    wpAny (model X.prog X.w) X.A (eval a X.env) (fun v s₁ => wpAny (model X.prog X.w) X.A (eval b X.env) (fun u s₂ => wpAny (model X.prog X.w) X.A (f v u) Q X.xe s₂) X.xe s₁) X.xe s := by
  refine thn (ha pins s σ H _ I h) fun v s1 ⟨x, H1, I1, r1, q1⟩ => ?_
  refine thn (hb pins s1 σ H1 _ I1 q1) fun u s2 ⟨y, H2, I2, r2, q2⟩ => ?_
  exact hf v u s2 x y H2 I2 r1 r2 q2

theorem pe_op {op : Operator} {r : R2} (ho : OpR X (binaryOp op) r) (ha : PE X a ta) (hb : PE X b tb) : PE X (.BinOp a op b pos) (tOp r ta tb) := by
  intro pins s σ H Q I h
  exact wpAny_BinOp (binT ha hb I h fun v u s2 x y H2 I2 rx ry q => ho pins s2 σ H2 x y v u Q I2 rx ry q)
theorem pe_un {op : UnaryOp} {r : V → Hp → VK → Prop} (ho : UnR X (unaryOp op) r) (ha : PE X a ta) : PE X (.UnaryOp op a pos) (tUn r ta) := by
  intro pins s σ H Q I h
  exact UnaryOp_ (thn (ha pins s σ H _ I h) fun v s1 ⟨x, H1, I1, r1, q1⟩ => ho pins s1 σ H1 x v Q I1 r1 q1)
/-! ### ints -/
theorem opI {f : Value → Value → Sem Value} {C : Int → Int → Prop} {g : Int → Int → Int}
    (rule : ∀ (i j : Int) (t u : Tok) (s : Shared) (Q : Value → Shared → Prop) (E : Value → Shared → Prop), C i j → Q (.int (g i j) s.toks) { s with toks := s.toks + 1 } → wpAny (model X.prog X.w) X.A (f (.int i t) (.int j u)) Q E s) :
    OpR X f (rI C fun i j => .int (g i j)) := by
  intro pins s σ H x y v u Q I rx ry h
  obtain ⟨i, j, rfl, rfl, hc, q⟩ := h
  obtain ⟨t, rfl⟩ := rx
  obtain ⟨t', rfl⟩ := ry
  exact rule i j t t' s _ _ hc ⟨.int (g i j), H, I.tok _, ⟨_, rfl⟩, q⟩
theorem opI0 {f : Value → Value → Sem Value} {g : Int → Int → Int}
    (rule : ∀ (i j : Int) (t u : Tok) (s : Shared) (Q : Value → Shared → Prop) (E : Value → Shared → Prop), Q (.int (g i j) s.toks) { s with toks := s.toks + 1 } → wpAny (model X.prog X.w) X.A (f (.int i t) (.int j u)) Q E s) :
    OpR X f (rI0 fun i j => .int (g i j)) := by
  intro pins s σ H x y v u Q I rx ry h
  obtain ⟨i, j, rfl, rfl, q⟩ := h
  obtain ⟨t, rfl⟩ := rx
  obtain ⟨t', rfl⟩ := ry
  exact rule i j t t' s _ _ ⟨.int (g i j), H, I.tok _, ⟨_, rfl⟩, q⟩
theorem opB0 {f : Value → Value → Sem Value} {g : Int → Int → Bool}
    (rule : ∀ (i j : Int) (t u : Tok) (s : Shared) (Q : Value → Shared → Prop) (E : Value → Shared → Prop), Q (.bool (g i j)) s → wpAny (model X.prog X.w) X.A (f (.int i t) (.int j u)) Q E s) :
    OpR X f (rI0 fun i j => .bl (g i j)) := by
  intro pins s σ H x y v u Q I rx ry h
  obtain ⟨i, j, rfl, rfl, q⟩ := h
  obtain ⟨t, rfl⟩ := rx
  obtain ⟨t', rfl⟩ := ry
  exact rule i j t t' s _ _ ⟨.bl (g i j), H, I, rfl, q⟩

def CDiv (i j : Int) : Prop := 0 < j ∧ j < 1073741824
def CPow (i j : Int) : Prop := 0 ≤ j ∧ j ≤ 1000000 ∧ i.natAbs < 2 ^ 64
def CMul (i j : Int) : Prop := (-(2 ^ 64) < i ∧ i < 2 ^ 64) ∨ (-(2 ^ 64) < j ∧ j < 2 ^ 64)
theorem CMul.ok {i j : Int} (h : CMul i j) : IntMulOk i j := by
  rcases h with ⟨h1, h2⟩ | ⟨h1, h2⟩
  · exact .of_left (intBits_le_64 h1 h2)
  · exact .of_right (intBits_le_64 h1 h2)
theorem op_add : OpR X (binaryOp .Add) (rI0 fun i j => .int (i + j)) := opI0 fun _ _ _ _ _ _ _ q => add_int q
theorem op_sub : OpR X (binaryOp .Sub) (rI0 fun i j => .int (i - j)) := opI0 fun _ _ _ _ _ _ _ q => sub_int q
theorem op_mul : OpR X (binaryOp .Mult) (rI CMul fun i j => .int (i * j)) := opI fun _ _ _ _ _ _ _ hc q => mul_int q hc.ok
/-- // by a positive divisor -/
theorem op_fdiv : OpR X (binaryOp .FloorDiv) (rI CDiv fun i j => .int (i / j)) := opI fun i j _ _ _ _ _ hc q => by
  have h1 : (0 : Int) < j := hc.1
  have h2 : j < 1073741824 := hc.2
  exact floordiv_int (by omega) (by rw [Int.fdiv_eq_ediv_of_nonneg i (by omega)]; exact q) (.inl (PyProof.noPylong_small (by omega)))
/-- % by a positive divisor of any size -/
theorem op_mod : OpR X (binaryOp .Mod) (rI (fun _ j => 0 < j) fun i j => .int (i % j)) := opI fun i j _ _ _ _ _ hc q => by
  have h1 : (0 : Int) < j := hc
  exact mod_int' (by omega) (by rw [Int.fmod_eq_emod_of_nonneg i (by omega)]; exact q)
theorem op_pow : OpR X (binaryOp .Pow) (rI CPow fun i j => .int (i ^ j.toNat)) := opI fun _ _ _ _ _ _ _ hc q => pow_int_small hc.1 hc.2.1 hc.2.2 q
theorem op_shl : OpR X (binaryOp .LShift) (rI CPow fun i j => .int (i * 2 ^ j.toNat)) := opI fun _ _ _ _ _ _ _ hc q => lshift_int_small hc.1 hc.2.1 hc.2.2 q
theorem unI {f : Value → Sem Value} {g : Int → Int}
    (rule : ∀ (i : Int) (t : Tok) (s : Shared) (Q : Value → Shared → Prop) (E : Value → Shared → Prop), Q (.int (g i) s.toks) { s with toks := s.toks + 1 } → wpAny (model X.prog X.w) X.A (f (.int i t)) Q E s) :
    UnR X f (rU fun i => .int (g i)) := by
  intro pins s σ H x v Q I rx h
  obtain ⟨i, rfl, q⟩ := h
  obtain ⟨t, rfl⟩ := rx
  exact rule i t s _ _ ⟨.int (g i), H, I.tok _, ⟨_, rfl⟩, q⟩
theorem un_neg : UnR X (unaryOp .USub) (rU fun i => .int (-i)) := unI fun _ _ _ _ _ q => neg_int q
/-! ### bools among ints: n += (a < b) -/
end

/-! ### comparisons -/
/-- the scalars that == tells apart as data does -/
def scal : V → V → Bool
  | .non, .non => true | .non, .int _ => true | .int _, .non => true | .non, .bl _ => true | .bl _, .non => true | .non, .str _ => true | .str _, .non => true
  | .int _, .int _ => true | .bl _, .bl _ => true | .str _, .str _ => true | .byt _, .byt _ => true
  | .int _, .str _ => true | .str _, .int _ => true | .bl _, .str _ => true | .str _, .bl _ => true
  | _, _ => false
def rEq : R2 := fun x y H Q => scal x y = true ∧ Q (.bl (decide (x = y))) H
def rNe : R2 := fun x y H Q => scal x y = true ∧ Q (.bl (!decide (x = y))) H

theorem dec_int {i j : Int} : decide (V.int i = V.int j) = (i == j) := by
  rw [Bool.eq_iff_iff]
  simp
theorem dec_bl {i j : Bool} : decide (V.bl i = V.bl j) = (i == j) := by
  rw [Bool.eq_iff_iff]
  simp
theorem dec_str {i j : Str} : decide (V.str i = V.str j) = (i == j) := by
  rw [Bool.eq_iff_iff]
  simp
theorem dec_byt {i j : Array UInt8} : decide (V.byt i = V.byt j) = (i.toList == j.toList) := by
  rw [Bool.eq_iff_iff]
  cases i
  cases j
  simp

section
variable {X : Cx} {a b c : Expr} {ta tb tc : TE} {pos : Pos}
theorem fin_bl {pins : List (Addr × Obj)} {σ : St} {H : Hp} {s : Shared} {Q : VK} {k k' : Bool} (I : Inv X pins σ H s) (q : Q (.bl k) H) (e : k = k') : EP X pins σ Q (.bool k') s := by
  subst e
  exact ⟨.bl k, H, I, rfl, q⟩
theorem op_eq : OpR X (compareOp .Eq) rEq := by
  intro pins s σ H x y v u Q I rx ry h
  obtain ⟨hs, q⟩ := h
  cases x with
  | non =>
    cases rx
    cases y with
    | non => cases ry; exact PySem.EqNone.eq_none_none (fin_bl I q (by simp))
    | bl j => cases ry; exact PySem.EqNone.eq_none_bool (fin_bl I q (by simp))
    | int j => obtain ⟨t', rfl⟩ := ry; exact PySem.EqNone.eq_none_int (fin_bl I q (by simp))
    | str j => obtain ⟨t', rfl⟩ := ry; exact PySem.EqNone.eq_none_str (fin_bl I q (by simp))
    | _ => exact absurd (show false = true from hs) Bool.false_ne_true
  | bl i =>
    cases rx
    cases y with
    | non => cases ry; exact PySem.EqNone.eq_bool_none (fin_bl I q (by simp))
    | bl j => cases ry; exact eq_bool (fin_bl I q dec_bl)
    | str j => obtain ⟨t', rfl⟩ := ry; exact PySem.EqMixed.eq_bool_str (fin_bl I q (by simp))
    | _ => exact absurd (show false = true from hs) Bool.false_ne_true
  | int i =>
    obtain ⟨t, rfl⟩ := rx
    cases y with
    | non => cases ry; exact PySem.EqNone.eq_int_none (fin_bl I q (by simp))
    | int j => obtain ⟨t', rfl⟩ := ry; exact eq_int (fin_bl I q dec_int)
    | str j => obtain ⟨t', rfl⟩ := ry; exact PySem.EqMixed.eq_int_str (fin_bl I q (by simp))
    | _ => exact absurd (show false = true from hs) Bool.false_ne_true
  | str i =>
    obtain ⟨t, rfl⟩ := rx
    cases y with
    | non => cases ry; exact PySem.EqNone.eq_str_none (fin_bl I q (by simp))
    | bl j => cases ry; exact PySem.EqMixed.eq_str_bool (fin_bl I q (by simp))
    | int j => obtain ⟨t', rfl⟩ := ry; exact PySem.EqMixed.eq_str_int (fin_bl I q (by simp))
    | str j => obtain ⟨t', rfl⟩ := ry; exact eq_str (fin_bl I q dec_str)
    | _ => exact absurd (show false = true from hs) Bool.false_ne_true
  | byt i =>
    obtain ⟨t, rfl⟩ := rx
    cases y with
    | byt j => obtain ⟨t', rfl⟩ := ry; exact PySem.W.eq_bytes (fin_bl I q dec_byt)
    | _ => exact absurd (show false = true from hs) Bool.false_ne_true
  | _ => cases y <;> exact absurd (show false = true from hs) Bool.false_ne_true
theorem op_ne : OpR X (compareOp .NotEq) rNe := by
  intro pins s σ H x y v u Q I rx ry h
  obtain ⟨hs, q⟩ := h
  cases x with
  | non =>
    cases rx
    cases y with
    | non => cases ry; exact PySem.EqNone.ne_none_none (fin_bl I q (by simp))
    | bl j => cases ry; exact PySem.EqNone.ne_none_bool (fin_bl I q (by simp))
    | int j => obtain ⟨t', rfl⟩ := ry; exact PySem.EqNone.ne_none_int (fin_bl I q (by simp))
    | str j => obtain ⟨t', rfl⟩ := ry; exact PySem.EqNone.ne_none_str (fin_bl I q (by simp))
    | _ => exact absurd (show false = true from hs) Bool.false_ne_true
  | bl i =>
    cases rx
    cases y with
    | non => cases ry; exact PySem.EqNone.ne_bool_none (fin_bl I q (by simp))
    | bl j => cases ry; exact ne_bool (fin_bl I q (congrArg not dec_bl))
    | str j => obtain ⟨t', rfl⟩ := ry; exact PySem.EqMixed.ne_bool_str (fin_bl I q (by simp))
    | _ => exact absurd (show false = true from hs) Bool.false_ne_true
  | int i =>
    obtain ⟨t, rfl⟩ := rx
    cases y with
    | non => cases ry; exact PySem.EqNone.ne_int_none (fin_bl I q (by simp))
    | int j => obtain ⟨t', rfl⟩ := ry; exact ne_int (fin_bl I q (congrArg not dec_int))
    | str j => obtain ⟨t', rfl⟩ := ry; exact PySem.EqMixed.ne_int_str (fin_bl I q (by simp))
    | _ => exact absurd (show false = true from hs) Bool.false_ne_true
  | str i =>
    obtain ⟨t, rfl⟩ := rx
    cases y with
    | non => cases ry; exact PySem.EqNone.ne_str_none (fin_bl I q (by simp))
    | bl j => cases ry; exact PySem.EqMixed.ne_str_bool (fin_bl I q (by simp))
    | int j => obtain ⟨t', rfl⟩ := ry; exact PySem.EqMixed.ne_str_int (fin_bl I q (by simp))
    | str j => obtain ⟨t', rfl⟩ := ry; exact ne_str (fin_bl I q (congrArg not dec_str))
    | _ => exact absurd (show false = true from hs) Bool.false_ne_true
  | byt i =>
    obtain ⟨t, rfl⟩ := rx
    cases y with
    | byt j => obtain ⟨t', rfl⟩ := ry; exact PySem.W.ne_bytes (fin_bl I q (congrArg not dec_byt))
    | _ => exact absurd (show false = true from hs) Bool.false_ne_true
  | _ => cases y <;> exact absurd (show false = true from hs) Bool.false_ne_true

theorem op_lt : OpR X (compareOp .Lt) (rI0 fun i j => .bl (decide (i < j))) := opB0 fun _ _ _ _ _ _ _ q => lt_int q
theorem op_gt : OpR X (compareOp .Gt) (rI0 fun i j => .bl (decide (j < i))) := opB0 fun _ _ _ _ _ _ _ q => gt_int q
theorem op_ge : OpR X (compareOp .GtE) (rI0 fun i j => .bl (decide (j ≤ i))) := opB0 fun _ _ _ _ _ _ _ q => ge_int q
/-- is None, is not None: the right side a value none -/
theorem op_isN : OpR X (compareOp .Is) (fun x y H Q => y = .non ∧ Q (.bl (decide (x = .non))) H) := by
  intro pins s σ H x y v u Q I rx ry h
  obtain ⟨rfl, q⟩ := h
  cases ry
  refine is_none_gen (fin_bl I q ?_)
  cases x <;> first
    | (cases rx; rfl)
    | (obtain ⟨t, rfl⟩ := rx; rfl)
theorem op_notN : OpR X (compareOp .IsNot) (fun x y H Q => y = .non ∧ Q (.bl (!decide (x = .non))) H) := by
  intro pins s σ H x y v u Q I rx ry h
  obtain ⟨rfl, q⟩ := h
  cases ry
  refine isnot_none_gen (fin_bl I q ?_)
  cases x <;> first
    | (cases rx; rfl)
    | (obtain ⟨t, rfl⟩ := rx; rfl)

theorem nomark (b : Expr) {op : CmpOp} (h : op ≠ .In := by decide) (h2 : op ≠ .NotIn := by decide) : behindInMarks op b = false := by
  have e1 : (op == CmpOp.In) = false := by cases op <;> first | rfl | exact absurd rfl h
  have e2 : (op == CmpOp.NotIn) = false := by cases op <;> first | rfl | exact absurd rfl h2
  cases b <;> simp [behindInMarks, e1, e2]
/-- a comparison as a value; hm: nomark b, or (for in, not in) by with_unfolding_all rfl -/
theorem pe_cmpR {op : CmpOp} {r : R2} (ho : OpR X (compareOp op) r) (ha : PE X a ta) (hb : PE X b tb) (hm : behindInMarks op b = false) : PE X (.Compare a [op] [b] pos) (tOp r ta tb) := by
  intro pins s σ H Q I h
  exact wpAny_Compare1 (binT ha hb I h fun v u s2 x y H2 I2 rx ry q => ho pins s2 σ H2 x y v u Q I2 rx ry q) hm
/-- a reading of a value as a test -/
def tTest (t : TE) : TT := fun σ H Q => t σ H fun x H' => ∃ k, x = .bl k ∧ Q k H'
theorem pt_cmpR {op : CmpOp} {r : R2} (ho : OpR X (compareOp op) r) (ha : PE X a ta) (hb : PE X b tb) (hm : behindInMarks op b = false) : PT X (.Compare a [op] [b] pos) (tTest (tOp r ta tb)) := by
  intro pins s σ H Q I h
  refine wpAny_isTrue_Compare1 (thn (ha pins s σ H _ I h) fun v s1 ⟨x, H1, I1, r1, q1⟩ => thn (hb pins s1 σ H1 _ I1 q1) fun u s2 ⟨y, H2, I2, r2, q2⟩ =>
    thn (ho pins s2 σ H2 x y v u _ I2 r1 r2 q2) fun c s3 ⟨z, H3, I3, r3, k, e, q3⟩ => ?_) hm
  subst e
  cases r3
  exact wpAny_truthy_bool ⟨H3, I3, q3⟩
/-! ### truth -/
theorem line63 : (sizeLine : Nat) < 2 ^ 63 := by rw [sizeLine_eq]; decide
/-! ### strs and bytes -/
theorem op_add_str : OpR X (binaryOp .Add) (fun x y H Q => ∃ i j, x = .str i ∧ y = .str j ∧ i.length + j.length ≤ sizeLine ∧ Q (.str (i ++ j)) H) := by
  intro pins s σ H x y v u Q I rx ry h
  obtain ⟨i, j, rfl, rfl, hz, q⟩ := h
  obtain ⟨t, rfl⟩ := rx
  obtain ⟨t', rfl⟩ := ry
  exact add_str (fun t' tk => ⟨.str (i ++ j), H, I.tok _, ⟨_, rfl⟩, q⟩) hz
/-! ### scalar builtins, by CallR -/
theorem vals1 {x : V} {us : List Value} (r : Vals [x] us) : ∃ u, us = [u] ∧ RelV x u := by
  cases r with
  | cons r1 r2 => cases r2; exact ⟨_, rfl, r1⟩
theorem vals2 {x y : V} {us : List Value} (r : Vals [x, y] us) : ∃ u w', us = [u, w'] ∧ RelV x u ∧ RelV y w' := by
  cases r with
  | cons r1 r2 =>
    cases r2 with
    | cons r3 r4 => cases r4; exact ⟨_, _, rfl, r1, r3⟩
theorem call_abs : CallR X (.builtin "abs") (fun xs H Q => ∃ i, xs = [.int i] ∧ Q (.int (if i < 0 then -i else i)) H) := by
  intro pins s σ H xs us Q I r h
  obtain ⟨i, rfl, q⟩ := h
  obtain ⟨u, rfl, t, rfl⟩ := vals1 r
  exact call_abs_int fun u tk => ⟨.int (if i < 0 then -i else i), H, I.tok _, ⟨_, rfl⟩, q⟩
theorem call_min2 (hc : X.calm = true) : CallR X (.builtin "min") (fun xs H Q => ∃ i j, xs = [.int i, .int j] ∧ Q (.int (if j < i then j else i)) H) := by
  intro pins s σ H xs us Q I r h
  obtain ⟨i, j, rfl, q⟩ := h
  obtain ⟨u, w', rfl, ⟨t, rfl⟩, ⟨t', rfl⟩⟩ := vals2 r
  refine min_two_ints (I.ok.hd hc) fun h' tk k => ⟨_, H, I.kept k, ?_, q⟩
  by_cases hj : j < i
  · rw [if_pos hj, if_pos hj]; exact ⟨_, rfl⟩
  · rw [if_neg hj, if_neg hj]; exact ⟨_, rfl⟩
theorem call_int1 : CallR X (.type "int") (fun xs H Q => (∃ i, xs = [.int i] ∧ Q (.int i) H) ∨ ∃ k, xs = [.bl k] ∧ Q (.int (if k then 1 else 0)) H) := by
  intro pins s σ H xs us Q I r h
  rcases h with ⟨i, rfl, q⟩ | ⟨k, rfl, q⟩
  · obtain ⟨u, rfl, t, rfl⟩ := vals1 r
    exact call_int_int ⟨.int i, H, I, ⟨_, rfl⟩, q⟩
  · obtain ⟨u, rfl, r1⟩ := vals1 r
    cases r1
    exact call_int_bool ⟨.int (if k then 1 else 0), H, I.tok _, ⟨_, rfl⟩, q⟩
theorem call_str_int : CallR X (.type "str") (fun xs H Q => ∃ i, xs = [.int i] ∧ i.natAbs.log2 < 1920 ∧ Q (.str (toString i)) H) := by
  intro pins s σ H xs us Q I r h
  obtain ⟨i, rfl, hz, q⟩ := h
  obtain ⟨u, rfl, t, rfl⟩ := vals1 r
  exact PySem.P.str_of_int hz ⟨.str _, H, I.tok _, ⟨_, rfl⟩, q⟩
end
end L2

namespace L2
open PySem PySem.Spec PyProof.Rows

/-! ### an instance, its attributes a map -/
structure ObjM (h : Heap) (x dx C : Addr) (mA : Str → Option Value) : Prop where
  obj : h.get? x = some (PySem.W.instObj C dx)
  ns : h.Ns1 dx mA
  ne : dx ≠ x

theorem lookIn_ns {h : Heap} {dx : Addr} {mA : Str → Option Value} (n : h.Ns1 dx mA) : ∃ od, h.get? dx = some od ∧ ∀ name, PySem.W.lookIn name od = some (mA name) := by
  obtain ⟨o, es, ep, ho, hd, hk, _, hm⟩ := n
  refine ⟨o, ho, fun name => ?_⟩
  have e := hm name
  unfold nsFind findBy at e
  rw [← Array.find?_toList] at e
  unfold PySem.W.lookIn
  rw [hd]
  dsimp only
  split
  · rename_i y q
    rw [q] at e
    exact congrArg some e
  · rename_i q
    rw [q] at e
    have a : es.toList.any (·.refKey) = false := by
      rw [List.any_eq_false]
      intro y hy
      obtain ⟨z, t, hkey⟩ := hk y (Array.mem_toList_iff.mp hy)
      simp [DictEntry.refKey, hkey]
    have a' : ¬ es.toList.any (·.refKey) = true := by rw [a]; exact Bool.false_ne_true
    rw [if_neg a']
    exact congrArg some e

theorem ObjM.look {h : Heap} {x dx C : Addr} {mA : Str → Option Value} (I : ObjM h x dx C mA) : ∃ od, PySem.W.InstAt h x (PySem.W.instObj C dx) C (some od) ∧ ∀ name, PySem.W.lookIn name od = some (mA name) :=
  let ⟨od, ho, hl⟩ := lookIn_ns I.ns
  ⟨od, ⟨I.obj, rfl, rfl, ho⟩, hl⟩

section
variable {prog : Program} {w : World} {A : Around} {E : Value → Shared → Prop} {s : Shared} {K : PySem.W.Frag} {x dx C f : Addr} {mA : Str → Option Value} {name : Str} {v : Value}

end

/-! ### the attributes as a list of pairs -/
theorem RelO.some_of {v : V} {o : Option Value} (r : RelO (some v) o) : ∃ u, o = some u ∧ RelV v u := by
  cases o with
  | none => exact (show False from r).elim
  | some u => exact ⟨u, rfl, r⟩
section
variable {P : Program} {w : World} {H H' : Hp} {h h' : Heap} {a C dx : Addr} {fs fs' : List (Str × V)}
theorem ins_get (hok : HOk P w H h) (e : H a = some (.ins C dx fs)) : ∃ mA, ObjM h a dx C mA ∧ (∀ f, RelO (fs.lookup f) (mA f)) ∧ PySem.Within mA (fs.map (·.1)) ∧ fs.length ≤ 1000 ∧ H dx = some (.own a) := by
  obtain ⟨d, z, ne, ob, mA, n, r, q⟩ := (show ObjOk P w H h a (.ins C dx fs) from hok a _ e)
  exact ⟨mA, ⟨ob, n, ne⟩, r, q, z, d⟩
end

/-! ### what of the text a class must have -/
structure Cls (K : PySem.W.Frag) (C : Addr) : Prop where
  pg : PySem.W.plainGet K C Str.empty = true
  hd : PySem.W.hasDictIn K C = true
  po : PySem.W.plainOver K C = true
  sa : PySem.W.findIn K (.ref C) "__setattr__" = some (some (.builtin "object.__setattr__"))
theorem Cls.get {K : PySem.W.Frag} {C : Addr} (c : Cls K C) (f : Str) : PySem.W.plainGet K C f = true := c.pg
section
variable {X : Cx} {pins : List (Addr × Obj)} {σ : St} {H : Hp} {s : Shared} {a C dx : Addr} {fs : List (Str × V)} {f : Str} {v : V} {A : Around} {E : Value → Shared → Prop}

end

/-! ### readings and rules -/
section
variable {X : Cx} {o e value : Expr} {f : Str} {pos pos' tpos : Pos} {ta tv : TE}
end

/-! ### isinstance -/
section
variable {X : Cx} {pins : List (Addr × Obj)} {σ : St} {H : Hp} {s : Shared} {A : Around} {E : Value → Shared → Prop} {Q : Value → Shared → Prop} {c : Value} {b : Bool}
/-- the type of a value, as the fragment's deciders take it; for an instance its class -/
inductive TyOf (K : PySem.W.Frag) (H : Hp) : V → Value → Prop where
  | non : TyOf K H .non (.type "NoneType")
  | bl (x : Bool) : TyOf K H (.bl x) (.type "bool")
  | int (i : Int) : TyOf K H (.int i) (.type "int")
  | str (x : Str) : TyOf K H (.str x) (.type "str")
  | flt (x : UInt64) : TyOf K H (.flt x) (.type "float")
  | lst {a : Addr} {xs : List V} (e : H a = some (.lst xs)) : TyOf K H (.ref a) (.type "list")
  | frz {a : Addr} {o : Obj} {xs : List V} (e : H a = some (.frz o (.lst xs))) : TyOf K H (.ref a) (.type "list")
  | tup {a : Addr} {xs : List V} (e : H a = some (.tup xs)) : TyOf K H (.ref a) (.type "tuple")
  | dK {a : Addr} {kvs : List (Key × V)} (e : H a = some (.dK kvs)) : TyOf K H (.ref a) (.type "dict")
  | dT {a : Addr} {kvs : List (List Key × V)} (e : H a = some (.dT kvs)) : TyOf K H (.ref a) (.type "dict")
  | ins {a C dx : Addr} {fs : List (Str × V)} (e : H a = some (.ins C dx fs)) (cl : Cls K C) (ha : PySem.W.findIn K (.ref C) "__class__" = some (some (.builtin "object.__class__")))
      (hn : PySem.W.specialIn K (.builtin "object.__class__") "__get__" = some (some (.builtin "getset_descriptor.__get__"))) (htk : PySem.W.takesIn K (.builtin "object.__class__") = some true)
      (hm : PySem.W.mroIn K C (.type "object") = some true) : TyOf K H (.ref a) (.ref C)
/-- isinstance(x, c) for one class c, a built-in or an own one: kitOne's answer -/
theorem isinst_ok {x : V} {u t : Value} (I : Inv X pins σ H s) (rx : RelV x u) (ty : TyOf X.K H x t) (e : PySem.W.kitOne X.K t c = some b) (h : ∀ tk, Q (.bool b) { s with toks := tk }) :
    wpAny (model X.prog X.w) A (call (.builtin "isinstance") [u, c]) Q E s := by
  cases ty with
  | non => cases (show u = Value.none from rx); exact PySem.W.kia_one PySem.W.kitx_none I.kIn True.intro e (fun z => nomatch z) h
  | bl y => cases (show u = Value.bool y from rx); exact PySem.W.kia_one PySem.W.kitx_bool I.kIn True.intro e (fun z => nomatch z) h
  | int i => obtain ⟨t, q⟩ := (show ∃ t, u = Value.int i t from rx); cases q; exact PySem.W.kia_one PySem.W.kitx_int I.kIn True.intro e (fun z => nomatch z) h
  | str y => obtain ⟨t, q⟩ := (show ∃ t, u = Value.str y t from rx); cases q; exact PySem.W.kia_one PySem.W.kitx_str I.kIn True.intro e (fun z => nomatch z) h
  | flt y => obtain ⟨t, q⟩ := (show ∃ t, u = Value.float y t from rx); cases q; exact PySem.W.kia_one PySem.W.kitx_float I.kIn True.intro e (fun z => nomatch z) h
  | @lst a xs ea =>
    cases (show u = Value.ref a from rx)
    obtain ⟨_, _, n, _, h1⟩ := (show ObjOk X.prog X.w H s.heap a (.lst xs) from I.hok a _ ea)
    exact PySem.W.kia_one PySem.W.kitx_list I.kIn ⟨_, h1, rfl⟩ e (fun z => nomatch z) h
  | @frz a ob xs ea =>
    cases (show u = Value.ref a from rx)
    obtain ⟨_, _, _, n, _, h1⟩ := (show ObjOk X.prog X.w H s.heap a (.frz ob (.lst xs)) from I.hok a _ ea)
    exact PySem.W.kia_one PySem.W.kitx_list I.kIn ⟨_, h1, rfl⟩ e (fun z => nomatch z) h
  | @tup a xs ea =>
    cases (show u = Value.ref a from rx)
    obtain ⟨_, _, _, p, _⟩ := (show ObjOk X.prog X.w H s.heap a (.tup xs) from I.hok a _ ea)
    obtain ⟨o, h1, h2, _⟩ := p
    exact PySem.W.kia_one PySem.W.kitx_tuple I.kIn ⟨o, h1, h2⟩ e (fun z => nomatch z) h
  | @dK a kvs ea =>
    cases (show u = Value.ref a from rx)
    obtain ⟨_, _, vs, _, p⟩ := (show ObjOk X.prog X.w H s.heap a (.dK kvs) from I.hok a _ ea)
    obtain ⟨o, es, ep, h1, h2, _⟩ := p
    exact PySem.W.kia_one PySem.W.kitx_dict I.kIn ⟨o, h1, h2.1⟩ e (fun z => nomatch z) h
  | @dT a kvs ea =>
    cases (show u = Value.ref a from rx)
    obtain ⟨_, _, xs, _, o, es, ep, h1, h2, _⟩ := (show ObjOk X.prog X.w H s.heap a (.dT kvs) from I.hok a _ ea)
    exact PySem.W.kia_one PySem.W.kitx_dict I.kIn ⟨o, h1, h2.1⟩ e (fun z => nomatch z) h
  | @ins a C dx fs ea cl ha hn htk hm =>
    cases (show u = Value.ref a from rx)
    obtain ⟨mA, O, _⟩ := ins_get I.hok ea
    obtain ⟨od, J, _⟩ := O.look
    exact PySem.W.kia_one (PySem.W.kitx_own (cl.get _) cl.hd ha hn htk hm) I.kIn J e (fun z => nomatch z) h
end
end L2

namespace L2
open PySem PySem.Spec PyProof.Rows

/-! ### room -/
structure Room (k : Nat) (A : Around) : Prop where
  hd : A.handled = none
  dp : A.depth + 3 * k + 5 < recursionLimit
  un : A.units + 16 * k + 200 < cLine
theorem Room.mono {j k : Nat} {A : Around} (r : Room k A) (h : j ≤ k) : Room j A := ⟨r.hd, by have := r.dp; omega, by have := r.un; omega⟩
theorem Room.deeper {k : Nat} {A : Around} (r : Room (k + 1) A) (env : Env) : Room k (A.deeper env) :=
  ⟨r.hd, by have := r.dp; show A.depth + 1 + 3 * k + 5 < _; omega, by have := r.un; show A.units + 3 + 16 * k + 200 < _; omega⟩
theorem Room.depth {k : Nat} {A : Around} (r : Room k A) : A.depth < recursionLimit := by have := r.dp; omega
theorem Room.units {k : Nat} {A : Around} (r : Room k A) : A.units + 64 < cLine := by have := r.un; omega
/-! ### argument lists and displays -/
def tNil : TA := fun _ H Q => Q [] H
def tCons (ta : TE) (tr : TA) : TA := fun σ H Q => ta σ H fun x H1 => tr σ H1 fun xs H2 => Q (x :: xs) H2
section
variable {X : Cx} {e : Expr} {es : List Expr} {te : TE} {t : TA} {pos : Pos}
theorem pa_nil : PA X [] tNil := fun _ _ _ _ H Q I h => Calls.spliced_nil ⟨[], H, I, .nil, h⟩
theorem pa_cons (ha : PE X e te) (hr : PA X es t) (hs : starEach (e :: es) X.env = (false, eval e X.env) :: starEach es X.env := by rfl) : PA X (e :: es) (tCons te t) := by
  intro pos pins s σ H Q I h
  rw [hs]
  show wpAny _ _ (spliced ((false, eval e X.env) :: backTo pos (starEach es X.env))) _ _ s
  refine Calls.spliced_cons (thn (ha pins s σ H _ I h) fun u s1 ⟨x, H1, I1, r1, q1⟩ => ?_)
  exact thn (hr pos pins s1 σ H1 _ I1 q1) fun us s2 ⟨xs, H2, I2, r2, q2⟩ => ⟨x :: xs, H2, I2, .cons r1 r2, q2⟩

/-- a tuple, a list of written items -/
def tTup (t : TA) : TE := fun σ H Q => t σ H fun xs H1 => xs.length ≤ sizeLine ∧ ∀ p, H1 p = none → Q (.ref p) (upd H1 p (.tup xs))
def tLst (t : TA) : TE := fun σ H Q => t σ H fun xs H1 => xs.length ≤ sizeLine ∧ ∀ p, H1 p = none → Q (.ref p) (upd H1 p (.lst xs))
theorem pe_tup {x1} (h : PA X es t) : PE X (.Tuple es x1 pos) (tTup t) := by
  intro pins s σ H Q I hq
  refine wpAny_Tuple_spliced (thn (h pos pins s σ H _ I hq) fun us s1 ⟨xs, H1, I1, r, z, q⟩ => ⟨by rw [← r.length]; exact z, ?_⟩)
  have hf : H1 s1.heap.objs.size = none := I1.hok.fresh (Nat.le_refl _)
  refine ⟨.ref s1.heap.objs.size, upd H1 s1.heap.objs.size (.tup xs), I1.laid (t' := s1.toks) (fun b u e => Heap.get?_push_of_some _ e) (Nat.le_refl _) ?_, rfl, q _ hf⟩
  exact ⟨z, us, r, ⟨_, Heap.get?_push_size _ rfl, rfl, _, rfl⟩, _, Heap.get?_push_size _ rfl, rfl⟩
theorem pe_lst (h : PA X es t) : PE X (.List es pos) (tLst t) := by
  intro pins s σ H Q I hq
  refine wpAny_List_spliced (thn (h pos pins s σ H _ I hq) fun us s1 ⟨xs, H1, I1, r, z, q⟩ => ⟨by rw [← r.length]; exact z, ?_⟩)
  have hf : H1 s1.heap.objs.size = none := I1.hok.fresh (Nat.le_refl _)
  refine ⟨.ref s1.heap.objs.size, upd H1 s1.heap.objs.size (.lst xs), I1.laid (t' := s1.toks) (fun b u e => Heap.get?_push_of_some _ e) (Nat.le_refl _) ?_, rfl, q _ hf⟩
  exact ⟨z, us, 0, r, Heap.get?_push_size _ rfl⟩
end

/-! ### what a def promises -/
/-- a def's promise: the bound arguments in the parameters' order, the heap, the wanted end, the wanted exception -/
abbrev Sp := List V → Hp → VK → XK → Prop
/-- how an exception lies behind a call (file 08 gives it): the callers' frames, abstract heap and state ahead of the call, the wish, the exception, the state -/
abbrev CXT := List Env → Hp → Shared → XK → Value → Shared → Prop

/-- the state at a call -/
structure Env0 (P : Program) (w : World) (K : PySem.W.Frag) (mg : Str → Option Value) (base : Heap) (A : Around) (outer : List Env) (s : Shared) (H : Hp) : Prop where
  frames : A.frames = some outer
  mod : Mod K mg base
  bs : ∀ b o, base.get? b = some o → s.heap.get? b = some o ∧ H b = none
  bsz : base.objs.size ≤ s.heap.objs.size
  funs : s.heap.FunFrames base outer
  frf : ∀ b ∈ frs outer, H b = none
  hok : HOk P w H s.heap
  bare : AllBare s.gens
/-- a call's end -/
def CE (outer : List Env) (P : Program) (w : World) (H : Hp) (s : Shared) (Q : VK) (u : Value) (s' : Shared) : Prop :=
  ∃ v H', s'.os = s.os ∧ AllBare s'.gens ∧ Un (frs outer) [] H H' s.heap s'.heap ∧ HOk P w H' s'.heap ∧ RelV v u ∧ Q v H'
def CR (CX : CXT) (outer : List Env) (P : Program) (w : World) (H : Hp) (s : Shared) (Q : VK) (E : XK) (r : Result) (s' : Shared) : Prop :=
  match r with
  | .ok (.ret u) => CE outer P w H s Q u s'
  | .ok _ => False
  | .error e => CX outer H s E e s'
structure FnOk (P : Program) (w : World) (K : PySem.W.Frag) (mg : Str → Option Value) (base : Heap) (CX : CXT) (k : Nat) (f : Addr) (fd : FuncData) (ps : List Str) (sp : Sp) : Prop where
  len : ∀ vs H Q E, sp vs H Q E → vs.length = ps.length
  run : ∀ (A : Around) (outer : List Env) (s : Shared) (H : Hp) (args : Args) (us : List Value) (vs : List V) (Q : VK) (E : XK), Room k A → Env0 P w K mg base A outer s H → BindsTo s fd args (ps.zip us) → Vals vs us → sp vs H Q E →
    codeAny (model P w) A (.call (.ref f) args) (CR CX outer P w H s Q E) s
section
variable {X : Cx} {pins : List (Addr × Obj)} {σ : St} {H : Hp} {s s' : Shared}
/-- from a body: what a callee wants -/
theorem Inv.env0 (I : Inv X pins σ H s) : Env0 X.prog X.w X.K X.mg X.base X.A X.stack s H :=
  ⟨I.ok.frames, I.ok.mod, I.bs, Nat.le_trans I.ok.bsz I.sz, I.stack, I.stkFree, I.hok, I.bare⟩
/-- behind a call -/
theorem Inv.after {Q : VK} {u : Value} (I : Inv X pins σ H s) (h : CE X.stack X.prog X.w H s Q u s') : EP X pins σ Q u s' := by
  obtain ⟨v, H', os, bare, un, hok, r, q⟩ := h
  obtain ⟨hh, g, d, t, os'⟩ := s'
  obtain rfl : os' = s.os := os
  exact ⟨v, H', I.call (h' := hh) (g' := g) (d' := d) (t' := t) (ch := []) un hok bare (fun b z => absurd z (by simp)), r, q⟩
end

/-! ### calls -/
/-- f(..): the written arguments, then the defaults dvs; E: what is wanted of an exception -/
def tCall (sp : Sp) (dvs : List V) (E : XK) (t : TA) : TE := fun σ H Q => t σ H fun vs H1 => sp (vs ++ dvs) H1 Q E
/-- how the parameters are bound: us the positional arguments, kw the keywords' values by name, ds the defaults that fill up -/
def Binds (K : PySem.W.Frag) (fd : FuncData) (ps : List Str) (ds : List Value) : Prop :=
  ∀ (s : Shared) (us : List Value), K.In s.heap → (us ++ ds).length = ps.length → BindsTo s fd ⟨us, []⟩ (ps.zip (us ++ ds))
/-- every parameter is given -/
theorem Binds.all {K : PySem.W.Frag} {fd : FuncData} {ps : List Str} (h : ∀ us : List Value, us.length = ps.length → bindArgs fd ⟨us, []⟩ = pure (ps.zip us)) : Binds K fd ps [] := fun s us _ hl => by
  rw [List.append_nil] at hl ⊢
  exact .of_eq (h us hl)

/-- an exception of a callee reaches what this body wants of exceptions -/
def Passes (CX : CXT) (X : Cx) (E : XK) : Prop := ∀ (pins : List (Addr × Obj)) (σ : St) (H : Hp) (s : Shared) (e : Value) (s' : Shared), Inv X pins σ H s → CX X.stack H s E e s' → X.xe e s'

section
variable {X : Cx} {CX : CXT} {k : Nat} {f C : Addr} {fd : FuncData} {ps : List Str} {sp : Sp} {dvs : List V} {ds : List Value} {E : XK} {x m : Str} {p pos apos : Pos} {e o : Expr} {es : List Expr} {ta : TE} {t : TA}

/-- the callee runs -/
theorem run_fn {pins : List (Addr × Obj)} {σ : St} {H : Hp} {s : Shared} {Q : VK} {us : List Value} {vs : List V} (F : FnOk X.prog X.w X.K X.mg X.base CX k f fd ps sp) (hr : Room k X.A) (hb : Binds X.K fd ps ds) (hd : Vals dvs ds) (hx : Passes CX X E)
    (I : Inv X pins σ H s) (r : Vals vs us) (h : sp (vs ++ dvs) H Q E) : wpAny (model X.prog X.w) X.A (call (.ref f) us) (EP X pins σ Q) X.xe s := by
  have r2 : Vals (vs ++ dvs) (us ++ ds) := r.append hd
  have hl : (us ++ ds).length = ps.length := by rw [← r2.length]; exact F.len _ _ _ _ h
  refine wpAny_call (codeAny_mono (F.run X.A X.stack s H ⟨us, []⟩ (us ++ ds) (vs ++ dvs) Q E hr I.env0 (hb s us I.kIn hl) r2 h) fun r s' hq => ?_)
  cases r with
  | error e => exact hx pins σ H s e s' I hq
  | ok fl =>
    cases fl with
    | ret u => exact I.after hq
    | next => exact False.elim hq
    | brk => exact False.elim hq
    | cont => exact False.elim hq

theorem pe_call (F : FnOk X.prog X.w X.K X.mg X.base CX k f fd ps sp) (hr : Room k X.A) (hg : Gl X x) (hm : X.mg x = some (.ref f)) (hk : PySem.W.keepIn X.K (.ref f) = true) (hb : Binds X.K fd ps ds) (hd : Vals dvs ds) (hx : Passes CX X E)
    (ha : PA X (e :: es) t) (hdb : (x == ("__debug__" : Str)) = false := by decide) (he : starEach (e :: es) X.env = (false, eval e X.env) :: starEach es X.env := by rfl) (hpl : (backTo pos (starEach es X.env)).any (·.1) = false := by rfl) :
    PE X (.Call (.Name x p) (e :: es) [] pos) (tCall sp dvs E t) := by
  intro pins s σ H Q I h
  refine wpAny_Call_Name_kw (ld_glob I hg hm ?_ hdb)
  refine PySem.W.callWith_K (h₀ := X.base) I.ok.mod.kin hk (thn (ha pos pins s σ H _ I h) fun us s1 ⟨vs, H1, I1, r, q⟩ => ⟨I1.kIn, ?_⟩) he hpl
  exact run_fn F hr hb hd hx I1 r q
end

/-! ### keywords -/
section
variable {X : Cx} {CX : CXT} {k : Nat} {f C : Addr} {fd : FuncData} {ps ks : List Str} {sp : Sp} {E : XK} {x m : Str} {p pos apos kpos : Pos} {e o : Expr} {es : List Expr} {kws : List Keyword} {te ta : TE} {t tk : TA} {nm : Option Str}
variable {g : List Value → List Value → List Value} {gV : List V → List V → List V}
end

/-! ### a def's body keeps its promise -/
/-- names: the parameters first -/
structure FnScope (N P : List Str) (sc : Scope) : Prop where
  kind : sc.kind = .function
  co : sc.isCoroutine = false
  gen : sc.isGenerator = false
  nd : N.Nodup
  pre : N.take P.length = P
  par : ∀ x ∈ P, sc.names.lookup x = some .local ∨ sc.names.lookup x = some .cell
  nofree : ∀ y ∈ sc.names, y.2 ≠ .free

theorem bindL_out {kindOf : Str → Option NameKind} {x : Str} : ∀ {binds : List (Str × Value)} {m : Str → Option Value}, (∀ v, (x, v) ∉ binds) → bindL kindOf binds m x = m x
  | [], _, _ => rfl
  | (n, v) :: r, m, h => by
    unfold bindL
    rw [bindL_out fun w hw => h w (List.mem_cons_of_mem _ hw)]
    split
    · have : x ≠ n := by rintro rfl; exact h v List.mem_cons_self
      simp [this]
    · rfl
theorem bindC_out {kindOf : Str → Option NameKind} {x : Str} : ∀ {binds : List (Str × Value)} {m : Str → Option Value}, (∀ v, (x, v) ∉ binds) → bindC kindOf binds m x = m x
  | [], _, _ => rfl
  | (n, v) :: r, m, h => by
    unfold bindC
    rw [bindC_out fun w hw => h w (List.mem_cons_of_mem _ hw)]
    split
    · rfl
    · have : x ≠ n := by rintro rfl; exact h v List.mem_cons_self
      simp [this]
theorem bindL_get {kindOf : Str → Option NameKind} {x : Str} {v : Value} : ∀ {P : List Str} {vs : List Value} {i : Nat} {m : Str → Option Value}, P.Nodup → P[i]? = some x → vs[i]? = some v → kindOf x = some .local →
    bindL kindOf (P.zip vs) m x = some v
  | [], _, _, _, _, h, _, _ => by simp at h
  | _ :: _, [], _, _, _, _, h, _ => by simp at h
  | p :: P, w :: vs, 0, m, nd, h1, h2, hk => by
    simp at h1 h2; subst h1; subst h2
    show bindL kindOf ((p, w) :: P.zip vs) m p = _
    unfold bindL
    rw [bindL_out fun v hv => (List.nodup_cons.mp nd).1 (List.of_mem_zip hv).1, if_pos hk]
    simp
  | p :: P, w :: vs, i + 1, m, nd, h1, h2, hk => by
    show bindL kindOf ((p, w) :: P.zip vs) m x = _
    unfold bindL
    exact bindL_get (i := i) (List.nodup_cons.mp nd).2 (by simpa using h1) (by simpa using h2) hk
theorem bindC_get {kindOf : Str → Option NameKind} {x : Str} {v : Value} : ∀ {P : List Str} {vs : List Value} {i : Nat} {m : Str → Option Value}, P.Nodup → P[i]? = some x → vs[i]? = some v → kindOf x ≠ some .local →
    bindC kindOf (P.zip vs) m x = some v
  | [], _, _, _, _, h, _, _ => by simp at h
  | _ :: _, [], _, _, _, _, h, _ => by simp at h
  | p :: P, w :: vs, 0, m, nd, h1, h2, hk => by
    simp at h1 h2; subst h1; subst h2
    show bindC kindOf ((p, w) :: P.zip vs) m p = _
    unfold bindC
    rw [bindC_out fun v hv => (List.nodup_cons.mp nd).1 (List.of_mem_zip hv).1, if_neg hk]
    simp
  | p :: P, w :: vs, i + 1, m, nd, h1, h2, hk => by
    show bindC kindOf ((p, w) :: P.zip vs) m x = _
    unfold bindC
    exact bindC_get (i := i) (List.nodup_cons.mp nd).2 (by simpa using h1) (by simpa using h2) hk

/-- the names' values at the entry -/
def start (N : List Str) (vs : List V) : St := vs.map some ++ List.replicate (N.length - vs.length) none

/-- the context of a def's body, at its entry; an exception leaves the frame, then lies as CX says -/
def cxOf (CX : CXT) (P : Program) (w : World) (K : PySem.W.Frag) (mg : Str → Option Value) (base : Heap) (N : List Str) (qual : Str) (scope : Scope) (f : Addr) (cd : Value) (A : Around) (outer : List Env) (s : Shared) (H : Hp) (E : XK) : Cx where
  prog := P
  w := w
  K := K
  mg := mg
  base := base
  A := A.deeper (envOfC qual scope s.heap.objs.size f cd)
  N := N
  s₀ := s
  H₀ := H
  env := envOfC qual scope s.heap.objs.size f cd
  outer := outer
  stack := envOfC qual scope s.heap.objs.size f cd :: outer
  ex := []
  calm := true
  fn := fun _ => true
  pn := []
  xe := fun e s' => wpAny (model P w) (A.deeper (envOfC qual scope s.heap.objs.size f cd)) (leaving (envOfC qual scope s.heap.objs.size f cd) e) (fun _ s'' => CX outer H s E e s'') (fun e' s'' => CX outer H s E e' s'') s'

theorem cell_has {sc : Scope} {n : Nat} {x : Str} (h : sc.names.lookup x = some .cell) : ∃ c, (cellsFrom n sc.names []).lookup x = some c := by
  have q := PySem.W.cellsFrom_some sc.names n [] (.inl h)
  exact Option.isSome_iff_exists.mp q

theorem inv_start {CX : CXT} {P : Program} {w : World} {K : PySem.W.Frag} {mg : Str → Option Value} {base : Heap} {N ps : List Str} {qual : Str} {scope : Scope} {f : Addr} {cd : Value} {A : Around} {outer : List Env} {s s1 : Shared} {H : Hp} {E : XK} {us : List Value} {vs : List V}
    (S : FnScope N ps scope) (hd : A.handled = none) (e0 : Env0 P w K mg base A outer s H) (hl : vs.length = ps.length) (r : Vals vs us)
    (x : InCallC s s.heap.objs.size (bindL (envOfC qual scope s.heap.objs.size f cd).kindOf (ps.zip us) fun _ => none) (cellsFrom (s.heap.objs.size + 1) scope.names []) (bindC (envOfC qual scope s.heap.objs.size f cd).kindOf (ps.zip us) fun _ => none) s1) :
    Inv (cxOf CX P w K mg base N qual scope f cd A outer s H E) [] (start N vs) H s1 := by
  have hpl : ps.length ≤ N.length := by have := congrArg List.length S.pre; rw [List.length_take] at this; omega
  obtain ⟨h1, tk, rfl, hk⟩ := x.done
  have noA : ∀ b : Addr, b ∉ (cxOf CX P w K mg base N qual scope f cd A outer s H E).ex := fun b z => absurd (show b ∈ ([] : List Addr) from z) (by simp)
  refine ⟨⟨e0.mod, S.kind, rfl, rfl, Nat.le_refl _, fun y z c h1 h2 => ?_, fun y hy => ?_, fun y c _ h => ?_, fun _ => hd, Around.frames_deeper e0.frames, .inr ⟨rfl, rfl⟩, fun b z => absurd z (noA b), e0.bs, e0.bsz, fun b _ _ => noA b, fun b z => absurd z (noA b), e0.funs, e0.frf⟩,
    rfl, e0.bare, Un.kept hk, ⟨_, x.toInCall.ns, fun i y v h1 h2 h3 => ?_⟩, fun y c h => ⟨_, x.cell y c h⟩, e0.hok.fresh (Nat.le_refl _), fun y c h => ?_, fun p hp => absurd (show p ∈ ([] : List (Addr × Obj)) from hp) (by simp), e0.hok.kept hk, ?_⟩
  · exact name_of_addr x.apart (PySem.mem_of_lookup h1) (PySem.mem_of_lookup h2)
  · have hy : scope.names.lookup y = some .cell ∨ scope.names.lookup y = some .free := hy
    rcases hy with hy | hy
    · exact cell_has hy
    · exact absurd rfl (S.nofree _ (PySem.mem_of_lookup hy))
  · exact Nat.le_of_lt (x.above y c (PySem.mem_of_lookup h))
  · have hi : i < vs.length := by
      unfold start at h2
      by_cases hi : i < vs.length
      · exact hi
      · rw [List.getElem?_append_right (by simpa using hi)] at h2
        rw [List.getElem?_replicate] at h2
        split at h2 <;> cases h2
    have ha : vs[i]? = some v := by
      unfold start at h2
      rw [List.getElem?_append_left (by simpa using hi), List.getElem?_map] at h2
      cases e : vs[i]? with
      | none => rw [e] at h2; cases h2
      | some a => rw [e] at h2; cases h2; rfl
    obtain ⟨u, hu, rv⟩ := r.get ha
    have hp : ps[i]? = some y := by
      rw [← S.pre, List.getElem?_take_of_lt (by omega)]; exact h1
    have ndP : ps.Nodup := by rw [← S.pre]; exact S.nd.sublist (List.take_sublist _ _)
    refine ⟨u, rv, ?_⟩
    rcases S.par y (List.mem_of_getElem? hp) with k | k
    · exact .inl ⟨k, bindL_get ndP hp hu k⟩
    · obtain ⟨c, e⟩ := cell_has (n := s.heap.objs.size + 1) k
      refine .inr ⟨.inl k, c, e, ?_⟩
      have q := x.cell y c e
      rw [bindC_get ndP hp hu (by show scope.names.lookup y ≠ _; rw [k]; decide)] at q
      exact q
  · exact e0.hok.fresh (Nat.le_of_lt (x.above y c (PySem.mem_of_lookup h)))
  · unfold start
    show _ = N.length
    rw [List.length_append, List.length_map, List.length_replicate]
    omega

/-- THE RULE: a def (or a method) of the text, by its body. The body's reading t is chosen for each entry; it is run at the parameters' values -/
theorem fn_of {CX : CXT} {P : Program} {w : World} {K : PySem.W.Frag} {mg : Str → Option Value} {base : Heap} {k : Nat} {f : Addr} {name qual : Str} {params : Arguments} {body : List Stmt} {scope : Scope} {dV kV doc pm cdv ct oc : Value} {an od : Option Addr}
    {osl : Array (Option Value)} {N ps : List Str} {sp : Sp} (lk : K.lookup f = some ⟨oc, od, .func (PySem.W.fnOf name qual params body scope dV kV doc pm an cdv ct), osl⟩) (hcd : PySem.W.codeIn K cdv qual = true) (S : FnScope N ps scope)
    (len : ∀ vs H Q E, sp vs H Q E → vs.length = ps.length)
    (hbody : ∀ (A : Around) (outer : List Env) (s : Shared) (H : Hp) (vs : List V) (Q : VK) (E : XK), Room k (A.deeper (envOfC qual scope s.heap.objs.size f cdv)) → sp vs H Q E →
      ∃ t, PSs (cxOf CX P w K mg base N qual scope f cdv A outer s H E) body t ∧ t { nx := fun _ H' => Q .non H', rt := Q } (start N vs) H) :
    FnOk P w K mg base CX (k + 1) f (PySem.W.fnOf name qual params body scope dV kV doc pm an cdv ct) ps sp := by
  refine ⟨len, fun A outer s H args us vs Q E hr e0 hb r hsp => ?_⟩
  have hl := len _ _ _ _ hsp
  have KX : K.In s.heap := e0.mod.kin.keeps fun b o e => (e0.bs b o e).1
  have lim : s.heap.NoLimit := e0.mod.nolimit.keeps fun b o e => (e0.bs b o e).1
  have hkind : ∀ y ∈ ps.zip us, scope.names.lookup y.1 = some .local ∨ (scope.names.lookup y.1 = some .cell ∧ ((cellsFrom (s.heap.objs.size + 1) scope.names []).lookup y.1).isSome = true) := fun ⟨n, v⟩ hy => by
    rcases S.par n (List.of_mem_zip hy).1 with q | q
    · exact .inl q
    · exact .inr ⟨q, PySem.W.cellsFrom_some _ _ _ (.inl q)⟩
  refine codeAny_call_function hr.depth (KX _ _ lk) rfl S.co S.gen rfl (PySem.W.codeRec_of KX hcd) (hb _ _ _ _ ?_)
  refine wpAny_newFunctionEnv_cells S.kind hkind fun env he s1 x => ?_
  subst he
  refine ⟨lim.keeps x.toInCall.keep, codeAny_func ?_⟩
  obtain ⟨t, ht, hq⟩ := hbody A outer s H vs Q E (hr.deeper _) hsp
  have I : Inv (cxOf CX P w K mg base N qual scope f cdv A outer s H E) [] (start N vs) H s1 := inv_start S hr.hd e0 hl r x
  refine wpAny_mono (ht [] s1 (start N vs) H _ I hq) (fun fl s' hs => ?_) fun e s' hs => hs
  have fin : ∀ {σ' : St} {H' : Hp} {v : V} {u : Value}, Inv (cxOf CX P w K mg base N qual scope f cdv A outer s H E) [] σ' H' s' → RelV v u → Q v H' → CE outer P w H s Q u s' :=
    fun {σ' H' v u} J rv q => ⟨v, H', J.os, J.bare, J.base, J.hok, rv, q⟩
  cases fl with
  | ret u =>
    obtain ⟨v, σ', H', J, rv, q⟩ := hs
    exact fin J rv q
  | next =>
    obtain ⟨σ', H', J, q⟩ := hs
    exact fin (v := V.non) (u := Value.none) J rfl q
  | brk =>
    obtain ⟨_, _, _, q⟩ := hs
    exact False.elim q
  | cont =>
    obtain ⟨_, _, _, q⟩ := hs
    exact False.elim q
end L2

namespace L2
open PySem PySem.Spec PyProof.Rows
section
variable {X : Cx} {x : Str} {p pos : Pos} {e : Expr} {es : List Expr} {t : TA} {id T : String} {r : List V → Hp → VK → Prop}

def tCB (r : List V → Hp → VK → Prop) (t : TA) : TE := fun σ H Q => t σ H fun vs H1 => r vs H1 Q
/-- f(e, ..), f a built-in function -/
theorem pe_callB (hc : CallR X (.builtin id) r) (hg : Gl X x) (hm : X.mg x = none) (hv : bootBuiltins x = some (.builtin id)) (ha : PA X (e :: es) t) (hn : x ≠ "__name__" := by decide) (hdb : (x == ("__debug__" : Str)) = false := by decide)
    (he : starEach (e :: es) X.env = (false, eval e X.env) :: starEach es X.env := by rfl) (hpl : (backTo pos (starEach es X.env)).any (·.1) = false := by rfl) : PE X (.Call (.Name x p) (e :: es) [] pos) (tCB r t) := by
  intro pins s σ H Q I h
  refine wpAny_Call_Name_kw (ld_blt I hg hm hv ?_ hn hdb)
  exact PyProof.Rows.callWith_builtin1 (thn (ha pos pins s σ H _ I h) fun us s1 ⟨vs, H1, I1, r1, q1⟩ => hc pins s1 σ H1 vs us Q I1 r1 q1) he hpl
/-- T(e, ..), T a built-in type -/
theorem pe_callTy (hc : CallR X (.type T) r) (hg : Gl X x) (hm : X.mg x = none) (hv : bootBuiltins x = some (.type T)) (ha : PA X (e :: es) t) (hn : x ≠ "__name__" := by decide) (hdb : (x == ("__debug__" : Str)) = false := by decide)
    (he : starEach (e :: es) X.env = (false, eval e X.env) :: starEach es X.env := by rfl) (hpl : (backTo pos (starEach es X.env)).any (·.1) = false := by rfl) : PE X (.Call (.Name x p) (e :: es) [] pos) (tCB r t) := by
  intro pins s σ H Q I h
  refine wpAny_Call_Name_kw (ld_blt I hg hm hv ?_ hn hdb)
  exact PyProof.Rows.callWith_type1 (thn (ha pos pins s σ H _ I h) fun us s1 ⟨vs, H1, I1, r1, q1⟩ => hc pins s1 σ H1 vs us Q I1 r1 q1) he hpl
end
end L2

namespace HT
open PySem PyProof.Rows

section
open PySem.SeqAt
open PySem.AutoSeq1 (wpAny_loadPart')
open PySem.MeetsSeq PySem.MeetsSeq2 PySem.MeetsSeq3

end

section
variable {prog : Program} {w : World} {A : Around} {E : Value → Shared → Prop} {s : Shared}

/-! ### t[a:b], not the whole -/
/-- a slice's bound as a place among n (d where it is left out) -/
def sIx (n d : Nat) : Option Int → Nat
  | none => d
  | some v => if v < 0 then (v + (n : Int)).toNat else min v.toNat n
theorem sIx_none (n d : Nat) : sIx n d none = d := rfl
theorem sIx_nat (n d k : Nat) : sIx n d (some (k : Int)) = min k n := by
  show (if (k : Int) < 0 then ((k : Int) + (n : Int)).toNat else min (k : Int).toNat n) = min k n
  rw [if_neg (by omega), Int.toNat_natCast]
end
end HT

namespace L2
open PySem PySem.Spec PyProof.Rows

/-! ### the parts of a slice -/
abbrev TO := St → Hp → (Option Int → Hp → Prop) → Prop
/-- a slice's part (left out, or an int) -/
def PO (X : Cx) (e : Option Expr) (t : TO) : Prop :=
  ∀ (pins : List (Addr × Obj)) (s : Shared) (σ : St) (H : Hp) (Q : Option Int → Hp → Prop), Inv X pins σ H s → t σ H Q →
    wpAny (model X.prog X.w) X.A (evalPart e X.env) (fun u s' => ∃ o H', Inv X pins σ H' s' ∧ IsPart u o ∧ Q o H') X.xe s
def tNoPart : TO := fun _ H Q => Q none H
def tPart (t : TE) : TO := fun σ H Q => t σ H fun x H1 => ∃ i, x = .int i ∧ Q (some i) H1

theorem intsAre_of {ns : List Int} : ∀ {us : List Value}, Vals (ns.map V.int) us → IntsAre us ns := by
  induction ns with
  | nil => intro us r; rw [List.map_nil] at r; cases r; exact .nil
  | cons n ns ih =>
    intro us r
    rw [List.map_cons] at r
    cases r with
    | cons r1 r2 =>
      obtain ⟨t, e⟩ := r1
      subst e
      exact .cons n t (ih r2)

section
variable {X : Cx} {e : Expr} {te : TE} {lo hi : Option Expr} {tl th : TO} {pos p2 : Pos}

theorem po_none : PO X none tNoPart := by
  intro pins s σ H Q I h
  rw [evalPart_none]
  exact wpAny_pure ⟨none, H, I, .none, h⟩
theorem po_some (h : PE X e te) : PO X (some e) (tPart te) := by
  intro pins s σ H Q I hw
  rw [evalPart_some]
  refine thn (h pins s σ H _ I hw) fun u s1 ⟨x, H1, I1, r1, q1⟩ => ?_
  obtain ⟨i, rfl, q⟩ := q1
  obtain ⟨t, rfl⟩ := r1
  exact ⟨some i, H1, I1, .int i t, q⟩

/-- what a slice of a value is, by values: the slice object stands at sl -/
def SlR (X : Cx) (r : V → Option Int → Option Int → Hp → VK → Prop) : Prop :=
  ∀ (pins : List (Addr × Obj)) (s : Shared) (σ : St) (H : Hp) (x : V) (v vl vu : Value) (lo hi : Option Int) (sl : Addr) (Q : VK), Inv X pins σ H s → RelV x v → s.heap.IsSliceOf sl vl vu .none → IsPart vl lo → IsPart vu hi → r x lo hi H Q →
    ∃ T id, typeLookup (.type T) "__getitem__" = pure (some (.builtin id)) ∧ s.TypeIs v T ∧ wpAny (model X.prog X.w) X.A (getItem v (.ref sl)) (EP X pins σ Q) X.xe s
def tSl (r : V → Option Int → Option Int → Hp → VK → Prop) (te : TE) (tl th : TO) : TE := fun σ H Q => te σ H fun x H1 => tl σ H1 fun l H2 => th σ H2 fun u H3 => r x l u H3 Q
/-- a[lo:hi], any a -/
theorem pe_slice {r : V → Option Int → Option Int → Hp → VK → Prop} (hr : SlR X r) (he : PE X e te) (hl : PO X lo tl) (hu : PO X hi th) : PE X (.Subscript e (.Slice lo hi none p2) pos) (tSl r te tl th) := by
  intro pins s σ H Q I h
  refine Subscript_ (thn (he pins s σ H _ I h) fun v s1 ⟨x, H1, I1, r1, q1⟩ => ?_)
  refine wpAny_Slice (thn (hl pins s1 σ H1 _ I1 q1) fun vl s2 ⟨l, H2, I2, pl, q2⟩ => thn (hu pins s2 σ H2 _ I2 q2) fun vu s3 ⟨u, H3, I3, pu, q3⟩ => ?_)
  rw [evalPart_none]
  refine wpAny_pure ?_
  have I4 : Inv X pins σ H3 { s3 with heap := s3.heap.push { cls := .type "slice", data := .fields #[vl, vu, .none] } } := I3.kept (t' := s3.toks) fun b ob q => Heap.get?_push_of_some _ q
  obtain ⟨T, id, hT, ht, hg⟩ := hr pins { s3 with heap := s3.heap.push { cls := .type "slice", data := .fields #[vl, vu, .none] } } σ H3 x v vl vu l u s3.heap.objs.size Q I4 r1 (Heap.IsSliceOf.new ..) pl pu q3
  show wpAny (model X.prog X.w) X.A (subscriptTail e (.Slice lo hi none p2) v (.ref s3.heap.objs.size)) (EP X pins σ Q) X.xe { s3 with heap := s3.heap.push { cls := .type "slice", data := .fields #[vl, vu, .none] } }
  exact tail_any (ops := [.ref s3.heap.objs.size, v]) ht hT hg (by with_unfolding_all rfl)

/-- the items of xs[lo:hi] -/
def cutV (xs : List V) (lo hi : Option Int) : List V := (xs.drop (HT.sIx xs.length 0 lo)).take (HT.sIx xs.length xs.length hi - HT.sIx xs.length 0 lo)
theorem cutV_length (xs : List V) (lo hi : Option Int) : (cutV xs lo hi).length ≤ xs.length := by
  unfold cutV
  rw [List.length_take, List.length_drop]
  omega
/-! ### t < u, t + u -/
end
end L2

namespace L2
open PySem PySem.Spec PyProof.Rows

/-! ### places -/
/-- the place that an index of any sign means -/
def ixN (n : Nat) (i : Int) : Option Nat := if 0 ≤ i then (if i < n then some i.toNat else none) else if -(n : Int) ≤ i then some (i + n).toNat else none
def atI {α : Type} (xs : List α) (i : Int) : Option α := (ixN xs.length i).bind fun j => xs[j]?
theorem ixN_seq {n : Nat} {i : Int} {j : Nat} (h : ixN n i = some j) : seqIndex? i n = some j ∧ j < n ∧ -(n : Int) ≤ i ∧ i < n := by
  unfold ixN at h
  by_cases h0 : 0 ≤ i
  · rw [if_pos h0] at h
    by_cases h1 : i < n
    · rw [if_pos h1] at h
      have e : i.toNat = j := Option.some.inj h
      exact ⟨by rw [seqIndex_of h0 h1, e], by omega, by omega, h1⟩
    · rw [if_neg h1] at h; cases h
  · rw [if_neg h0] at h
    by_cases h1 : -(n : Int) ≤ i
    · rw [if_pos h1] at h
      have e : (i + n).toNat = j := Option.some.inj h
      exact ⟨by rw [seqIndex_neg (by omega) h1, e], by omega, h1, by omega⟩
    · rw [if_neg h1] at h; cases h
theorem atI_get {α : Type} {xs : List α} {i : Int} {v : α} (h : atI xs i = some v) : ∃ j, seqIndex? i xs.length = some j ∧ xs[j]? = some v ∧ j < xs.length ∧ -(xs.length : Int) ≤ i ∧ i < xs.length := by
  unfold atI at h
  cases e : ixN xs.length i with
  | none => rw [e] at h; cases h
  | some j =>
    rw [e] at h
    obtain ⟨h1, h2, h3, h4⟩ := ixN_seq e
    exact ⟨j, h1, h, h2, h3, h4⟩
theorem atI_nat {α : Type} {xs : List α} {j : Nat} {v : α} (h : xs[j]? = some v) : atI xs (j : Int) = some v := by
  have hj : j < xs.length := (List.getElem?_eq_some_iff.mp h).1
  have e : ixN xs.length (j : Int) = some j := by
    unfold ixN
    rw [if_pos (by omega), if_pos (by omega)]; simp
  unfold atI; rw [e]; exact h
/-! ### what may be subscripted -/
/-- what stands as an index of a plain subscript -/
def PlainIx (b : Expr) : Prop := ∀ o i, subscripted b false o i = operate [o, i] (getItem o i)
/-- a subscript by values -/
def IxR (X : Cx) (r : R2) : Prop :=
  ∀ (value slice : Expr) (pins : List (Addr × Obj)) (s : Shared) (σ : St) (H : Hp) (x y : V) (v u : Value) (Q : VK), Inv X pins σ H s → RelV x v → RelV y u → r x y H Q →
    subscripted slice false v u = operate [v, u] (getItem v u) → wpAny (model X.prog X.w) X.A (subscriptTail value slice v u) (EP X pins σ Q) X.xe s
/-- a call of a builtin's method by values: the receiver, the arguments -/
def MtR (X : Cx) (id : String) (r : V → List V → Hp → VK → Prop) : Prop :=
  ∀ (pins : List (Addr × Obj)) (s : Shared) (σ : St) (H : Hp) (x : V) (xs : List V) (v : Value) (us : List Value) (Q : VK), Inv X pins σ H s → RelV x v → Vals xs us → r x xs H Q →
    wpAny (model X.prog X.w) X.A (call (.builtin id) (v :: us)) (EP X pins σ Q) X.xe s
section
variable {X : Cx} {a b : Expr} {ta tb : TE} {pos : Pos}
/-- a[b] -/
theorem pe_ix {r : R2} (hr : IxR X r) (ha : PE X a ta) (hb : PE X b tb) (hs : PlainIx b) : PE X (.Subscript a b pos) (tOp r ta tb) := by
  intro pins s σ H Q I h
  exact Subscript_ (binT ha hb I h fun v u s2 x y H2 I2 rx ry q => hr a b pins s2 σ H2 x y v u Q I2 rx ry q (hs _ _))

def rIxL (K : PySem.W.Frag) : R2 := fun x y H Q => ∃ p xs i v, x = .ref p ∧ y = .int i ∧ SqL K H p xs ∧ atI xs i = some v ∧ Q v H
def rIxT (K : PySem.W.Frag) : R2 := fun x y H Q => ∃ p xs i v, x = .ref p ∧ y = .int i ∧ SqT K H p xs ∧ atI xs i = some v ∧ Q v H
def rIxS : R2 := fun x y H Q => ∃ z i c, x = .str z ∧ y = .int i ∧ z.length ≤ sizeLine ∧ atI z.cps.toList i = some c ∧ Q (.str ⟨#[c]⟩) H
theorem ix_list : IxR X (rIxL X.K) := by
  intro value slice pins s σ H x y v u Q I rx ry h hs
  obtain ⟨p, xs, i, z, rfl, rfl, hq, he, q⟩ := h
  cases rx
  obtain ⟨t, rfl⟩ := ry
  obtain ⟨its, r, pl, hz⟩ := I.list hq
  obtain ⟨j, h1, h2, h3, h4, h5⟩ := atI_get he
  obtain ⟨w, ew, rw'⟩ := r.get h2
  have hl := r.length
  have hn := line63
  have fin : EP X pins σ Q w s := ⟨z, H, I, rw', q⟩
  by_cases h0 : 0 ≤ i
  · have hj : i.toNat = j := by
      rw [seqIndex_of h0 h5] at h1
      exact Option.some.inj h1
    exact item_listR pl.isList h0 (by omega) (by rw [hj]; simpa using ew) fin hs
  · have hj : (i + (its.toArray.size : Int)).toNat = j := by
      rw [seqIndex_neg (by omega) h4] at h1
      rw [List.size_toArray, ← hl]
      exact Option.some.inj h1
    exact subscriptTail_builtinR (x := w) pl.isList.typeIs slot_list_getitem.lookup
      (wpAny_getItem_list_neg (Q := fun r s' => r = w ∧ EP X pins σ Q r s') pl.isList (by omega) (by rw [List.size_toArray] <;> omega) (by omega) (by rw [hj]; simpa using ew) ⟨rfl, fin⟩) hs
theorem ix_tup : IxR X (rIxT X.K) := by
  intro value slice pins s σ H x y v u Q I rx ry h hs
  obtain ⟨p, xs, i, z, rfl, rfl, hq, he, q⟩ := h
  cases rx
  obtain ⟨t, rfl⟩ := ry
  obtain ⟨its, r, pl, hz⟩ := I.tuple hq
  obtain ⟨j, h1, h2, h3, h4, h5⟩ := atI_get he
  obtain ⟨w, ew, rw'⟩ := r.get h2
  have hl := r.length
  have hn := line63
  have fin : EP X pins σ Q w s := ⟨z, H, I, rw', q⟩
  exact subscriptTail_builtinR (x := w) pl.typeIs slot_tuple_getitem.lookup
    (getItem_tuple (j := j) (Q := fun r s' => r = w ∧ EP X pins σ Q r s') pl (by omega) (by omega) (by rw [List.size_toArray, ← hl]; exact h1) (by simpa using ew) ⟨rfl, fin⟩) hs
theorem ix_str : IxR X rIxS := by
  intro value slice pins s σ H x y v u Q I rx ry h hs
  obtain ⟨z, i, c, rfl, rfl, hz, he, q⟩ := h
  obtain ⟨t, rfl⟩ := rx
  obtain ⟨t', rfl⟩ := ry
  obtain ⟨j, h1, h2, h3, h4, h5⟩ := atI_get he
  have hl : z.cps.toList.length = z.length := by simp [Str.length]
  rw [hl] at h1 h4 h5
  have hn := line63
  exact tail_any (typeIs_str s z t) slot_str_getitem.lookup (getItem_str (c := c) (by
    have e1 : decide (i < -(2 ^ 63 : Int)) = false := decide_eq_false (by omega)
    have e2 : decide (i ≥ 2 ^ 63) = false := decide_eq_false (by omega)
    rw [e1, e2, Bool.or_false]) (by rw [h1]; simpa using h2) ⟨.str ⟨#[c]⟩, H, I.tok _, ⟨_, rfl⟩, q⟩) hs
/-! ### xs[i] = v, any sign -/
/-- the list's object behind a store -/
theorem mapSeq_set (its : List Value) (n j : Nat) (u : Value) : Obj.mapSeq (·.setIfInBounds j u) { cls := .type "list", data := .seq its.toArray n } = { cls := .type "list", data := .seq (its.set j u).toArray n } := by
  simp [Obj.mapSeq]
theorem Inv.lst {pins : List (Addr × Obj)} {σ : St} {H : Hp} {s : Shared} {p : Addr} {xs : List V} (I : Inv X pins σ H s) (h : H p = some (.lst xs)) :
    ∃ (its : List Value) (n : Nat), Vals xs its ∧ s.heap.get? p = some { cls := .type "list", data := .seq its.toArray n } ∧ xs.length ≤ sizeLine := by
  obtain ⟨z, its, n, r, e⟩ := I.hok p _ h
  exact ⟨its, n, r, e, z⟩
/-- the list at p is written by an update of its object -/
theorem Inv.lstUpd {pins : List (Addr × Obj)} {σ : St} {H : Hp} {s : Shared} {p : Addr} {xs ys : List V} {its its' : List Value} {n n' : Nat} {f : Obj → Obj} (I : Inv X pins σ H s) (h : H p = some (.lst xs))
    (ho : s.heap.get? p = some { cls := .type "list", data := .seq its.toArray n }) (hf : f { cls := .type "list", data := .seq its.toArray n } = { cls := .type "list", data := .seq its'.toArray n' }) (r : Vals ys its') (hz : ys.length ≤ sizeLine) (t : Nat) :
    Inv X pins σ (upd H p (.lst ys)) { s with heap := s.heap.update p f, toks := t } := by
  have e : (s.heap.update p f).get? p = some { cls := .type "list", data := .seq its'.toArray n' } := by
    rw [Heap.get?_update_self f ho (by rw [hf] <;> rfl), hf]
  refine I.write (x := p) (e := p) (by rw [h]; trivial) (.inl rfl) (fun b u hb q => (Heap.get?_update_other _ _ (Ne.symm hb)).trans q) ⟨_, e⟩ ?_
  exact ⟨hz, its', n', r, e⟩
def rSetL : V → V → V → Hp → (Hp → Prop) → Prop := fun o i v H Q => ∃ p xs k j, o = .ref p ∧ i = .int k ∧ H p = some (.lst xs) ∧ ixN xs.length k = some j ∧ Q (upd H p (.lst (xs.set j v)))
theorem set_list : PSet X rSetL := by
  intro pins s σ H o i v ov iv u Q I ro ri rv h
  obtain ⟨p, xs, k, j, rfl, rfl, hp, hj, q⟩ := h
  cases ro
  obtain ⟨t, rfl⟩ := ri
  obtain ⟨its, n, r, ho, hz⟩ := I.lst hp
  obtain ⟨h1, h2, h3, h4⟩ := ixN_seq hj
  have hl := r.length
  have hn := line63
  have I' : Inv X pins σ (upd H p (.lst (xs.set j v))) { s with heap := s.heap.update p (Obj.mapSeq (·.setIfInBounds j u)) } :=
    I.lstUpd hp ho (mapSeq_set its n j u) (r.set rv j) (by rw [List.length_set]; exact hz) s.toks
  by_cases h0 : 0 ≤ k
  · have hk : k.toNat = j := by
      rw [seqIndex_of h0 h4] at h1
      exact Option.some.inj h1
    exact PySem.W.ki_setAt ho h0 (by omega) (by rw [List.size_toArray, ← hl]; exact h4) (by rw [hk]; exact ⟨_, I', q⟩)
  · have hk : (k + (its.toArray.size : Int)).toNat = j := by
      rw [seqIndex_neg (by omega) h3] at h1
      rw [List.size_toArray, ← hl]
      exact Option.some.inj h1
    exact PySem.W.ki_setBack ho (by omega) (by rw [List.size_toArray, ← hl]; exact h3) (by omega) (by rw [hk]; exact ⟨_, I', q⟩)

/-! ### slices -/
theorem slice_bounds (lo hi : Option Int) (n : Nat) : (sliceBounds lo hi none n).1 = ((HT.sIx n 0 lo : Nat) : Int) ∧ (sliceBounds lo hi none n).2.1 = ((HT.sIx n n hi : Nat) : Int) ∧ (sliceBounds lo hi none n).2.2 = 1 := by
  refine ⟨?_, ?_, rfl⟩
  · cases lo with
    | none => simp [sliceBounds, HT.sIx]
    | some i =>
      simp only [sliceBounds, HT.sIx, Option.getD_none, show (1 : Int) > 0 by decide, if_true]
      by_cases h : i < 0
      · simp only [h, if_true] <;> omega
      · simp only [h, if_false] <;> omega
  · cases hi with
    | none => simp [sliceBounds, HT.sIx]
    | some i =>
      simp only [sliceBounds, HT.sIx, Option.getD_none, show (1 : Int) > 0 by decide, if_true]
      by_cases h : i < 0
      · simp only [h, if_true] <;> omega
      · simp only [h, if_false] <;> omega
theorem slicePick_cut (its : List Value) (lo hi : Option Int) : slicePick its.toArray lo hi none = ((its.drop (HT.sIx its.length 0 lo)).take (HT.sIx its.length its.length hi - HT.sIx its.length 0 lo)).toArray := by
  obtain ⟨h1, h2, h3⟩ := slice_bounds lo hi its.toArray.size
  unfold slicePick
  rw [h1, h2, h3]
  simp only [sliceRange_one, pick_run, List.size_toArray] <;> rfl
/-- xs[lo:hi] of a list: a new list -/
def rSlL (K : PySem.W.Frag) : V → Option Int → Option Int → Hp → VK → Prop := fun x lo hi H Q => ∃ a xs, x = .ref a ∧ SqL K H a xs ∧ ∀ p, H p = none → Q (.ref p) (upd H p (.lst (cutV xs lo hi)))
theorem sl_list : SlR X (rSlL X.K) := by
  intro pins s σ H x v vl vu lo hi sl Q I rx hs pl pu h
  obtain ⟨a, xs, rfl, hx, q⟩ := h
  cases rx
  obtain ⟨its, r, ht, hz⟩ := I.list hx
  have hlen := r.length
  refine ⟨"list", _, slot_list_getitem.lookup, ht.isList.typeIs, ?_⟩
  refine wpAny_getItem_list_slice ht.isList hs pl pu .none (by simp) ?_ (by rw [List.size_toArray] <;> omega)
  rw [slicePick_cut, ← hlen]
  refine ⟨.ref s.heap.objs.size, _, I.laid (t' := s.toks) (o := .lst (cutV xs lo hi)) (fun b ob q => Heap.get?_push_of_some _ q) (Nat.le_refl _) ?_, rfl, q _ (I.hok.fresh (Nat.le_refl _))⟩
  exact ⟨Nat.le_trans (cutV_length xs lo hi) hz, _, 0, (r.drop (HT.sIx xs.length 0 lo)).take (HT.sIx xs.length xs.length hi - HT.sIx xs.length 0 lo), Heap.get?_push_size _ rfl⟩

/-! ### in, not in: flat items -/
/-! ### len, list(x), tuple(x) of any list or tuple that is read -/
theorem call_len_seq : CallR X (.builtin "len") (fun xs H Q => ∃ p ys, xs = [.ref p] ∧ (SqL X.K H p ys ∨ SqT X.K H p ys) ∧ Q (.int ys.length) H) := by
  intro pins s σ H xs us Q I r h
  obtain ⟨p, ys, rfl, hq, q⟩ := h
  obtain ⟨u, rfl, rx⟩ := vals1 r
  cases rx
  have hn := line63
  rcases hq with hq | hq
  · obtain ⟨its, r', pl, hz⟩ := I.list hq
    have hlen := r'.length
    exact Calls.call_len_list pl.isList (by simp only [List.size_toArray] <;> omega) ⟨.int ys.length, H, I.tok _, ⟨s.toks + 1, by rw [List.size_toArray, hlen]⟩, q⟩
  · obtain ⟨its, r', pl, hz⟩ := I.tuple hq
    have hlen := r'.length
    exact len_tuple pl (by simp only [List.size_toArray] <;> omega) ⟨.int ys.length, H, I.tok _, ⟨s.toks + 1, by rw [List.size_toArray, hlen]⟩, q⟩
theorem call_len_str : CallR X (.builtin "len") (fun xs H Q => ∃ z, xs = [.str z] ∧ z.length ≤ sizeLine ∧ Q (.int z.length) H) := by
  intro pins s σ H xs us Q I r h
  obtain ⟨z, rfl, hz, q⟩ := h
  obtain ⟨u, rfl, t, rfl⟩ := vals1 r
  have hn := line63
  exact len_str (by omega) ⟨.int z.length, H, I.tok _, ⟨_, rfl⟩, q⟩
theorem call_tuple_of : CallR X (.type "tuple") (fun xs H Q => ∃ p ys, xs = [.ref p] ∧ ((SqL X.K H p ys ∧ ∀ l, H l = none → Q (.ref l) (upd H l (.tup ys))) ∨ (SqT X.K H p ys ∧ Q (.ref p) H))) := by
  intro pins s σ H xs us Q I r h
  obtain ⟨p, ys, rfl, h⟩ := h
  obtain ⟨u, rfl, rx⟩ := vals1 r
  cases rx
  rcases h with ⟨hq, q⟩ | ⟨hq, q⟩
  · obtain ⟨its, r', pl, hz⟩ := I.list hq
    have hlen := r'.length
    refine call_tuple_list pl.isList (fun h' kp => ?_) (by simp only [List.size_toArray] <;> omega)
    have I1 : Inv X pins σ H { s with heap := h' } := I.kept (t' := s.toks) kp
    have I2 : Inv X pins σ (upd H h'.objs.size (.tup ys)) { s with heap := h'.push { cls := .type "tuple", data := .seq its.toArray } } :=
      I1.laid (t' := s.toks) (fun b o e => Heap.get?_push_of_some _ e) (Nat.le_refl _) (show ObjOk X.prog X.w _ _ _ (.tup ys) from ⟨hz, its, r', IsTup.new _ _, _, Heap.get?_push_size _ rfl, rfl⟩)
    exact ⟨.ref h'.objs.size, _, I2, rfl, q _ (I1.hok.fresh (Nat.le_refl _))⟩
  · obtain ⟨its, r', pl, hz⟩ := I.tuple hq
    exact call_tuple_same pl ⟨.ref p, H, I, rfl, q⟩

/-! ### the call of a builtin's method: o.m(..) -/
/-- the value is of that builtin type -/
def tyV (K : PySem.W.Frag) (T : String) (x : V) (H : Hp) : Prop := match x with
  | .str _ => T = "str"
  | .int _ => T = "int"
  | .ref p => (T = "list" ∧ ∃ xs, SqL K H p xs) ∨ (T = "tuple" ∧ ∃ o, K.lookup p = some o ∧ o.cls = .type "tuple" ∧ o.dict = none) ∨
      (T = "dict" ∧ ((∃ kvs, H p = some (.dK kvs)) ∨ ∃ kvs, H p = some (.dT kvs))) ∨ (T = "set" ∧ ∃ S n, H p = some (.set S n))
  | _ => False
theorem tyV_is {pins : List (Addr × Obj)} {σ : St} {H : Hp} {s : Shared} {T : String} {x : V} {v : Value} (I : Inv X pins σ H s) (r : RelV x v) (ty : tyV X.K T x H) :
    s.TypeIs v T ∧ ∀ a, v = .ref a → ∃ ob, s.heap.get? a = some ob ∧ ob.dict = none := by
  cases x with
  | str z =>
    obtain ⟨t, rfl⟩ := r
    cases (show T = "str" from ty)
    exact ⟨typeIs_str s z t, fun _ e => nomatch e⟩
  | int i =>
    obtain ⟨t, rfl⟩ := r
    cases (show T = "int" from ty)
    exact ⟨typeIs_int s i t, fun _ e => nomatch e⟩
  | ref p =>
    cases r
    rcases ty with ⟨rfl, xs, hq⟩ | ⟨rfl, o, hk, hc, hd⟩ | ⟨rfl, hk⟩ | ⟨rfl, S, n, hk⟩
    · obtain ⟨its, _, pl, _⟩ := I.list hq
      refine ⟨pl.isList.typeIs, fun a e => ?_⟩
      cases e
      obtain ⟨o, n, e, c, hd, _⟩ := pl
      exact ⟨o, e, hd⟩
    · refine ⟨⟨o, I.kIn p o hk, hc⟩, fun a e => ?_⟩
      cases e
      exact ⟨o, I.kIn _ o hk, hd⟩
    · have z : ∃ o, s.heap.get? p = some o ∧ o.ExactDict := by
        rcases hk with ⟨kvs, hk⟩ | ⟨kvs, hk⟩
        · obtain ⟨_, _, _, _, o, _, _, e, ex, _⟩ := I.hok p _ hk
          exact ⟨o, e, ex⟩
        · obtain ⟨_, _, _, _, o, _, _, e, ex, _⟩ := I.hok p _ hk
          exact ⟨o, e, ex⟩
      obtain ⟨o, e, ex⟩ := z
      refine ⟨⟨o, e, ex.1⟩, fun a e2 => ?_⟩
      cases e2
      exact ⟨o, e, ex.2.1⟩
    · obtain ⟨o, _, _, _, e, ex, _⟩ := I.hok p _ hk
      refine ⟨⟨o, e, ex.1⟩, fun a e2 => ?_⟩
      cases e2
      exact ⟨o, e, ex.2.1⟩
  | _ => exact False.elim ty
def tBM (K : PySem.W.Frag) (T : String) (r : V → List V → Hp → VK → Prop) (to : TE) (t : TA) : TE := fun σ H Q => to σ H fun x H1 => tyV K T x H1 ∧ t σ H1 fun xs H2 => r x xs H2 Q
variable {o e : Expr} {es : List Expr} {to : TE} {t : TA} {name : Str} {apos cpos : Pos} {T id : String} {r : V → List V → Hp → VK → Prop}
theorem pe_bm (pa : PlainAttrs T) (slot : Slot T name id) (hty : typeOf (.builtin id) = pure (.type "method_descriptor")) (hm : MtR X id r) (ho : PE X o to) (ha : PA X (e :: es) t)
    (hbase : attributeBase o name X.env (eval o X.env) = eval o X.env := by rfl)
    (hfew : ((backTo cpos (starEach (e :: es) X.env)).all (fun x => !x.1) && (backToKw cpos (keywordEach [] X.env)).all (fun x => x.1.isSome)
      && decide ((e :: es).length + ([] : List Keyword).length + (if ([] : List Keyword).isEmpty then 0 else 1) < 30)) = true := by rfl)
    (hline : (apos.endLine == cpos.line) = true := by rfl) (hs : starEach (e :: es) X.env = (false, eval e X.env) :: starEach es X.env := by rfl) (hplain : (backTo cpos (starEach es X.env)).any (·.1) = false := by rfl) :
    PE X (.Call (.Attribute o name apos) (e :: es) [] cpos) (tBM X.K T r to t) := by
  intro pins s σ H Q I h
  refine wpAny_Call_method_late hbase hfew hline rfl (thn (ho pins s σ H _ I h) fun v s1 ⟨x, H1, I1, r1, ty, q1⟩ => ?_)
  obtain ⟨h1, h2⟩ := tyV_is I1 r1 ty
  refine ⟨T, id, pa, slot, hty, h1, h2, ?_⟩
  have hA := ha cpos pins s1 σ H1 _ I1 q1
  rw [hs] at hA ⊢
  refine Calls.callWith_builtin (by show (false || (backTo cpos (starEach es X.env)).any (·.1)) = false; rw [hplain] <;> rfl) (Calls.evalArgs_plain ?_)
  exact thn hA fun us s2 ⟨vs, H2, I2, r2, q2⟩ => hm pins s2 σ H2 x vs v us Q I2 r1 r2 q2
/- xs.append(e), list.index on a module's tuple .. are MtR facts of 06m -/
end
end L2

namespace L2
open PySem PySem.Spec PyProof.Rows

def MtM (X : Cx) (id : String) (r : V → List V → Hp → VK → Prop) : Prop :=
  ∀ (pins : List (Addr × Obj)) (s : Shared) (σ : St) (H : Hp) (x : V) (xs : List V) (v : Value) (us : List Value) (Q : VK), Inv X pins σ H s → RelV x v → Vals xs us → r x xs H Q →
    wpAny (model X.prog X.w) X.A (call (.builtin id) (v :: us)) (EP X pins σ Q) X.xe s

/-! ### lists of values -/
theorem Vals.one : ∀ {x : V} {us : List Value}, Vals [x] us → ∃ u, us = [u] ∧ RelV x u
  | _, _, .cons r .nil => ⟨_, rfl, r⟩
theorem Vals.eraseIdx : ∀ {xs : List V} {us : List Value} (i : Nat), Vals xs us → Vals (xs.eraseIdx i) (us.eraseIdx i)
  | _, _, _, .nil => .nil
  | _, _, 0, .cons _ t => t
  | _, _, i + 1, .cons r t => .cons r (Vals.eraseIdx i t)
theorem len_erase {α : Type} : ∀ (l : List α) (i : Nat), (l.eraseIdx i).length ≤ l.length
  | [], _ => Nat.le_refl _
  | _ :: _, 0 => Nat.le_succ _
  | _ :: r, i + 1 => Nat.succ_le_succ (len_erase r i)
section
variable {X : Cx} {pins : List (Addr × Obj)} {σ : St} {H : Hp} {s : Shared} {l b : Addr} {xs ys zs : List V}

/-! ### the two steps: a tracked list is rewritten, a new list is laid -/
theorem Inv.lset {its its' : List Value} {n : Nat} {f : Array Value → Array Value} {t' : Nat} (I : Inv X pins σ H s) (hH : H l = some (.lst xs))
    (e : s.heap.get? l = some { cls := .type "list", data := .seq its.toArray n }) (hf : f its.toArray = its'.toArray) (hv : Vals ys its') (hz : ys.length ≤ sizeLine) :
    Inv X pins σ (upd H l (.lst ys)) { s with heap := s.heap.update l (Obj.mapSeq f), toks := t' } := by
  have q := PySem.IsL.update e f
  rw [hf] at q
  refine I.write (x := l) (e := l) (by rw [hH]; exact trivial) (.inl rfl) (fun b' u hb hu => (Heap.get?_update_other s.heap (Obj.mapSeq f) (Ne.symm hb)).trans hu) ⟨_, q⟩ ?_
  exact ⟨hz, its', _, hv, q⟩
theorem Inv.lnew {its : List Value} {t' : Nat} (I : Inv X pins σ H s) (hv : Vals ys its) (hz : ys.length ≤ sizeLine) :
    Inv X pins σ (upd H s.heap.objs.size (.lst ys)) { s with heap := s.heap.push { cls := .type "list", data := .seq its.toArray }, toks := t' } :=
  I.laid (fun _ _ q => Heap.get?_push_of_some _ q) (Nat.le_refl _) ⟨hz, its, 0, hv, Heap.get?_push_size _ rfl⟩
theorem Inv.fresh (I : Inv X pins σ H s) : H s.heap.objs.size = none := I.hok.fresh (Nat.le_refl _)
theorem Inv.lstM (I : Inv X pins σ H s) (hH : H l = some (.lst xs)) : xs.length ≤ sizeLine ∧ ∃ (its : List Value) (n : Nat), Vals xs its ∧ xs.length = its.length ∧ s.heap.get? l = some { cls := .type "list", data := .seq its.toArray n } := by
  obtain ⟨z, its, n, r, e⟩ := I.hok l _ hH
  exact ⟨z, its, n, r, r.length, e⟩

end

section
variable {X : Cx}

/-! ### methods -/
def rAppend : V → List V → Hp → VK → Prop := fun x vs H Q => ∃ l xs y, x = .ref l ∧ vs = [y] ∧ H l = some (.lst xs) ∧ xs.length < sizeLine ∧ Q .non (upd H l (.lst (xs ++ [y])))
theorem mt_append : MtM X "list.append" rAppend := by
  intro pins s σ H x vs v us Q I rx rv h
  obtain ⟨l, xs, y, rfl, rfl, hH, hz, q⟩ := h
  cases rx
  obtain ⟨u, rfl, ru⟩ := rv.one
  obtain ⟨z, its, n, r, hl, e⟩ := I.lstM hH
  refine call_meets F.slot_list_append ⟨_, e, rfl⟩ F.entry_list_append (F.args_list_append_2 _ _) (PySem.list_append l its.toArray n u (by rw [List.size_toArray]; omega)) ⟨e, ?_⟩
  refine ⟨.non, _, I.lset (its' := its ++ [u]) hH e (by simp) (r.append (.cons ru .nil)) ?_, rfl, q⟩
  rw [List.length_append, List.length_singleton]
  omega

def rPopAt : V → List V → Hp → VK → Prop := fun x vs H Q => ∃ l xs i k y, x = .ref l ∧ vs = [.int i] ∧ H l = some (.lst xs) ∧ -(2 ^ 63) ≤ i ∧ i < 2 ^ 63 ∧ seqIndex? i xs.length = some k ∧ xs[k]? = some y ∧ Q y (upd H l (.lst (xs.eraseIdx k)))
theorem mt_popAt : MtM X "list.pop" rPopAt := by
  intro pins s σ H x vs v us Q I rx rv h
  obtain ⟨l, xs, i, k, y, rfl, rfl, hH, h1, h2, hk, hy, q⟩ := h
  cases rx
  obtain ⟨u, rfl, ru⟩ := rv.one
  obtain ⟨t, rfl⟩ := ru
  obtain ⟨z, its, n, r, hl, e⟩ := I.lstM hH
  obtain ⟨w, hw, rw'⟩ := r.get hy
  refine call_meets F.slot_list_pop ⟨_, e, rfl⟩ F.entry_list_pop (F.args_list_pop_2 _ _)
    (MeetsSeq.list_pop_at l its.toArray n i t k w (fitsIndex_both h1 h2) (by rw [List.size_toArray, ← hl]; exact hk) (by rw [← Array.getElem?_toList]; exact hw) (by rw [List.size_toArray]; omega)) ⟨e, ?_⟩
  refine ⟨y, _, I.lset (its' := its.eraseIdx k) hH e ?_ (r.eraseIdx k) ?_, rw', q⟩
  · show its.toArray.eraseIdxIfInBounds k = (its.eraseIdx k).toArray
    rw [List.eraseIdxIfInBounds_toArray]
  · have := len_erase xs k
    omega

/-! ### list + list, list += list, list * int -/
def rCat : R2 := fun x y H Q => ∃ l b xs zs, x = .ref l ∧ y = .ref b ∧ H l = some (.lst xs) ∧ H b = some (.lst zs) ∧ xs.length + zs.length ≤ sizeLine ∧ ∀ p, H p = none → Q (.ref p) (upd H p (.lst (xs ++ zs)))
theorem op_cat : OpR X (binaryOp .Add) rCat := by
  intro pins s σ H x y v u Q I rx ry h
  obtain ⟨l, b, xs, zs, rfl, rfl, hH, hB, hz, q⟩ := h
  cases rx
  cases ry
  obtain ⟨z, its, n, r, hl, e⟩ := I.lstM hH
  obtain ⟨z2, its2, n2, r2, hl2, e2⟩ := I.lstM hB
  refine PySem.P.add_list e e2 ?_ (by rw [List.size_toArray, List.size_toArray]; omega)
  have ea : its.toArray ++ its2.toArray = (its ++ its2).toArray := by simp
  rw [ea]
  exact ⟨.ref _, _, I.lnew (t' := s.toks) (r.append r2) (by rw [List.length_append]; omega), rfl, q _ I.fresh⟩
/-! ### del xs[i] -/
end

/-! ### xs[a:b] = ys -/
section
variable {prog : Program} {w : World} {A : Around} {E : Value → Shared → Prop} {s : Shared}
end

section
variable {X : Cx}
end
end L2

namespace Att
open PySem PySem.W PySem.Calls PyProof.Rows

/-! ### the script -/
theorem ints_of_wellAll {P : Params} {h : Heap} : ∀ (ns : List Int) (vs : List Value), WellAll P h vs (ns.map WData.int) → IntsAre vs ns := by
  intro ns
  induction ns with
  | nil =>
    intro vs w
    rw [List.map_nil] at w
    cases w
    exact .nil
  | cons n ns ih =>
    intro vs w
    rw [List.map_cons] at w
    cases w with
    | cons a b =>
      cases a
      exact .cons _ _ (ih _ b)

theorem script_of {l : OpenLaw} {n : Nat} (hn : l.most = some n) {P : Params} {h : Heap} {args : List WData} {vals : List Value}
    (hpre : l.row.toRowW.claim.pre args = true) (hwl : WellAll P h vals args) :
    ∃ a vs ns, vals = [Value.ref a] ∧ args = [WData.list (ns.map WData.int)] ∧ h.get? a = some { cls := .type "list", data := .seq vs.toArray } ∧ IntsAre vs ns ∧ ns.length ≤ n := by
  have hsh : WShape.hasAll [] args [.list .int] = true := (pre_splitW hpre).1
  have hc : l.pre.holds [] { args := args } = true := (pre_splitW hpre).2
  obtain ⟨d, r, rfl, h1, h2⟩ := hasAllW_cons hsh
  obtain rfl := hasAllW_nil h2
  obtain ⟨xs, rfl, h3⟩ := hasW_list h1
  obtain ⟨ns, rfl⟩ := items_int h3
  have hlen : ns.length ≤ n := by
    unfold OpenLaw.pre at hc
    have h4 : (WTm.not (.lt (.lit (.int (n : Int))) (.len (.arg 0)))).holds [] { args := [.list (ns.map .int)] } = true := by
      have h4 := (holds_andW hc).1
      rw [hn] at h4
      exact h4
    have h5 := condW_of h4 (w_not (w_lt w_lit (w_len_list (w_arg rfl))))
    rw [List.length_map] at h5
    refine Nat.le_of_not_lt fun q => ?_
    have q' : (n : Int) < ((ns.length : Nat) : Int) := by omega
    first
      | (rw [decide_eq_true q'] at h5; exact absurd h5 (by decide))
      | (simp at h5; omega)
  cases hwl with
  | cons w1 w2 =>
    cases w2
    cases w1 with
    | list ho hall => exact ⟨_, _, ns, rfl, rfl, ho, ints_of_wellAll ns _ hall, hlen⟩

theorem post_true (l : OpenLaw) (args : List WData) : l.row.toRowW.claim.post args (.bool true) args = true :=
  postW_of (r := l.row.toRowW) (X := (true == true))
    (show WShape.has [] (.bool true) .bool = true by first | rfl | decide | simp [WShape.has, WShape.arms, WShape.armsAll])
    (show (WTm.eq .res (.lit (.bool true))).value [] { args := args, res := some (.bool true), after := args } = some (.bool (true == true)) from w_eq_bool (w_res rfl) w_lit) rfl

/-! ### the attachment: holds_open's last premise (the goal 'hc' behind k_head) from a wpAny of the law's body -/
/-- the same from a codeAny of the CALL (for a layer whose function contracts speak of calls) -/
theorem attach_call {l : OpenLaw} {n : Nat} {q : Program} {loose : List Str} {XP : (Str → Option Value) → Heap → Prop} {YP : World → Heap → Prop} {d : DefRec}
    (hn : l.most = some n) (hdf : d.params.defaults = [])
    (call : ∀ (w : World) (s₀ s₁ : Shared) (mg mb : Str → Option Value) (fa : Addr) (o : Obj) (pm cd doc : Value) (a : Addr) (vs : List Value) (ns : List Int),
      Ground q loose [] XP w s₀ mg mb s₁.heap → YP w s₁.heap →
      s₁.heap.get? fa = some o → o.data = .func (docDef d.name d.params d.body d.scope pm cd doc) → s₁.heap.CodeRec cd d.name → mg d.name = some (.ref fa) →
      s₁.heap.get? a = some { cls := .type "list", data := .seq vs.toArray } → IntsAre vs ns → ns.length ≤ n → s₁.gens = #[] →
      codeAny (model l.prog w) callerA (.call (.ref fa) ⟨[.ref a], []⟩) (fun r s' => r = .ok (.ret (.bool true)) ∧ OldK s₁.heap s'.heap ∧ s'.os = s₁.os ∧ AllBare s'.gens) s₁) :
    WalkO q loose XP YP l.row.toRowW d [] (fun f vs => PySem.call f vs) := by
  intro w s₀ s₁ mg mb G Y fa o pm cd doc dV kV ho hd hcd hD hmg hg args vals as hpre hlay hrd hwl hlo
  obtain rfl : dV = .none := Dflts.none hD hdf
  obtain rfl : kV = .none := Dflts.noKw hD
  obtain ⟨a, vs, ns, rfl, rfl, hobj, hints, hlen⟩ := script_of hn hpre hwl
  refine enter_call (codeAny_mono (call w s₀ s₁ mg mb fa o pm cd doc a vs ns G Y ho (fd_plain hd) hcd hmg hobj hints hlen hg) fun r s' hq => ?_)
  obtain ⟨rfl, h2, h3, h4⟩ := hq
  exact ⟨.inl ⟨.bool true, .bool true, [], rfl, fun _ => rfl, .bool true, post_true l _, fun _ => ⟨List.Pairwise.nil, fun _ hm => (nomatch hm)⟩⟩, h2, h3, h4⟩

/-! ### rules over ANY heap (no ledger) from facts about the written part K: the library's own take a ledger (News) for what they write -/
section
variable {prog : Program} {w : World} {A : Around} {E : Value → Shared → Prop} {s : Shared} {K : Frag}

/-! the whole heap as the ledger: makes every rule that writes through a ledger a rule over any heap -/
end
end Att

namespace L2
open PySem PySem.Spec PyProof.Rows

theorem vals_ints : ∀ {vs : List Value} {ns : List Int}, IntsAre vs ns → Vals (ns.map V.int) vs
  | _, _, .nil => .nil
  | _, _, .cons n t h => .cons ⟨t, rfl⟩ (vals_ints h)

/-- nothing is tracked but the script, known to the object (or it is an object of the module) -/
def Only (H : Hp) : Prop := ∀ b, H b = none ∨ ∃ o xs, H b = some (.frz o (.lst xs))

/-- THE HEAD: the law's promise, at the heap behind the top. F, the promise of the law's def, may use that base is part of the heap (so K.In base, base.Ns mainGlobals mg stand in Mod) -/
theorem law_call {P : Program} {w : World} {K : PySem.W.Frag} {mg mb : Str → Option Value} {CX : CXT} {k : Nat} {fa a : Addr} {fd : FuncData} {x : Str} {sp : Sp} {s₁ : Shared} {vs : List Value} {ns : List Int}
    (KX : K.In s₁.heap) (hns : s₁.heap.Ns mainGlobals mg) (hb : s₁.heap.Ns builtinsNs mb) (hbb : ∀ x : Str, x ≠ "__name__" → mb x = bootBuiltins x) (hlim : s₁.heap.NoLimit) (hg : s₁.gens = #[])
    (ha : s₁.heap.get? a = some { cls := .type "list", data := .seq vs.toArray }) (hi : IntsAre vs ns) (hl : ns.length ≤ sizeLine) (hr : Room k callerA)
    (F : ∀ base : Heap, K.In base → base.Ns mainGlobals mg → FnOk P w K mg base CX k fa fd [x] sp) (hbind : ∀ (s : Shared) (u : Value), BindsTo s fd ⟨[u], []⟩ [(x, u)])
    (hsp : ∀ H : Hp, Only H → SqL K H a (ns.map V.int) → sp [.ref a] H (fun v _ => v = .bl true) fun _ _ _ => False)
    (hCX : ∀ H e s', CX [] H s₁ (fun _ _ _ => False) e s' → False) :
    codeAny (model P w) callerA (.call (.ref fa) ⟨[.ref a], []⟩) (fun r s' => r = .ok (.ret (.bool true)) ∧ OldK s₁.heap s'.heap ∧ s'.os = s₁.os ∧ AllBare s'.gens) s₁ := by
  have rv := vals_ints hi
  have lenV := hi.length
  -- from an abstract heap in which nothing but the script may be tracked
  have core : ∀ H : Hp, Only H → SqL K H a (ns.map V.int) → HOk P w H s₁.heap → (∀ b, H b ≠ none → b = a) → (H a ≠ none → K.lookup a = none) →
      codeAny (model P w) callerA (.call (.ref fa) ⟨[.ref a], []⟩) (fun r s' => r = .ok (.ret (.bool true)) ∧ OldK s₁.heap s'.heap ∧ s'.os = s₁.os ∧ AllBare s'.gens) s₁ := by
    intro H hO hS hok hA hK
    have base_of : ∀ {b : Addr} {o : Obj}, s₁.heap.get? b = some o → H b = none → (hidT s₁.heap H).get? b = some o := fun e n => hidT_get e n
    have noA : ∀ {b : Addr} {o : Obj} {es : Array DictEntry} {ep : Nat}, s₁.heap.get? b = some o → o.data = .dict es ep → H b = none := fun {b o es ep} e d => by
      cases q : H b with
      | none => rfl
      | some u =>
        have e' : b = a := hA b (by rw [q]; simp)
        subst e'
        rw [ha] at e; cases e
        have d' : Data.seq vs.toArray _ = Data.dict es ep := d
        cases d'
    have nsK : ∀ {b : Addr} {m : Str → Option Value}, s₁.heap.Ns b m → (hidT s₁.heap H).Ns b m := fun {b m} ⟨o, es, ep, e, d, r⟩ => ⟨o, es, ep, base_of e (noA e d), d, r⟩
    have hKb : K.In (hidT s₁.heap H) := fun b o e => base_of (KX b o e) (by
      cases q : H b with
      | none => rfl
      | some u =>
        have e' : b = a := hA b (by rw [q]; simp)
        subst e'
        rw [hK (by rw [q]; simp)] at e; cases e)
    have hM : Mod K mg (hidT s₁.heap H) := ⟨hKb, nsK hns, ⟨mb, nsK hb, hbb⟩, let ⟨mc, h1, h2⟩ := hlim; ⟨mc, nsK h1, h2⟩⟩
    have e0 : Env0 P w K mg (hidT s₁.heap H) callerA [] s₁ H := ⟨rfl, hM, fun b o e => of_hidT e, Nat.le_of_eq (hidT_size _ _), trivial, fun b hb => absurd (show b ∈ ([] : List Addr) from hb) (by simp), hok, .of_eq hg⟩
    refine codeAny_mono ((F _ hKb (nsK hns)).run callerA [] s₁ H ⟨[.ref a], []⟩ [.ref a] [.ref a] _ _ hr e0 (hbind s₁ (.ref a)) (.cons rfl .nil) (hsp H hO hS)) fun r s' h => ?_
    cases r with
    | error e => exact (hCX H e s' h).elim
    | ok fl =>
      cases fl with
      | next => exact False.elim h
      | brk => exact False.elim h
      | cont => exact False.elim h
      | ret u =>
        obtain ⟨v, H', os, bare, un, hok', r', q⟩ := h
        have q' : v = .bl true := q
        subst q'
        obtain rfl : u = Value.bool true := r'
        refine ⟨rfl, OldK.of_keep fun b o e => ?_, os, bare⟩
        cases q : H b with
        | none => exact un.keep b o e q (by intro z; exact absurd (show b ∈ ([] : List Addr) from z) (by simp)) (by simp)
        | some u =>
          rcases hO b with z | ⟨ob, xs, z⟩
          · rw [q] at z; cases z
          · have z2 := un.frzs b ob _ z
            obtain ⟨e1, _⟩ := hok b _ z
            obtain ⟨e2, _⟩ := hok' b _ z2
            rw [e] at e1; cases e1
            exact e2
  cases hk : K.lookup a with
  | some o =>
    -- the script is one of the module's own objects
    have e := KX a o hk
    rw [ha] at e
    cases e
    refine core (fun _ => none) (fun _ => .inl rfl) (.inr ⟨_, vs.toArray, _, hk, rfl, rfl, rfl, by rw [List.size_toArray, lenV]; exact hl, by simpa using rv⟩) (fun b u z => by have z' : (none : Option HO) = some u := z; cases z') (fun b z => absurd rfl z) fun z => absurd rfl z
  | none =>
    refine core (fun b => if b = a then some (.frz { cls := .type "list", data := .seq vs.toArray } (.lst (ns.map V.int))) else none) (fun b => ?_) (.inl (.inr ⟨{ cls := .type "list", data := .seq vs.toArray }, if_pos rfl⟩)) (fun b u z => ?_) (fun b z => ?_) fun _ => hk
    · by_cases hb : b = a
      · exact .inr ⟨_, _, if_pos hb⟩
      · exact .inl (if_neg hb)
    · by_cases hb : b = a
      · have z' := (if_pos hb).symm.trans z
        cases z'
        subst hb
        exact ⟨ha, by rw [List.length_map]; exact hl, vs, _, rv, ha⟩
      · have z' := (if_neg hb).symm.trans z
        cases z'
    · by_cases hb : b = a
      · exact hb
      · exact absurd (if_neg hb) z
end L2

namespace L2
open PySem PySem.Spec PyProof.Rows

/-- the goal that k_head leaves (case hc), from the law's promise. F gives the function object fd (K's own) once, then the promise over every base -/
theorem walk_of {l : PySem.W.OpenLaw} {n k : Nat} {q : Program} {loose : List Str} {XP : (Str → Option Value) → Heap → Prop} {YP : World → Heap → Prop} {d : DefRec} {K : Params → PySem.W.Frag} {CX : World → CXT} {sp : World → Sp} {x : Str}
    (hn : l.most = some n) (hn2 : n ≤ sizeLine) (hdf : d.params.defaults = []) (hr : Room k callerA)
    (hY : ∀ (w : World) (h : Heap), YP w h → (K w.params).In h)
    (F : ∀ (w : World) (mg : Str → Option Value) (fa : Addr) (h : Heap), (K w.params).In h → h.Ns mainGlobals mg → mg d.name = some (.ref fa) →
      ∃ fd : FuncData, (∀ (s : Shared) (u : Value), BindsTo s fd ⟨[u], []⟩ [(x, u)]) ∧
        ∀ base : Heap, (K w.params).In base → base.Ns mainGlobals mg → FnOk l.prog w (K w.params) mg base (CX w) k fa fd [x] (sp w))
    (hsp : ∀ (w : World) (H : Hp) (a : Addr) (ns : List Int), ns.length ≤ n → Only H → SqL (K w.params) H a (ns.map V.int) → sp w [.ref a] H (fun v _ => v = .bl true) fun _ _ _ => False)
    (hCX : ∀ (w : World) (H : Hp) (s : Shared) (e : Value) (s' : Shared), CX w [] H s (fun _ _ _ => False) e s' → False) :
    PySem.W.WalkO q loose XP YP l.row.toRowW d [] (fun f vs => PySem.call f vs) := by
  refine Att.attach_call hn hdf fun w s₀ s₁ mg mb fa o pm cd doc a vs ns G Y ho hd hcd hmg hobj hints hlen hg => ?_
  have KX := hY w _ Y
  obtain ⟨fd, hb, hF⟩ := F w mg fa _ KX G.T.g hmg
  exact law_call KX G.T.g G.T.b G.T.builtins G.T.nolimit hg hobj hints (Nat.le_trans hlen hn2) hr hF hb (fun H hO hS => hsp w H a ns hlen hO hS) fun H e s' => hCX w H s₁ e s'
/-- the same where the promise hangs on the written part alone: (sp := My.sp_law), no hole under a binder -/
theorem walk_ofK {l : PySem.W.OpenLaw} {n k : Nat} {q : Program} {loose : List Str} {XP : (Str → Option Value) → Heap → Prop} {YP : World → Heap → Prop} {d : DefRec} {K : Params → PySem.W.Frag} {CX : CXT} {sp : PySem.W.Frag → Sp} {x : Str}
    (hn : l.most = some n) (hn2 : n ≤ sizeLine) (hdf : d.params.defaults = []) (hr : Room k callerA)
    (hY : ∀ (w : World) (h : Heap), YP w h → (K w.params).In h)
    (F : ∀ (w : World) (mg : Str → Option Value) (fa : Addr) (h : Heap), (K w.params).In h → h.Ns mainGlobals mg → mg d.name = some (.ref fa) →
      ∃ fd : FuncData, (∀ (s : Shared) (u : Value), BindsTo s fd ⟨[u], []⟩ [(x, u)]) ∧
        ∀ base : Heap, (K w.params).In base → base.Ns mainGlobals mg → FnOk l.prog w (K w.params) mg base CX k fa fd [x] (sp (K w.params)))
    (hsp : ∀ (K : PySem.W.Frag) (H : Hp) (a : Addr) (ns : List Int), ns.length ≤ n → Only H → SqL K H a (ns.map V.int) → sp K [.ref a] H (fun v _ => v = .bl true) fun _ _ _ => False)
    (hCX : ∀ (H : Hp) (s : Shared) (e : Value) (s' : Shared), CX [] H s (fun _ _ _ => False) e s' → False) :
    PySem.W.WalkO q loose XP YP l.row.toRowW d [] (fun f vs => PySem.call f vs) :=
  walk_of (K := K) (CX := fun _ => CX) (sp := fun w => sp (K w.params)) hn hn2 hdf hr hY F (fun w H a ns h1 h2 h3 => hsp (K w.params) H a ns h1 h2 h3) fun _ H s e s' => hCX H s e s'
end L2

/- THE LAST THEOREM (shape; LID, My.* are yours):
   My.Adr: a structure of the addresses that your layer names (classes, functions); My.Txt K t: a structure (Prop) of the equations over K;
   My.txt_mk : {K} {implicit addresses ..} (e1 : nsIn K mainGlobals "law" = some (some (.ref f))) (e2 : K.lookup f = some ⟨oc, od, .func (fnOf "law" "law" params body scope dV kV doc pm an cdv ct), sl⟩) (e3 : codeIn K cdv "law" = true) .. : ∃ t, My.Txt K t

(the tactic k_is has no namespace: write k_is) -/

/-! SHORT WORDS over the layer: a def of the text, its body, what a loop and a test want. -/
namespace L2
open PySem PySem.Spec PyProof.Rows

/-! ### the text by places -/
def defArgs (s : Stmt) : Arguments := match s with
  | .FunctionDef _ a _ _ _ _ _ _ _ _ => a
  | _ => { posonlyargs := [], args := [], vararg := none, kwonlyargs := [], kw_defaults := [], kwarg := none, defaults := [] }
def defBody (s : Stmt) : List Stmt := match s with
  | .FunctionDef _ _ b _ _ _ _ _ _ _ => b
  | _ => []
def defScope (s : Stmt) : Scope := match s with
  | .FunctionDef _ _ _ _ _ _ sc _ _ _ => sc
  | _ => { kind := .function, names := [], isGenerator := false, isCoroutine := false }

/-! ### no exception leaves a def -/
abbrev CX0 : CXT := fun _ _ _ _ _ _ => False
abbrev E0 : XK := fun _ _ _ => False
theorem pass0 {X : Cx} : Passes CX0 X E0 := fun _ _ _ _ _ _ _ h => h.elim

/-! ### a def (or method) of the text as it stands behind the top -/
structure Fun (K : PySem.W.Frag) (x qual : Str) (st : Stmt) (f : Addr) (fd : FuncData) : Prop where
  ex : ∃ (oc : Value) (od : Option Addr) (kV doc pm : Value) (an : Option Addr) (cdv ct : Value) (osl : Array (Option Value)),
    fd = PySem.W.fnOf x qual (defArgs st) (defBody st) (defScope st) .none kV doc pm an cdv ct ∧ K.lookup f = some ⟨oc, od, .func fd, osl⟩ ∧ PySem.W.codeIn K cdv qual = true
  kp : PySem.W.keepIn K (.ref f) = true
section
variable {P : Program} {w : World} {K : PySem.W.Frag} {mg : Str → Option Value} {base : Heap}
/-- THE RULE for a def: its body as a term of rules, and the reading of that term -/
theorem Fun.ok {x qual : Str} {st : Stmt} {f : Addr} {fd : FuncData} {N ps : List Str} {k : Nat} {sp : Sp} (F : Fun K x qual st f fd) (S : FnScope N ps (defScope st)) (len : ∀ vs H Q E, sp vs H Q E → vs.length = ps.length)
    (hbody : ∀ (cdv : Value) (A : Around) (outer : List Env) (s : Shared) (H : Hp) (vs : List V) (Q : VK) (E : XK), Room k (A.deeper (envOfC qual (defScope st) s.heap.objs.size f cdv)) → sp vs H Q E →
      ∃ t, PSs (cxOf CX0 P w K mg base N qual (defScope st) f cdv A outer s H E).nox (defBody st) t ∧ t { nx := fun _ H' => Q .non H', rt := Q } (start N vs) H) : FnOk P w K mg base CX0 (k + 1) f fd ps sp := by
  obtain ⟨oc, od, kV, doc, pm, an, cdv, ct, osl, rfl, lk, hcd⟩ := F.ex
  refine fn_of lk hcd S len fun A outer s H vs Q E hr hsp => ?_
  obtain ⟨t, h, q⟩ := hbody cdv A outer s H vs Q E hr hsp
  exact ⟨t, h.nox, q⟩
/-- how its arguments bind (no defaults): h is «fun _ _ _ _ _ _ us hl => match us, hl with | [_, _], _ => rfl», one _ a parameter -/
theorem Fun.binds {x qual : Str} {st : Stmt} {f : Addr} {fd : FuncData} {ps : List Str} (F : Fun K x qual st f fd)
    (h : ∀ (kV doc pm : Value) (an : Option Addr) (cdv ct : Value) (us : List Value), us.length = ps.length → bindArgs (PySem.W.fnOf x qual (defArgs st) (defBody st) (defScope st) .none kV doc pm an cdv ct) ⟨us, []⟩ = pure (ps.zip us)) : Binds K fd ps [] := by
  obtain ⟨oc, od, kV, doc, pm, an, cdv, ct, osl, rfl, lk, hcd⟩ := F.ex
  exact .all (h kV doc pm an cdv ct)
theorem fun_mk {x qual : Str} {st : Stmt} {f : Addr} {oc : Value} {od an : Option Addr} {osl : Array (Option Value)} {kV doc pm cdv ct : Value} (l : K.lookup f = some ⟨oc, od, .func (PySem.W.fnOf x qual (defArgs st) (defBody st) (defScope st) .none kV doc pm an cdv ct), osl⟩)
    (c : PySem.W.codeIn K cdv qual = true) (k : PySem.W.keepIn K (.ref f) = true) : Fun K x qual st f (PySem.W.fnOf x qual (defArgs st) (defBody st) (defScope st) .none kV doc pm an cdv ct) := ⟨⟨oc, od, kV, doc, pm, an, cdv, ct, osl, rfl, l, c⟩, k⟩
end
theorem hu_of {A : Around} {k : Nat} (hr : Room k A) : A.units + 1 < cLine := Nat.lt_of_le_of_lt (Nat.add_le_add_left (by decide : 1 ≤ 64) _) hr.units
/-! ### expressions in short: the name that stands in the i-th slot -/
section
variable {X : Cx}
theorem pv (i : Nat) {x : Str} {pos : Pos} (hN : X.N[i]? = some x := by rfl) (hv : Vis X.env.scope x := by first | exact Or.inl rfl | exact Or.inr (Or.inl rfl) | exact Or.inr (Or.inr rfl)) (hd : (x == ("__debug__" : Str)) = false := by decide)
    (hcd : (x == ("__classdict__" : Str)) = false := by decide) : PE X (.Name x pos) (tVar i) := pe_var hN hv hd hcd
end

/-! ### tests -/
theorem iteF {A B : Prop} (h : B) : if false = true then A else B := by
  rw [if_neg Bool.false_ne_true]
  exact h
theorem iteT {A B : Prop} (h : A) : if true = true then A else B := by
  rw [if_pos rfl]
  exact h
theorem ite2 {c A B : Prop} [Decidable c] (h1 : c → A) (h2 : ¬ c → B) : if c then A else B := by
  by_cases h : c
  · rw [if_pos h]
    exact h1 h
  · rw [if_neg h]
    exact h2 h
theorem iteNS {c A B : Prop} [Decidable c] (hc : c) (h : B) : if (!decide c) = true then A else B := by
  rw [decide_eq_true hc]
  exact iteF h

/-! ### heaps -/
/-- all that was tracked is as it was -/
def Same (H H' : Hp) : Prop := ∀ b o, H b = some o → H' b = some o
theorem Same.refl (H : Hp) : Same H H := fun _ _ h => h
theorem Same.trans {H H1 H2 : Hp} (a : Same H H1) (b : Same H1 H2) : Same H H2 := fun c o h => b c o (a c o h)
theorem Same.free {H H' : Hp} (e : Same H H') {l : Addr} (h : H' l = Option.none) : H l = Option.none := by
  cases q : H l with
  | none => rfl
  | some o =>
    rw [e l o q] at h
    cases h
theorem Same.seq {K : PySem.W.Frag} {H H' : Hp} {a : Addr} {xs : List V} (e : Same H H') (h : SqL K H a xs) : SqL K H' a xs := by
  rcases h with (h | ⟨o, h⟩) | h
  · exact .inl (.inl (e _ _ h))
  · exact .inl (.inr ⟨o, e _ _ h⟩)
  · exact .inr h

end L2
namespace L2
open PySem PySem.Spec PyProof.Rows
section
variable {X : Cx}
/-- a text so many times -/
theorem op_mul_str : OpR X (binaryOp .Mult) (fun x y H Q => ∃ z n, x = .str z ∧ y = .int n ∧ MulOk z n ∧ Q (.str (Txt.mul z n)) H) := by
  intro pins s σ H x y v u Q I rx ry h
  obtain ⟨z, n, rfl, rfl, hz, q⟩ := h
  obtain ⟨t, rfl⟩ := rx
  obtain ⟨t', rfl⟩ := ry
  exact SB.mul hz fun t' tk => ⟨.str _, H, I.tok _, ⟨_, rfl⟩, q⟩
/-- the number that a text writes -/
theorem call_int_txt : CallR X (.type "int") (fun xs H Q => ∃ z n, xs = [.str z] ∧ PySem.intText? z = some n ∧ z.length ≤ 640 ∧ Q (.int n) H) := by
  intro pins s σ H xs us Q I r h
  obtain ⟨z, n, rfl, hn, hl, q⟩ := h
  obtain ⟨u, rfl, t, rfl⟩ := vals1 r
  exact PySem.W.KIN.call_text hn hl ⟨.int n, H, I.tok _, ⟨_, rfl⟩, q⟩
/-- // by a positive divisor below 2^64 -/
theorem op_fdivL : OpR X (binaryOp .FloorDiv) (rI (fun _ j => 0 < j ∧ j < 2 ^ 64) fun i j => .int (i / j)) := opI fun i j _ _ _ _ _ hc q => by
  have h1 : (0 : Int) < j := hc.1
  have h2 : j < 2 ^ 64 := hc.2
  refine floordiv_int (by omega) (by rw [Int.fdiv_eq_ediv_of_nonneg i (by omega)]; exact q) (.inl (PyProof.noPylong_of_log2 ?_))
  have h3 : j.natAbs < 2 ^ 64 := by omega
  have h4 : j.natAbs.log2 < 64 := (Nat.log2_lt (by omega)).mpr h3
  omega
/-- isinstance(x, a built-in type) -/
theorem call_isi : CallR X (.builtin "isinstance") (fun xs H Q => ∃ x t n b, xs = [x, .ty n] ∧ TyOf X.K H x t ∧ PySem.W.kitOne X.K t (.type n) = some b ∧ Q (.bl b) H) := by
  intro pins s σ H xs us Q I r h
  obtain ⟨x, t, n, b, rfl, ty, e, q⟩ := h
  obtain ⟨u, w', rfl, r1, r2⟩ := vals2 r
  obtain rfl : w' = Value.type n := r2
  exact isinst_ok I r1 ty e fun tk => ⟨.bl b, H, I.tok _, rfl, q⟩
end
theorem kit_ii {K : PySem.W.Frag} : PySem.W.kitOne K (.type "int") (.type "int") = some true := by rfl
theorem kit_ib {K : PySem.W.Frag} : PySem.W.kitOne K (.type "int") (.type "bool") = some false := by rfl
end L2
/-! List comprehensions over the hand layer: one clause, a target, at most one test; no exception leaves. -/
namespace L2
open PySem PySem.Spec PyProof.Rows
/-- the closure's cells are the frame's -/
def clSub : List (Str × Addr) → List (Str × Addr) → Prop
  | [], _ => True
  | (n, a) :: r, cells => cells.lookup n = some a ∧ clSub r cells
theorem clSub.at : ∀ {cl cells : List (Str × Addr)} {x : Str} {c : Addr}, clSub cl cells → cl.lookup x = some c → cells.lookup x = some c
  | [], _, _, _, _, e => by simp at e
  | (n, a) :: r, cells, x, c, h, e => by
    rw [List.lookup_cons] at e
    cases hx : x == n with
    | true =>
      rw [hx] at e
      cases e
      have q : x = n := by simpa using hx
      rw [q]
      exact h.1
    | false =>
      rw [hx] at e
      exact clSub.at h.2 e
/-- what is asked of the block's names -/
structure CompOk (X : Cx) (scope : Scope) (xs : List Str) (cl : List (Str × Addr)) : Prop where
  clos : closureFor scope X.env = pure cl
  kind : scope.kind = .function
  nocell : (scope.names.all fun y => decide (y.2 ≠ .cell)) = true
  locs : (scope.names.all fun y => decide (y.2 ≠ .local) || (decide (scope.names.lookup y.1 = some .local) && decide (y.1 ∉ X.N))) = true
  sub : clSub cl X.env.cells
  has : (scope.names.all fun y => decide (y.2 ≠ .free) || ((cl.lookup y.1).isSome && (decide (X.env.kindOf y.1 = some .cell) || decide (X.env.kindOf y.1 = some .free)))) = true
/-- the block's context -/
def Cx.comp (X : Cx) (scope : Scope) (xs : List Str) (cl : List (Str × Addr)) (C : Addr) (s : Shared) (H : Hp) (fp : List Addr) : Cx :=
  { X with N := X.N ++ xs, s₀ := s, H₀ := H, env := compEnvC scope cl C X.env, outer := X.stack, stack := X.stack, ex := fp, fn := fun _ => false, pn := [] }
theorem relabel_at {env : Env} : ∀ {names : List (Str × NameKind)} {x : Str} {k : NameKind},
    (names.map fun (n, k) => if (k == NameKind.free && env.scope.kind == .function && env.kindOf n == some .cell) then (n, NameKind.cell) else (n, k)).lookup x = some k →
    ∃ k', names.lookup x = some k' ∧ (x, k') ∈ names ∧ (k' = k ∨ (k' = .free ∧ k = .cell))
  | [], _, _, h => by simp at h
  | (n, q) :: r, x, k, h => by
    rw [List.map_cons] at h
    cases hx : x == n with
    | true =>
      have e : x = n := by simpa using hx
      subst e
      refine ⟨q, by simp [List.lookup_cons], List.mem_cons_self, ?_⟩
      dsimp only at h
      split at h
      · rename_i hc
        simp [List.lookup_cons] at h
        have : q = .free := by
          simp at hc
          exact hc.1.1
        exact .inr ⟨this, h.symm⟩
      · simp [List.lookup_cons] at h
        exact .inl h
    | false =>
      have h' : (r.map fun (n, k) => if (k == NameKind.free && env.scope.kind == .function && env.kindOf n == some .cell) then (n, NameKind.cell) else (n, k)).lookup x = some k := by
        dsimp only at h
        split at h <;> (simp only [List.lookup_cons, hx] at h; exact h)
      obtain ⟨k', e1, e2, e3⟩ := relabel_at h'
      exact ⟨k', by simp only [List.lookup_cons, hx]; exact e1, List.mem_cons_of_mem _ e2, e3⟩
section
variable {X : Cx} {scope : Scope} {xs : List Str} {cl : List (Str × Addr)}
theorem CompOk.nc (S : CompOk X scope xs cl) : ∀ y ∈ scope.names, y.2 ≠ .cell := fun y hy => of_decide_eq_true (List.all_eq_true.mp S.nocell y hy)
theorem CompOk.lo (S : CompOk X scope xs cl) {y : Str × NameKind} (hy : y ∈ scope.names) (h : y.2 = .local) : scope.names.lookup y.1 = some .local ∧ y.1 ∉ X.N := by
  have q := List.all_eq_true.mp S.locs y hy
  rw [Bool.or_eq_true, Bool.and_eq_true, decide_eq_true_eq, decide_eq_true_eq, decide_eq_true_eq] at q
  rcases q with q | q
  · exact absurd h q
  · exact q
theorem CompOk.fr (S : CompOk X scope xs cl) {y : Str × NameKind} (hy : y ∈ scope.names) (h : y.2 = .free) : (∃ c, cl.lookup y.1 = some c) ∧ (X.env.kindOf y.1 = some .cell ∨ X.env.kindOf y.1 = some .free) := by
  have q := List.all_eq_true.mp S.has y hy
  rw [Bool.or_eq_true, Bool.and_eq_true, Bool.or_eq_true, decide_eq_true_eq, decide_eq_true_eq, decide_eq_true_eq] at q
  rcases q with q | q
  · exact absurd h q
  · exact ⟨Option.isSome_iff_exists.mp q.1, q.2⟩
/-- a name of the block that isn't its own -/
theorem CompOk.vis (S : CompOk X scope xs cl) {x : Str} (h : Vis (relabel scope X.env) x) (hx : x ∈ X.N) : ∃ c, cl.lookup x = some c ∧ (X.env.kindOf x = some .cell ∨ X.env.kindOf x = some .free) := by
  have go : ∀ k, (relabel scope X.env).names.lookup x = some k → (k = .local ∨ k = .cell ∨ k = .free) → ∃ c, cl.lookup x = some c ∧ (X.env.kindOf x = some .cell ∨ X.env.kindOf x = some .free) := fun k e hk => by
    obtain ⟨k', _, e2, e3⟩ := relabel_at e
    have hf : k' = .free := by
      rcases e3 with e3 | e3
      · subst e3
        rcases hk with rfl | rfl | rfl
        · exact absurd hx (S.lo e2 rfl).2
        · exact absurd rfl (S.nc _ e2)
        · rfl
      · exact e3.1
    obtain ⟨⟨c, q⟩, r⟩ := S.fr e2 hf
    exact ⟨c, q, r⟩
  rcases h with h | h | h
  · exact go _ h (.inl rfl)
  · exact go _ h (.inr (.inl rfl))
  · exact go _ h (.inr (.inr rfl))
theorem CompOk.hasC (S : CompOk X scope xs cl) {x : Str} (h : (relabel scope X.env).names.lookup x = some .cell ∨ (relabel scope X.env).names.lookup x = some .free) : ∃ c, cl.lookup x = some c := by
  have go : ∀ k, (relabel scope X.env).names.lookup x = some k → (k = .cell ∨ k = .free) → ∃ c, cl.lookup x = some c := fun k e hk => by
    obtain ⟨k', _, e2, e3⟩ := relabel_at e
    have hf : k' = .free := by
      rcases e3 with e3 | e3
      · subst e3
        rcases hk with rfl | rfl
        · exact absurd rfl (S.nc _ e2)
        · rfl
      · exact e3.1
    exact (S.fr e2 hf).1
  rcases h with h | h
  · exact go _ h (.inl rfl)
  · exact go _ h (.inr rfl)
end
section
variable {X : Cx} {scope : Scope} {xs : List Str} {cl : List (Str × Addr)} {pins : List (Addr × Obj)} {σ : St} {H2 : Hp} {s2 : Shared} {fp : List Addr} {C : Addr}
theorem comp_ok (I2 : Inv X pins σ H2 s2) (S : CompOk X scope xs cl) (f2 : ∀ b ∈ fp, FpOk X pins H2 b) (hfp : ∀ b ∈ fp, b < s2.heap.objs.size) (hC : s2.heap.objs.size ≤ C) : (X.comp scope xs cl C s2 H2 fp).Ok where
  mod := I2.ok.mod
  kind := S.kind
  glob := I2.ok.glob
  blt := I2.ok.blt
  above := hC
  inj := fun x y c h1 h2 => I2.ok.inj x y c (S.sub.at h1) (S.sub.at h2)
  has := fun x h => S.hasC h
  cab := fun _ _ h => nomatch h
  hd := I2.ok.hd
  frames := I2.ok.frames
  stk := .inl rfl
  exf := fun b hb => ⟨Nat.ne_of_lt (Nat.lt_of_lt_of_le (hfp b hb) hC), fun x c e => (f2 b hb).2.2.2.2.1 x c (S.sub.at e)⟩
  bs := I2.bs
  bsz := Nat.le_trans I2.ok.bsz I2.sz
  noex := fun b o e hb => by
    rcases (f2 b hb).2.2.2.1 with z | z
    · exact I2.ok.noex b o e z
    · exact absurd (Nat.lt_of_lt_of_le (Heap.lt_size e) (Nat.le_trans I2.ok.bsz z)) (Nat.lt_irrefl _)
  exfs := fun b hb z => by
    rcases List.mem_cons.mp (I2.stkSub b z) with q | q
    · exact (f2 b hb).2.1 q
    · exact (f2 b hb).2.2.1 q
  funs := I2.stack
  frf := I2.stkFree
/-- a cell of the frame, behind steps of the block -/
theorem comp_cell {H' : Hp} {h' : Heap} (I2 : Inv X pins σ H2 s2) (f2 : ∀ b ∈ fp, FpOk X pins H2 b) (u : Un (frs X.stack) fp H2 H' s2.heap h') {x : Str} {c : Addr} {v : Option Value} (e : X.env.cells.lookup x = some c) (z : s2.heap.IsCell c v) : h'.IsCell c v := by
  obtain ⟨o, ho, hd⟩ := z
  obtain ⟨sl, q⟩ := u.any ho (I2.freeC x c e) fun hb => (f2 c hb).2.2.2.2.1 x c e rfl
  exact ⟨_, q, hd⟩
theorem comp_loc {H' : Hp} {h' : Heap} {m' : Str → Option Value} (I2 : Inv X pins σ H2 s2) (S : CompOk X scope xs cl) (f2 : ∀ b ∈ fp, FpOk X pins H2 b) (u : Un (frs X.stack) fp H2 H' s2.heap h')
    (i : Nat) (x : Str) (v : V) (e1 : (X.N ++ xs)[i]? = some x) (e2 : (σ ++ List.replicate xs.length none)[i]? = some (some v)) (e3 : Vis (relabel scope X.env) x) :
    ∃ w, RelV v w ∧ Look (compEnvC scope cl C X.env) h' m' x w := by
  have hl := I2.len
  by_cases hi : i < σ.length
  · rw [List.getElem?_append_left (by omega)] at e1
    rw [List.getElem?_append_left hi] at e2
    obtain ⟨c, hc, hk⟩ := S.vis e3 (List.mem_of_getElem? e1)
    obtain ⟨m, _, hloc⟩ := I2.loc
    have hv : Vis X.env.scope x := .inr hk
    obtain ⟨w, r, l⟩ := hloc i x v e1 e2 hv
    have hcx := S.sub.at hc
    refine ⟨w, r, .inr ⟨?_, c, hc, ?_⟩⟩
    · rcases e3 with e3 | e3 | e3
      · obtain ⟨k', _, m2, m3⟩ := relabel_at e3
        rcases m3 with m3 | m3
        · exact absurd (List.mem_of_getElem? e1) (S.lo m2 m3).2
        · exact nomatch m3.2
      · exact .inl e3
      · exact .inr e3
    · rcases l with ⟨q, _⟩ | ⟨_, c', q, z⟩
      · rcases hk with hk | hk
        · rw [q] at hk; cases hk
        · rw [q] at hk; cases hk
      · rw [hcx] at q
        cases q
        exact comp_cell I2 f2 u hcx z
  · rw [List.getElem?_append_right (by omega), List.getElem?_replicate] at e2
    split at e2 <;> cases e2
/-- the block's names let go of their values -/
theorem comp_reset {pins' : List (Addr × Obj)} {σ' : St} {H' : Hp} {s' : Shared} (I2 : Inv X pins σ H2 s2) (S : CompOk X scope xs cl) (f2 : ∀ b ∈ fp, FpOk X pins H2 b) (J : Inv (X.comp scope xs cl C s2 H2 fp) pins' σ' H' s') :
    Inv (X.comp scope xs cl C s2 H2 fp) pins' (σ ++ List.replicate xs.length none) H' s' :=
  ⟨J.ok, J.os, J.bare, J.base, let ⟨m, hn, _⟩ := J.loc; ⟨m, hn, fun i x v e1 e2 e3 => comp_loc I2 S f2 J.base i x v e1 e2 e3⟩, J.cell, J.free, J.freeC, J.pin, J.hok, by
    rw [List.length_append, List.length_replicate]
    show σ.length + xs.length = (X.N ++ xs).length
    rw [List.length_append, I2.len]⟩
theorem comp_start {D : Addr} {oD : Obj} {s3 : Shared} {m' : Str → Option Value} (I2 : Inv X pins σ H2 s2) (S : CompOk X scope xs cl) (f2 : ∀ b ∈ fp, FpOk X pins H2 b) (hfp : ∀ b ∈ fp, b < s2.heap.objs.size) (hC : s2.heap.objs.size ≤ C) (hD : s2.heap.objs.size ≤ D) (hDC : D ≠ C)
    (k : ∀ b o, s2.heap.get? b = some o → s3.heap.get? b = some o) (ho : s3.os = s2.os) (hb : AllBare s3.gens) (hn : s3.heap.Ns C m') (hd : s3.heap.get? D = some oD) (hcell : ∀ v, oD.data ≠ .cell v) :
    Inv (X.comp scope xs cl C s2 H2 fp) [(D, oD)] (σ ++ List.replicate xs.length none) H2 s3 :=
  have u : Un (frs X.stack) fp H2 H2 s2.heap s3.heap := Un.kept k
  ⟨comp_ok I2 S f2 hfp hC, ho, hb, u, ⟨m', hn, fun i x v e1 e2 e3 => comp_loc I2 S f2 u i x v e1 e2 e3⟩,
    fun x c e => by
      obtain ⟨v, z⟩ := I2.cell x c (S.sub.at e)
      exact ⟨v, comp_cell I2 f2 u (S.sub.at e) z⟩,
    I2.hok.fresh hC, fun x c e => I2.freeC x c (S.sub.at e),
    fun p hp => by
      have e : p = (D, oD) := List.mem_singleton.mp (show p ∈ [(D, oD)] from hp)
      subst e
      refine ⟨hd, I2.hok.fresh hD, hDC, fun z => ?_, hcell⟩
      obtain ⟨_, o, q, _⟩ := I2.stack.mem z
      exact absurd (Nat.lt_of_lt_of_le (Heap.lt_size q) hD) (Nat.lt_irrefl _),
    I2.hok.kept k, by
      rw [List.length_append, List.length_replicate]
      show σ.length + xs.length = (X.N ++ xs).length
      rw [List.length_append, I2.len]⟩
/-- an untracked object comes to be tracked -/
theorem hok_track {P : Program} {w : World} {H : Hp} {h : Heap} {a : Addr} {o : HO} (x : HOk P w H h) (hn : H a = none) (new : ObjOk P w (upd H a o) h a o) : HOk P w (upd H a o) h := fun b u e => by
  by_cases hb : b = a
  · subst hb
    rw [upd_same] at e
    cases e
    exact new
  · rw [upd_ne hb] at e
    exact (x b u e).stay (fun _ _ _ q => q) (fun c q => by rw [upd_ne (ne_of_none q hn)]; exact q) fun c ys q => by rw [upd_ne (ne_of_none q hn)]; exact q
/-- behind the block: the frame's own state, the list tracked -/
theorem comp_end {pins' : List (Addr × Obj)} {σ' : St} {H' : Hp} {s' : Shared} {D : Addr} {ys : List V} {its : List Value} {n : Nat} (I2 : Inv X pins σ H2 s2) (f2 : ∀ b ∈ fp, FpOk X pins H2 b) (hD : s2.heap.objs.size ≤ D)
    (J : Inv (X.comp scope xs cl C s2 H2 fp) pins' σ' H' s') (hn : H' D = none) (e : s'.heap.get? D = some { cls := .type "list", data := .seq its.toArray n }) (r : Vals ys its) (hz : ys.length ≤ sizeLine) :
    Inv X pins σ (upd H' D (.lst ys)) s' := by
  have u : Un (frs X.stack) fp H2 H' s2.heap s'.heap := J.base
  have neD : ∀ b o, s2.heap.get? b = some o → b ≠ D := fun b o q => Nat.ne_of_lt (Nat.lt_of_lt_of_le (Heap.lt_size q) hD)
  have neT : ∀ b o, H2 b = some o → b ≠ D := fun b o q => Nat.ne_of_lt (Nat.lt_of_lt_of_le (I2.hok.lt q) hD)
  refine I2.call' (ch := fp) J.os ⟨u.keep, u.slot, fun b o q m hx => ?_, u.there, fun b zs q => ?_, fun b o zs q => ?_, fun b ps q => ?_⟩ (hok_track J.hok hn ⟨hz, its, n, r, e⟩) J.bare fun b hb => ?_
  · rw [upd_ne (neD b o q)]
    exact u.free b o q m hx
  · rw [upd_ne (neT b _ q)]
    exact u.tups b zs q
  · rw [upd_ne (neT b _ q)]
    exact u.frzs b o zs q
  · rw [upd_ne (neT b _ q)]
    exact u.tbls b ps q
  · obtain ⟨_, z1, _, z2, z3, z4⟩ := f2 b hb
    exact ⟨z2, z1, z3, z4⟩
end
end L2
namespace L2
open PySem PySem.Spec PyProof.Rows
/-- the tests of a clause -/
def PIf (X : Cx) (ifs : List Expr) (t : TT) : Prop :=
  ∀ (pins : List (Addr × Obj)) (s : Shared) (σ : St) (H : Hp) (Q : Bool → Hp → Prop), Inv X pins σ H s → t σ H Q →
    wpAny (model X.prog X.w) X.A (forIn ifs true fun c r => if r = true then do let ok ← isTrue c X.env (eval c X.env); pure (ForInStep.yield ok) else pure (ForInStep.yield r)) (TP X pins σ Q) X.xe s
def tYes : TT := fun _ H Q => Q true H
theorem pif_nil {X : Cx} : PIf X [] tYes := fun _ _ _ H _ I h => wpAny_tests_nil ⟨H, I, h⟩
/-- the reading: W by the turn, a measure, the items so far, the heap -/
def tComp (n : Nat) (wi : TI) (g : TG) (tf : TT) (te : TE) (fin : List V → Hp → Prop) : St → Hp → Prop := fun σ H => wi σ H fun J H1 => ∃ W : Nat → Nat → List V → Hp → Prop, (∃ m, W 0 m [] H1) ∧ ∀ i m ys H, W i m ys H →
  ys.length ≤ sizeLine ∧ ((J.stop i H ∧ fin ys H) ∨ (J.go i H ∧ ∃ (Y : V → Hp → Prop) (Z : Hp → Prop), (∀ y H4, Y y H4 → ys.length < sizeLine ∧ ∃ m', m' < m ∧ W (i + 1) m' (ys ++ [y]) H4) ∧ (∀ H3, Z H3 → ∃ m', m' < m ∧ W (i + 1) m' ys H3) ∧
    ∀ x H', J.yld i H x H' → g x (σ ++ List.replicate n none) H' fun σ2 H2 => tf σ2 H2 fun b H3 => if b = true then te σ2 H3 Y else Z H3))
theorem comp_turns {prog : Program} {w : World} {A : Around} {R : Result → Shared → Prop} {s : Shared} {elt target iter : Expr} {ifs : List Expr} {scope : Scope} {pos : Pos} {it acc : Value} {env : Env} (I : Nat → Shared → Prop)
    (turn : ∀ n s, I n s → wpAny (model prog w) A (pyNext it) (fun r s₁ => match r with
      | none => R (.ok .next) s₁
      | some v => wpAny (model prog w) A (letOwnedTupleGo target it v) (fun _ t₁ => wpAny (model prog w) A (assign target env v) (fun _ s₂ =>
          wpAny (model prog w) A (forIn ifs true fun c r => if r = true then do let ok ← isTrue c env (eval c env); pure (ForInStep.yield ok) else pure (ForInStep.yield r)) (fun ok s₃ =>
            if ok = true then wpAny (model prog w) A (eval elt env) (fun x s₄ => wpAny (model prog w) A (call (.builtin "list.append") [acc, x]) (fun _ s₅ => ∃ m, m < n ∧ I m s₅) (fun _ _ => False) s₄) (fun _ _ => False) s₃
            else ∃ m, m < n ∧ I m s₃) (fun _ _ => False) s₂) (fun _ _ => False) t₁) (fun _ _ => False) s₁) (fun _ _ => False) s)
    (n : Nat) (h : I n s) : codeAny (model prog w) A (.compLoop (.ListComp elt [⟨target, iter, ifs, 0⟩] scope pos) 0 it acc env) R s := by
  refine codeAny_loop rfl I (fun n s hI => ?_) n h
  show wpAny _ A (Sem.onRaise (compTurn _ 0 it acc env) fun x => do noteFrame x env; theTreesLotGoes x) _ _ s
  refine wpAny_noted ?_
  rw [compTurn_list]
  refine wpAny_bind (wpAny_standAt (wpAny_bind (wpAny_mono (turn n s hI) (fun r s₁ h₁ => ?_) fun _ _ z => z.elim)))
  cases r with
  | none => exact wpAny_pure h₁
  | some v =>
    refine wpAny_bind (wpAny_mono h₁ (fun _ t₁ k₁ => ?_) fun _ _ z => z.elim)
    refine wpAny_bind (wpAny_mono k₁ (fun _ s₂ h₂ => wpAny_bind (wpAny_mono h₂ (fun ok s₃ h₃ => ?_) fun _ _ z => z.elim)) fun _ _ z => z.elim)
    cases ok with
    | false => exact wpAny_pure ⟨rfl, h₃⟩
    | true =>
      refine wpAny_bind (wpAny_bind (wpAny_mono h₃ (fun x s₄ h₄ => ?_) fun _ _ z => z.elim))
      exact wpAny_bind (wpAny_mono h₄ (fun _ s₅ h₅ => wpAny_pure (wpAny_pure ⟨rfl, h₅⟩)) fun _ _ z => z.elim)
section
variable {X : Cx} {tg elt iter : Expr} {ifs : List Expr} {scope : Scope} {xs : List Str} {cl : List (Str × Addr)} {pos : Pos} {wi : TI} {g : TG} {tf : TT} {te : TE}
/-- the block -/
theorem comp_block {pins : List (Addr × Obj)} {σ : St} {H2 : Hp} {s2 : Shared} {it : Addr} {fp : List Addr} {tn : Nat → Heap → Prop} {J : It} {W : Nat → Nat → List V → Hp → Prop} {m0 : Nat} {fin : List V → Hp → Prop} {RR : Value → Addr → Result → Shared → Prop}
    (hc : X.calm = true) (hx : X.xe = fun _ _ => False) (S : CompOk X scope xs cl)
    (hg : ∀ C s H fp, PG (X.comp scope xs cl C s H fp) tg g) (hf : ∀ C s H fp, PIf (X.comp scope xs cl C s H fp) ifs tf) (he : ∀ C s H fp, PE (X.comp scope xs cl C s H fp) elt te)
    (I2 : Inv X pins σ H2 s2) (T : Turn X.prog X.w X.K tg J fp it tn) (st2 : tn 0 s2.heap) (f2 : ∀ b ∈ fp, FpOk X pins H2 b) (w0 : W 0 m0 [] H2)
    (turn : ∀ i m ys H, W i m ys H → ys.length ≤ sizeLine ∧ ((J.stop i H ∧ fin ys H) ∨ (J.go i H ∧ ∃ (Y : V → Hp → Prop) (Z : Hp → Prop), (∀ y H4, Y y H4 → ys.length < sizeLine ∧ ∃ m', m' < m ∧ W (i + 1) m' (ys ++ [y]) H4) ∧ (∀ H3, Z H3 → ∃ m', m' < m ∧ W (i + 1) m' ys H3) ∧
      ∀ x H', J.yld i H x H' → g x (σ ++ List.replicate xs.length none) H' fun σ2 H2 => tf σ2 H2 fun b H3 => if b = true then te σ2 H3 Y else Z H3)))
    (hRR : ∀ (D C : Addr) (s' : Shared) (ys : List V) (H' : Hp) (m' : Str → Option Value), Inv X pins σ (upd H' D (.lst ys)) s' → H' D = none → s'.heap.Ns C m' → FpOk X pins (upd H' D (.lst ys)) C → fin ys H' → RR (.ref D) C (.ok .next) s') :
    wpAny (model X.prog X.w) X.A (newList []) (fun acc s₃ => wpAny (model X.prog X.w) X.A (newFunctionEnv scope X.env.globals cl [] X.env.qual none .none (some X.env)) (fun cenv s₄ =>
      codeAny (model X.prog X.w) X.A (.compStart (.ListComp elt [⟨tg, iter, ifs, 0⟩] scope pos) 0 (.ref it) acc { cenv with scope := relabel scope X.env }) (RR acc cenv.locals) s₄) X.xe s₃) X.xe s2 := by
  refine wpAny_newObj_type (wpAny_newFunctionEnv S.nc (by intro y hy; simp at hy) (fun h₁ hns₁ hsb₁ => ?_) S.kind)
  dsimp only at hns₁ hsb₁ ⊢
  generalize hG : s2.heap.push { cls := .type "list", dict := none, data := .seq ([] : List Value).toArray } = G at hns₁ hsb₁ ⊢
  have szG : G.objs.size = s2.heap.objs.size + 1 := by rw [← hG, Heap.size_push]
  have hDC : s2.heap.objs.size ≠ G.objs.size := by rw [szG]; exact Nat.ne_of_lt (Nat.lt_succ_self _)
  have hC : s2.heap.objs.size ≤ G.objs.size := by rw [szG]; exact Nat.le_succ _
  have hfp : ∀ b ∈ fp, b < s2.heap.objs.size := fun b hb => let ⟨_, e, _⟩ := T.obj 0 _ st2 b hb; Heap.lt_size e
  have old : ∀ b o, s2.heap.get? b = some o → h₁.get? b = some o := fun b o e =>
    hsb₁.extBut b o (Nat.ne_of_lt (Nat.lt_of_lt_of_le (Heap.lt_size e) hC)) (Heap.get?_push_of_some _ (hG ▸ Heap.get?_push_of_some _ e))
  have hacc : h₁.get? s2.heap.objs.size = some { cls := .type "list", data := .seq ([] : List Value).toArray 0 } := hsb₁.extBut _ _ hDC (Heap.get?_push_of_some _ (hG ▸ Heap.get?_push_size _ rfl))
  have hst₁ : tn 0 h₁ := T.keep 0 _ _ st2 fun b _ o e => old b o e
  have I3 : ∀ tk, Inv (X.comp scope xs cl G.objs.size s2 H2 fp) [(s2.heap.objs.size, { cls := .type "list", data := .seq ([] : List Value).toArray 0 })] (σ ++ List.replicate xs.length none) H2 { s2 with heap := h₁, toks := tk } := fun tk =>
    comp_start I2 S f2 hfp hC (Nat.le_refl _) hDC old rfl I2.bare hns₁ hacc fun _ z => nomatch z
  -- what stays true of the iterator
  have stat : ∀ {H' : Hp} {o : Obj}, (∀ b ∈ fp, H' b = none) → ∀ b ∈ fp, FpOk (X.comp scope xs cl G.objs.size s2 H2 fp) [(s2.heap.objs.size, o)] H' b := fun {H' o} hn b hb => by
    refine ⟨hn b hb, Nat.ne_of_lt (Nat.lt_of_lt_of_le (hfp b hb) hC), fun z => ?_, .inl hb, fun x c e => (f2 b hb).2.2.2.2.1 x c (S.sub.at e), fun p hp => ?_⟩
    · rcases List.mem_cons.mp (I2.stkSub b z) with q | q
      · exact (f2 b hb).2.1 q
      · exact (f2 b hb).2.2.1 q
    · have e : p = (s2.heap.objs.size, o) := List.mem_singleton.mp (show p ∈ [(s2.heap.objs.size, o)] from hp)
      subst e
      exact Nat.ne_of_gt (hfp b hb)
  have loop : ∀ tk, codeAny (model X.prog X.w) X.A (.compLoop (.ListComp elt [⟨tg, iter, ifs, 0⟩] scope pos) 0 (.ref it) (.ref s2.heap.objs.size) (compEnvC scope cl G.objs.size X.env)) (RR (.ref s2.heap.objs.size) G.objs.size) { s2 with heap := h₁, toks := tk } := by
    intro tk
    refine comp_turns (fun n s' => ∃ i ys its k H', Inv (X.comp scope xs cl G.objs.size s2 H2 fp) [(s2.heap.objs.size, { cls := .type "list", data := .seq (its : List Value).toArray k })] (σ ++ List.replicate xs.length none) H' s' ∧ tn i s'.heap ∧ (∀ b ∈ fp, H' b = none) ∧ Vals ys its ∧ W i n ys H')
      ?_ m0 ⟨0, [], [], 0, H2, I3 tk, hst₁, fun b hb => (f2 b hb).1, .nil, w0⟩
    rintro n s' ⟨i, ys, its, k, H', I', st', fr', rv, w'⟩
    obtain ⟨hlen, way⟩ := turn i n ys H' w'
    rcases way with ⟨stop, qf⟩ | ⟨go, Y, Z, hY, hZ, step⟩
    · refine thn (T.done (X.comp scope xs cl G.objs.size s2 H2 fp) rfl rfl rfl hc i _ s' _ H' (fun _ _ => False) I' (stat fr') st' stop) fun r s1 ⟨hr, I1⟩ => ?_
      subst hr
      obtain ⟨e, n1, _⟩ := I1.pin _ (List.mem_singleton.mpr rfl)
      obtain ⟨m1, hn1, _⟩ := I1.loc
      refine hRR _ _ s1 ys H' m1 (comp_end I2 f2 (Nat.le_refl _) I1 n1 e rv hlen) n1 hn1 ?_ qf
      refine I2.fpOk hC ?_
      rw [upd_ne hDC.symm]
      exact I1.free
    · refine thn (T.item (X.comp scope xs cl G.objs.size s2 H2 fp) rfl rfl rfl hc i _ s' _ H' (fun _ _ => False) I' (stat fr') st' go) fun r s1 ⟨u, hr, h1⟩ => ?_
      subst hr
      refine thn h1 fun _ s5 ⟨x, H5, I5, r5, y5, st5, fr5⟩ => ?_
      have I5' := I5.pinned (stat fr5) (T.obj _ _ st5)
      have hxe : (X.comp scope xs cl G.objs.size s2 H2 fp).xe = fun _ _ => False := hx
      have q6 := hg _ s2 H2 fp _ s5 _ H5 x u _ I5' r5 (step x H5 y5)
      rw [hxe] at q6
      refine thn q6 fun _ s6 ⟨σ6, H6, I6, q6⟩ => ?_
      have q7 := hf _ s2 H2 fp _ s6 σ6 H6 _ I6 q6
      rw [hxe] at q7
      refine thn q7 fun b s7 ⟨H7, I7, q7⟩ => ?_
      have kept : ∀ {σ' : St} {H' : Hp} {s' : Shared}, Inv (X.comp scope xs cl G.objs.size s2 H2 fp) ([(s2.heap.objs.size, { cls := .type "list", data := .seq its.toArray k })] ++ pinsAt fp s5.heap) σ' H' s' → tn (i + 1) s'.heap ∧ ∀ b ∈ fp, H' b = none := fun {σ' H' s'} Z => by
        refine ⟨T.keep _ _ _ st5 fun b hb o e => (Z.pin (b, o) (List.mem_append_right _ (List.mem_append_right _ (mem_pinsAt hb e)))).1, fun b hb => ?_⟩
        obtain ⟨o, e, d⟩ := T.obj _ _ st5 b hb
        exact (Z.pin (b, o) (List.mem_append_right _ (List.mem_append_right _ (mem_pinsAt hb e)))).2.1
      cases b with
      | false =>
        rw [if_neg Bool.false_ne_true]
        rw [if_neg Bool.false_ne_true] at q7
        obtain ⟨m', hm, w7⟩ := hZ _ q7
        exact ⟨m', hm, i + 1, ys, its, k, H7, comp_reset I2 S f2 I7.unpinned, (kept I7).1, (kept I7).2, rv, w7⟩
      | true =>
        rw [if_pos rfl]
        rw [if_pos rfl] at q7
        have q8 := he _ s2 H2 fp _ s7 σ6 H7 _ I7 q7
        rw [hxe] at q8
        refine thn q8 fun y s8 ⟨yv, H8, I8, r8, qY⟩ => ?_
        obtain ⟨hz, m', hm, w8⟩ := hY _ _ qY
        obtain ⟨eD, nD, neC, nfD, _⟩ := I8.pin (s2.heap.objs.size, { cls := .type "list", data := .seq its.toArray k }) (List.mem_append_right _ (List.mem_append_left _ (List.mem_singleton.mpr rfl)))
        have hl := rv.length
        refine call_meets F.slot_list_append ⟨_, eD, rfl⟩ F.entry_list_append (F.args_list_append_2 _ _) (PySem.list_append s2.heap.objs.size its.toArray k y (by rw [List.size_toArray]; omega)) ⟨eD, ?_⟩
        have eN := PySem.IsL.update eD (fun (a : Array Value) => a.push y)
        have eA : its.toArray.push y = (its ++ [y]).toArray := by simp
        rw [eA] at eN
        have drop : Inv (X.comp scope xs cl G.objs.size s2 H2 fp) (pinsAt fp s5.heap) σ6 H8 s8 := I8.pins_of fun p hp => I8.pin p (List.mem_append_right _ (List.mem_append_right _ hp))
        have I9 : Inv (X.comp scope xs cl G.objs.size s2 H2 fp) (pinsAt fp s5.heap) σ6 H8 { s8 with heap := s8.heap.update s2.heap.objs.size (Obj.mapSeq fun (a : Array Value) => a.push y) } := by
          refine drop.turned (it := s2.heap.objs.size) (t' := s8.toks) (fun b o hb q => (Heap.get?_update_other s8.heap _ (Ne.symm hb)).trans q) nD neC (.inr (Nat.le_refl _)) (fun x c e z => ?_) fun p hp z => ?_
          · obtain ⟨v, q⟩ := I2.cell x c (S.sub.at e)
            exact absurd (q.lt) (by rw [z]; exact Nat.lt_irrefl _)
          · have hp' : p ∈ pinsAt fp s5.heap := hp
            exact absurd (hfp _ (of_pinsAt hp').1) (by rw [z]; exact Nat.lt_irrefl _)
        have I10 : Inv (X.comp scope xs cl G.objs.size s2 H2 fp) ([(s2.heap.objs.size, { cls := .type "list", data := .seq (its ++ [y]).toArray _ })] ++ pinsAt fp s5.heap) σ6 H8 { s8 with heap := s8.heap.update s2.heap.objs.size (Obj.mapSeq fun (a : Array Value) => a.push y) } := I9.pins_of fun p hp => by
          rcases List.mem_append.mp hp with z | z
          · have e := List.mem_singleton.mp z
            subst e
            exact ⟨eN, nD, neC, nfD, fun _ z => nomatch z⟩
          · exact I9.pin p (List.mem_append_right _ z)
        have kp : tn (i + 1) (s8.heap.update s2.heap.objs.size (Obj.mapSeq fun (a : Array Value) => a.push y)) ∧ ∀ b ∈ fp, H8 b = none := by
          refine ⟨T.keep _ _ _ (kept I8).1 fun b hb o e => (Heap.get?_update_other s8.heap _ (Nat.ne_of_gt (hfp b hb))).trans e, (kept I8).2⟩
        exact ⟨m', hm, i + 1, ys ++ [yv], its ++ [y], _, H8, comp_reset I2 S f2 I10.unpinned, kp.1, kp.2, rv.append (.cons r8 .nil), w8⟩
  exact codeAny_compStart_list (loop _) (T.self _ 0 _ _ _ hst₁ (loop _))
/-- the block's own dict lets its names go -/
theorem comp_gone {pins : List (Addr × Obj)} {σ : St} {H : Hp} {s : Shared} {h' : Heap} {C : Addr} (I : Inv X pins σ H s) (f : FpOk X pins H C) (k : Heap.SameBut C s.heap h') : Inv X pins σ H { s with heap := h' } := by
  obtain ⟨n, nl, nf, ab, nc, np⟩ := f
  exact I.turned (it := C) (t' := s.toks) (fun b o hb e => k.extBut b o hb e) n nl ab nc np
theorem pe_comp (hc : X.calm = true) (hx : X.xe = fun _ _ => False) (S : CompOk X scope xs cl) (hi : PI X tg iter wi)
    (hg : ∀ C s H fp, PG (X.comp scope xs cl C s H fp) tg g) (hf : ∀ C s H fp, PIf (X.comp scope xs cl C s H fp) ifs tf) (he : ∀ C s H fp, PE (X.comp scope xs cl C s H fp) elt te)
    (hs : ∀ x, foldedSetIterable iter X.env x = pure x := by intro _; rfl) :
    PE X (.ListComp elt [⟨tg, iter, ifs, 0⟩] scope pos) (fun σ H Q => tComp xs.length wi g tf te (fun ys H' => ∀ p, H' p = none → Q (.ref p) (upd H' p (.lst ys))) σ H) := by
  intro pins s σ H Q I h
  rw [eval_ListComp]
  refine wpAny_comprehension_free (use := none) rfl hs S.clos S.kind (fun y hy hl => (S.lo hy hl).1) ?_
  refine thn (hi pins s σ H _ I h) fun xv s1 h1 => thn h1 fun itv s2 h2 => ?_
  obtain ⟨it, fp, tn, J, H2, rfl, I2, T, st2, f2, W, ⟨m0, w0⟩, turn⟩ := h2
  refine comp_block (RR := fun acc C => compPost (model X.prog X.w) X.A X.xe none (EP X pins σ Q) acc C) hc hx S hg hf he I2 T st2 f2 w0 turn ?_
  intro D C s' ys H' m' I' nD hn fC fin
  exact ⟨m', hn, fun h' k => ⟨.ref D, _, comp_gone I' fC k, rfl, fin D nD⟩⟩
end
/-! ### the forms one uses -/
section
variable {g : TG} {tf : TT} {te : TE} {fin : List V → Hp → Prop} {n : Nat} {σ : St} {H : Hp}
theorem comp_by {J : It} {k : Nat} (Pv : Nat → List V → Hp → Prop) (hk : k ≤ 1000000) (h0 : Pv 0 [] H) (hz : ∀ i ys H, Pv i ys H → ys.length ≤ i)
    (hgo : ∀ i ys H, i < k → Pv i ys H → J.go i H ∧ ∀ x H', J.yld i H x H' → g x (σ ++ List.replicate n none) H' fun σ2 H2 => tf σ2 H2 fun b H3 => if b = true then te σ2 H3 (fun y H4 => Pv (i + 1) (ys ++ [y]) H4) else Pv (i + 1) ys H3)
    (hst : ∀ ys H, Pv k ys H → J.stop k H ∧ fin ys H) :
    ∃ W : Nat → Nat → List V → Hp → Prop, (∃ m, W 0 m [] H) ∧ ∀ i m ys H, W i m ys H → ys.length ≤ sizeLine ∧ ((J.stop i H ∧ fin ys H) ∨ (J.go i H ∧ ∃ (Y : V → Hp → Prop) (Z : Hp → Prop), (∀ y H4, Y y H4 → ys.length < sizeLine ∧ ∃ m', m' < m ∧ W (i + 1) m' (ys ++ [y]) H4) ∧
      (∀ H3, Z H3 → ∃ m', m' < m ∧ W (i + 1) m' ys H3) ∧ ∀ x H', J.yld i H x H' → g x (σ ++ List.replicate n none) H' fun σ2 H2 => tf σ2 H2 fun b H3 => if b = true then te σ2 H3 Y else Z H3)) := by
  have hl : sizeLine = 16777216 := sizeLine_eq
  refine ⟨fun i m ys H => m = k - i ∧ i ≤ k ∧ Pv i ys H, ⟨k, by simp, Nat.zero_le _, h0⟩, ?_⟩
  rintro i m ys H ⟨rfl, hi, p⟩
  have z := hz i ys H p
  refine ⟨by omega, ?_⟩
  by_cases hlt : i < k
  · obtain ⟨g1, g2⟩ := hgo i ys H hlt p
    exact .inr ⟨g1, fun y H4 => Pv (i + 1) (ys ++ [y]) H4, fun H3 => Pv (i + 1) ys H3, fun y H4 q => ⟨by omega, k - (i + 1), by omega, rfl, hlt, q⟩, fun H3 q => ⟨k - (i + 1), by omega, rfl, hlt, q⟩, g2⟩
  · have e : i = k := by omega
    subst e
    exact .inl (hst ys H p)
theorem comp_tup {K : PySem.W.Frag} {a : Addr} {xs : List V} (Pv : Nat → List V → Hp → Prop) (hk : xs.length ≤ 1000000) (h0 : Pv 0 [] H) (hl : ∀ i ys H, Pv i ys H → SqT K H a xs) (hz : ∀ i ys H, Pv i ys H → ys.length ≤ i)
    (hgo : ∀ i x ys H, xs[i]? = some x → Pv i ys H → g x (σ ++ List.replicate n none) H fun σ2 H2 => tf σ2 H2 fun b H3 => if b = true then te σ2 H3 (fun y H4 => Pv (i + 1) (ys ++ [y]) H4) else Pv (i + 1) ys H3)
    (hst : ∀ ys H, Pv xs.length ys H → fin ys H) :
    ∃ W : Nat → Nat → List V → Hp → Prop, (∃ m, W 0 m [] H) ∧ ∀ i m ys H, W i m ys H → ys.length ≤ sizeLine ∧ (((Itt K a).stop i H ∧ fin ys H) ∨ ((Itt K a).go i H ∧ ∃ (Y : V → Hp → Prop) (Z : Hp → Prop), (∀ y H4, Y y H4 → ys.length < sizeLine ∧ ∃ m', m' < m ∧ W (i + 1) m' (ys ++ [y]) H4) ∧
      (∀ H3, Z H3 → ∃ m', m' < m ∧ W (i + 1) m' ys H3) ∧ ∀ x H', (Itt K a).yld i H x H' → g x (σ ++ List.replicate n none) H' fun σ2 H2 => tf σ2 H2 fun b H3 => if b = true then te σ2 H3 Y else Z H3)) :=
  comp_by Pv hk h0 hz (fun i ys H hi p => by
    have q := hl i ys H p
    refine ⟨⟨xs, xs[i], q, by simp [hi]⟩, fun x H' y => ?_⟩
    obtain ⟨e, y⟩ := y
    subst e
    exact hgo i x ys _ (y xs q) p) fun ys H p => ⟨⟨xs, hl _ ys H p, Nat.le_refl _⟩, hst ys H p⟩
theorem comp_range {lo : Int} {k : Nat} (Pv : Nat → List V → Hp → Prop) (hk : k ≤ 1000000) (h0 : Pv 0 [] H) (hz : ∀ i ys H, Pv i ys H → ys.length ≤ i)
    (hgo : ∀ i ys H, i < k → Pv i ys H → g (.int (lo + i)) (σ ++ List.replicate n none) H fun σ2 H2 => tf σ2 H2 fun b H3 => if b = true then te σ2 H3 (fun y H4 => Pv (i + 1) (ys ++ [y]) H4) else Pv (i + 1) ys H3)
    (hst : ∀ ys H, Pv k ys H → fin ys H) :
    ∃ W : Nat → Nat → List V → Hp → Prop, (∃ m, W 0 m [] H) ∧ ∀ i m ys H, W i m ys H → ys.length ≤ sizeLine ∧ (((Itr lo k).stop i H ∧ fin ys H) ∨ ((Itr lo k).go i H ∧ ∃ (Y : V → Hp → Prop) (Z : Hp → Prop), (∀ y H4, Y y H4 → ys.length < sizeLine ∧ ∃ m', m' < m ∧ W (i + 1) m' (ys ++ [y]) H4) ∧
      (∀ H3, Z H3 → ∃ m', m' < m ∧ W (i + 1) m' ys H3) ∧ ∀ x H', (Itr lo k).yld i H x H' → g x (σ ++ List.replicate n none) H' fun σ2 H2 => tf σ2 H2 fun b H3 => if b = true then te σ2 H3 Y else Z H3)) :=
  comp_by Pv hk h0 hz (fun i ys H hi p => ⟨hi, fun x H' y => by
    obtain ⟨e, y⟩ := y
    subst e y
    exact hgo i ys _ hi p⟩) fun ys H p => ⟨Nat.le_refl _, hst ys H p⟩
end
end L2
/-! all, max of lists, over the hand layer -/
namespace L2
open PySem PySem.Spec PyProof.Rows
theorem vals_at {ns : List Int} {its : List Value} (r : Vals (ns.map V.int) its) {i : Nat} {v : Value} (e : its.toArray[i]? = some v) : ∃ t, v = .int (ns.getD i 0) t := by
  have e' : its[i]? = some v := by simpa using e
  have hi : i < ns.length := by
    have h1 := r.length
    have h2 := (List.getElem?_eq_some_iff.mp e').1
    rw [List.length_map] at h1
    omega
  obtain ⟨u, q, t, z⟩ := r.get (i := i) (x := .int (ns[i])) (by simp [hi])
  rw [e'] at q
  cases q
  exact ⟨t, by rw [z]; simp [hi]⟩
theorem getD_lt {ns : List Int} {i : Nat} (h : i < ns.length) : ns.getD i 0 = ns[i] := by simp [h]
theorem bools_at {bs : List Bool} {its : List Value} (r : Vals (bs.map V.bl) its) {i : Nat} {v : Value} (e : its.toArray[i]? = some v) : v = .bool (bs.getD i true) := by
  have e' : its[i]? = some v := by simpa using e
  have hi : i < bs.length := by
    have h1 := r.length
    have h2 := (List.getElem?_eq_some_iff.mp e').1
    rw [List.length_map] at h1
    omega
  obtain ⟨u, q, z⟩ := r.get (i := i) (x := .bl (bs[i])) (by simp [hi])
  rw [e'] at q
  cases q
  rw [show v = Value.bool bs[i] from z]
  simp [hi]
theorem range_allB : ∀ (bs : List Bool), ((List.range bs.length).all fun i => bs.getD i true) = bs.all id
  | [] => rfl
  | b :: r => by
    rw [List.length_cons, List.range_succ_eq_map, List.all_cons, List.all_map, List.all_cons]
    have e : ((fun i => (b :: r).getD i true) ∘ Nat.succ) = fun i => r.getD i true := by
      funext i
      simp
    rw [e, range_allB r]
    simp
section
variable {prog : Program} {w : World} {A : Around} {R : Result → Shared → Prop} {I : Addr} {fp wr : List Addr} {n : Nat} {P : Nat → Value → Prop} {St : Nat → Heap → Prop} {kw : List (Str × Value)}
end
section
variable {prog : Program} {w : World} {A : Around} {E : Value → Shared → Prop} {s : Shared}
end
section
variable {X : Cx}
/-- all of a list of truths -/
theorem call_allB (hc : X.calm = true) : CallR X (.builtin "all") (fun xs H Q => ∃ (l : Addr) (bs : List Bool), xs = [.ref l] ∧ SqL X.K H l (bs.map V.bl) ∧ Q (.bl (bs.all id)) H) := by
  intro pins s σ H xs us Q I r h
  obtain ⟨l, bs, rfl, hq, q⟩ := h
  obtain ⟨u, rfl, rx⟩ := vals1 r
  cases rx
  obtain ⟨its, r', pl, hz⟩ := I.list hq
  have hl := pl.isList
  have hlt : l < s.heap.objs.size := by obtain ⟨_, e, _⟩ := hl; exact Heap.lt_size e
  have hlen : bs.length = its.length := by rw [← r'.length, List.length_map]
  refine call_all_walk (wpAny_pyIter_list hl ?_)
  refine ⟨s.heap.objs.size, _, _, its.toArray.size, _, _, fun i => bs.getD i true, rfl, Walks.list (A := X.A.in1) (I.ok.hd hc) _ l (Nat.ne_of_lt hlt) its.toArray, ⟨⟨_, Heap.get?_push_size _ rfl, rfl, rfl⟩, hl.push _⟩, fun i v s' Q' E' hP hQ => ?_, fun h' tk hk => ?_⟩
  · rw [bools_at r' hP]
    exact wpAny_truthy_bool hQ
  · rw [List.size_toArray, ← hlen, range_allB]
    exact ⟨.bl (bs.all id), H, I.kept fun b o e => hk b o (fun z => Nat.ne_of_lt (Heap.lt_size e) (List.mem_singleton.mp z)) (Heap.get?_push_of_some _ e), rfl, q⟩
end
end L2
namespace L2
open PySem PySem.Spec PyProof.Rows
/-- f 0, f 1, .. (n of them) -/
def Itf (f : Nat → V) (n : Nat) : It := ⟨fun i _ => i < n, fun i H x H' => H' = H ∧ x = f i, fun i _ => i = n⟩
theorem turn_walk {P : Program} {w : World} {K : PySem.W.Frag} {tg : Expr} {it : Addr} {n : Nat} {Pq : Nat → Value → Prop} {St : Nat → Heap → Prop} {f : Nat → V} {nm : String}
    (W : ∀ A : Around, A.handled = none → Walks P w A it [it] [it] n Pq St) (ho : ∀ i h, St i h → ∃ o vs, h.get? it = some o ∧ o.cls = .type nm ∧ o.data = .fields vs)
    (hfr : ∀ i h h', St i h → (∀ b ∈ [it], ∀ o, h.get? b = some o → h'.get? b = some o) → St i h') (hn : ["enumerate", "zip", "dict_itemiterator", "dict_reverseitemiterator", "odict_iterator", "itertools.zip_longest", "itertools.pairwise"].contains nm = false)
    (hP : ∀ i v, i < n → Pq i v → RelV (f i) v) (hself : ∀ (A : Around) (i : Nat) (s : Shared) (Q : Value → Shared → Prop) (E : Value → Shared → Prop), St i s.heap → Q (.ref it) s → wpAny (model P w) A (pyIter (.ref it)) Q E s) : Turn P w K tg (Itf f n) [it] it St where
  mem := by simp
  obj := fun i h st b hb => by
    have e : b = it := by simpa using hb
    subst e
    obtain ⟨o, vs, e, c, d⟩ := ho i h st
    exact ⟨o, e, fun v z => by rw [d] at z; cases z⟩
  keep := fun i h h' st k => hfr i h h' st k
  item := by
    intro X hP' hw hK hc i pins s σ H E I hf st hg
    subst hP' hw hK
    obtain ⟨f0, f1, f2, f3, f4, f5⟩ := hf it (by simp)
    refine (W X.A (I.ok.hd hc)).item i s _ _ hg st fun v h' tk hv st' kk => ?_
    have I1 : Inv X pins σ H { s with heap := h', toks := tk } := I.turned (fun b o hb e => kk b o (by simpa using hb) e) f0 f1 f3 f4 f5
    obtain ⟨o, vs, e, c, d⟩ := ho _ _ st'
    exact ⟨v, rfl, go_of (s := { s with heap := h', toks := tk }) e c d hn ⟨f i, H, I1, hP i v hg hv, ⟨rfl, rfl⟩, st', fun b hb => (hf b hb).1⟩⟩
  done := by
    intro X hP' hw hK hc i pins s σ H E I hf st hg
    subst hP' hw hK
    obtain ⟨f0, f1, f2, f3, f4, f5⟩ := hf it (by simp)
    have e : i = n := hg
    subst e
    exact (W X.A (I.ok.hd hc)).done s _ _ st fun h' tk kk => ⟨rfl, I.turned (fun b o hb e => kk b o (by simpa using hb) e) f0 f1 f3 f4 f5⟩
  self := hself
theorem for_f {f : Nat → V} {n : Nat} {g : TG} {tb : TS} {D : Ends} {σ : St} {H : Hp} (Pv : Nat → St → Hp → Prop) (h0 : Pv 0 σ H)
    (hs : ∀ i σ H, i < n → Pv i σ H → g (f i) σ H fun σ2 H2 => tb { D with nx := Pv (i + 1), ct := Pv (i + 1), bk := D.nx } σ2 H2) (hd : ∀ σ H, Pv n σ H → D.nx σ H) :
    ∃ W : Nat → Nat → St → Hp → Prop, (∃ m, W 0 m σ H) ∧ ∀ i m σ H, W i m σ H →
      ((Itf f n).stop i H ∧ D.nx σ H) ∨ ((Itf f n).go i H ∧ ∃ N : St → Hp → Prop, (∀ σ' H', N σ' H' → ∃ m', m' < m ∧ W (i + 1) m' σ' H') ∧ ∀ x H', (Itf f n).yld i H x H' → g x σ H' fun σ2 H2 => tb { D with nx := N, ct := N, bk := D.nx } σ2 H2) := by
  refine ⟨fun i m σ H => m = n - i ∧ i ≤ n ∧ Pv i σ H, ⟨n, by simp, Nat.zero_le _, h0⟩, ?_⟩
  rintro i m σ H ⟨rfl, hi, p⟩
  by_cases hlt : i < n
  · refine .inr ⟨hlt, Pv (i + 1), fun σ' H' p' => ⟨n - (i + 1), by omega, rfl, hlt, p'⟩, fun x H' y => ?_⟩
    obtain ⟨e, y⟩ := y
    subst e y
    exact hs i σ _ hlt p
  · have e : i = n := by omega
    subst e
    exact .inl ⟨rfl, hd σ H p⟩
section
variable {g : TG} {tf : TT} {te : TE} {fin : List V → Hp → Prop} {n : Nat} {σ : St} {H : Hp}
end
/-! ### a text walked -/
def sgn (z : Str) (i : Nat) : V := .str ⟨#[z.cps.getD i 0]⟩
def iTxt (tl : TE) : TI := fun σ H R => tl σ H fun x H1 => ∃ z, x = .str z ∧ R (Itf (sgn z) z.cps.size) H1
theorem striter_fields {h : Heap} {it : Addr} {nm : String} {x : Str} {t : Tok} {i : Nat} (st : h.IsStrIter it nm x t i) : ∃ o vs, h.get? it = some o ∧ o.cls = .type nm ∧ o.data = .fields vs := by
  obtain ⟨o, e, c, d⟩ := st
  exact ⟨o, _, e, c, d⟩
theorem striter_keep {h h' : Heap} {it : Addr} {nm : String} {x : Str} {t : Tok} {i : Nat} (st : h.IsStrIter it nm x t i) (k : ∀ b ∈ [it], ∀ o, h.get? b = some o → h'.get? b = some o) : h'.IsStrIter it nm x t i := let ⟨o, ho, r⟩ := st; ⟨o, k it (by simp) o ho, r⟩
theorem sgn_rel {z : Str} {i : Nat} {v : Value} (h : SignAt z i v) : RelV (sgn z i) v := by
  obtain ⟨c, u, e, rfl⟩ := h
  refine ⟨u, ?_⟩
  have : z.cps.getD i 0 = c := by simp [Array.getD_eq_getD_getElem?, e]
  rw [this]
theorem pi_txt {X : Cx} {tg : Expr} {l : Expr} {tl : TE} (hl : PE X l tl) : PI X tg l (iTxt tl) := by
  intro pins s σ H R I h
  refine thn (hl pins s σ H _ I h) fun v s1 ⟨x, H1, I1, r1, q1⟩ => ?_
  obtain ⟨z, e, q⟩ := q1
  subst e
  obtain ⟨t, rfl⟩ := r1
  have fp : ∀ b ∈ [s1.heap.objs.size], FpOk X pins H1 b := fun b hb => by
    have e : b = s1.heap.objs.size := by simpa using hb
    subst e
    exact I1.fpOk (Nat.le_refl _) (I1.hok.fresh (Nat.le_refl _))
  cases ha : z.cps.all (· < 128)
  · refine wpAny_pyIter_wide ha ?_
    exact ⟨s1.heap.objs.size, [s1.heap.objs.size], _, _, H1, rfl, I1.kept (t' := s1.toks) fun b o e => Heap.get?_push_of_some _ e, turn_walk (nm := "str_iterator") (St := fun i h => h.IsStrIter s1.heap.objs.size "str_iterator" z t i) (fun A hA => Walks.strWide hA _ z t) (fun i h st => striter_fields st) (fun i h h' st k => striter_keep st k) (by decide) (fun i v _ hv => sgn_rel hv) (fun A i s Q E st q => wpAny_pyIter_striter_wide st q), ⟨_, Heap.get?_push_size _ rfl, rfl, rfl⟩, fp, q⟩
  · refine wpAny_pyIter_ascii ha ?_
    exact ⟨s1.heap.objs.size, [s1.heap.objs.size], _, _, H1, rfl, I1.kept (t' := s1.toks) fun b o e => Heap.get?_push_of_some _ e, turn_walk (nm := "str_ascii_iterator") (St := fun i h => h.IsStrIter s1.heap.objs.size "str_ascii_iterator" z t i) (fun A hA => Walks.strAscii hA _ z t) (fun i h st => striter_fields st) (fun i h h' st k => striter_keep st k) (by decide) (fun i v _ hv => sgn_rel hv) (fun A i s Q E st q => wpAny_pyIter_striter_ascii st q), ⟨_, Heap.get?_push_size _ rfl, rfl, rfl⟩, fp, q⟩
end L2
namespace L2
open PySem PySem.Spec PyProof.Rows
variable {X : Cx}
theorem sl_txt : SlR X (fun x lo hi H Q => ∃ z, x = .str z ∧ z.length ≤ sizeLine ∧ Q (.str (Txt.slice z lo hi)) H) := by
  intro pins s σ H x v vl vu lo hi sl Q I rx hs pl pu q
  obtain ⟨z, rfl, hz, q⟩ := q
  obtain ⟨t, rfl⟩ := rx
  obtain ⟨o, e, c, d⟩ := hs
  have hp : ∀ {v : Value} {o : Option Int}, IsPart v o → ∃ p : Option (Int × Tok), v = partValue p ∧ p.map (·.1) = o := by
    intro v o h
    cases h with
    | none => exact ⟨none, rfl, rfl⟩
    | int i t => exact ⟨some (i, t), rfl, rfl⟩
  obtain ⟨l, rfl, hl⟩ := hp pl
  obtain ⟨u, rfl, hu⟩ := hp pu
  subst hl hu
  refine ⟨"str", _, F.slot_str_getitem.lookup, typeIs_str _ _ _, wpAny_getItem_str_slice (l := l) (u := u) (st := none) ⟨o, e, c, d⟩ rfl ?_⟩
  exact post_val_or_str ⟨Nat.le_trans (Txt.slice_le z _ _) hz, fun t' k => ⟨.str (Txt.slice z (l.map (·.1)) (u.map (·.1))), H, I.tok _, ⟨t', rfl⟩, q⟩⟩
end L2
namespace L2
open PySem PySem.Spec PyProof.Rows
variable {X : Cx}
end L2
namespace L2
open PySem PySem.Spec PyProof.Rows
variable {X : Cx} {K : PySem.W.Frag}
theorem ix_tupK (hK : X.K = K) : IxR X (rIxT K) := by subst hK; exact ix_tup
end L2
namespace L2
open PySem PySem.Spec PyProof.Rows
/-- a word kept from being unfolded while a term is read -/
structure Hid (p : Prop) : Prop where
  out : p
section
variable {X : Cx} {st : Stmt} {rest : List Stmt} {t u : TS} {pos : Pos}
theorem hs_cons (h1 : Hid (PS X st t)) (h2 : Hid (PSs X rest u)) : Hid (PSs X (st :: rest) (tSeq t u)) := ⟨pss_cons h1.out h2.out⟩
theorem hs_one (h1 : Hid (PS X st t)) : Hid (PSs X [st] t) := ⟨pss_one h1.out⟩
theorem hs_set {i : Nat} {x : Str} {e : Expr} {te : TE} {pos' : Pos} (hN : X.N.Nodup) (hi : X.N[i]? = some x) (hx : Loc X.env.scope x) (he : Hid (PE X e te)) (hs : swapsWith e (some (.Name x pos')) pos.line X.env = pure false := by rfl) (hf : X.fn x = true ∨ X.env.scope.names.lookup x = some .local := by first | exact .inl rfl | exact .inr rfl | assumption) :
    Hid (PS X (.Assign [.Name x pos'] e pos) (tAsg te (gName i))) := ⟨ps_set hN hi hx he.out hs hf⟩
theorem ha_nil : Hid (PA X [] tNil) := ⟨pa_nil⟩
theorem ha_cons {e : Expr} {es : List Expr} {te : TE} {ta : TA} (ha : Hid (PE X e te)) (hr : Hid (PA X es ta)) (hs : starEach (e :: es) X.env = (false, eval e X.env) :: starEach es X.env := by rfl) : Hid (PA X (e :: es) (tCons te ta)) := ⟨pa_cons ha.out hr.out hs⟩
theorem he_lst {es : List Expr} {ta : TA} (h : Hid (PA X es ta)) : Hid (PE X (.List es pos) (tLst ta)) := ⟨pe_lst h.out⟩
theorem he_tup {es : List Expr} {ta : TA} {k} (h : Hid (PA X es ta)) : Hid (PE X (.Tuple es k pos) (tTup ta)) := ⟨pe_tup h.out⟩
theorem hs_nil : Hid (PSs X [] tNext) := ⟨pss_nil⟩
theorem hs_ret {e : Expr} {te : TE} (he : Hid (PE X e te)) : Hid (PS X (.Return (some e) pos) (tRet te)) := ⟨ps_ret he.out⟩
theorem hs_if {c : Expr} {a b : List Stmt} {tc : TT} {t u : TS} (hc : PT X c tc) (ha : Hid (PSs X a t)) (hb : Hid (PSs X b u)) : Hid (PS X (.If c a b pos) (tIfS tc t u)) := ⟨ps_if hc ha.out hb.out⟩
theorem hs_for {tg iter : Expr} {body : List Stmt} {wi : TI} {g : TG} {tb : TS} (hp : PassesOwn (model X.prog X.w) X.A X.env X.xe) (hc : X.calm = true) (hi : PI X tg iter wi) (hg : PG X tg g) (hb : Hid (PSs X body tb))
    (hs : ∀ x, foldedSetIterable iter X.env x = pure x := by intro _; rfl) : Hid (PS X (.For tg iter body [] pos) (tFor wi g tb)) := ⟨ps_for hp hc hi hg hb.out hs⟩
end
end L2
namespace PySem
open Sem (wp)
open Builtin
namespace F
end F
section
variable {prog : Program} {w : World} {A : Around} {E : Value → Shared → Prop} {s : Shared}
end
end PySem
namespace L2
open PySem PySem.Spec PyProof.Rows
section
variable {X : Cx} {tg : Expr}
theorem call_rng : CallR X (.type "range") (fun xs H Q => ∃ n : Int, xs = [.int n] ∧ 0 ≤ n ∧ n < 2 ^ 62 ∧ ∀ p, H p = none → Q (.ref p) (upd H p (.rng 0 n))) := by
  intro pins s σ H xs us Q I r h
  obtain ⟨n, rfl, h0, h1, q⟩ := h
  obtain ⟨u, rfl, t, rfl⟩ := vals1 r
  refine call_range_1 ?_
  exact ⟨.ref s.heap.objs.size, _, I.laid (o := .rng 0 n) (fun b o e => Heap.get?_push_of_some _ e) (Nat.le_refl _) ⟨_, _, _, Heap.get?_push_size _ rfl⟩, rfl, q _ (I.hok.fresh (Nat.le_refl _))⟩
end
end L2
namespace PySem
open Sem (wp)
open Builtin Builtin.Str
namespace F
end F
end PySem
namespace PySem
open Sem (wp)
open Builtin Builtin.Str
section
variable {prog : Program} {w : World} {A : Around} {E : Value → Shared → Prop} {s : Shared}
end
end PySem
namespace L2
open PySem PySem.Spec PyProof.Rows
theorem Inv.turn2 {X : Cx} {pins : List (Addr × Obj)} {σ : St} {H : Hp} {s : Shared} {h' : Heap} {t' : Nat} {a b : Addr} (I : Inv X pins σ H s) (fa : FpOk X pins H a) (fb : FpOk X pins H b)
    (k : ∀ c o, c ≠ a → c ≠ b → s.heap.get? c = some o → h'.get? c = some o) : Inv X pins σ H { s with heap := h', toks := t' } := by
  obtain ⟨a0, a1, a2, a3, a4, a5⟩ := fa
  obtain ⟨b0, b1, b2, b3, b4, b5⟩ := fb
  have na : ∀ c u, H c = some u → c ≠ a := fun c u e z => by rw [z, a0] at e; cases e
  have nb : ∀ c u, H c = some u → c ≠ b := fun c u e z => by rw [z, b0] at e; cases e
  refine I.step (g' := s.gens) (d' := s.drawn) (ch := [a, b]) (fun c hc => ?_) (fun c o _ _ hc e _ => k c o (fun z => hc (by simp [z])) (fun z => hc (by simp [z])) e) (fun c o _ _ hc e _ => ⟨o.slots, k c o (fun z => hc (by simp [z])) (fun z => hc (by simp [z])) e⟩)
    (fun _ _ _ _ n => n) (fun c o hc e => ⟨o, k c o (fun z => hc (by simp [z])) (fun z => hc (by simp [z])) e⟩) (fun _ _ e => e) (fun _ _ _ e => e) (fun c ps e => ⟨#[], by rw [e]; simp⟩) (fun m hm => ?_) (fun c u e => ?_) I.bare
  · have e : c = a ∨ c = b := by simpa using hc
    rcases e with rfl | rfl
    · exact ⟨a3, a1, a4, a5⟩
    · exact ⟨b3, b1, b4, b5⟩
  · obtain ⟨o, es, ep, ho, r⟩ := hm
    exact ⟨o, es, ep, k _ o (Ne.symm a1) (Ne.symm b1) ho, r⟩
  · refine (I.hok c u e).stay (fun d v hd q => ?_) (fun _ q => q) fun _ _ q => q
    rcases hd with z | z
    · rw [z] at q ⊢
      exact k c v (na c u e) (nb c u e) q
    · exact k d v (na d _ z) (nb d _ z) q
theorem Inv.turn2l {X : Cx} {pins : List (Addr × Obj)} {σ : St} {H : Hp} {s : Shared} {h' : Heap} {t' : Nat} {a b T : Addr} {o' : HO} (I : Inv X pins σ H s) (fa : FpOk X pins H a) (fb : FpOk X pins H b)
    (k : ∀ c o, c ≠ a → c ≠ b → s.heap.get? c = some o → h'.get? c = some o) (hT : s.heap.objs.size ≤ T) (new : ObjOk X.prog X.w (upd H T o') h' T o') : Inv X pins σ (upd H T o') { s with heap := h', toks := t' } := by
  have J : Inv X pins σ H { s with heap := h', toks := t' } := I.turn2 fa fb k
  have hn : H T = none := I.hok.fresh hT
  obtain ⟨a0, a1, a2, a3, a4, a5⟩ := fa
  obtain ⟨b0, b1, b2, b3, b4, b5⟩ := fb
  have nT : ∀ c o, s.heap.get? c = some o → c ≠ T := fun c o q => Nat.ne_of_lt (Nat.lt_of_lt_of_le (Heap.lt_size q) hT)
  refine I.step (g' := s.gens) (d' := s.drawn) (ch := [a, b]) (fun c hc => ?_) (fun c o _ _ hc e _ => k c o (fun z => hc (by simp [z])) (fun z => hc (by simp [z])) e) (fun c o _ _ hc e _ => ⟨o.slots, k c o (fun z => hc (by simp [z])) (fun z => hc (by simp [z])) e⟩)
    (fun c o _ q n => by rw [upd_ne (nT c o q)]; exact n) (fun c o hc e => ⟨o, k c o (fun z => hc (by simp [z])) (fun z => hc (by simp [z])) e⟩) (fun c xs e => by rw [upd_ne (ne_of_none e hn)]; exact e) (fun c u xs e => by rw [upd_ne (ne_of_none e hn)]; exact e)
    (fun c ps e => ⟨#[], by rw [upd_ne (ne_of_none e hn), e]; simp⟩) (fun m hm => ?_) (hok_track J.hok hn new) I.bare
  · have e : c = a ∨ c = b := by simpa using hc
    rcases e with rfl | rfl
    · exact ⟨a3, a1, a4, a5⟩
    · exact ⟨b3, b1, b4, b5⟩
  · obtain ⟨o, es, ep, ho, r⟩ := hm
    exact ⟨o, es, ep, k _ o (Ne.symm a1) (Ne.symm b1) ho, r⟩
end L2
namespace PySem
open Sem (wp)
open Builtin
section
variable {prog : Program} {w : World} {A : Around} {E : Value → Shared → Prop} {s : Shared}
theorem nextOf_tup_item {it l : Addr} {i : Nat} {items : Array Value} {x : Value} {Q : Value → Shared → Prop} (hit : s.heap.IsTupleIter it l i) (hl : s.heap.IsTuple l items) (hx : items[i]? = some x)
    (hQ : ∀ h', h'.IsTupleIter it l (i + 1) → Heap.SameBut it s.heap h' → Q x { s with heap := h' }) : wpAny (model prog w) A (SmallTypes.nextOf (.ref it)) Q E s := by
  obtain ⟨o, ho, hc, hd⟩ := id hit
  obtain ⟨ol, hol, _, nl, hdl⟩ := hl
  have e0 : ¬ ((Value.ref l == Value.none) = true) := Bool.false_ne_true
  unfold SmallTypes.nextOf
  refine wpAny_bind (wpAny_callSpecial?_slot (name := Str.ofString "__next__") hit.typeIs F.slot_tuple_iterator_next (wpAny_call_entry F.slot_tuple_iterator_next hit.typeIs F.entry_tuple_iterator_next ?_ (F.args_tuple_iterator_next_1 _)))
  refine wpAny_bind (m := field (.ref it) 0) (wpAny_field ho hd (x := .ref l) rfl ?_)
  show wpAny _ _ (if (Value.ref l == Value.none) = true then _ else _) _ _ s
  rw [if_neg e0]
  refine wpAny_bind (m := field (.ref it) 1) (wpAny_field ho hd (x := .int i 0) rfl ?_)
  refine wpAny_bind (m := seqItems? (.ref l)) (wpAny_seqItems hol hdl ?_)
  simp only [Int.toNat_natCast, hx]
  refine wpAny_bind (wpAny_setField ho hd (by simp) (wpAny_pure ⟨x, rfl, wpAny_pure (hQ _ ⟨_, Heap.get?_update_self _ ho (Obj.isFreed_of_fields (Obj.data_mapFields hd _)), (Obj.cls_mapFields ..).trans hc, ?_⟩ (Heap.SameBut.update ..))⟩))
  rw [Obj.data_mapFields hd]
  simp [rawInt]
theorem nextOf_tup_end {it l : Addr} {i : Nat} {items : Array Value} {Q : Value → Shared → Prop} (hh : A.handled = none) (hit : s.heap.IsTupleIter it l i) (hl : s.heap.IsTuple l items) (hx : items[i]? = none)
    (hE : ∀ h' e, Heap.ExtBut it s.heap h' → (∃ o, h'.get? e = some o ∧ o.cls = .type "StopIteration") → E (.ref e) { s with heap := h' }) : wpAny (model prog w) A (SmallTypes.nextOf (.ref it)) Q E s := by
  obtain ⟨o, ho, hc, hd⟩ := id hit
  obtain ⟨ol, hol, _, nl, hdl⟩ := hl
  have e0 : ¬ ((Value.ref l == Value.none) = true) := Bool.false_ne_true
  unfold SmallTypes.nextOf
  refine wpAny_bind (wpAny_callSpecial?_slot (name := Str.ofString "__next__") hit.typeIs F.slot_tuple_iterator_next (wpAny_call_entry F.slot_tuple_iterator_next hit.typeIs F.entry_tuple_iterator_next ?_ (F.args_tuple_iterator_next_1 _)))
  refine wpAny_bind (m := field (.ref it) 0) (wpAny_field ho hd (x := .ref l) rfl ?_)
  show wpAny _ _ (if (Value.ref l == Value.none) = true then _ else _) _ _ s
  rw [if_neg e0]
  refine wpAny_bind (m := field (.ref it) 1) (wpAny_field ho hd (x := .int i 0) rfl ?_)
  refine wpAny_bind (m := seqItems? (.ref l)) (wpAny_seqItems hol hdl ?_)
  simp only [Int.toNat_natCast, hx]
  refine wpAny_bind (wpAny_rule (wpAny_bind (wpAny_setField ho hd (by simp) ?_)))
  show wpAny _ _ (newExc (.type "StopIteration") [] >>= _) _ _ _
  refine wpAny_bind ?_
  simp only [newExc, newTuple]
  refine wpAny_bind (wpAny_newObj_type ?_ (by size_fits))
  refine wpAny_bind (m := firstArgMember _ _) (wpAny_of_eq (a := Value.none) (by first | rfl | (simp only [firstArgMember]; rfl)) (wpAny_newObj_type ?_ (by size_fits)))
  simp only [raiseNew]
  have hh1 : A.in1.handled = none := hh
  refine wpAny_bind (wpAny_handled ?_)
  rw [hh1]
  exact wpAny_bind (wpAny_pure (wpAny_throw (hE _ _ (((Heap.SameBut.update ..).extBut.push _).push _) ⟨_, Heap.get?_push_size _ rfl, rfl⟩)))
end
theorem Draws.tup {prog : Program} {w : World} {A : Around} (hh : A.handled = none) (it l : Addr) (hne : l ≠ it) (items : Array Value) :
    Draws prog w A it [it, l] items.size (fun i v => items[i]? = some v) (fun i h => h.IsTupleIter it l i ∧ h.IsTuple l items) where
  live := fun _ _ st => let ⟨o, ho, _⟩ := st.1; ⟨o, ho⟩
  frame := fun _ _ _ st hk => ⟨let ⟨o, ho, r⟩ := st.1; ⟨o, hk it (by simp) o ho, r⟩, let ⟨o, ho, r⟩ := st.2; ⟨o, hk l (by simp) o ho, r⟩⟩
  item := fun i s Q E hi st hQ => nextOf_tup_item st.1 st.2 (x := items[i]) (by simp [hi]) fun h' hit' hs' => hQ _ h' s.toks (by simp [hi]) ⟨hit', st.2.extBut hs'.extBut hne⟩ hs'
  done := fun s Q E st hE => nextOf_tup_end hh st.1 st.2 (by simp) hE
set_option maxHeartbeats 1000000 in
theorem meets_enumerate_tup (l : Addr) (items : Array Value) :
    Meets (Builtin.«enumerate.__new__» ⟨[.type "enumerate", .ref l], []⟩) (fun _ R s => s.heap.IsTuple l items ∧
      R (.ok (.ret (.ref (s.heap.push { cls := .type "tuple_iterator", data := .fields #[.ref l, .int 0 0] }).objs.size)))
        { s with heap := (s.heap.push { cls := .type "tuple_iterator", data := .fields #[.ref l, .int 0 0] }).push { cls := .type "enumerate", data := .fields #[.none, .bool false, .ref s.heap.objs.size, rawInt 0, .none, .none] } }) :=
  .of_wp fun prog w A R s h => by
    obtain ⟨hp, g, d, tk, os⟩ := s
    obtain ⟨hL, h⟩ := h
    have hsub := sub_enumerate
    wp_walk
    refine wpAny_stack_any fun st => wpAny_pure ?_
    split
    · rename_i c _ _ _ _ _
      cases (c == Value.type "enumerate") <;> (wp_walk using wpAny_pyIter_tuple hL; exact ⟨_, rfl, h⟩)
    · wp_walk using wpAny_pyIter_tuple hL
      exact ⟨_, rfl, h⟩
theorem call_enumerate_tup {prog : Program} {w : World} {A : Around} {E : Value → Shared → Prop} {s : Shared} {l : Addr} {items : Array Value} {Q : Value → Shared → Prop} (hL : s.heap.IsTuple l items)
    (h : ∀ h', IsEnum h' (s.heap.objs.size + 1) s.heap.objs.size 0 .none → h'.IsTupleIter s.heap.objs.size l 0 → (∀ b o, s.heap.get? b = some o → h'.get? b = some o) → Q (.ref (s.heap.objs.size + 1)) { s with heap := h' }) :
    wpAny (model prog w) A (call (.type "enumerate") [.ref l]) Q E s := by
  refine callType_new F.called_enumerate (by decide) (F.typeCall_enumerate_1 _) (F.newCall_enumerate_1 _) (fun obj => F.args_object_init_2 obj _) F.entry_enumerate_new (meets_enumerate_tup l items) ⟨hL, ?_⟩
  have hz : (s.heap.push { cls := .type "tuple_iterator", data := .fields #[.ref l, .int 0 0] }).objs.size = s.heap.objs.size + 1 := Heap.size_push ..
  show _ ∧ _
  rw [hz]
  have he : IsEnum ((s.heap.push { cls := .type "tuple_iterator", data := .fields #[.ref l, .int 0 0] }).push { cls := .type "enumerate", data := .fields #[.none, .bool false, .ref s.heap.objs.size, rawInt 0, .none, .none] }) (s.heap.objs.size + 1) s.heap.objs.size 0 .none := by
    rw [← hz]; exact Heap.get?_push_size _ rfl
  exact ⟨⟨_, he, rfl⟩, h _ he ⟨_, Heap.get?_push_of_some _ (Heap.get?_push_size _ rfl), rfl, rfl⟩ fun b o e => Heap.get?_push_of_some _ (Heap.get?_push_of_some _ e)⟩
end PySem
namespace L2
open PySem PySem.Spec PyProof.Rows
/-- (0, x0), (1, x1), .. over the list or tuple at l, each a new tuple -/
def IteS (c : List V → HO) (l : Addr) : It :=
  ⟨fun i H => ∃ xs x, H l = some (c xs) ∧ xs[i]? = some x, fun i H x H' => ∃ T xs y, H T = none ∧ x = .ref T ∧ H l = some (c xs) ∧ xs[i]? = some y ∧ H' = upd H T (.tup [.int (i : Int), y]), fun i H => ∃ xs, H l = some (c xs) ∧ xs.length = i⟩
structure SeqKind (c : List V → HO) (IsS : Heap → Addr → Array Value → Prop) (IsI : Heap → Addr → Addr → Nat → Prop) : Prop where
  obj : ∀ h it l i, IsI h it l i → ∃ o, h.get? it = some o ∧ ∀ v, o.data ≠ .cell v
  kp : ∀ (h h' : Heap) it l i, IsI h it l i → (∀ o, h.get? it = some o → h'.get? it = some o) → IsI h' it l i
  seq : ∀ (X : Cx) (pins : List (Addr × Obj)) (σ : St) (H : Hp) (s : Shared) (l : Addr) (xs : List V), Inv X pins σ H s → H l = some (c xs) → ∃ its : List Value, Vals xs its ∧ IsS s.heap l its.toArray
  dr : ∀ (P : Program) (w : World) (A : Around), A.handled = none → ∀ (it l : Addr), l ≠ it → ∀ items : Array Value, Draws P w A it [it, l] items.size (fun i v => items[i]? = some v) (fun i h => IsI h it l i ∧ IsS h l items)
  inj : ∀ a b, c a = c b → a = b
theorem seq_lst : SeqKind HO.lst Heap.IsList Heap.IsListIter where
  obj := fun h it l i st => by obtain ⟨o, e, _, d⟩ := st; exact ⟨o, e, fun v z => by rw [d] at z; cases z⟩
  kp := fun h h' it l i st k => let ⟨o, e, r⟩ := st; ⟨o, k o e, r⟩
  seq := fun X pins σ H s l xs I e => by
    obtain ⟨its, r, p, _⟩ := I.list (SqL.of e)
    exact ⟨its, r, p.isList⟩
  dr := fun P w A hh it l hne items => Draws.list hh it l hne items
  inj := fun a b e => by cases e; rfl
theorem seq_tup : SeqKind HO.tup Heap.IsTuple Heap.IsTupleIter where
  obj := fun h it l i st => by obtain ⟨o, e, _, d⟩ := st; exact ⟨o, e, fun v z => by rw [d] at z; cases z⟩
  kp := fun h h' it l i st k => let ⟨o, e, r⟩ := st; ⟨o, k o e, r⟩
  seq := fun X pins σ H s l xs I e => by
    obtain ⟨its, r, p, _⟩ := I.tuple (SqT.of e)
    exact ⟨its, r, p⟩
  dr := fun P w A hh it l hne items => Draws.tup hh it l hne items
  inj := fun a b e => by cases e; rfl
theorem turn_enumS {c : List V → HO} {IsS : Heap → Addr → Array Value → Prop} {IsI : Heap → Addr → Addr → Nat → Prop} (S : SeqKind c IsS IsI) {P : Program} {w : World} {K : PySem.W.Frag} {elts : List Expr} {kt : Nat} {pt : Pos} {e it l : Addr} (hei : e ≠ it) :
    Turn P w K (.Tuple elts kt pt) (IteS c l) [e, it] e (fun i h => (∃ old, IsEnum h e it i old) ∧ IsI h it l i) where
  mem := by simp
  obj := fun i h st b hb => by
    obtain ⟨⟨old, he⟩, st⟩ := st
    have q : b = e ∨ b = it := by simpa using hb
    rcases q with rfl | rfl
    · exact ⟨_, he, fun v z => by cases z⟩
    · exact S.obj _ _ _ _ st
  keep := fun i h h' st k => ⟨let ⟨old, he⟩ := st.1; ⟨old, k e (by simp) _ he⟩, S.kp _ _ _ _ _ st.2 fun o q => k it (by simp) o q⟩
  item := by
    intro X hP' hw hK hc i pins s σ H E I hf st hg
    subst hP' hw hK
    obtain ⟨xs, y, hl, hy⟩ := hg
    obtain ⟨its, rv, p⟩ := S.seq X pins σ H s l xs I hl
    obtain ⟨u, hu, ru⟩ := rv.get hy
    have fe := hf e (by simp)
    have fi := hf it (by simp)
    have hle : l ≠ e := ne_of_none hl fe.1
    have hli : l ≠ it := ne_of_none hl fi.1
    have hlt : i < its.toArray.size := by
      have := List.getElem?_eq_some_iff.mp hu
      simpa using this.1
    obtain ⟨⟨old, he⟩, hs⟩ := st
    have het : e < s.heap.objs.size := Heap.lt_size he
    have hit : it < s.heap.objs.size := by obtain ⟨o, q, _⟩ := S.obj _ _ _ _ hs; exact Heap.lt_size q
    refine wpAny_pyNext_enum_itemD (S.dr X.prog X.w X.A.in1 (I.ok.hd hc) it l hli its.toArray) he ⟨hs, p⟩ hlt hei (by simp [hei, Ne.symm hle]) fun x h' tk hx ho' hs' hT hsz hk => ?_
    refine ⟨.ref s.heap.objs.size, rfl, wpAny_letOwnedTupleGo_enum (s := { s with heap := h', toks := tk + 1 }) ho' fun h2 he2 hs2 => ?_⟩
    have hxu : x = u := by
      have h1 : its[i]? = some x := by simpa using hx
      rw [hu] at h1
      exact (Option.some.inj h1).symm
    subst hxu
    have hT2 : h2.get? s.heap.objs.size = some { cls := .type "tuple", data := .seq #[.int i tk, x] } := (hs2.2 _ (Nat.ne_of_gt het)).trans hT
    have new : ObjOk X.prog X.w (upd H s.heap.objs.size (.tup [.int (i : Int), y])) h2 s.heap.objs.size (.tup [.int (i : Int), y]) := ⟨(by show 2 ≤ sizeLine; decide), [.int i tk, x], .cons ⟨tk, rfl⟩ (.cons ru .nil), ⟨_, hT2, rfl, _, rfl⟩, _, hT2, rfl⟩
    refine ⟨.ref s.heap.objs.size, _, I.turn2l fe fi (fun c o c1 c2 q => (hs2.2 c c1).trans (hk c o c1 c2 q)) (Nat.le_refl _) new, rfl, ⟨s.heap.objs.size, xs, y, I.hok.fresh (Nat.le_refl _), rfl, hl, hy, rfl⟩, ⟨⟨x, by simpa using he2⟩, S.kp _ _ _ _ _ hs'.1 fun o q => (hs2.2 it (Ne.symm hei)).trans q⟩, fun b hb => ?_⟩
    have q : b = e ∨ b = it := by simpa using hb
    rcases q with rfl | rfl
    · rw [upd_ne (Nat.ne_of_lt het)]; exact fe.1
    · rw [upd_ne (Nat.ne_of_lt hit)]; exact fi.1
  done := by
    intro X hP' hw hK hc i pins s σ H E I hf st hg
    subst hP' hw hK
    obtain ⟨xs, hl, hn⟩ := hg
    obtain ⟨its, rv, p⟩ := S.seq X pins σ H s l xs I hl
    have fe := hf e (by simp)
    have fi := hf it (by simp)
    have hle : l ≠ e := ne_of_none hl fe.1
    have hli : l ≠ it := ne_of_none hl fi.1
    have hi : i = its.toArray.size := by rw [← hn, rv.length]; simp
    subst hi
    have W := WalksT.enumerateD (S.dr X.prog X.w X.A.in1 (I.ok.hd hc) it l hli its.toArray) e hei (by simp [hei, Ne.symm hle]) (by simp)
    exact W.done s _ _ ⟨st.1, st.2, p⟩ fun h' tk kk => ⟨rfl, I.turn2 fe fi fun c o c1 c2 q => kk c o (by simp [c1, c2]) q⟩
  self := fun A i s Q E st q => by
    obtain ⟨⟨old, he⟩, _⟩ := st
    exact wpAny_pyIter_enum he q
def iEnum (c : List V → HO) (te : TE) : TI := fun σ H R => te σ H fun x H1 => ∃ l xs, [x] = [V.ref l] ∧ H1 l = some (c xs) ∧ R (IteS c l) H1
section
variable {X : Cx} {elts : List Expr} {kt : Nat} {pt : Pos} {e : Expr} {te : TE} {p pos : Pos}
theorem enum_pie {c : List V → HO} {IsS : Heap → Addr → Array Value → Prop} {IsI : Heap → Addr → Addr → Nat → Prop} (S : SeqKind c IsS IsI) {pins : List (Addr × Obj)} {σ : St} {H : Hp} {s : Shared} {R : It → Hp → Prop} {l : Addr} {h' : Heap} (I : Inv X pins σ H s)
    (he : IsEnum h' (s.heap.objs.size + 1) s.heap.objs.size 0 .none) (hi : IsI h' s.heap.objs.size l 0) (k : ∀ b o, s.heap.get? b = some o → h'.get? b = some o) (q : R (IteS c l) H) :
    PIE X pins σ (.Tuple elts kt pt) R (.ref (s.heap.objs.size + 1)) { s with heap := h' } := by
  refine ⟨s.heap.objs.size + 1, [s.heap.objs.size + 1, s.heap.objs.size], _, _, H, rfl, I.kept (t' := s.toks) k, turn_enumS S (Nat.ne_of_gt (Nat.lt_succ_self _)), ⟨⟨.none, he⟩, hi⟩, fun b hb => ?_, q⟩
  have e : b = s.heap.objs.size + 1 ∨ b = s.heap.objs.size := by simpa using hb
  rcases e with rfl | rfl
  · exact I.fpOk (Nat.le_succ _) (I.hok.fresh (Nat.le_succ _))
  · exact I.fpOk (Nat.le_refl _) (I.hok.fresh (Nat.le_refl _))
theorem pi_enumT (hg : Gl X "enumerate") (hm : X.mg "enumerate" = none) (he : PE X e te) (hs : starEach [e] X.env = [(false, eval e X.env)] := by rfl) : PI X (.Tuple elts kt pt) (.Call (.Name "enumerate" p) [e] [] pos) (iEnum HO.tup te) := by
  intro pins s σ H R I h
  refine Call_ (ld_blt I hg hm boot_enumerate (PyProof.Rows.callWith_type1 (thn (pa_cons he pa_nil hs pos pins s σ H (fun zs H1 => ∃ l xs, zs = [V.ref l] ∧ H1 l = some (HO.tup xs) ∧ R (IteS HO.tup l) H1) I h) fun us s1 ⟨vs, H1, I1, r1, q1⟩ => ?_) hs rfl))
  obtain ⟨l, xs, rfl, hl, q⟩ := q1
  obtain ⟨u, rfl, ru⟩ := vals1 r1
  cases ru
  obtain ⟨its, rv, pl⟩ := seq_tup.seq X pins σ H1 s1 l xs I1 hl
  exact call_enumerate_tup pl fun h' hen hit k => wpAny_pyIter_enum hen (enum_pie seq_tup I1 hen hit k q)
end
theorem for_eS {c : List V → HO} (hinj : ∀ a b, c a = c b → a = b) {l : Addr} {xs : List V} {g : TG} {tb : TS} {D : Ends} {σ : St} {H : Hp} (Pv : Nat → St → Hp → Prop) (h0 : Pv 0 σ H) (hl : ∀ i σ H, i ≤ xs.length → Pv i σ H → H l = some (c xs))
    (hs : ∀ i x σ H T, xs[i]? = some x → Pv i σ H → H T = none → g (.ref T) σ (upd H T (.tup [.int (i : Int), x])) fun σ2 H2 => tb { D with nx := Pv (i + 1), ct := Pv (i + 1), bk := D.nx } σ2 H2) (hd : ∀ σ H, Pv xs.length σ H → D.nx σ H) :
    ∃ W : Nat → Nat → St → Hp → Prop, (∃ m, W 0 m σ H) ∧ ∀ i m σ H, W i m σ H →
      ((IteS c l).stop i H ∧ D.nx σ H) ∨ ((IteS c l).go i H ∧ ∃ N : St → Hp → Prop, (∀ σ' H', N σ' H' → ∃ m', m' < m ∧ W (i + 1) m' σ' H') ∧ ∀ x H', (IteS c l).yld i H x H' → g x σ H' fun σ2 H2 => tb { D with nx := N, ct := N, bk := D.nx } σ2 H2) := by
  refine ⟨fun i m σ H => m = xs.length - i ∧ i ≤ xs.length ∧ Pv i σ H, ⟨xs.length, by simp, Nat.zero_le _, h0⟩, ?_⟩
  rintro i m σ H ⟨rfl, hi, p⟩
  have q := hl i σ H hi p
  by_cases hlt : i < xs.length
  · refine .inr ⟨⟨xs, xs[i], q, by simp [hlt]⟩, Pv (i + 1), fun σ' H' p' => ⟨xs.length - (i + 1), by omega, rfl, hlt, p'⟩, fun x H' y => ?_⟩
    obtain ⟨T, ys, y, hT, rfl, q2, hy, rfl⟩ := y
    rw [q] at q2
    have := hinj _ _ (Option.some.inj q2)
    subst this
    exact hs i y σ _ T hy p hT
  · have e : i = xs.length := by omega
    subst e
    exact .inl ⟨⟨xs, q, rfl⟩, hd σ H p⟩
end L2
namespace L2
open PySem PySem.Spec PyProof.Rows
theorem presum_take (ns : List Int) : ∀ j, j ≤ ns.length → preSum (fun i => ns.getD i 0) j = (ns.take j).sum
  | 0, _ => by simp [preSum]
  | j + 1, h => by
    have h2 := presum_take ns j (by omega)
    rw [preSum, h2, List.take_add_one, List.getElem?_eq_getElem (by omega), List.sum_append]
    have hj : j < ns.length := by omega
    simp [hj]
theorem sum_bound (B : Int) (hB : 0 ≤ B) : ∀ ns : List Int, (∀ a, a ∈ ns → 0 ≤ a ∧ a ≤ B) → 0 ≤ ns.sum ∧ ns.sum ≤ ns.length * B
  | [], _ => by simp
  | a :: r, h => by
    have h1 := sum_bound B hB r fun b hb => h b (List.mem_cons_of_mem _ hb)
    have h2 := h a (by simp)
    rw [List.sum_cons, List.length_cons]
    push_cast
    rw [Int.add_mul]
    omega
theorem call_sumL {X : Cx} (hc : X.calm = true) : CallR X (.builtin "sum") (fun xs H Q => ∃ (l : Addr) (ns : List Int), xs = [.ref l] ∧ SqL X.K H l (ns.map V.int) ∧ (∀ a, a ∈ ns → 0 ≤ a ∧ a ≤ 2 ^ 50) ∧ ns.length ≤ 1000 ∧ Q (.int ns.sum) H) := by
  intro pins s σ H xs us Q I r h
  obtain ⟨l, ns, rfl, hq, hb, hn, q⟩ := h
  obtain ⟨u, rfl, rx⟩ := vals1 r
  cases rx
  obtain ⟨its, r', pl, hz⟩ := I.list hq
  have hl := pl.isList
  have hlt : l < s.heap.objs.size := by obtain ⟨_, e, _⟩ := hl; exact Heap.lt_size e
  have hlen : ns.length = its.length := by rw [← r'.length, List.length_map]
  have hsum : ∀ j, j ≤ ns.length → 0 ≤ preSum (fun i => ns.getD i 0) j ∧ preSum (fun i => ns.getD i 0) j ≤ 1000 * 2 ^ 50 := fun j hj => by
    rw [presum_take ns j hj]
    have h1 := sum_bound (2 ^ 50) (by decide) (ns.take j) fun a ha => hb a (List.mem_of_mem_take ha)
    have h2 : ((ns.take j).length : Int) ≤ 1000 := by rw [List.length_take]; omega
    have h3 : ((ns.take j).length : Int) * 2 ^ 50 ≤ 1000 * 2 ^ 50 := Int.mul_le_mul_of_nonneg_right h2 (by decide)
    omega
  refine call_sum_walk (wpAny_pyIter_list hl ?_)
  refine ⟨s.heap.objs.size, _, _, its.toArray.size, _, _, fun i => ns.getD i 0, rfl, Walks.list (A := X.A.in1) (I.ok.hd hc) _ l (Nat.ne_of_lt hlt) its.toArray, ⟨⟨_, Heap.get?_push_size _ rfl, rfl, rfl⟩, hl.push _⟩, fun b hbm => ?_, fun i v e => vals_at r' e, fun j hj => ?_, fun h' tk t' hk => ?_⟩
  · have e : b = s.heap.objs.size ∨ b = l := by simpa using hbm
    have z : (s.heap.push { cls := .type "list_iterator", data := .fields #[.ref l, .int 0 0] }).objs.size = s.heap.objs.size + 1 := Heap.size_push ..
    show b < (s.heap.push { cls := .type "list_iterator", data := .fields #[.ref l, .int 0 0] }).objs.size
    rw [z]
    rcases e with rfl | rfl
    · exact Nat.lt_succ_self _
    · exact Nat.lt_succ_of_lt hlt
  · rw [List.size_toArray, ← hlen] at hj
    have h1 := hsum (j + 1) hj
    have h2 := hb (ns.getD j 0) (by rw [getD_lt hj]; exact List.getElem_mem hj)
    refine ⟨⟨?_, ?_⟩, ⟨by omega, by omega⟩⟩
    · show -(2 ^ 63) ≤ ns.getD j 0
      omega
    · show ns.getD j 0 < 2 ^ 63
      omega
  · rw [List.size_toArray, ← hlen, presum_take ns _ (Nat.le_refl _), List.take_length]
    exact ⟨.int ns.sum, H, I.kept fun b o e => hk b o (fun z => Nat.ne_of_lt (Heap.lt_size e) (List.mem_singleton.mp z)) (Heap.get?_push_of_some _ e), ⟨t', rfl⟩, q⟩
end L2
namespace L2
open PySem PySem.Spec PyProof.Rows
section
variable {X : Cx} {K : PySem.W.Frag} {pos : Pos}
theorem pg_tupK {es : List Expr} {k : Nat} {t : TGs} {n : Nat} (hK : X.K = K) (hc : X.calm = true) (h : PGs X es t) (hn : (assignEach es X.env).length = n) (hst : (assignEach es X.env).findIdx? (·.1) = none := by rfl) : PG X (.Tuple es k pos) (gTup K n t) := by
  subst hK; exact pg_tup hc h hn hst
end
end L2
namespace PySem
open Sem (wp)
open Builtin
open AutoSeq1 (wpAny_loadPart')
end PySem
namespace L2
open PySem PySem.Spec PyProof.Rows
end L2
namespace Mth
theorem two_pow_pos (n : Nat) : (1 : Int) ≤ 2 ^ n := by
  have h : (0 : Int) < 2 ^ n := Int.pow_pos (by decide)
  omega
theorem two_pow_succ (n : Nat) : (2 : Int) ^ (n + 1) = 2 ^ n * 2 := Int.pow_succ 2 n
theorem two_pow_mono {m n : Nat} (h : m ≤ n) : (2 : Int) ^ m ≤ 2 ^ n := by
  induction n with
  | zero => have : m = 0 := by omega
            subst this; exact Int.le_refl _
  | succ n ih =>
    by_cases e : m = n + 1
    · subst e; exact Int.le_refl _
    · have h1 := ih (by omega)
      have h2 := two_pow_succ n
      have h3 := two_pow_pos n
      omega
/-- w is the least width that writes m numbers -/
def Wid (m : Int) (w : Nat) : Prop := m ≤ 2 ^ w ∧ (w = 0 ∨ 2 ^ (w - 1) < m)
end Mth
namespace Mth
end Mth
namespace Mth
def bt (c : Nat) : Int := if c = 49 then 1 else 0
def tv : List Nat → Int
  | [] => 0
  | c :: r => bt c + 2 * tv r
def val (cs : List Nat) : Int := cs.foldl (fun a c => a * 2 + bt c) 0
theorem tv_foldr : ∀ rs : List Nat, rs.foldr (fun c a => a * 2 + bt c) 0 = tv rs
  | [] => rfl
  | c :: r => by
    rw [List.foldr_cons, tv_foldr r, tv]
    omega
theorem val_eq (cs : List Nat) : val cs = tv cs.reverse := by
  have h := List.foldl_reverse (l := cs.reverse) (f := fun a c => a * 2 + bt c) (b := 0)
  rw [List.reverse_reverse] at h
  unfold val
  rw [h]
  exact tv_foldr cs.reverse
theorem val_snoc (cs : List Nat) (c : Nat) : val (cs ++ [c]) = val cs * 2 + bt c := by
  unfold val
  rw [List.foldl_append]
  rfl
def dig (n : Int) (p : Nat) : Nat := if n / 2 ^ p % 2 = 1 then 49 else 48
def Ds (n : Int) (w : Nat) : List Nat := (List.range w).map (dig n)
theorem dig_succ (n : Int) (p : Nat) : dig n (p + 1) = dig (n / 2) p := by
  unfold dig
  rw [Int.pow_succ, Int.mul_comm, ← Int.ediv_ediv_of_nonneg (by decide)]
theorem Ds_succ (n : Int) (w : Nat) : Ds n (w + 1) = dig n 0 :: Ds (n / 2) w := by
  unfold Ds
  rw [List.range_succ_eq_map, List.map_cons, List.map_map]
  congr 1
  refine List.map_congr_left fun p _ => ?_
  exact dig_succ n p
theorem Ds_snoc (n : Int) (w : Nat) : Ds n (w + 1) = Ds n w ++ [dig n w] := by
  unfold Ds
  rw [List.range_succ, List.map_append]
  rfl
theorem Ds_length (n : Int) (w : Nat) : (Ds n w).length = w := by simp [Ds]
theorem bt_dig (n : Int) (p : Nat) : bt (dig n p) = n / 2 ^ p % 2 := by
  unfold dig bt
  by_cases h : n / 2 ^ p % 2 = 1
  · rw [if_pos h, if_pos rfl, h]
  · rw [if_neg h, if_neg (by decide)]
    omega
theorem dig_bit (n : Int) (p : Nat) : dig n p = 48 ∨ dig n p = 49 := by unfold dig; split <;> simp
theorem tv_Ds : ∀ (w : Nat) (n : Int), 0 ≤ n → n < 2 ^ w → tv (Ds n w) = n
  | 0, n, h0, h1 => by
    have : (2 : Int) ^ 0 = 1 := by decide
    show (0 : Int) = n
    omega
  | w + 1, n, h0, h1 => by
    rw [Ds_succ, tv, bt_dig]
    have e := two_pow_succ w
    have h2 := tv_Ds w (n / 2) (by omega) (by omega)
    have e0 : (2 : Int) ^ 0 = 1 := by decide
    rw [h2, e0, Int.ediv_one]
    omega
end Mth
namespace Mth
end Mth
namespace L2
open PySem PySem.Spec PyProof.Rows

/-! ### lists of pairs as tables -/
section
variable {κ : Type} [DecidableEq κ]
def valV (kvs : List (κ × V)) (k : κ) : Option V := (kvs.find? fun kv => decide (kv.1 = k)).map (·.2)
/-- in its place, or at the end -/
def putK (kvs : List (κ × V)) (k : κ) (v : V) : List (κ × V) :=
  if (kvs.any fun kv => decide (kv.1 = k)) = true then kvs.map (fun kv => if kv.1 = k then (kv.1, v) else kv) else kvs ++ [(k, v)]
theorem valV_pos {p : κ × V} {r : List (κ × V)} {k : κ} (e : p.1 = k) : valV (p :: r) k = some p.2 := by simp [valV, List.find?_cons, e]
theorem valV_neg {p : κ × V} {r : List (κ × V)} {k : κ} (e : ¬ p.1 = k) : valV (p :: r) k = valV r k := by simp [valV, List.find?_cons, e]
theorem valV_any (k : κ) : ∀ kvs : List (κ × V), (kvs.any fun kv => decide (kv.1 = k)) = (valV kvs k).isSome
  | [] => rfl
  | p :: r => by
    rw [List.any_cons]
    by_cases e : p.1 = k
    · simp only [valV_pos e, decide_eq_true e, Bool.true_or, Option.isSome_some]
    · rw [valV_neg e, decide_eq_false e, Bool.false_or]; exact valV_any k r
theorem length_putK (kvs : List (κ × V)) (k : κ) (v : V) : (putK kvs k v).length ≤ kvs.length + 1 := by
  unfold putK
  split
  · rw [List.length_map]; omega
  · rw [List.length_append, List.length_cons, List.length_nil]; omega
theorem RelO.isSome_eq {o : Option V} {u : Option Value} (r : RelO o u) : o.isSome = u.isSome := by
  cases o with
  | none => cases u with
    | none => rfl
    | some _ => exact (show False from r).elim
  | some _ => cases u with
    | none => exact (show False from r).elim
    | some _ => rfl
/-- raw tables of the same keys -/
theorem KV.val {kvs : List (κ × V)} {vs : List (κ × Value)} (r : KV kvs vs) (k : κ) : RelO (valV kvs k) (valueAt vs k) := by
  unfold KV at r
  induction r with
  | nil => exact True.intro
  | @cons p q ps qs h t ih =>
    obtain ⟨h1, h2⟩ := h
    by_cases e : p.1 = k
    · have e' : q.1 = k := h1.symm.trans e
      have b : valueAt (q :: qs) k = some q.2 := by simp [valueAt, List.find?_cons, e']
      rw [valV_pos e, b]; exact h2
    · have e' : ¬ q.1 = k := fun z => e (h1.trans z)
      have b : valueAt (q :: qs) k = valueAt qs k := by simp [valueAt, List.find?_cons, e']
      rw [valV_neg e, b]; exact ih
theorem KV.any {kvs : List (κ × V)} {vs : List (κ × Value)} (r : KV kvs vs) (k : κ) : (kvs.any fun kv => decide (kv.1 = k)) = vs.any fun kv => decide (kv.1 = k) := by
  unfold KV at r
  induction r with
  | nil => rfl
  | cons h t ih => rw [List.any_cons, List.any_cons, ih, h.1]
theorem KV.repl {kvs : List (κ × V)} {vs : List (κ × Value)} (r : KV kvs vs) (k : κ) {y : V} {u : Value} (ry : RelV y u) :
    KV (kvs.map fun kv => if kv.1 = k then (kv.1, y) else kv) (vs.map fun kv => if kv.1 = k then (kv.1, u) else kv) := by
  unfold KV at r ⊢
  induction r with
  | nil => exact .nil
  | @cons p q ps qs h t ih =>
    rw [List.map_cons, List.map_cons]
    refine .cons ?_ ih
    obtain ⟨h1, h2⟩ := h
    by_cases e : p.1 = k
    · rw [if_pos e, if_pos (h1.symm.trans e)]; exact ⟨h1, ry⟩
    · rw [if_neg e, if_neg (fun z => e (h1.trans z))]; exact ⟨h1, h2⟩
theorem KV.put {kvs : List (κ × V)} {vs : List (κ × Value)} (r : KV kvs vs) (k : κ) {y : V} {u : Value} (ry : RelV y u) : KV (putK kvs k y) (stored vs k u) := by
  unfold putK stored
  rw [r.any k]
  by_cases e : (vs.any fun kv => decide (kv.1 = k)) = true
  · rw [if_pos e, if_pos e]; exact r.repl k ry
  · rw [if_neg e, if_neg e]; exact Paired.snoc r ⟨rfl, ry⟩
theorem KV.length {kvs : List (κ × V)} {vs : List (κ × Value)} (r : KV kvs vs) : kvs.length = vs.length := Paired.length r
end


/-! ### a tracked dict, its keys ints and texts or tuples of these -/
theorem kV_is {P : Program} {w : World} {k : Key} {u : Value} (r : RelV (kV k) u) : (mixKind P w).is k u = true := by
  cases k with
  | inl i => obtain ⟨t, e⟩ := (show ∃ t, u = Value.int i t from r); subst e; exact mixKind_int P w i t
  | inr x => obtain ⟨t, e⟩ := (show ∃ t, u = Value.str x t from r); subst e; exact mixKind_str P w x t
theorem items_are {P : Program} {w : World} : ∀ {ks : List Key} {us : List Value}, Vals (ks.map kV) us → ItemsAre (mixKind P w) ks us
  | [], _, r => by rw [List.map_nil] at r; cases r; exact .nil
  | k :: ks, _, r => by
    rw [List.map_cons] at r
    cases r with
    | cons h t => exact .cons (kV_is h) (items_are t)

/-- raw entries of a dict with tuple keys -/
abbrev KT (H : Hp) : List (List Key × V) → List (List Key × Addr × Value) → Prop := Paired fun p q => p.1 = q.1 ∧ H q.2.1 = some (.tup (p.1.map kV)) ∧ RelV p.2 q.2.2
theorem KT.val {H : Hp} {kvs : List (List Key × V)} {xs : List (List Key × Addr × Value)} (r : KT H kvs xs) (k : List Key) : RelO (valV kvs k) ((atKey xs k).map (·.2)) := by
  induction r with
  | nil => exact True.intro
  | @cons p q ps qs h t ih =>
    obtain ⟨h1, _, h2⟩ := h
    by_cases e : p.1 = k
    · have e' : q.1 = k := h1.symm.trans e
      have b : atKey (q :: qs) k = some q.2 := by simp [atKey, List.find?_cons, e']
      rw [valV_pos e, b]; exact h2
    · have e' : ¬ q.1 = k := fun z => e (h1.trans z)
      have b : atKey (q :: qs) k = atKey qs k := by simp [atKey, List.find?_cons, e']
      rw [valV_neg e, b]; exact ih
theorem KT.repl {H : Hp} {kvs : List (List Key × V)} {xs : List (List Key × Addr × Value)} (r : KT H kvs xs) (k : List Key) {y : V} {u : Value} (ry : RelV y u) :
    KT H (kvs.map fun kv => if kv.1 = k then (kv.1, y) else kv) (xs.map (putAt k u)) := by
  induction r with
  | nil => exact .nil
  | @cons p q ps qs h t ih =>
    rw [List.map_cons, List.map_cons]
    refine .cons ?_ ih
    obtain ⟨h1, h2, h3⟩ := h
    unfold putAt
    by_cases e : p.1 = k
    · rw [if_pos e, if_pos (h1.symm.trans e)]; exact ⟨h1, h2, ry⟩
    · rw [if_neg e, if_neg (fun z => e (h1.trans z))]; exact ⟨h1, h2, h3⟩
theorem KT.put {H : Hp} {kvs : List (List Key × V)} {xs : List (List Key × Addr × Value)} (r : KT H kvs xs) (k : List Key) {b : Addr} {y : V} {u : Value} (hb : H b = some (.tup (k.map kV))) (ry : RelV y u) :
    KT H (putK kvs k y) (storedH xs k b u) := by
  have e : (kvs.any fun kv => decide (kv.1 = k)) = (atKey xs k).isSome := by
    rw [valV_any, (r.val k).isSome_eq, Option.isSome_map]
  unfold putK storedH
  rw [e]
  by_cases q : (atKey xs k).isSome = true
  · rw [if_pos q, if_pos q]; exact r.repl k ry
  · rw [if_neg q, if_neg q]; exact Paired.snoc r ⟨rfl, hb, ry⟩
theorem KT.keeps {H H' : Hp} {kvs : List (List Key × V)} {xs : List (List Key × Addr × Value)} (r : KT H kvs xs) (ht : ∀ b ys, H b = some (.tup ys) → H' b = some (.tup ys)) : KT H' kvs xs :=
  Paired.mapP r fun _ _ z => ⟨z.1, ht _ _ z.2.1, z.2.2⟩

section
variable {P : Program} {w : World} {H : Hp} {h : Heap} {a : Addr}
theorem rd_of {u : HO} (ok : HOk P w H h) (e : Rd H a u) : ObjOk P w H h a u := e.ok ok
theorem dk_rd {kvs : List (Key × V)} (ok : HOk P w H h) (e : Rd H a (.dK kvs)) : kvs.length ≤ sizeLine ∧ (a == sysModules) = false ∧ ∃ vs, KV kvs vs ∧ h.DictOf (mixKind P w) a vs :=
  show ObjOk P w H h a (.dK kvs) from rd_of ok e
theorem dk_of {kvs : List (Key × V)} (ok : HOk P w H h) (e : H a = some (.dK kvs)) : kvs.length ≤ sizeLine ∧ (a == sysModules) = false ∧ ∃ vs, KV kvs vs ∧ h.DictOf (mixKind P w) a vs := dk_rd ok (.inl e)
/-- a tracked tuple of ints and texts is a key -/
theorem key_of {ks : List Key} (ok : HOk P w H h) (e : H a = some (.tup (ks.map kV))) : (tupleKind (mixKind P w)).is h ks a := by
  obtain ⟨_, its, r, ⟨o, h1, h2, n, h3⟩, _⟩ := (show ObjOk P w H h a (.tup (ks.map kV)) from ok a _ e)
  exact ⟨o, its.toArray, n, h1, h2, h3, by simpa using items_are r⟩
theorem dt_rd {kvs : List (List Key × V)} (ok : HOk P w H h) (e : Rd H a (.dT kvs)) : kvs.length ≤ sizeLine ∧ (a == sysModules) = false ∧
    ∃ xs, KT H kvs xs ∧ h.DictOfH (tupleKind (mixKind P w)) a xs := by
  obtain ⟨z, y, xs, r, o, es, ep, h1, h2, h3, h4, h5⟩ := (show ObjOk P w H h a (.dT kvs) from rd_of ok e)
  refine ⟨z, y, xs, r, o, es, ep, h1, h2, h3, h4, fun x hx => ?_, h5⟩
  have all : ∀ {l : List (List Key × V)} {m : List (List Key × Addr × Value)}, KT H l m → ∀ x ∈ m, (tupleKind (mixKind P w)).is h x.1 x.2.1 := by
    intro l m q
    induction q with
    | nil => intro x hx; exact nomatch hx
    | @cons p q ps qs hq t ih =>
      intro x hx
      rcases List.mem_cons.mp hx with e | hx
      · subst e
        exact key_of ok (by rw [← hq.1]; exact hq.2.1)
      · exact ih x hx
  exact all r x hx
theorem dt_of {kvs : List (List Key × V)} (ok : HOk P w H h) (e : H a = some (.dT kvs)) : kvs.length ≤ sizeLine ∧ (a == sysModules) = false ∧
    ∃ xs, KT H kvs xs ∧ h.DictOfH (tupleKind (mixKind P w)) a xs := dt_rd ok (.inl e)
end

/-- what the dict at a holds at the key y -/
def DGet (H : Hp) (a : Addr) (y : V) (r : Option V) : Prop :=
  (∃ kvs k, Rd H a (.dK kvs) ∧ y = kV k ∧ r = valV kvs k) ∨ ∃ kvs k b, Rd H a (.dT kvs) ∧ y = .ref b ∧ H b = some (.tup (k.map kV)) ∧ r = valV kvs k
/-- the heap behind a[y] = v -/
def DPut (H : Hp) (a : Addr) (y v : V) (H' : Hp) : Prop :=
  (∃ kvs k, H a = some (.dK kvs) ∧ y = kV k ∧ kvs.length < sizeLine ∧ H' = upd H a (.dK (putK kvs k v))) ∨
  ∃ kvs k b, H a = some (.dT kvs) ∧ y = .ref b ∧ H b = some (.tup (k.map kV)) ∧ kvs.length < sizeLine ∧ H' = upd H a (.dT (putK kvs k v))
theorem DGet.k {H : Hp} {a : Addr} {kvs : List (Key × V)} {k : Key} (e : H a = some (.dK kvs)) : DGet H a (kV k) (valV kvs k) := .inl ⟨kvs, k, .inl e, rfl, rfl⟩
theorem DPut.k {H : Hp} {a : Addr} {kvs : List (Key × V)} {k : Key} {v : V} (e : H a = some (.dK kvs)) (hl : kvs.length < sizeLine) : DPut H a (kV k) v (upd H a (.dK (putK kvs k v))) := .inl ⟨kvs, k, e, rfl, hl, rfl⟩
section
variable {X : Cx} {pins : List (Addr × Obj)} {σ : St} {H : Hp} {s : Shared} {a : Addr} {y v : V} {u r : Value} {o : Option V} {A : Around} {E : Value → Shared → Prop}

theorem Inv.big (I : Inv X pins σ H s) : sysModules < s.heap.objs.size := by
  have h : mainGlobals < s.heap.objs.size := (I.mod.glob.keeps I.bk).lt
  exact Nat.lt_trans (by decide) h

/-- d[y], there -/
theorem d_getItem {Q : Value → Shared → Prop} (hu : A.units + 1 < cLine) (I : Inv X pins σ H s) (g : DGet H a y (some v)) (ry : RelV y u) (h : ∀ w' s', Inv X pins σ H s' → RelV v w' → Q w' s') :
    wpAny (model X.prog X.w) A (getItem (.ref a) u) Q E s := by
  rcases g with ⟨kvs, k, e, ey, l⟩ | ⟨kvs, k, b, e, ey, eb, l⟩
  · subst ey
    obtain ⟨z, hd, vs, rel, dd⟩ := dk_rd I.hok e
    obtain ⟨w', hw, rw'⟩ := RelO.some_of (v := v) (o := valueAt vs k) (by rw [l]; exact rel.val k)
    exact wpAny_getItem_of (kV_is ry) dd.mapOf hw (h w' _ (I.tok _) rw')
  · subst ey
    cases (show u = Value.ref b from ry)
    obtain ⟨z, hd, xs, rel, dd⟩ := dt_rd I.hok e
    obtain ⟨w', hw, rw'⟩ := RelO.some_of (v := v) (o := (atKey xs k).map (·.2)) (by rw [l]; exact rel.val k)
    obtain ⟨p, hp, hp2⟩ := Option.map_eq_some_iff.mp hw
    refine wpAny_getItem_heap (tupleKind_room_in1 hu) (key_of I.hok eb) dd hp ?_
    rw [hp2]
    exact h w' _ (I.tok _) rw'
/-- a dict's object is replaced -/
theorem d_write {h' : Heap} {t' : Nat} {ob : HO} (I : Inv X pins σ H s) (mu : Mut (H a)) (hs : Heap.SameBut a s.heap h') (he : ∃ q, h'.get? a = some q) (new : ObjOk X.prog X.w (upd H a ob) h' a ob) :
    Inv X pins σ (upd H a ob) { s with heap := h', toks := t' } :=
  I.write (x := a) (e := a) mu (.inl rfl) (fun b q hb z => (hs.2 b hb).trans z) he new
theorem dk_new {P : Program} {w : World} {H' : Hp} {h' : Heap} {kvs : List (Key × V)} {vs : List (Key × Value)} (z : kvs.length ≤ sizeLine) (hd : (a == sysModules) = false) (rel : KV kvs vs) (dd : h'.DictOf (mixKind P w) a vs) :
    ObjOk P w H' h' a (.dK kvs) := ⟨z, hd, vs, rel, dd⟩
/-- d[y] = v -/
theorem d_setItem {H' : Hp} {Q : Unit → Shared → Prop} (hu : A.units + 1 < cLine) (I : Inv X pins σ H s) (g : DPut H a y v H') (ry : RelV y u) (rv : RelV v r) (h : ∀ s', Inv X pins σ H' s' → Q () s') :
    wpAny (model X.prog X.w) A (setItem (.ref a) u r) Q E s := by
  rcases g with ⟨kvs, k, e, ey, l, eH⟩ | ⟨kvs, k, b, e, ey, eb, l, eH⟩
  · subst ey eH
    obtain ⟨z, hd, vs, rel, dd⟩ := dk_of I.hok e
    have hz : vs.length ≤ sizeLine := by rw [← rel.length]; exact z
    have hl : (putK kvs k v).length ≤ sizeLine := by have := length_putK kvs k v; omega
    refine wpAny_setItem_pairs (hsz := hz) (kV_is ry) dd fun h' dd' hs => h _ ?_
    have he : ∃ q, h'.get? a = some q := let ⟨q, _, _, hq, _⟩ := dd'; ⟨q, hq⟩
    exact d_write I (by rw [e]; exact True.intro) hs he (dk_new hl hd (rel.put k rv) dd')
  · subst ey eH
    cases (show u = Value.ref b from ry)
    obtain ⟨z, hd, xs, rel, dd⟩ := dt_of I.hok e
    have hz : xs.length ≤ sizeLine := by rw [← Paired.length rel]; exact z
    have hl : (putK kvs k v).length ≤ sizeLine := by have := length_putK kvs k v; omega
    refine wpAny_setItem_heap (hsz := hz) (tupleKind_room_in1 hu) (key_of I.hok eb) dd fun h' dd' hs => h _ ?_
    obtain ⟨q, es, ep, hq, h2, h3, h4, _, h5⟩ := dd'
    refine d_write I (by rw [e]; exact True.intro) hs ⟨q, hq⟩ ⟨hl, hd, _, (rel.put k eb rv).keeps fun c ys ec => ?_, q, es, ep, hq, h2, h3, h4, h5⟩
    rw [upd_ne (ne_of ec e (fun z => nomatch z))]
    exact ec
end

section
variable {X : Cx} {pins : List (Addr × Obj)} {σ : St} {H : Hp} {s : Shared} {a : Addr} {kvs : List (Key × V)} {k : Key} {u : Value} {A : Around} {E : Value → Shared → Prop}
end


/-! ### readings and rules -/
/-- the element of a subscription, not a slice -/
def NoSl (i : Expr) : Prop := ∀ ov iv, subscripted i false ov iv = operate [ov, iv] (getItem ov iv)
theorem subD_of {prog : Program} {w : World} {A : Around} {E : Value → Shared → Prop} {s : Shared} {env : Env} {value slice : Expr} {pos : Pos} {T id : String} {Q : Value → Shared → Prop}
    (hl : typeLookup (.type T) "__getitem__" = pure (some (.builtin id))) (hs : NoSl slice)
    (h : wpAny (model prog w) A (eval value env) (fun o s₁ => wpAny (model prog w) A (eval slice env) (fun i s₂ => s₂.TypeIs o T ∧ wpAny (model prog w) A (getItem o i) Q E s₂) E s₁) E s) :
    wpAny (model prog w) A (eval (.Subscript value slice pos) env) Q E s := by
  refine Subscript_ (wpAny_mono h (fun o s₁ h₁ => wpAny_mono h₁ (fun i s₂ h₂ => ?_) fun _ _ x => x) fun _ _ x => x)
  obtain ⟨hT, h₂⟩ := h₂
  unfold subscriptTail
  refine wpAny_bind ?_
  rw [getitemInPython_of_ne hT.not_modules]
  refine wpAny_bind (wpAny_specialOf hT hl ?_)
  have fin : wpAny (model prog w) A (subscripted slice false o i) (fun r s₃ => wpAny (model prog w) A (letTemporaryGo value o r >>= fun _ => pure r) Q E s₃) E s₂ := by
    rw [hs o i]
    exact wpAny_operating (wpAny_mono h₂ (fun r s₃ h₃ => wpAny_bind (wpAny_letTemporaryGo (wpAny_pure h₃))) fun _ _ x => x)
  first
    | exact wpAny_pure (wpAny_bind fin)
    | exact wpAny_bind (wpAny_pure (wpAny_bind fin))
    | exact wpAny_bind fin

theorem dict_typeIs {X : Cx} {pins : List (Addr × Obj)} {σ : St} {H : Hp} {s : Shared} {a : Addr} {y : V} {o : Option V} (I : Inv X pins σ H s) (g : DGet H a y o) : s.TypeIs (.ref a) "dict" := by
  rcases g with ⟨kvs, k, e, _, _⟩ | ⟨kvs, k, b, e, _, _, _⟩
  · obtain ⟨_, _, vs, _, dd⟩ := dk_rd I.hok e
    exact dd.typeIs
  · obtain ⟨_, _, xs, _, dd⟩ := dt_rd I.hok e
    exact dd.typeIs
/-- d[y] -/
def tDGet (td ty : TE) : TE := fun σ H Q => td σ H fun x H1 => ty σ H1 fun y H2 => ∃ a v, x = .ref a ∧ DGet H2 a y (some v) ∧ Q v H2
/-- d[y] = v -/
def sDPut (td ty tv : TE) : TS := fun D σ H => tv σ H fun v H1 => td σ H1 fun x H2 => ty σ H2 fun y H3 => ∃ a H4, x = .ref a ∧ DPut H3 a y v H4 ∧ D.nx σ H4
section
variable {X : Cx} {o i e value : Expr} {pos pos' tpos : Pos} {td ty tv : TE}
theorem pe_dget (hu : X.A.units + 1 < cLine) (ho : PE X o td) (hi : PE X i ty) (hs : NoSl i) : PE X (.Subscript o i pos) (tDGet td ty) := by
  intro pins s σ H Q I h
  refine subD_of PySem.F.slot_dict_getitem.lookup hs (thn (ho pins s σ H _ I h) fun u s1 ⟨x, H1, I1, rx, q1⟩ => thn (hi pins s1 σ H1 _ I1 q1) fun iv s2 ⟨y, H2, I2, ry, a, v, ex, g, q2⟩ => ?_)
  subst ex
  obtain rfl : u = Value.ref a := rx
  exact ⟨dict_typeIs I2 g, d_getItem hu I2 g ry fun w' s3 I3 rw' => ⟨v, H2, I3, rw', q2⟩⟩
theorem ps_dput (hu : X.A.units + 1 < cLine) (ho : PE X o td) (hi : PE X i ty) (hv : PE X value tv) (hs : swapsWith value (some (.Subscript o i pos')) pos.line X.env = pure false) :
    PS X (.Assign [.Subscript o i pos'] value pos) (sDPut td ty tv) := by
  intro pins s σ H D I h
  refine wpAny_Assign_Subscript (thn (hv pins s σ H _ I h) fun r s1 ⟨v, H1, I1, rv, q1⟩ => thn (ho pins s1 σ H1 _ I1 q1) fun u s2 ⟨x, H2, I2, rx, q2⟩ => thn (hi pins s2 σ H2 _ I2 q2) fun iv s3 ⟨y, H3, I3, ry, a, H4, ex, g, q3⟩ => ?_) hs
  subst ex
  obtain rfl : u = Value.ref a := rx
  exact d_setItem hu I3 g ry rv fun s4 I4 => ⟨σ, H4, I4, q3⟩
end


/-! ### displays -/
theorem dk_empty {P : Program} {w : World} {H : Hp} (h : Heap) (hb : sysModules < h.objs.size) : ObjOk P w H (h.push { cls := .type "dict", data := .dict #[] }) h.objs.size (.dK []) :=
  ⟨Nat.zero_le _, beq_eq_false_iff_ne.mpr (Ne.symm (Nat.ne_of_lt hb)), [], .nil, Heap.DictOf.new h⟩
section
variable {X : Cx} {pos : Pos}
end

/-- the pairs of a display, from the left -/
def tPairs : List (TE × TE) → St → Hp → (List (V × V) → Hp → Prop) → Prop
  | [], _, H, Q => Q [] H
  | (tk, tv) :: r, σ, H, Q => tk σ H fun x H1 => tv σ H1 fun y H2 => tPairs r σ H2 fun ps H3 => Q ((x, y) :: ps) H3
abbrev VV : List (V × V) → List (Value × Value) → Prop := Paired fun p q => RelV p.1 q.1 ∧ RelV p.2 q.2
def PPs (X : Cx) (pos : Pos) (keys : List (Option Expr)) (values : List Expr) (trs : List (TE × TE)) : Prop :=
  ∀ (pins : List (Addr × Obj)) (s : Shared) (σ : St) (H : Hp) (Q : List (V × V) → Hp → Prop), Inv X pins σ H s → tPairs trs σ H Q →
    wpAny (model X.prog X.w) X.A (evalPairs (pairTrees keys values X.env pos)) (fun vs s' => ∃ ps H', Inv X pins σ H' s' ∧ VV ps vs ∧ Q ps H') X.xe s
theorem pps_nil {X : Cx} {pos : Pos} : PPs X pos [] [] [] := fun pins s σ H Q I h => pairTrees_nil_walk ⟨[], H, I, .nil, h⟩
theorem pps_cons {X : Cx} {pos : Pos} {k v : Expr} {ks : List (Option Expr)} {vs : List Expr} {tk tv : TE} {trs : List (TE × TE)} (hk : PE X k tk) (hv : PE X v tv) (hr : PPs X pos ks vs trs) :
    PPs X pos (some k :: ks) (v :: vs) ((tk, tv) :: trs) := fun pins s σ H Q I h =>
  pairTrees_cons_walk (thn (hk pins s σ H _ I h) fun u s1 ⟨x, H1, I1, rx, q1⟩ => thn (hv pins s1 σ H1 _ I1 q1) fun w2 s2 ⟨y, H2, I2, ry, q2⟩ =>
    thn (hr pins s2 σ H2 _ I2 q2) fun ws s3 ⟨ps, H3, I3, rel, q3⟩ => ⟨(x, y) :: ps, H3, I3, .cons ⟨rx, ry⟩ rel, q3⟩)

def mergeK (kvs more : List (Key × V)) : List (Key × V) := more.foldl (fun acc kv => putK acc kv.1 kv.2) kvs
theorem KV.merge : ∀ {more : List (Key × V)} {rs : List (Key × Value)} {kvs : List (Key × V)} {vs : List (Key × Value)}, KV more rs → KV kvs vs → KV (mergeK kvs more) (merged vs rs) := by
  intro more rs kvs vs r
  unfold KV at r
  induction r generalizing kvs vs with
  | nil => intro q; exact q
  | @cons p q ps qs h t ih =>
    intro r0
    have e : KV (putK kvs p.1 p.2) (stored vs q.1 q.2) := by
      have := r0.put p.1 h.2
      rw [← h.1]; exact this
    exact ih e
theorem length_mergeK : ∀ (more kvs : List (Key × V)), (mergeK kvs more).length ≤ kvs.length + more.length
  | [], kvs => by show kvs.length ≤ kvs.length + 0; omega
  | p :: r, kvs => by
    have h1 := length_mergeK r (putK kvs p.1 p.2)
    have h2 := length_putK kvs p.1 p.2
    show (mergeK (putK kvs p.1 p.2) r).length ≤ _
    rw [List.length_cons]; omega
theorem carries_of {P : Program} {w : World} : ∀ {kvs : List (Key × V)} {ws : List (Value × Value)}, VV (kvs.map fun kv => (kV kv.1, kv.2)) ws → ∃ rs, Carries (mixKind P w) ws rs ∧ KV kvs rs
  | [], _, r => by rw [List.map_nil] at r; cases r; exact ⟨[], True.intro, .nil⟩
  | p :: kvs, _, r => by
    rw [List.map_cons] at r
    cases r with
    | @cons a b as bs h t =>
      obtain ⟨rs, c, q⟩ := carries_of (P := P) (w := w) t
      obtain ⟨b1, b2⟩ := b
      exact ⟨(p.1, b2) :: rs, ⟨kV_is h.1, rfl, c⟩, .cons ⟨rfl, h.2⟩ q⟩
/-- {k: v, ..} with keys ints and texts; the new dict stands empty while the pairs are made -/
def tDisp (trs : List (TE × TE)) : TE := fun σ H Q => ∀ p, H p = none → tPairs trs σ (upd H p (.dK [])) fun ps H2 => H2 p = some (.dK []) ∧ ∃ kvs : List (Key × V), ps = kvs.map (fun kv => (kV kv.1, kv.2)) ∧ kvs.length ≤ 15 ∧ Q (.ref p) (upd H2 p (.dK (mergeK [] kvs)))
theorem pe_disp {X : Cx} {pos : Pos} {keys : List (Option Expr)} {values : List Expr} {trs : List (TE × TE)} (h : PPs X pos keys values trs) (hall : keys.all (·.isSome) = true) (hl : keys.length = values.length) (h0 : keys ≠ [])
    (h15 : keys.length ≤ 15) : PE X (.Dict keys values pos) (tDisp trs) := by
  intro pins s σ H Q I q
  have hn := I.hok.fresh (Nat.le_refl s.heap.objs.size)
  have I1 := I.laid (a := s.heap.objs.size) (o := .dK []) (h' := s.heap.push { cls := .type "dict", data := .dict #[] }) (t' := s.toks) (fun _ _ q => Heap.get?_push_of_some _ q) (Nat.le_refl _) (dk_empty s.heap I.big)
  refine wpAny_Dict_walk (knd := mixKind X.prog X.w) hall hl h0 h15 (thn (h pins _ σ _ _ I1 (q _ hn)) fun ws s2 ⟨ps, H2, I2, rel, e, kvs, ep, lk, q2⟩ => ?_)
  subst ep
  obtain ⟨rs, c, rk⟩ := carries_of (P := X.prog) (w := X.w) rel
  obtain ⟨z, hd, vs0, r0, dd⟩ := dk_of I2.hok e
  cases r0
  refine ⟨rs, c, dd, fun h' dd' hs => ⟨.ref s.heap.objs.size, _, ?_, rfl, q2⟩⟩
  have hz : (mergeK [] kvs).length ≤ sizeLine := by
    have h1 := length_mergeK kvs []
    rw [List.length_nil] at h1
    rw [sizeLine_eq]; omega
  have he : ∃ q, h'.get? s.heap.objs.size = some q := let ⟨q, _, _, hq, _⟩ := dd'; ⟨q, hq⟩
  exact d_write I2 (by rw [e]; exact True.intro) hs he (dk_new hz hd (rk.merge .nil) dd')


/-! ### methods -/
section
variable {X : Cx} {pins : List (Addr × Obj)} {σ : St} {H : Hp} {s : Shared} {a : Addr} {y d : V} {u r : Value} {o : Option V} {A : Around} {E : Value → Shared → Prop}
end

section
variable {X : Cx} {o e f : Expr} {apos cpos : Pos} {td ty tx : TE}
end

/-! ### dict(d): a copy -/
section
variable {X : Cx} {pins : List (Addr × Obj)} {σ : St} {H : Hp} {s : Shared} {a : Addr} {kvs : List (Key × V)} {A : Around} {E : Value → Shared → Prop}
end


section
variable {X : Cx} {pins : List (Addr × Obj)} {σ : St} {H : Hp} {s : Shared} {a : Addr} {y : V} {u : Value} {A : Around} {E : Value → Shared → Prop}
end
end L2
namespace L2
open PySem PySem.Spec PyProof.Rows
section
variable {X : Cx}
/-- lists of ints, != -/
theorem op_neLI (hu : X.A.units + 64 < cLine) : OpR X (compareOp .NotEq) (fun x y H Q => ∃ (a b : Addr) (ns ms : List Int), x = .ref a ∧ y = .ref b ∧ SqL X.K H a (ns.map V.int) ∧ SqL X.K H b (ms.map V.int) ∧ Q (.bl (!decide (ns = ms))) H) := by
  intro pins s σ H x y v u Q I rx ry h
  obtain ⟨a, b, ns, ms, rfl, rfl, ha, hb, q⟩ := h
  cases rx
  cases ry
  obtain ⟨its, r1, p1, _⟩ := I.list ha
  obtain ⟨its2, r2, p2, _⟩ := I.list hb
  exact PySem.W.ne_intsK p1.isList (intsAre_of r1) p2.isList (intsAre_of r2) hu ⟨.bl (!decide (ns = ms)), H, I, rfl, q⟩
end
end L2
namespace PySem
open Sem (wp)
open Builtin
section
variable {prog : Program} {w : World} {A : Around} {E : Value → Shared → Prop} {s : Shared}
theorem same_pair {h h' : Heap} {c T : Addr} {a b : Value} (hs : Heap.SameBut c h h') (n : T ≠ c) (e : IsPair h T a b) : IsPair h' T a b := (hs.2 T n).trans e
theorem zip_next_itemD {z TI TO i1 i2 : Addr} {fp1 fp2 : List Addr} {n1 n2 k : Nat} {P1 P2 : Nat → Value → Prop} {S1 S2 : Nat → Heap → Prop} {a b : Value} {Q : Value → Shared → Prop}
    (D1 : Draws prog w A i1 fp1 n1 P1 S1) (D2 : Draws prog w A i2 fp2 n2 P2 S2) (hz : IsZip s.heap z TI TO .none) (hTI : IsPair s.heap TI (.ref i1) (.ref i2)) (hTO : IsPair s.heap TO a b)
    (h1 : S1 k s.heap) (h2 : S2 k s.heap) (k1 : k < n1) (k2 : k < n2) (nTO : TO ≠ z) (nTI : TI ≠ z) (n1z : i1 ≠ z) (n2z : i2 ≠ z) (n1T : i1 ≠ TO) (n2T : i2 ≠ TO)
    (f1z : z ∉ fp1) (f1T : TO ∉ fp1) (f12 : i2 ∉ fp1) (f2z : z ∉ fp2) (f2T : TO ∉ fp2) (f21 : i1 ∉ fp2)
    (hQ : ∀ x y h' tk, P1 k x → P2 k y → IsZip h' z TI TO (rawInt s.heap.objs.size) → IsPair h' TO x y → S1 (k + 1) h' → S2 (k + 1) h' → IsPair h' s.heap.objs.size x y → h'.objs.size = s.heap.objs.size + 1 →
      (∀ c o, c ≠ z → c ≠ TO → c ≠ i1 → c ≠ i2 → s.heap.get? c = some o → h'.get? c = some o) → Q (.ref s.heap.objs.size) { s with heap := h', toks := tk }) :
    wpAny (model prog w) A (Builtin.«zip.__next__» ⟨[.ref z], []⟩) (fun fin s' => ∃ v, fin = .done (.ret v) ∧ Q v s') E s := by
  show wpAny _ _ (field (.ref z) 2 >>= _) _ _ s
  refine wpAny_bind (wpAny_field hz rfl (x := .bool false) rfl ?_)
  refine wpAny_bind (wpAny_field hz rfl (x := .ref TI) rfl ?_)
  refine wpAny_bind (wpAny_seqItems hTI rfl ?_)
  refine wpAny_bind (m := SmallTypes.ownedTupleIsFree (.ref z)) (wpAny_bind (wpAny_field hz rfl (x := .none) rfl (wpAny_pure ?_)))
  show wpAny _ _ (if true = true then _ else _) _ _ s
  rw [if_pos rfl]
  refine wpAny_bind (wpAny_rule ?_)
  refine wpAny_bind (wpAny_field hz rfl (x := .ref TO) rfl ?_)
  refine wpAny_bind (wpAny_setField_rec hz (by simp) fun g1 hz1 hs1 => ?_)
  have st1 : S1 k g1 := D1.frame k _ _ h1 fun c hc o e => (hs1.2 c fun q => f1z (q ▸ hc)).trans e
  have st2 : S2 k g1 := D2.frame k _ _ h2 fun c hc o e => (hs1.2 c fun q => f2z (q ▸ hc)).trans e
  have hTO1 := same_pair hs1 nTO hTO
  refine wpAny_bind ?_
  show wpAny _ _ (forIn [(Value.ref i1, 0), (Value.ref i2, 1)] _ _) _ _ _
  rw [List.forIn_cons]
  refine wpAny_bind (wpAny_bind (wpAny_onRaise ?_))
  refine wpAny_bind (m := SmallTypes.nextOf (.ref i1)) (D1.item k { s with heap := g1 } _ _ k1 st1 fun x g2 tk2 px st1' hs2 => wpAny_pure ?_)
  have hTO2 := same_pair hs2 (Ne.symm n1T) hTO1
  refine wpAny_bind (wpAny_seqItems hTO2 rfl ?_)
  refine wpAny_bind (wpAny_updateSeq_pair hTO2 fun g3 hTO3 hs3 => ?_)
  refine wpAny_bind (wpAny_letGo (wpAny_pure ?_))
  have hTO3 : IsPair g3 TO x b := hTO3
  have st2' : S2 k g3 := D2.frame k _ _ st2 fun c hc o e => (hs3.2 c fun q => f2T (q ▸ hc)).trans ((hs2.2 c fun q => f21 (q ▸ hc)).trans e)
  show wpAny _ _ (forIn [(Value.ref i2, 1)] _ _) _ _ _
  rw [List.forIn_cons]
  refine wpAny_bind (wpAny_bind (wpAny_onRaise ?_))
  refine wpAny_bind (m := SmallTypes.nextOf (.ref i2)) (D2.item k { s with heap := g3, toks := tk2 } _ _ k2 st2' fun y g4 tk4 py st2'' hs4 => wpAny_pure ?_)
  have hTO4 := same_pair hs4 (Ne.symm n2T) hTO3
  refine wpAny_bind (wpAny_seqItems hTO4 rfl ?_)
  refine wpAny_bind (wpAny_updateSeq_pair hTO4 fun g5 hTO5 hs5 => ?_)
  refine wpAny_bind (wpAny_letGo (wpAny_pure ?_))
  have hTO5 : IsPair g5 TO x y := hTO5
  show wpAny _ _ (forIn [] _ _) _ _ _
  rw [List.forIn_nil]
  refine wpAny_pure ?_
  refine wpAny_bind (wpAny_seqItems hTO5 rfl ?_)
  refine wpAny_bind (wpAny_newTuple ?_)
  have hz5 : IsZip g5 z TI TO .ellipsis := (hs5.2 z (Ne.symm nTO)).trans ((hs4.2 z (Ne.symm n2z)).trans ((hs3.2 z (Ne.symm nTO)).trans ((hs2.2 z (Ne.symm n1z)).trans hz1)))
  have sz5 : g5.objs.size = s.heap.objs.size := by rw [hs5.1, hs4.1, hs3.1, hs2.1, hs1.1]
  have hz6 := Heap.get?_push_of_some { cls := Value.type "tuple", data := Data.seq #[x, y] } hz5
  refine wpAny_bind (m := SmallTypes.ownedTupleHandOut _ _) ?_
  refine wpAny_bind (m := setField _ 0 _) (wpAny_setField_rec hz6 (by simp) fun g7 hz7 hs7 => ?_)
  refine wpAny_setField_rec hz7 (by simp) fun g8 hz8 hs8 => ?_
  have lt : ∀ {c : Addr} {o : Obj}, s.heap.get? c = some o → c < g5.objs.size := fun e => by rw [sz5]; exact Heap.lt_size e
  have nw : g5.objs.size ≠ z := Nat.ne_of_gt (Heap.lt_size hz5)
  have fr : ∀ c o, c ≠ z → g5.get? c = some o → g8.get? c = some o := fun c o n e => (hs8.2 c n).trans ((hs7.2 c n).trans (Heap.get?_push_of_some _ e))
  have up : ∀ c o, c ≠ z → c ≠ TO → c ≠ i2 → g2.get? c = some o → g8.get? c = some o := fun c o c1 c2 c3 e => fr c o c1 ((hs5.2 c c2).trans ((hs4.2 c c3).trans ((hs3.2 c c2).trans e)))
  have hnew : g8.get? g5.objs.size = some { cls := Value.type "tuple", data := Data.seq #[x, y] } := (hs8.2 _ nw).trans ((hs7.2 _ nw).trans (Heap.get?_push_size _ rfl))
  have sz8 : g8.objs.size = s.heap.objs.size + 1 := by
    rw [hs8.1]
    show g7.objs.size = _
    rw [hs7.1]
    show (g5.push _).objs.size = _
    rw [Heap.size_push, sz5]
  have hz8' : IsZip g8 z TI TO (rawInt s.heap.objs.size) := by
    rw [← sz5]
    exact hz8
  refine wpAny_pure ⟨_, rfl, ?_⟩
  show Q (Value.ref g5.objs.size) { s with heap := g8, toks := tk4 }
  rw [sz5] at hnew ⊢
  refine hQ x y g8 tk4 px py hz8' (fr _ _ nTO hTO5) (D1.frame _ _ _ st1' fun c hc o e => up c o (fun q => f1z (q ▸ hc)) (fun q => f1T (q ▸ hc)) (fun q => f12 (q ▸ hc)) e) (D2.frame _ _ _ st2'' fun c hc o e => fr c o (fun q => f2z (q ▸ hc)) ((hs5.2 c fun q => f2T (q ▸ hc)).trans e)) hnew sz8 fun c o c1 c2 c3 c4 e => up c o c1 c2 c4 ((hs2.2 c c3).trans ((hs1.2 c c1).trans e))
theorem zip_next_endD {z TI TO i1 i2 : Addr} {fp1 : List Addr} {n1 : Nat} {P1 : Nat → Value → Prop} {S1 : Nat → Heap → Prop} {a b : Value} {Q : Value → Shared → Prop}
    (D1 : Draws prog w A i1 fp1 n1 P1 S1) (hz : IsZip s.heap z TI TO .none) (hTI : IsPair s.heap TI (.ref i1) (.ref i2)) (hTO : IsPair s.heap TO a b)
    (h1 : S1 n1 s.heap) (nTO : TO ≠ z) (n1z : i1 ≠ z) (f1z : z ∉ fp1)
    (hE : ∀ h' e, (∃ o, h'.get? e = some o ∧ o.cls = .type "StopIteration") → (∀ c o, c ≠ z → c ≠ TO → c ≠ i1 → c ≠ i2 → s.heap.get? c = some o → h'.get? c = some o) → E (.ref e) { s with heap := h' }) :
    wpAny (model prog w) A (Builtin.«zip.__next__» ⟨[.ref z], []⟩) (fun fin s' => ∃ v, fin = .done (.ret v) ∧ Q v s') E s := by
  show wpAny _ _ (field (.ref z) 2 >>= _) _ _ s
  refine wpAny_bind (wpAny_field hz rfl (x := .bool false) rfl ?_)
  refine wpAny_bind (wpAny_field hz rfl (x := .ref TI) rfl ?_)
  refine wpAny_bind (wpAny_seqItems hTI rfl ?_)
  refine wpAny_bind (m := SmallTypes.ownedTupleIsFree (.ref z)) (wpAny_bind (wpAny_field hz rfl (x := .none) rfl (wpAny_pure ?_)))
  show wpAny _ _ (if true = true then _ else _) _ _ s
  rw [if_pos rfl]
  refine wpAny_bind (wpAny_rule ?_)
  refine wpAny_bind (wpAny_field hz rfl (x := .ref TO) rfl ?_)
  refine wpAny_bind (wpAny_setField_rec hz (by simp) fun g1 hz1 hs1 => ?_)
  have st1 : S1 n1 g1 := D1.frame n1 _ _ h1 fun c hc o e => (hs1.2 c fun q => f1z (q ▸ hc)).trans e
  refine wpAny_bind ?_
  show wpAny _ _ (forIn [(Value.ref i1, 0), (Value.ref i2, 1)] _ _) _ _ _
  rw [List.forIn_cons]
  refine wpAny_bind (wpAny_bind (wpAny_onRaise ?_))
  refine wpAny_bind (m := SmallTypes.nextOf (.ref i1)) (D1.done { s with heap := g1 } _ _ st1 fun g2 e hs2 he => ?_)
  have hz2 : g2.get? z = some _ := hs2 z _ (Ne.symm n1z) hz1
  refine wpAny_setField_rec hz2 (by simp) fun g3 hz3 hs3 => ?_
  obtain ⟨oe, e1, e2⟩ := he
  have ez : e ≠ z := fun q => by
    rw [q, hz2] at e1
    cases e1
    exact absurd (Value.type.inj e2) (by decide)
  exact hE g3 e ⟨oe, (hs3.2 e ez).trans e1, e2⟩ fun c o c1 c2 c3 c4 q => (hs3.2 c c1).trans (hs2 c o c3 ((hs1.2 c c1).trans q))
theorem wpAny_pyNext_zip_itemD {z TI TO i1 i2 : Addr} {fp1 fp2 : List Addr} {n1 n2 k : Nat} {P1 P2 : Nat → Value → Prop} {S1 S2 : Nat → Heap → Prop} {a b : Value} {Q : Option Value → Shared → Prop}
    (D1 : Draws prog w A.in1 i1 fp1 n1 P1 S1) (D2 : Draws prog w A.in1 i2 fp2 n2 P2 S2) (hz : IsZip s.heap z TI TO .none) (hTI : IsPair s.heap TI (.ref i1) (.ref i2)) (hTO : IsPair s.heap TO a b)
    (h1 : S1 k s.heap) (h2 : S2 k s.heap) (k1 : k < n1) (k2 : k < n2) (nTO : TO ≠ z) (nTI : TI ≠ z) (n1z : i1 ≠ z) (n2z : i2 ≠ z) (n1T : i1 ≠ TO) (n2T : i2 ≠ TO)
    (f1z : z ∉ fp1) (f1T : TO ∉ fp1) (f12 : i2 ∉ fp1) (f2z : z ∉ fp2) (f2T : TO ∉ fp2) (f21 : i1 ∉ fp2)
    (hQ : ∀ x y h' tk, P1 k x → P2 k y → IsZip h' z TI TO (rawInt s.heap.objs.size) → IsPair h' TO x y → S1 (k + 1) h' → S2 (k + 1) h' → IsPair h' s.heap.objs.size x y → h'.objs.size = s.heap.objs.size + 1 →
      (∀ c o, c ≠ z → c ≠ TO → c ≠ i1 → c ≠ i2 → s.heap.get? c = some o → h'.get? c = some o) → Q (some (.ref s.heap.objs.size)) { s with heap := h', toks := tk }) :
    wpAny (model prog w) A (pyNext (.ref z)) Q E s := by
  have hT : s.TypeIs (.ref z) "zip" := ⟨_, hz, rfl⟩
  exact wpAny_bind (wpAny_attempt (wpAny_callSpecial?_slot hT F.slot_zip_next (wpAny_call_entry F.slot_zip_next hT F.entry_zip_next
    (zip_next_itemD D1 D2 hz hTI hTO h1 h2 k1 k2 nTO nTI n1z n2z n1T n2T f1z f1T f12 f2z f2T f21 fun x y h' tk a0 b0 a1 a2 a3 a4 a5 a6 a7 => wpAny_pure (hQ x y h' tk a0 b0 a1 a2 a3 a4 a5 a6 a7)) (F.args_zip_next_1 (Value.ref z)))))
theorem wpAny_pyNext_zip_endD {z TI TO i1 i2 : Addr} {fp1 : List Addr} {n1 : Nat} {P1 : Nat → Value → Prop} {S1 : Nat → Heap → Prop} {a b : Value} {Q : Option Value → Shared → Prop}
    (D1 : Draws prog w A.in1 i1 fp1 n1 P1 S1) (hz : IsZip s.heap z TI TO .none) (hTI : IsPair s.heap TI (.ref i1) (.ref i2)) (hTO : IsPair s.heap TO a b)
    (h1 : S1 n1 s.heap) (nTO : TO ≠ z) (n1z : i1 ≠ z) (f1z : z ∉ fp1)
    (hQ : ∀ h', (∀ c o, c ≠ z → c ≠ TO → c ≠ i1 → c ≠ i2 → s.heap.get? c = some o → h'.get? c = some o) → Q none { s with heap := h' }) :
    wpAny (model prog w) A (pyNext (.ref z)) Q E s := by
  have hT : s.TypeIs (.ref z) "zip" := ⟨_, hz, rfl⟩
  exact wpAny_bind (wpAny_attempt (wpAny_callSpecial?_slot hT F.slot_zip_next (wpAny_call_entry F.slot_zip_next hT F.entry_zip_next
    (zip_next_endD D1 hz hTI hTO h1 nTO n1z f1z fun h' e he k => let ⟨o, ho, hc⟩ := he; wpAny_bind (wpAny_isInstance ⟨o, ho, hc⟩ isSubtype_stop (wpAny_pure (hQ h' k)))) (F.args_zip_next_1 (Value.ref z)))))
end
/-- the heap behind zip(l1, l2), the iterators being o1 and o2 -/
def zpH (h : Heap) (o1 o2 : Obj) : Heap :=
  ((((h.push o1).push o2).push { cls := .type "tuple", data := .seq #[.ref h.objs.size, .ref (h.push o1).objs.size] }).push { cls := .type "tuple", data := .seq #[.none, .none] }).push
    { cls := .type "zip", data := .fields #[.none, .bool false, .bool false, .ref ((h.push o1).push o2).objs.size, .ref (((h.push o1).push o2).push { cls := .type "tuple", data := .seq #[.ref h.objs.size, .ref (h.push o1).objs.size] }).objs.size] }
abbrev tIt (l : Addr) : Obj := { cls := .type "tuple_iterator", data := .fields #[.ref l, .int 0 0] }
abbrev lIt (l : Addr) : Obj := { cls := .type "list_iterator", data := .fields #[.ref l, .int 0 0] }
set_option maxHeartbeats 1000000 in
theorem meets_zip_TL (l1 l2 : Addr) (xs ys : Array Value) :
    Meets (Builtin.«zip.__new__» ⟨[.type "zip", .ref l1, .ref l2], []⟩) (fun _ R s => s.heap.IsTuple l1 xs ∧ s.heap.IsList l2 ys ∧
      R (.ok (.ret (.ref ((((s.heap.push (tIt l1)).push (lIt l2)).push { cls := .type "tuple", data := .seq #[.ref s.heap.objs.size, .ref (s.heap.push (tIt l1)).objs.size] }).push { cls := .type "tuple", data := .seq #[.none, .none] }).objs.size)))
        { s with heap := zpH s.heap (tIt l1) (lIt l2) }) :=
  .of_wp fun prog w A R s h => by
    obtain ⟨hp, g, d, tk, os⟩ := s
    obtain ⟨hl1, hl2, h⟩ := h
    have hsub := sub_zip
    have hL1 := hl1
    have hL2 := Heap.IsList.push hl2 (tIt l1)
    wp_walk using wpAny_pyIter_tuple hL1, wpAny_pyIter_list hL2
    exact ⟨_, rfl, h⟩
theorem call_zip_TL {prog : Program} {w : World} {A : Around} {E : Value → Shared → Prop} {s : Shared} {l1 l2 : Addr} {xs ys : Array Value} {Q : Value → Shared → Prop} (h1 : s.heap.IsTuple l1 xs) (h2 : s.heap.IsList l2 ys)
    (h : ∀ h', IsZip h' (s.heap.objs.size + 4) (s.heap.objs.size + 2) (s.heap.objs.size + 3) .none → IsPair h' (s.heap.objs.size + 2) (.ref s.heap.objs.size) (.ref (s.heap.objs.size + 1)) → IsPair h' (s.heap.objs.size + 3) .none .none →
      h'.IsTupleIter s.heap.objs.size l1 0 → h'.IsListIter (s.heap.objs.size + 1) l2 0 → (∀ b o, s.heap.get? b = some o → h'.get? b = some o) → Q (.ref (s.heap.objs.size + 4)) { s with heap := h' }) :
    wpAny (model prog w) A (call (.type "zip") [.ref l1, .ref l2]) Q E s := by
  refine callType_new F.called_zip (by decide) (F.typeCall_zip_2 _ _) (F.newCall_zip_2 _ _) (fun obj => F.args_object_init_3 obj _ _) F.entry_zip_new (meets_zip_TL l1 l2 xs ys) ⟨h1, h2, ?_⟩
  have z1 : (s.heap.push (tIt l1)).objs.size = s.heap.objs.size + 1 := Heap.size_push ..
  have z2 : ((s.heap.push (tIt l1)).push (lIt l2)).objs.size = s.heap.objs.size + 2 := by rw [Heap.size_push, z1]
  have z3 : (((s.heap.push (tIt l1)).push (lIt l2)).push { cls := .type "tuple", data := .seq #[.ref s.heap.objs.size, .ref (s.heap.push (tIt l1)).objs.size] }).objs.size = s.heap.objs.size + 3 := by rw [Heap.size_push, z2]
  have z4 : ((((s.heap.push (tIt l1)).push (lIt l2)).push { cls := .type "tuple", data := .seq #[.ref s.heap.objs.size, .ref (s.heap.push (tIt l1)).objs.size] }).push { cls := .type "tuple", data := .seq #[.none, .none] }).objs.size = s.heap.objs.size + 4 := by rw [Heap.size_push, z3]
  have g5 : IsZip (zpH s.heap (tIt l1) (lIt l2)) (s.heap.objs.size + 4) (s.heap.objs.size + 2) (s.heap.objs.size + 3) .none := by
    rw [← z4, ← z3, ← z2]
    exact Heap.get?_push_size _ rfl
  have g4 : IsPair (zpH s.heap (tIt l1) (lIt l2)) (s.heap.objs.size + 3) .none .none := by
    rw [← z3]
    exact Heap.get?_push_of_some _ (Heap.get?_push_size _ rfl)
  have g3 : IsPair (zpH s.heap (tIt l1) (lIt l2)) (s.heap.objs.size + 2) (.ref s.heap.objs.size) (.ref (s.heap.objs.size + 1)) := by
    rw [← z2, ← z1]
    exact Heap.get?_push_of_some _ (Heap.get?_push_of_some _ (Heap.get?_push_size _ rfl))
  have g2 : (zpH s.heap (tIt l1) (lIt l2)).get? (s.heap.objs.size + 1) = some (lIt l2) := by
    rw [← z1]
    exact Heap.get?_push_of_some _ (Heap.get?_push_of_some _ (Heap.get?_push_of_some _ (Heap.get?_push_size _ rfl)))
  have g1 : (zpH s.heap (tIt l1) (lIt l2)).get? s.heap.objs.size = some (tIt l1) := Heap.get?_push_of_some _ (Heap.get?_push_of_some _ (Heap.get?_push_of_some _ (Heap.get?_push_of_some _ (Heap.get?_push_size _ rfl))))
  show _ ∧ _
  rw [z4]
  exact ⟨⟨_, g5, rfl⟩, h _ g5 g3 g4 ⟨_, g1, rfl, rfl⟩ ⟨_, g2, rfl, rfl⟩ fun b o e => Heap.get?_push_of_some _ (Heap.get?_push_of_some _ (Heap.get?_push_of_some _ (Heap.get?_push_of_some _ (Heap.get?_push_of_some _ e))))⟩
set_option maxHeartbeats 1000000 in
theorem meets_zip_TT (l1 l2 : Addr) (xs ys : Array Value) :
    Meets (Builtin.«zip.__new__» ⟨[.type "zip", .ref l1, .ref l2], []⟩) (fun _ R s => s.heap.IsTuple l1 xs ∧ s.heap.IsTuple l2 ys ∧
      R (.ok (.ret (.ref ((((s.heap.push (tIt l1)).push (tIt l2)).push { cls := .type "tuple", data := .seq #[.ref s.heap.objs.size, .ref (s.heap.push (tIt l1)).objs.size] }).push { cls := .type "tuple", data := .seq #[.none, .none] }).objs.size)))
        { s with heap := zpH s.heap (tIt l1) (tIt l2) }) :=
  .of_wp fun prog w A R s h => by
    obtain ⟨hp, g, d, tk, os⟩ := s
    obtain ⟨hl1, hl2, h⟩ := h
    have hsub := sub_zip
    have hL1 := hl1
    have hL2 := Heap.IsTuple.push hl2 (tIt l1)
    wp_walk using wpAny_pyIter_tuple hL1, wpAny_pyIter_tuple hL2
    exact ⟨_, rfl, h⟩
theorem call_zip_TT {prog : Program} {w : World} {A : Around} {E : Value → Shared → Prop} {s : Shared} {l1 l2 : Addr} {xs ys : Array Value} {Q : Value → Shared → Prop} (h1 : s.heap.IsTuple l1 xs) (h2 : s.heap.IsTuple l2 ys)
    (h : ∀ h', IsZip h' (s.heap.objs.size + 4) (s.heap.objs.size + 2) (s.heap.objs.size + 3) .none → IsPair h' (s.heap.objs.size + 2) (.ref s.heap.objs.size) (.ref (s.heap.objs.size + 1)) → IsPair h' (s.heap.objs.size + 3) .none .none →
      h'.IsTupleIter s.heap.objs.size l1 0 → h'.IsTupleIter (s.heap.objs.size + 1) l2 0 → (∀ b o, s.heap.get? b = some o → h'.get? b = some o) → Q (.ref (s.heap.objs.size + 4)) { s with heap := h' }) :
    wpAny (model prog w) A (call (.type "zip") [.ref l1, .ref l2]) Q E s := by
  refine callType_new F.called_zip (by decide) (F.typeCall_zip_2 _ _) (F.newCall_zip_2 _ _) (fun obj => F.args_object_init_3 obj _ _) F.entry_zip_new (meets_zip_TT l1 l2 xs ys) ⟨h1, h2, ?_⟩
  have z1 : (s.heap.push (tIt l1)).objs.size = s.heap.objs.size + 1 := Heap.size_push ..
  have z2 : ((s.heap.push (tIt l1)).push (tIt l2)).objs.size = s.heap.objs.size + 2 := by rw [Heap.size_push, z1]
  have z3 : (((s.heap.push (tIt l1)).push (tIt l2)).push { cls := .type "tuple", data := .seq #[.ref s.heap.objs.size, .ref (s.heap.push (tIt l1)).objs.size] }).objs.size = s.heap.objs.size + 3 := by rw [Heap.size_push, z2]
  have z4 : ((((s.heap.push (tIt l1)).push (tIt l2)).push { cls := .type "tuple", data := .seq #[.ref s.heap.objs.size, .ref (s.heap.push (tIt l1)).objs.size] }).push { cls := .type "tuple", data := .seq #[.none, .none] }).objs.size = s.heap.objs.size + 4 := by rw [Heap.size_push, z3]
  have g5 : IsZip (zpH s.heap (tIt l1) (tIt l2)) (s.heap.objs.size + 4) (s.heap.objs.size + 2) (s.heap.objs.size + 3) .none := by
    rw [← z4, ← z3, ← z2]
    exact Heap.get?_push_size _ rfl
  have g4 : IsPair (zpH s.heap (tIt l1) (tIt l2)) (s.heap.objs.size + 3) .none .none := by
    rw [← z3]
    exact Heap.get?_push_of_some _ (Heap.get?_push_size _ rfl)
  have g3 : IsPair (zpH s.heap (tIt l1) (tIt l2)) (s.heap.objs.size + 2) (.ref s.heap.objs.size) (.ref (s.heap.objs.size + 1)) := by
    rw [← z2, ← z1]
    exact Heap.get?_push_of_some _ (Heap.get?_push_of_some _ (Heap.get?_push_size _ rfl))
  have g2 : (zpH s.heap (tIt l1) (tIt l2)).get? (s.heap.objs.size + 1) = some (tIt l2) := by
    rw [← z1]
    exact Heap.get?_push_of_some _ (Heap.get?_push_of_some _ (Heap.get?_push_of_some _ (Heap.get?_push_size _ rfl)))
  have g1 : (zpH s.heap (tIt l1) (tIt l2)).get? s.heap.objs.size = some (tIt l1) := Heap.get?_push_of_some _ (Heap.get?_push_of_some _ (Heap.get?_push_of_some _ (Heap.get?_push_of_some _ (Heap.get?_push_size _ rfl))))
  show _ ∧ _
  rw [z4]
  exact ⟨⟨_, g5, rfl⟩, h _ g5 g3 g4 ⟨_, g1, rfl, rfl⟩ ⟨_, g2, rfl, rfl⟩ fun b o e => Heap.get?_push_of_some _ (Heap.get?_push_of_some _ (Heap.get?_push_of_some _ (Heap.get?_push_of_some _ (Heap.get?_push_of_some _ e))))⟩
end PySem
namespace L2
open PySem PySem.Spec PyProof.Rows
theorem Inv.turnN {X : Cx} {pins : List (Addr × Obj)} {σ : St} {H : Hp} {s : Shared} {h' : Heap} {t' : Nat} {ch : List Addr} (I : Inv X pins σ H s) (fa : ∀ b ∈ ch, FpOk X pins H b)
    (k : ∀ c o, c ∉ ch → s.heap.get? c = some o → h'.get? c = some o) : Inv X pins σ H { s with heap := h', toks := t' } := by
  have na : ∀ c u, H c = some u → c ∉ ch := fun c u e z => by have := (fa c z).1; rw [e] at this; cases this
  refine I.step (g' := s.gens) (d' := s.drawn) (ch := ch) (fun c hc => ?_) (fun c o _ _ hc e _ => k c o hc e) (fun c o _ _ hc e _ => ⟨o.slots, k c o hc e⟩)
    (fun _ _ _ _ n => n) (fun c o hc e => ⟨o, k c o hc e⟩) (fun _ _ e => e) (fun _ _ _ e => e) (fun c ps e => ⟨#[], by rw [e]; simp⟩) (fun m hm => ?_) (fun c u e => ?_) I.bare
  · obtain ⟨a0, a1, a2, a3, a4, a5⟩ := fa c hc
    exact ⟨a3, a1, a4, a5⟩
  · obtain ⟨o, es, ep, ho, r⟩ := hm
    exact ⟨o, es, ep, k _ o (fun z => (fa _ z).2.1 rfl) ho, r⟩
  · refine (I.hok c u e).stay (fun d v hd q => ?_) (fun _ q => q) fun _ _ q => q
    rcases hd with z | z
    · rw [z] at q ⊢
      exact k c v (na c u e) q
    · exact k d v (na d _ z) q
theorem Inv.turnNl {X : Cx} {pins : List (Addr × Obj)} {σ : St} {H : Hp} {s : Shared} {h' : Heap} {t' : Nat} {ch : List Addr} {T : Addr} {o' : HO} (I : Inv X pins σ H s) (fa : ∀ b ∈ ch, FpOk X pins H b)
    (k : ∀ c o, c ∉ ch → s.heap.get? c = some o → h'.get? c = some o) (hT : s.heap.objs.size ≤ T) (new : ObjOk X.prog X.w (upd H T o') h' T o') : Inv X pins σ (upd H T o') { s with heap := h', toks := t' } := by
  have J : Inv X pins σ H { s with heap := h', toks := t' } := I.turnN fa k
  have hn : H T = none := I.hok.fresh hT
  have nT : ∀ c o, s.heap.get? c = some o → c ≠ T := fun c o q => Nat.ne_of_lt (Nat.lt_of_lt_of_le (Heap.lt_size q) hT)
  refine I.step (g' := s.gens) (d' := s.drawn) (ch := ch) (fun c hc => ?_) (fun c o _ _ hc e _ => k c o hc e) (fun c o _ _ hc e _ => ⟨o.slots, k c o hc e⟩)
    (fun c o _ q n => by rw [upd_ne (nT c o q)]; exact n) (fun c o hc e => ⟨o, k c o hc e⟩) (fun c xs e => by rw [upd_ne (ne_of_none e hn)]; exact e) (fun c u xs e => by rw [upd_ne (ne_of_none e hn)]; exact e)
    (fun c ps e => ⟨#[], by rw [upd_ne (ne_of_none e hn), e]; simp⟩) (fun m hm => ?_) (hok_track J.hok hn new) I.bare
  · obtain ⟨a0, a1, a2, a3, a4, a5⟩ := fa c hc
    exact ⟨a3, a1, a4, a5⟩
  · obtain ⟨o, es, ep, ho, r⟩ := hm
    exact ⟨o, es, ep, k _ o (fun z => (fa _ z).2.1 rfl) ho, r⟩
/-- (x0, y0), (x1, y1), .. over what is at l1 and at l2, each a new tuple; as long as the first -/
def IteZ (c1 c2 : List V → HO) (l1 l2 : Addr) : It :=
  ⟨fun i H => ∃ xs ys x y, H l1 = some (c1 xs) ∧ H l2 = some (c2 ys) ∧ xs[i]? = some x ∧ ys[i]? = some y, fun i H v H' => ∃ T xs ys x y, H T = none ∧ v = .ref T ∧ H l1 = some (c1 xs) ∧ H l2 = some (c2 ys) ∧ xs[i]? = some x ∧ ys[i]? = some y ∧ H' = upd H T (.tup [x, y]), fun i H => ∃ xs, H l1 = some (c1 xs) ∧ xs.length = i⟩
theorem turn_zip {c1 c2 : List V → HO} {IsS1 IsS2 : Heap → Addr → Array Value → Prop} {IsI1 IsI2 : Heap → Addr → Addr → Nat → Prop} (S1 : SeqKind c1 IsS1 IsI1) (S2 : SeqKind c2 IsS2 IsI2) {P : Program} {w : World} {K : PySem.W.Frag} {elts : List Expr} {kt : Nat} {pt : Pos} {z TI TO i1 i2 l1 l2 : Addr} (nTO : TO ≠ z) (nTI : TI ≠ z) (n1z : i1 ≠ z) (n2z : i2 ≠ z) (nTT : TI ≠ TO) (n1I : TI ≠ i1) (n2I : TI ≠ i2) (n1T : i1 ≠ TO) (n2T : i2 ≠ TO) (n12 : i1 ≠ i2) :
    Turn P w K (.Tuple elts kt pt) (IteZ c1 c2 l1 l2) [z, TI, TO, i1, i2] z (fun i h => IsZip h z TI TO .none ∧ IsPair h TI (.ref i1) (.ref i2) ∧ (∃ a b, IsPair h TO a b) ∧ IsI1 h i1 l1 i ∧ IsI2 h i2 l2 i) where
  mem := by simp
  obj := fun i h st b hb => by
    obtain ⟨h1, h2, ⟨a, c, h3⟩, h4, h5⟩ := st
    simp only [List.mem_cons, List.not_mem_nil, or_false] at hb
    rcases hb with rfl | rfl | rfl | rfl | rfl
    · exact ⟨_, h1, fun v z => by cases z⟩
    · exact ⟨_, h2, fun v z => by cases z⟩
    · exact ⟨_, h3, fun v z => by cases z⟩
    · exact S1.obj _ _ _ _ h4
    · exact S2.obj _ _ _ _ h5
  keep := fun i h h' st k => by
    obtain ⟨h1, h2, ⟨a, c, h3⟩, h4, h5⟩ := st
    exact ⟨k _ (by simp) _ h1, k _ (by simp) _ h2, ⟨a, c, k _ (by simp) _ h3⟩, S1.kp _ _ _ _ _ h4 fun o q => k _ (by simp) o q, S2.kp _ _ _ _ _ h5 fun o q => k _ (by simp) o q⟩
  item := by
    intro X hP' hw hK hc i pins s σ H E I hf st hg
    subst hP' hw hK
    obtain ⟨xs, ys, x, y, hl1, hl2, hx, hy⟩ := hg
    obtain ⟨its1, rv1, p1⟩ := S1.seq X pins σ H s l1 xs I hl1
    obtain ⟨its2, rv2, p2⟩ := S2.seq X pins σ H s l2 ys I hl2
    obtain ⟨u1, hu1, ru1⟩ := rv1.get hx
    obtain ⟨u2, hu2, ru2⟩ := rv2.get hy
    have fz := hf z (by simp)
    have fT := hf TO (by simp)
    have f1 := hf i1 (by simp)
    have f2 := hf i2 (by simp)
    have hlt1 : i < its1.toArray.size := by
      have := List.getElem?_eq_some_iff.mp hu1
      simpa using this.1
    have hlt2 : i < its2.toArray.size := by
      have := List.getElem?_eq_some_iff.mp hu2
      simpa using this.1
    obtain ⟨h1, h2, ⟨a, c, h3⟩, h4, h5⟩ := st
    have a1 := ne_of_none hl1 fz.1
    have a2 := ne_of_none hl1 fT.1
    have a3 := ne_of_none hl1 f1.1
    have a4 := ne_of_none hl1 f2.1
    have b1 := ne_of_none hl2 fz.1
    have b2 := ne_of_none hl2 fT.1
    have b3 := ne_of_none hl2 f1.1
    have b4 := ne_of_none hl2 f2.1
    refine wpAny_pyNext_zip_itemD (S1.dr X.prog X.w X.A.in1 (I.ok.hd hc) i1 l1 a3 its1.toArray) (S2.dr X.prog X.w X.A.in1 (I.ok.hd hc) i2 l2 b4 its2.toArray) h1 h2 h3 ⟨h4, p1⟩ ⟨h5, p2⟩ hlt1 hlt2 nTO nTI n1z n2z n1T n2T
      (by simp [Ne.symm n1z, Ne.symm a1]) (by simp [Ne.symm n1T, Ne.symm a2]) (by simp [Ne.symm n12, Ne.symm a4]) (by simp [Ne.symm n2z, Ne.symm b1]) (by simp [Ne.symm n2T, Ne.symm b2]) (by simp [n12, Ne.symm b3]) fun v1 v2 h' tk e1 e2 q1 q2 q3 q4 q5 q6 q7 => ?_
    refine ⟨.ref s.heap.objs.size, rfl, wpAny_letOwnedTupleGo_zip (s := { s with heap := h', toks := tk }) q1 fun g r1 r2 => ?_⟩
    have hv1 : v1 = u1 := by
      have h1 : its1[i]? = some v1 := by simpa using e1
      rw [hu1] at h1
      exact (Option.some.inj h1).symm
    have hv2 : v2 = u2 := by
      have h1 : its2[i]? = some v2 := by simpa using e2
      rw [hu2] at h1
      exact (Option.some.inj h1).symm
    subst hv1 hv2
    have hzt : z < s.heap.objs.size := Heap.lt_size h1
    have hT2 : g.get? s.heap.objs.size = some { cls := .type "tuple", data := .seq #[v1, v2] } := (r2.2 _ (Nat.ne_of_gt hzt)).trans q5
    have new : ObjOk X.prog X.w (upd H s.heap.objs.size (.tup [x, y])) g s.heap.objs.size (.tup [x, y]) := ⟨(by show 2 ≤ sizeLine; decide), [v1, v2], .cons ru1 (.cons ru2 .nil), ⟨_, hT2, rfl, _, rfl⟩, _, hT2, rfl⟩
    refine ⟨.ref s.heap.objs.size, _, I.turnNl (ch := [z, TO, i1, i2]) (fun b hb => hf b ?_) (fun c o hc q => (r2.2 c ?_).trans (q7 c o ?_ ?_ ?_ ?_ q)) (Nat.le_refl _) new, rfl, ⟨s.heap.objs.size, xs, ys, x, y, I.hok.fresh (Nat.le_refl _), rfl, hl1, hl2, hx, hy, rfl⟩, ⟨r1, (r2.2 _ nTI).trans (q7 _ _ nTI nTT n1I n2I h2), ⟨_, _, (r2.2 _ nTO).trans q2⟩, S1.kp _ _ _ _ _ q3.1 fun o q => (r2.2 _ n1z).trans q, S2.kp _ _ _ _ _ q4.1 fun o q => (r2.2 _ n2z).trans q⟩, fun b hb => ?_⟩
    · simp only [List.mem_cons, List.not_mem_nil, or_false] at hb ⊢
      rcases hb with h | h | h | h <;> simp [h]
    · exact fun z => hc (by simp [z])
    · exact fun z => hc (by simp [z])
    · exact fun z => hc (by simp [z])
    · exact fun z => hc (by simp [z])
    · exact fun z => hc (by simp [z])
    · have fb := hf b hb
      have lt : b < s.heap.objs.size := by
        simp only [List.mem_cons, List.not_mem_nil, or_false] at hb
        rcases hb with rfl | rfl | rfl | rfl | rfl
        · exact hzt
        · exact Heap.lt_size h2
        · exact Heap.lt_size h3
        · obtain ⟨o, q, _⟩ := S1.obj _ _ _ _ h4; exact Heap.lt_size q
        · obtain ⟨o, q, _⟩ := S2.obj _ _ _ _ h5; exact Heap.lt_size q
      rw [upd_ne (Nat.ne_of_lt lt)]
      exact fb.1
  done := by
    intro X hP' hw hK hc i pins s σ H E I hf st hg
    subst hP' hw hK
    obtain ⟨xs, hl1, hn⟩ := hg
    obtain ⟨its1, rv1, p1⟩ := S1.seq X pins σ H s l1 xs I hl1
    have fz := hf z (by simp)
    have f1 := hf i1 (by simp)
    obtain ⟨h1, h2, ⟨a, c, h3⟩, h4, h5⟩ := st
    have a1 := ne_of_none hl1 fz.1
    have a3 := ne_of_none hl1 f1.1
    have hi : i = its1.toArray.size := by rw [← hn, rv1.length]; simp
    subst hi
    refine wpAny_pyNext_zip_endD (S1.dr X.prog X.w X.A.in1 (I.ok.hd hc) i1 l1 a3 its1.toArray) h1 h2 h3 ⟨h4, p1⟩ nTO n1z (by simp [Ne.symm n1z, Ne.symm a1]) fun h' k => ⟨rfl, I.turnN (t' := s.toks) (ch := [z, TO, i1, i2]) (fun b hb => hf b ?_) fun c o hc q => k c o (fun z => hc (by simp [z])) (fun z => hc (by simp [z])) (fun z => hc (by simp [z])) (fun z => hc (by simp [z])) q⟩
    simp only [List.mem_cons, List.not_mem_nil, or_false] at hb ⊢
    rcases hb with h | h | h | h <;> simp [h]
  self := fun A i s Q E st q => wpAny_pyIter_zip st.1 q
def iZip (c1 c2 : List V → HO) (te1 te2 : TE) : TI := fun σ H R => te1 σ H fun x H1 => te2 σ H1 fun y H2 => ∃ l1 l2 xs ys, [x, y] = [V.ref l1, V.ref l2] ∧ H2 l1 = some (c1 xs) ∧ H2 l2 = some (c2 ys) ∧ R (IteZ c1 c2 l1 l2) H2
section
variable {X : Cx} {elts : List Expr} {kt : Nat} {pt : Pos} {e1 e2 : Expr} {te1 te2 : TE} {p pos : Pos}
theorem zip_pie {c1 c2 : List V → HO} {IsS1 IsS2 : Heap → Addr → Array Value → Prop} {IsI1 IsI2 : Heap → Addr → Addr → Nat → Prop} (S1 : SeqKind c1 IsS1 IsI1) (S2 : SeqKind c2 IsS2 IsI2) {pins : List (Addr × Obj)} {σ : St} {H1 : Hp} {s1 : Shared} {R : It → Hp → Prop} {l1 l2 : Addr} {h' : Heap} (I1 : Inv X pins σ H1 s1)
    (a1 : IsZip h' (s1.heap.objs.size + 4) (s1.heap.objs.size + 2) (s1.heap.objs.size + 3) .none) (a2 : IsPair h' (s1.heap.objs.size + 2) (.ref s1.heap.objs.size) (.ref (s1.heap.objs.size + 1))) (a3 : IsPair h' (s1.heap.objs.size + 3) .none .none)
    (a4 : IsI1 h' s1.heap.objs.size l1 0) (a5 : IsI2 h' (s1.heap.objs.size + 1) l2 0) (k : ∀ b o, s1.heap.get? b = some o → h'.get? b = some o) (q : R (IteZ c1 c2 l1 l2) H1) :
    PIE X pins σ (.Tuple elts kt pt) R (.ref (s1.heap.objs.size + 4)) { s1 with heap := h' } := by
  have nn : ∀ i j : Nat, i ≠ j → s1.heap.objs.size + i ≠ s1.heap.objs.size + j := fun i j h e => h (by exact Nat.add_left_cancel e)
  refine ⟨s1.heap.objs.size + 4, [s1.heap.objs.size + 4, s1.heap.objs.size + 2, s1.heap.objs.size + 3, s1.heap.objs.size, s1.heap.objs.size + 1], _, _, H1, rfl, I1.kept (t' := s1.toks) k, turn_zip S1 S2 (nn 3 4 (by decide)) (nn 2 4 (by decide)) (nn 0 4 (by decide)) (nn 1 4 (by decide)) (nn 2 3 (by decide)) (nn 2 0 (by decide)) (nn 2 1 (by decide)) (nn 0 3 (by decide)) (nn 1 3 (by decide)) (nn 0 1 (by decide)), ⟨a1, a2, ⟨_, _, a3⟩, a4, a5⟩, fun b hb => ?_, q⟩
  have le : s1.heap.objs.size ≤ b := by
    simp only [List.mem_cons, List.not_mem_nil, or_false] at hb
    rcases hb with h | h | h | h | h
    · rw [h]; exact Nat.le_add_right _ _
    · rw [h]; exact Nat.le_add_right _ _
    · rw [h]; exact Nat.le_add_right _ _
    · rw [h]; exact Nat.le_refl _
    · rw [h]; exact Nat.le_add_right _ _
  exact I1.fpOk le (I1.hok.fresh le)
theorem pi_zip (hg : Gl X "zip") (hm : X.mg "zip" = none) (he1 : PE X e1 te1) (he2 : PE X e2 te2) (hs : starEach [e1, e2] X.env = (false, eval e1 X.env) :: starEach [e2] X.env := by rfl) (hs2 : starEach [e2] X.env = [(false, eval e2 X.env)] := by rfl) : PI X (.Tuple elts kt pt) (.Call (.Name "zip" p) [e1, e2] [] pos) (iZip HO.tup HO.lst te1 te2) := by
  intro pins s σ H R I h
  refine Call_ (ld_blt I hg hm boot_zip (PyProof.Rows.callWith_type1 (thn (pa_cons he1 (pa_cons he2 pa_nil hs2) hs pos pins s σ H (fun zs H1 => ∃ l1 l2 xs ys, zs = [V.ref l1, V.ref l2] ∧ H1 l1 = some (HO.tup xs) ∧ H1 l2 = some (HO.lst ys) ∧ R (IteZ HO.tup HO.lst l1 l2) H1) I h) fun us s1 ⟨vs, H1, I1, r1, q1⟩ => ?_) hs (by rw [hs2]; rfl)))
  obtain ⟨l1, l2, xs, ys, rfl, hl1, hl2, q⟩ := q1
  obtain ⟨u, v, rfl, ru, rv⟩ := vals2 r1
  cases ru
  cases rv
  obtain ⟨its1, rv1, p1⟩ := seq_tup.seq X pins σ H1 s1 l1 xs I1 hl1
  obtain ⟨its2, rv2, p2⟩ := seq_lst.seq X pins σ H1 s1 l2 ys I1 hl2
  exact call_zip_TL p1 p2 fun h' a1 a2 a3 a4 a5 k => wpAny_pyIter_zip a1 (zip_pie seq_tup seq_lst I1 a1 a2 a3 a4 a5 k q)
theorem pi_zipT (hg : Gl X "zip") (hm : X.mg "zip" = none) (he1 : PE X e1 te1) (he2 : PE X e2 te2) (hs : starEach [e1, e2] X.env = (false, eval e1 X.env) :: starEach [e2] X.env := by rfl) (hs2 : starEach [e2] X.env = [(false, eval e2 X.env)] := by rfl) : PI X (.Tuple elts kt pt) (.Call (.Name "zip" p) [e1, e2] [] pos) (iZip HO.tup HO.tup te1 te2) := by
  intro pins s σ H R I h
  refine Call_ (ld_blt I hg hm boot_zip (PyProof.Rows.callWith_type1 (thn (pa_cons he1 (pa_cons he2 pa_nil hs2) hs pos pins s σ H (fun zs H1 => ∃ l1 l2 xs ys, zs = [V.ref l1, V.ref l2] ∧ H1 l1 = some (HO.tup xs) ∧ H1 l2 = some (HO.tup ys) ∧ R (IteZ HO.tup HO.tup l1 l2) H1) I h) fun us s1 ⟨vs, H1, I1, r1, q1⟩ => ?_) hs (by rw [hs2]; rfl)))
  obtain ⟨l1, l2, xs, ys, rfl, hl1, hl2, q⟩ := q1
  obtain ⟨u, v, rfl, ru, rv⟩ := vals2 r1
  cases ru
  cases rv
  obtain ⟨its1, rv1, p1⟩ := seq_tup.seq X pins σ H1 s1 l1 xs I1 hl1
  obtain ⟨its2, rv2, p2⟩ := seq_tup.seq X pins σ H1 s1 l2 ys I1 hl2
  exact call_zip_TT p1 p2 fun h' a1 a2 a3 a4 a5 k => wpAny_pyIter_zip a1 (zip_pie seq_tup seq_tup I1 a1 a2 a3 a4 a5 k q)
end
theorem comp_zG {c1 c2 : List V → HO} (i1 : ∀ a b, c1 a = c1 b → a = b) (i2 : ∀ a b, c2 a = c2 b → a = b) {l1 l2 : Addr} {xs ys0 : List V} {g : TG} {tf : TT} {te : TE} {fin : List V → Hp → Prop} {n : Nat} {σ : St} {H : Hp} (Pv : Nat → List V → Hp → Prop) (hk : xs.length ≤ 1000000) (hxy : xs.length ≤ ys0.length) (h0 : Pv 0 [] H) (hl : ∀ i ys H, Pv i ys H → H l1 = some (c1 xs) ∧ H l2 = some (c2 ys0)) (hz : ∀ i ys H, Pv i ys H → ys.length ≤ i)
    (hgo : ∀ i x y ys H T, xs[i]? = some x → ys0[i]? = some y → Pv i ys H → H T = none → g (.ref T) (σ ++ List.replicate n none) (upd H T (.tup [x, y])) fun σ2 H2 => tf σ2 H2 fun b H3 => if b = true then te σ2 H3 (fun y H4 => Pv (i + 1) (ys ++ [y]) H4) else Pv (i + 1) ys H3)
    (hst : ∀ ys H, Pv xs.length ys H → fin ys H) :
    ∃ W : Nat → Nat → List V → Hp → Prop, (∃ m, W 0 m [] H) ∧ ∀ i m ys H, W i m ys H → ys.length ≤ sizeLine ∧ (((IteZ c1 c2 l1 l2).stop i H ∧ fin ys H) ∨ ((IteZ c1 c2 l1 l2).go i H ∧ ∃ (Y : V → Hp → Prop) (Z : Hp → Prop), (∀ y H4, Y y H4 → ys.length < sizeLine ∧ ∃ m', m' < m ∧ W (i + 1) m' (ys ++ [y]) H4) ∧
      (∀ H3, Z H3 → ∃ m', m' < m ∧ W (i + 1) m' ys H3) ∧ ∀ x H', (IteZ c1 c2 l1 l2).yld i H x H' → g x (σ ++ List.replicate n none) H' fun σ2 H2 => tf σ2 H2 fun b H3 => if b = true then te σ2 H3 Y else Z H3)) :=
  comp_by Pv hk h0 hz (fun i ys H hi p => by
    have q := hl i ys H p
    have hi2 : i < ys0.length := Nat.lt_of_lt_of_le hi hxy
    refine ⟨⟨xs, ys0, xs[i], ys0[i], q.1, q.2, by simp [hi], by simp [hi2]⟩, fun x H' y => ?_⟩
    obtain ⟨T, zs, ws, x, y, hT, rfl, q2, q3, hx, hy, rfl⟩ := y
    rw [q.1] at q2
    rw [q.2] at q3
    cases i1 _ _ (Option.some.inj q2)
    cases i2 _ _ (Option.some.inj q3)
    exact hgo i x y ys _ T hx hy p hT) fun ys H p => ⟨⟨xs, (hl _ ys H p).1, rfl⟩, hst ys H p⟩
abbrev comp_z {l1 l2 : Addr} {xs ys0 : List V} {g : TG} {tf : TT} {te : TE} {fin : List V → Hp → Prop} {n : Nat} {σ : St} {H : Hp} := @comp_zG HO.tup HO.lst seq_tup.inj seq_lst.inj l1 l2 xs ys0 g tf te fin n σ H
abbrev comp_zT {l1 l2 : Addr} {xs ys0 : List V} {g : TG} {tf : TT} {te : TE} {fin : List V → Hp → Prop} {n : Nat} {σ : St} {H : Hp} := @comp_zG HO.tup HO.tup seq_tup.inj seq_tup.inj l1 l2 xs ys0 g tf te fin n σ H
end L2
namespace PySem
open Sem (wp)
open Builtin
theorem int_rmul_tup (a : Int) (t : Tok) (l : Addr) (items : Array Value) (n : Nat) (dd : Option Addr) (sl : Array (Option Value)) :
    Meets (Builtin.«int.__rmul__» ⟨[.int a t, .ref l], []⟩) (fun _ R s => s.heap.get? l = some ⟨.type "tuple", dd, .seq items n, sl⟩ ∧ R (.ok (.ret .notImplemented)) s) :=
  .of_wp fun prog w A R s h => by
    obtain ⟨hp, g, d, tk, os⟩ := s
    obtain ⟨hl, h⟩ := h
    wp_walk
    exact ⟨_, rfl, h⟩
theorem noFill_tuple_mul : fillsNumberSlot (Value.type "tuple") "mul" = pure false := PySem.fillsNumberSlot_seq F.slot_tuple_mul.lookup (by first | rfl | decide) F.slot_tuple_rmul.lookup (by first | rfl | decide)
theorem repeat_tuple : seqRepeat? (Value.type "tuple") = pure (some (Value.builtin "tuple.__mul__")) := by
  unfold seqRepeat?
  have h1 : seqSlot? (Value.type "tuple") (Str.ofString "__mul__") = _ := PySem.seqSlot_of F.slot_tuple_mul.lookup (by first | rfl | decide)
  have h2 : seqSlot? (Value.type "tuple") (Str.ofString "__rmul__") = _ := PySem.seqSlot_of F.slot_tuple_rmul.lookup (by first | rfl | decide)
  rw [h1, h2]
  rfl
theorem tup_mul1 (l : Addr) (v : Value) (t : Tok) (n : Nat) (dd : Option Addr) (sl : Array (Option Value)) :
    Meets (Builtin.«tuple.__mul__» ⟨[.ref l, .int 1 t], []⟩) (fun _ R s => s.heap.get? l = some ⟨.type "tuple", dd, .seq #[v] n, sl⟩ ∧ R (.ok (.ret (.ref l))) s) :=
  .of_wp fun prog w A R s h => by
    obtain ⟨hp, g, d, tk, os⟩ := s
    obtain ⟨hl, h⟩ := h
    unfold Builtin.«tuple.__mul__»
    wp_walk
    exact ⟨_, rfl, h⟩
theorem fold_rep_aux (v : Value) : ∀ (n : Nat) (a : Array Value), List.foldl (fun x1 x2 => x1 ++ x2) a (List.replicate n #[v]) = a ++ (List.replicate n v).toArray
  | 0, a => by simp
  | n + 1, a => by
    rw [List.replicate_succ, List.foldl_cons, fold_rep_aux v n, List.replicate_succ]
    apply Array.ext'
    simp
theorem fold_rep (v : Value) (n : Nat) : List.foldl (fun x1 x2 => x1 ++ x2) #[] (List.replicate n #[v]) = (List.replicate n v).toArray := by rw [fold_rep_aux]; simp
theorem tup_mulN (l : Addr) (v : Value) (x : Int) (t : Tok) (n : Nat) (dd : Option Addr) (sl : Array (Option Value)) (h2 : 2 ≤ x) (h3 : x ≤ 1000) :
    Meets (Builtin.«tuple.__mul__» ⟨[.ref l, .int x t], []⟩) (fun _ R s => s.heap.get? l = some ⟨.type "tuple", dd, .seq #[v] n, sl⟩ ∧
      R (.ok (.ret (.ref s.heap.objs.size))) { s with heap := s.heap.push { cls := .type "tuple", data := .seq (List.foldl (fun x1 x2 => x1 ++ x2) #[] (List.replicate x.toNat #[v])) } }) :=
  .of_wp fun prog w A R s h => by
    obtain ⟨hp, g, d, tk, os⟩ := s
    obtain ⟨hl, h⟩ := h
    have e1 : (decide (x < -2 ^ 63) || decide (x ≥ 2 ^ 63)) = false := by simp; omega
    have e2 : ((#[v] : Array Value).isEmpty || x == 1) = false := by simp; omega
    have e3 : (decide (x ≤ 0) || (#[v] : Array Value).isEmpty) = false := by simp; omega
    have e4 : ¬ (((#[v] : Array Value).size : Int) * x > (2 ^ 63 - 1) / 8) := by simp; omega
    have e5 : Builtin.Tuple.tupleTooMany (((#[v] : Array Value).size : Int) * x) = false := by
      unfold Builtin.Tuple.tupleTooMany
      have : (sizeLine : Int) = 16777216 := by decide
      rw [this]
      simp
      omega
    unfold Builtin.«tuple.__mul__»
    wp_walk
    rw [e1, if_neg Bool.false_ne_true]
    refine wpAny_bind (m := Builtin.Tuple.tupleItemsOf _) (wpAny_bind (wpAny_seqItems hl rfl (wpAny_pure ?_)))
    show wpAny _ _ (if ((#[v] : Array Value).isEmpty || x == 1) = true then _ else _) _ _ _
    rw [e2, if_neg Bool.false_ne_true]
    show wpAny _ _ (if (decide (x ≤ 0) || (#[v] : Array Value).isEmpty) = true then _ else _) _ _ _
    rw [e3, if_neg Bool.false_ne_true]
    show wpAny _ _ (if (((#[v] : Array Value).size : Int) * x > (2 ^ 63 - 1) / 8) then _ else _) _ _ _
    rw [if_neg e4]
    show wpAny _ _ (if Builtin.Tuple.tupleTooMany (((#[v] : Array Value).size : Int) * x) = true then _ else _) _ _ _
    rw [e5, if_neg Bool.false_ne_true]
    refine wpAny_bind (m := Builtin.Tuple.tupleExact _) (wpAny_newObj_type (wpAny_pure ⟨_, rfl, h⟩) ?_)
    rw [fold_rep]
    show (List.replicate x.toNat v).toArray.size ≤ sizeLine
    rw [List.size_toArray, List.length_replicate]
    have : sizeLine = 16777216 := by decide
    omega
end PySem
namespace L2
open PySem PySem.Spec PyProof.Rows
section
variable {X : Cx}
/-- (x,) * n, n from 1 -/
def rMulT : R2 := fun x y H Q => ∃ a v n, x = .ref a ∧ y = .int n ∧ H a = some (.tup [v]) ∧ 1 ≤ n ∧ n ≤ 1000 ∧ ∀ r H', H' r = some (.tup (List.replicate n.toNat v)) → (∀ b o, H b = some o → H' b = some o) → Q (.ref r) H'
theorem vals_rep {v : V} {u : Value} (r : RelV v u) : ∀ n : Nat, Vals (List.replicate n v) (List.replicate n u)
  | 0 => .nil
  | n + 1 => .cons r (vals_rep r n)
theorem op_mulT : OpR X (binaryOp .Mult) rMulT := by
  intro pins s σ H x y v u Q I rx ry h
  obtain ⟨a, w, n, rfl, rfl, ha, n1, n2, q⟩ := h
  cases rx
  obtain ⟨t, rfl⟩ := ry
  obtain ⟨its, r1, p1, _⟩ := I.tuple (SqT.of ha)
  obtain ⟨u, rfl, ru⟩ := vals1 r1
  obtain ⟨⟨cls, dd, data, sl⟩, ho, hc, k, hd⟩ := id p1
  simp only at hc hd
  subst hc hd
  refine wpAny_binaryOp_repeat_ref (by decide) ⟨_, ho, rfl⟩ (fun s' => typeIs_int s' n t) noFill_tuple_mul F.fills_int_mul F.slot_int_rmul repeat_tuple F.slot_int_index.lookup
    (call_meets F.slot_int_rmul (typeIs_int s n t) F.entry_int_rmul (F.args_int_rmul_2 _ _) (int_rmul_tup n t a _ k dd sl) ⟨ho, rfl, ⟨_, ho, rfl⟩, ?_⟩)
  by_cases e : n = 1
  · subst e
    exact call_meets F.slot_tuple_mul ⟨_, ho, rfl⟩ F.entry_tuple_mul (F.args_tuple_mul_2 _ _) (tup_mul1 a u t k dd sl) ⟨ho, ⟨.ref a, H, I, rfl, q a H ha fun _ _ e => e⟩⟩
  · refine call_meets F.slot_tuple_mul ⟨_, ho, rfl⟩ F.entry_tuple_mul (F.args_tuple_mul_2 _ _) (tup_mulN a u n t k dd sl (by omega) n2) ⟨ho, ?_⟩
    rw [fold_rep]
    have z : (List.replicate n.toNat w).length ≤ sizeLine := by
      rw [List.length_replicate]
      have : sizeLine = 16777216 := by decide
      omega
    exact ⟨.ref s.heap.objs.size, upd H s.heap.objs.size (.tup (List.replicate n.toNat w)), I.laid (t' := s.toks) (fun b o e => Heap.get?_push_of_some _ e) (Nat.le_refl _) ⟨z, List.replicate n.toNat u, vals_rep ru _, ⟨_, Heap.get?_push_size _ rfl, rfl, 0, rfl⟩, _, Heap.get?_push_size _ rfl, rfl⟩, rfl, q _ _ upd_same fun b o e => by rw [upd_ne (ne_of_none e (I.hok.fresh (Nat.le_refl _)))]; exact e⟩
def tPar3 (i j k : Nat) (ta : TA) : TS := fun D σ H => ta σ H fun vs H1 => ∃ u v w, vs = [u, v, w] ∧ D.nx (((σ.set i (some u)).set j (some v)).set k (some w)) H1
theorem ps_par3 {i j k : Nat} {x y z : Str} {a b c : Expr} {ta : TA} {px py pz pt pos : Pos} {kt k2 pt2} (hc : X.calm = true) (hN : X.N.Nodup) (hi : X.N[i]? = some x) (hj : X.N[j]? = some y) (hk : X.N[k]? = some z) (hij : i ≠ j) (hik : i ≠ k) (hjk : j ≠ k)
    (hx : X.env.scope.names.lookup x = some .local) (hy : X.env.scope.names.lookup y = some .local) (hz : X.env.scope.names.lookup z = some .local) (ha : PA X [a, b, c] ta)
    (hw : swappedStores [.Tuple [.Name x px, .Name y py, .Name z pz] kt pt] (.Tuple [a, b, c] k2 pt2) X.env = pure (some [x, y, z]))
    (hs : swapsWithSole [.Tuple [.Name x px, .Name y py, .Name z pz] kt pt] (.Tuple [a, b, c] k2 pt2) pos.line X.env = pure false := by rfl) :
    PS X (.Assign [.Tuple [.Name x px, .Name y py, .Name z pz] kt pt] (.Tuple [a, b, c] k2 pt2) pos) (tPar3 i j k ta) := by
  intro pins s σ H D I h
  rw [exec_Assign_arm]
  refine wpAny_bind (wpAny_standAt ?_)
  rw [hs]
  refine wpAny_bind (wpAny_pure ?_)
  rw [if_neg (by decide)]
  refine wpAny_bind (Tuple_ (thn (ha _ pins s σ H _ I h) fun us s1 ⟨vs, H1, I1, r1, q1⟩ => ?_))
  obtain ⟨v0, v, w, e1, q1⟩ := q1
  subst e1
  obtain ⟨u0, u1, u2, rfl, ru, rv, rw'⟩ : ∃ u0 u1 u2, us = [u0, u1, u2] ∧ RelV v0 u0 ∧ RelV v u1 ∧ RelV w u2 := by
    cases r1 with
    | cons p0 q0 =>
      cases q0 with
      | cons p q =>
        cases q with
        | cons p' q' =>
          cases q'
          exact ⟨_, _, _, rfl, p0, p, p'⟩
  refine wpAny_newObj_type ?_ (by show 3 ≤ sizeLine; decide)
  have I2 : Inv X pins σ H1 { s1 with heap := s1.heap.push { cls := .type "tuple", data := .seq [u0, u1, u2].toArray } } := I1.kept (t' := s1.toks) fun b o e => Heap.get?_push_of_some _ e
  rw [hw]
  refine wpAny_bind (wpAny_pure ?_)
  show wpAny (model X.prog X.w) X.A (do rule "assign.swapped-stores"; let items ← unpackItems (.ref s1.heap.objs.size) 3 none; assignInOrder [fun v => bindName X.env z v, fun v => bindName X.env y v, fun v => bindName X.env x v] items.reverse; pure Flow.next) _ _ _
  refine wpAny_bind (wpAny_rule (wpAny_bind (unpackItems_tuple (items := #[u0, u1, u2]) (I.ok.hd hc) (IsTup.new s1.heap _) fun h' hx' => ?_)))
  have I3 := I2.kept (h' := h') (t' := s1.toks) fun b o e => hx' b o (Nat.ne_of_lt (Heap.lt_size e)) e
  show wpAny _ _ (assignInOrder [fun v => bindName X.env z v, fun v => bindName X.env y v, fun v => bindName X.env x v] [u2, u1, u0] >>= fun _ => pure Flow.next) _ _ _
  refine wpAny_bind (assignInOrder_cons (wpAny_bindName (store_ok I3 hN hk (.inl hz) rw' (fun s2 I4 => ?_) (.inr hz))))
  refine assignInOrder_cons (wpAny_bindName (store_ok I4 hN hj (.inl hy) rv (fun s3 I5 => ?_) (.inr hy)))
  refine assignInOrder_cons (wpAny_bindName (store_ok I5 hN hi (.inl hx) ru (fun s4 I6 => assignInOrder_nil (wpAny_pure ?_)) (.inr hx)))
  rw [List.set_comm _ _ (Ne.symm hij), List.set_comm _ _ (Ne.symm hik), List.set_comm _ _ (Ne.symm hjk)] at I6
  exact ⟨_, H1, I6, q1⟩
end
end L2
namespace Mth
open PySem PyProof.Rows
theorem fm_range (xs : Array Nat) (a n : Nat) (h : a + n ≤ xs.size) : List.filterMap (fun i => xs[i]?) ((List.range n).map fun k => a + k) = (xs.toList.drop a).take n := by
  induction n with
  | zero => simp
  | succ n ih =>
    rw [List.range_succ, List.map_append, List.filterMap_append, ih (by omega), List.take_add_one]
    have h1 : a + n < xs.size := by omega
    simp [h1]
theorem idx_none_lo (u : Option Int) (n : Nat) : Builtin.Str.strSliceIndices none u 1 n = Builtin.Str.strSliceIndices (some ((0 : Nat) : Int)) u 1 n := by
  unfold Builtin.Str.strSliceIndices
  simp
  rw [show min 0 (n : Int) = 0 by omega, Int.max_self]
theorem idx_none_hi (l : Option Int) (n : Nat) : Builtin.Str.strSliceIndices l none 1 n = Builtin.Str.strSliceIndices l (some (n : Int)) 1 n := by
  unfold Builtin.Str.strSliceIndices
  simp
  rw [if_neg (by omega), Int.min_self, show max 0 (n : Int) = n by omega]
theorem slice_mid (z : Str) (a b : Nat) (h1 : a ≤ b) (h2 : b ≤ z.cps.size) : (Txt.slice z (some (a : Int)) (some (b : Int))).cps.toList = (z.cps.toList.drop a).take (b - a) := by
  unfold Txt.slice
  have hl : z.length = z.cps.size := rfl
  rw [hl, StrLaws.strSliceIndices_plain h1 h2, List.length_map, List.length_range]
  split
  · rename_i h
    have h3 : b - a = z.cps.size := by simpa using h
    have ha : a = 0 := by omega
    subst ha
    rw [List.drop_zero, List.take_of_length_le (by simp; omega)]
  · exact fm_range z.cps a (b - a) (by omega)
theorem slice_lo (z : Str) (b : Nat) (h2 : b ≤ z.cps.size) : (Txt.slice z none (some (b : Int))).cps.toList = z.cps.toList.take b := by
  have e : Txt.slice z none (some (b : Int)) = Txt.slice z (some ((0 : Nat) : Int)) (some (b : Int)) := by
    unfold Txt.slice
    rw [idx_none_lo]
  rw [e, slice_mid z 0 b (Nat.zero_le _) h2]
  simp
theorem slice_hi (z : Str) (a : Nat) (h2 : a ≤ z.cps.size) : (Txt.slice z (some (a : Int)) none).cps.toList = z.cps.toList.drop a := by
  have e : Txt.slice z (some (a : Int)) none = Txt.slice z (some (a : Int)) (some (z.cps.size : Int)) := by
    unfold Txt.slice
    rw [idx_none_hi]
    rfl
  rw [e, slice_mid z a z.cps.size h2 (Nat.le_refl _), List.take_of_length_le (by simp)]
end Mth
namespace L2
open PySem PySem.Spec PyProof.Rows
variable {X : Cx}
theorem rng_vals {acc : Array Value} {n : Nat} (h : ItemsOf (fun i v => ∃ t, v = Value.int (0 + (i : Int) * 1) t) acc n) : Vals ((List.range n).map fun i : Nat => V.int (i : Int)) acc.toList := by
  obtain ⟨h1, h2⟩ := h
  have gen : ∀ (n k : Nat) (ls : List Value), ls.length = n → (∀ j v, ls[j]? = some v → ∃ t, v = Value.int (0 + ((k + j : Nat) : Int) * 1) t) → Vals ((List.range' k n).map fun i : Nat => V.int (i : Int)) ls := by
    intro n
    induction n with
    | zero => intro k ls hl _; have : ls = [] := List.length_eq_zero_iff.mp hl; subst this; exact .nil
    | succ n ih =>
      intro k ls hl hh
      cases ls with
      | nil => cases hl
      | cons v ls =>
        rw [List.range'_succ, List.map_cons]
        refine .cons ?_ (ih (k + 1) ls (by simpa using hl) fun j v e => ?_)
        · obtain ⟨t, rfl⟩ := hh 0 v rfl
          refine ⟨t, ?_⟩
          simp
        · have := hh (j + 1) v (by simpa using e)
          rwa [show k + (j + 1) = k + 1 + j by omega] at this
  have := gen n 0 acc.toList (by simpa using h1) fun j v e => by simpa using h2 j v (by simpa using e)
  rwa [← List.range_eq_range'] at this
/-- list(range(n)) -/
theorem call_list_rng (hc : X.calm = true) : CallR X (.type "list") (fun xs H Q => ∃ (p : Addr) (n : Nat), xs = [.ref p] ∧ H p = some (.rng 0 (n : Int)) ∧ n ≤ 1000 ∧ ∀ l, H l = none → Q (.ref l) (upd H l (.lst ((List.range n).map fun i : Nat => V.int (i : Int))))) := by
  intro pins s σ H xs us Q I r h
  obtain ⟨p, n, rfl, hp, hn, q⟩ := h
  obtain ⟨u, rfl, rx⟩ := vals1 r
  cases rx
  obtain ⟨t, u, v, e⟩ := (show ObjOk X.prog X.w H s.heap p (.rng 0 (n : Int)) from I.hok p _ hp)
  have hs : Builtin.Range.rangeSize 0 (n : Int) 1 = n := by rw [rangeSize_nat]; omega
  have fit : ∀ i : Int, 0 ≤ i → i ≤ 1000 → Builtin.Range.rangeFitsLong i = true := by
    intro i h0 h1
    unfold Builtin.Range.rangeFitsLong
    simp
    omega
  refine call_list_range (I.ok.hd hc) e ?_ hs (by omega) fun h' tk acc c' kp e' it => ?_
  · unfold Builtin.Range.small
    rw [hs, fit 0 (by decide) (by decide), fit n (by omega) (by omega), fit 1 (by decide) (by decide), if_pos (by decide), fit ((n : Int) + (1 - 1)) (by omega) (by omega)]
    simp
  · exact ⟨.ref s.heap.objs.size, _, I.laid (t' := tk) kp (Nat.le_refl _) (show ObjOk X.prog X.w _ h' _ (.lst _) from ⟨by simp; have := sizeLine_eq; omega, acc.toList, c', rng_vals it, by simpa using e'⟩), rfl, q _ (I.hok.fresh (Nat.le_refl _))⟩
end L2
namespace K
open PySem PyProof.Rows L2 Mth
def top (i : Nat) : Stmt := PySem.Challenge.pw_shorthead_k24_letters_parted.main.body.getD i (.Pass ⟨0, 0, 0, 0⟩)
abbrev sAreBits : Stmt := top 1
abbrev sNumberOf : Stmt := top 2
abbrev sWidthFor : Stmt := top 3
abbrev sBreadths : Stmt := top 8
abbrev sWidthOf : Stmt := top 10
abbrev sWidths : Stmt := top 11
abbrev sSizeOf : Stmt := top 12
abbrev sFormAt : Stmt := top 14
abbrev sSortWidth : Stmt := top 15
abbrev sCheckWidth : Stmt := top 16
abbrev sLetterSize : Stmt := top 17
abbrev sSortTold : Stmt := top 18
abbrev sParted : Stmt := top 19
abbrev sBox : Stmt := top 21
abbrev sNext : Stmt := top 22
abbrev sOf : Stmt := top 23
abbrev sValue : Stmt := top 24
abbrev sKind : Stmt := top 25
abbrev sShape : Stmt := top 26
abbrev sWay : Stmt := top 27
abbrev sForm : Stmt := top 28
abbrev sRoad : Stmt := top 29
abbrev sPact : Stmt := top 30
abbrev sAnyHead : Stmt := top 31
abbrev sBits : Stmt := top 32
abbrev sWidth : Stmt := top 33
abbrev sCheck : Stmt := top 34
abbrev sLWidthOf : Stmt := top 35
abbrev sLPieces : Stmt := top 36
abbrev sLetter : Stmt := top 37
abbrev sSame : Stmt := top 38
abbrev sRight : Stmt := top 39
abbrev sLaw : Stmt := top 40
structure Txt (mg : Str → Option Value) : Prop where
  ValueError : mg "ValueError" = none
  sum : mg "sum" = none
  range : mg "range" = none
  tuple : mg "tuple" = none
  enumerate : mg "enumerate" = none
  isi : mg "isinstance" = none
  str : mg "str" = none
  len : mg "len" = none
  min : mg "min" = none
  int : mg "int" = none
  all : mg "all" = none
  zip : mg "zip" = none
  abs : mg "abs" = none
  bool : mg "bool" = none
  list : mg "list" = none
def spLaw (K : PySem.W.Frag) : Sp := fun vs H Q _ => ∃ (a : Addr) (ns : List Int), vs = [.ref a] ∧ SqL K H a (ns.map V.int) ∧ ns.length ≤ 63 ∧ ∀ H', Q (.bl true) H'
theorem same_new {H H1 : Hp} {q : Addr} {o : HO} (s : Same H H1) (n : H1 q = none) : Same H (upd H1 q o) := fun b u e => by
  rw [upd_ne (ne_of_none (s b u e) n)]
  exact s b u e
end K
namespace K
open PySem PyProof.Rows L2 Mth
theorem op_mulB {X : Cx} : OpR X (binaryOp .Mult) (rI IntMulOk fun i j => .int (i * j)) := opI fun _ _ _ _ _ _ _ hc q => mul_int q hc
theorem far_ok1 : IntMulOk (10 ^ (60 : Int).toNat) (10 ^ (60 : Int).toNat) := by unfold IntMulOk; decide +kernel
theorem far_ok2 : IntMulOk (10 ^ (60 : Int).toNat * 10 ^ (60 : Int).toNat) (10 ^ (60 : Int).toNat) := by unfold IntMulOk; decide +kernel
theorem far_ok3 : IntMulOk (10 ^ (60 : Int).toNat * 10 ^ (60 : Int).toNat * 10 ^ (60 : Int).toNat) (10 ^ (60 : Int).toNat) := by unfold IntMulOk; decide +kernel
theorem far_ok4 : IntMulOk (10 ^ (60 : Int).toNat * 10 ^ (60 : Int).toNat * 10 ^ (60 : Int).toNat * 10 ^ (60 : Int).toNat) (10 ^ (60 : Int).toNat) := by unfold IntMulOk; decide +kernel
theorem far_pos : (0 : Int) < 10 ^ (60 : Int).toNat * 10 ^ (60 : Int).toNat * 10 ^ (60 : Int).toNat * 10 ^ (60 : Int).toNat * 10 ^ (60 : Int).toNat := by decide +kernel
def potL (q : Addr) (seed turn : Int) : List (L2.Key × V) := [(Sum.inr "own", .ref q), (Sum.inr "seed", .int seed), (Sum.inr "turn", .int turn)]
/-- the box at p, its own numbers at q, c turns at most behind it -/
def PotD (H : Hp) (p q : Addr) (c : Int) : Prop := ∃ (own : List Int) (seed turn : Int), H p = some (.dK (potL q seed turn)) ∧ H q = some (.lst (own.map V.int)) ∧ own.length ≤ 100 ∧ (∀ a ∈ own, 0 ≤ a) ∧ 0 ≤ seed ∧ seed < 2 ^ 62 ∧ 0 ≤ turn ∧ turn ≤ c
def But2 (p q : Addr) (H H' : Hp) : Prop := ∀ b o, H b = some o → b ≠ p → b ≠ q → H' b = some o
theorem pd_new {H : Hp} {p qa a : Addr} {c : Int} {o : HO} (h : PotD H p qa c) (n : H a = none) : PotD (upd H a o) p qa c := by
  obtain ⟨own, sd, tn, h1, h2, r⟩ := h
  exact ⟨own, sd, tn, by rw [upd_ne (ne_of_none h1 n)]; exact h1, by rw [upd_ne (ne_of_none h2 n)]; exact h2, r⟩
theorem pd_ne {H : Hp} {p qa a : Addr} {c : Int} (h : PotD H p qa c) (n : H a = none) : a ≠ p ∧ a ≠ qa := by
  obtain ⟨own, sd, tn, h1, h2, r⟩ := h
  exact ⟨(ne_of_none h1 n).symm, (ne_of_none h2 n).symm⟩
theorem pd_upd {p qa a : Addr} {H : Hp} {c : Int} {o : HO} (h : PotD H p qa c) (n1 : a ≠ p) (n2 : a ≠ qa) : PotD (upd H a o) p qa c := by
  obtain ⟨own, sd, tn, h1, h2, r⟩ := h
  exact ⟨own, sd, tn, by rw [upd_ne (Ne.symm n1)]; exact h1, by rw [upd_ne (Ne.symm n2)]; exact h2, r⟩
theorem pd_same {p qa : Addr} {c : Int} {H H' : Hp} (h : PotD H p qa c) (s : Same H H') : PotD H' p qa c := by
  obtain ⟨own, sd, tn, h1, h2, r⟩ := h
  exact ⟨own, sd, tn, s _ _ h1, s _ _ h2, r⟩
theorem pd_nn {p qa : Addr} {c : Int} {H : Hp} (h : PotD H p qa c) : 0 ≤ c := by
  obtain ⟨own, sd, tn, h1, h2, h3, h4, h5, h6, h7, h8⟩ := h
  omega
theorem pd_le {p qa : Addr} {c c' : Int} {H : Hp} (h : PotD H p qa c) (hc : c ≤ c') : PotD H p qa c' := by
  obtain ⟨own, sd, tn, h1, h2, h3, h4, h5, h6, h7, h8⟩ := h
  exact ⟨own, sd, tn, h1, h2, h3, h4, h5, h6, h7, by omega⟩
theorem b2_refl {p qa : Addr} {H : Hp} : But2 p qa H H := fun _ _ e _ _ => e
theorem b2_trans {p qa : Addr} {H H1 H2 : Hp} (a : But2 p qa H H1) (b : But2 p qa H1 H2) : But2 p qa H H2 := fun c o e h1 h2 => b c o (a c o e h1 h2) h1 h2
theorem b2_new {p qa a : Addr} {H H1 : Hp} {o : HO} (h : But2 p qa H H1) (n : H1 a = none) : But2 p qa H (upd H1 a o) := fun c u e h1 h2 => by
  have := h c u e h1 h2
  rw [upd_ne (ne_of_none this n)]
  exact this
theorem b2_same {p qa : Addr} {H H1 H2 : Hp} (h : But2 p qa H H1) (s : Same H1 H2) : But2 p qa H H2 := fun b o e n1 n2 => s _ _ (h b o e n1 n2)
theorem b2_upd {p qa a : Addr} {H H' : Hp} {o : HO} (k : But2 p qa H H') (h : H a = none) : But2 p qa H (upd H' a o) := fun b u e h1 h2 => by
  rw [upd_ne (ne_of_none e h)]
  exact k b u e h1 h2
theorem b2_tup {p qa : Addr} {c : Int} {H H' : Hp} (pot : PotD H p qa c) (k : But2 p qa H H') : ∀ a xs, H a = some (.tup xs) → H' a = some (.tup xs) := fun a xs e => by
  obtain ⟨own, sd, tn, h1, h2, r⟩ := pot
  exact k a _ e (fun z => by rw [z, h1] at e; cases e) (fun z => by rw [z, h2] at e; cases e)
theorem yesG {i : Nat} {v : V} {σ : L2.St} {H : Hp} {A B : L2.St → Hp → Prop} (h : A (σ.set i (some v)) H) : gName i v σ H fun σ2 H2 => tYes σ2 H2 fun b H3 => if b = true then A σ2 H3 else B σ2 H3 := (if_pos rfl : (if true = true then A (σ.set i (some v)) H else B (σ.set i (some v)) H) = A (σ.set i (some v)) H).mpr h
theorem yesS {σ : L2.St} {H : Hp} {A B : Hp → Prop} (h : A H) : tYes σ H fun b H3 => if b = true then A H3 else B H3 := (if_pos rfl : (if true = true then A H else B H) = A H).mpr h
theorem atI_ints (ms : List Int) (d : Int) (h0 : 0 ≤ d) (h1 : d < ms.length) : ∃ m, m ∈ ms ∧ atI (ms.map V.int) d = some (.int m) := by
  obtain ⟨j, rfl⟩ : ∃ j : Nat, d = (j : Int) := ⟨d.toNat, by omega⟩
  have hj : j < ms.length := by omega
  exact ⟨ms[j], List.getElem_mem hj, atI_nat (by simp [hj])⟩
theorem atI_mem {α : Type} (ms : List α) (d : Int) (h0 : 0 ≤ d) (h1 : d < ms.length) : ∃ m, m ∈ ms ∧ atI ms d = some m := by
  obtain ⟨j, rfl⟩ : ∃ j : Nat, d = (j : Int) := ⟨d.toNat, by omega⟩
  have hj : j < ms.length := by omega
  exact ⟨ms[j], List.getElem_mem hj, atI_nat (by simp [hj])⟩
theorem iteD {p A B : Prop} [Decidable p] (hp : p) (h : A) : if decide p = true then A else B := by rw [decide_eq_true hp]; exact iteT h
theorem iteDN {p A B : Prop} [Decidable p] (hp : ¬ p) (h : B) : if decide p = true then A else B := by rw [decide_eq_false hp]; exact iteF h
theorem get_map {α β : Type} {f : α → β} {xs : List α} {j : Nat} {x : β} (h : (xs.map f)[j]? = some x) : ∃ hj : j < xs.length, x = f xs[j] := by
  rw [List.getElem?_map] at h
  cases e : xs[j]? with
  | none => rw [e] at h; cases h
  | some v =>
    rw [e] at h
    obtain ⟨hj, rfl⟩ := List.getElem?_eq_some_iff.mp e
    exact ⟨hj, (Option.some.inj h).symm⟩
theorem all_rep : ∀ n : Nat, (List.replicate n true).all id = true
  | 0 => rfl
  | n + 1 => by rw [List.replicate_succ, List.all_cons, all_rep n]; rfl
theorem mod_small (x : Int) : -(2 ^ 64) < x % 1000003 + 69621 ∧ x % 1000003 + 69621 < 2 ^ 64 := by
  have h0 := Int.emod_nonneg x (b := 1000003) (by decide)
  have h1 := Int.emod_lt_of_pos x (b := 1000003) (by decide)
  omega
theorem atI0 {x : V} {xs : List V} : atI (x :: xs) (0 : Int) = some x := atI_nat (xs := x :: xs) (j := 0) rfl
def spNext : Sp := fun vs H Q _ => ∃ (p q : Addr) (m c : Int), vs = [.ref p, .int m] ∧ PotD H p q c ∧ c < 2 ^ 40 ∧ 0 < m ∧ m < 2 ^ 64 ∧ ∀ (d : Int) (H' : Hp), 0 ≤ d → d < m → PotD H' p q (c + 1) → But2 p q H H' → Q (.int d) H'
def spBox (K : PySem.W.Frag) : Sp := fun vs H Q _ => ∃ (a : Addr) (ns : List Int), vs = [.ref a] ∧ SqL K H a (ns.map V.int) ∧ ns.length ≤ 63 ∧ ∀ (p qa : Addr) (H' : Hp), H p = none → H qa = none → PotD H' p qa 0 → Same H H' → Q (.ref p) H'
/-- one of some -/
def spOf : Sp := fun vs H Q _ => ∃ (p q l : Addr) (xs : List V) (c : Int), vs = [.ref p, .ref l] ∧ PotD H p q c ∧ c < 2 ^ 40 ∧ H l = some (.lst xs) ∧ l ≠ p ∧ l ≠ q ∧ 0 < xs.length ∧ xs.length < 1000 ∧ ∀ (x : V) (H' : Hp), x ∈ xs → PotD H' p q (c + 1) → But2 p q H H' → Q x H'
def spValue : Sp := fun vs H Q _ => ∃ (p q : Addr) (b c : Int), vs = [.ref p, .int b] ∧ PotD H p q c ∧ c < 2 ^ 39 ∧ 1 ≤ b ∧ b ≤ 60 ∧ ∀ (d : Int) (H' : Hp), 0 ≤ d → d < 2 ^ b.toNat → PotD H' p q (c + 2) → But2 p q H H' → Q (.int d) H'
section
variable {P : Program} {w : World} {K : PySem.W.Frag} {mg : Str → Option Value} {base : Heap}
theorem scNext : FnScope ["_law_box_here", "_law_many", "_law_digit", "_law_turn", "_law_mixed"] ["_law_box_here", "_law_many"] (defScope sNext) := ⟨rfl, rfl, rfl, by decide +kernel, rfl, by decide +kernel, by decide +kernel⟩
theorem ok_next {f : Addr} {fd : FuncData} (F : Fun K "_law_next" "_law_next" sNext f fd) : FnOk P w K mg base CX0 1 f fd ["_law_box_here", "_law_many"] spNext := by
  refine F.ok scNext (fun vs H Q E h => ?_) (fun cdv A outer s H vs Q E hr h => ?_)
  · obtain ⟨_, _, _, _, rfl, _⟩ := h
    rfl
  · obtain ⟨p, qa, m, c, rfl, ⟨own, seed, turn, hp, hq, ol, ob, s0, s1, t0, t1⟩, hc, m0, m1, q⟩ := h
    refine ⟨_, (pss_cons (ps_while PassesOwn.never (PW.pt (pw_and (pt_cmpR (op_neLI hr.units) (pe_dget (hu_of hr) (pv 0) pe_str (fun _ _ => rfl)) (pe_lst pa_nil) (nomark _)) (pw_and1 (pt_cmpR op_eq (pe_ix ix_list (pe_dget (hu_of hr) (pv 0) pe_str (fun _ _ => rfl)) pe_int (fun _ _ => rfl)) pe_int (nomark _)))))
      (pss_one (ps_expr (pe_bm PySem.F.plainAttrs_list PySem.F.slot_list_pop PySem.F.type_list_pop mt_popAt (pe_dget (hu_of hr) (pv 0) pe_str (fun _ _ => rfl)) (pa_cons pe_int pa_nil)))))
      (pss_cons (ps_if (pt_cmpR (op_neLI hr.units) (pe_dget (hu_of hr) (pv 0) pe_str (fun _ _ => rfl)) (pe_lst pa_nil) (nomark _))
      (pss_cons (ps_set (i := 2) scNext.nd rfl (Or.inl rfl) (pe_op op_mod (pe_ix ix_list (pe_dget (hu_of hr) (pv 0) pe_str (fun _ _ => rfl)) pe_int (fun _ _ => rfl)) (pv 1)))
      (pss_cons (ps_asg (pe_op op_fdivL (pe_ix ix_list (pe_dget (hu_of hr) (pv 0) pe_str (fun _ _ => rfl)) pe_int (fun _ _ => rfl)) (pv 1)) (pg_sub (pe_dget (hu_of hr) (pv 0) pe_str (fun _ _ => rfl)) pe_int set_list))
      (pss_one (ps_ret (pv 2)))))
      pss_nil)
      (pss_cons (ps_dput (hu_of hr) (pv 0) pe_str (pe_op op_add (pe_dget (hu_of hr) (pv 0) pe_str (fun _ _ => rfl)) pe_int) rfl)
      (pss_cons (ps_set (i := 3) scNext.nd rfl (Or.inl rfl) (pe_dget (hu_of hr) (pv 0) pe_str (fun _ _ => rfl)))
      (pss_cons (ps_set (i := 4) scNext.nd rfl (Or.inl rfl) (pe_op op_add (pe_op op_add (pe_dget (hu_of hr) (pv 0) pe_str (fun _ _ => rfl)) (pe_op op_mul (pe_op op_mul (pv 3) (pv 3)) pe_int)) (pe_op op_mul (pv 3) pe_int)))
      (pss_cons (ps_set (i := 4) scNext.nd rfl (Or.inl rfl) (pe_op op_mod (pe_op op_mul (pv 4) pe_int) pe_int))
      (pss_cons (ps_set (i := 4) scNext.nd rfl (Or.inl rfl) (pe_op op_mod (pe_op op_mul (pv 4) (pe_op op_add (pe_op op_mod (pv 4) pe_int) pe_int)) pe_int))
      (pss_one (ps_ret (pe_op op_mod (pe_op op_fdiv (pv 4) pe_int) (pv 1))))))))))), ?_⟩
    have pq : p ≠ qa := ne_of hp hq (by intro z; cases z)
    refine ⟨fun k σ H1 => ∃ own : List Int, σ = [some (.ref p), some (.int m), none, none, none] ∧ k = own.length ∧ H1 p = some (.dK (potL qa seed turn)) ∧ H1 qa = some (.lst (own.map V.int)) ∧ own.length ≤ 100 ∧ (∀ a ∈ own, 0 ≤ a) ∧ But2 p qa H H1, ⟨_, own, rfl, rfl, hp, hq, ol, ob, b2_refl⟩, ?_⟩
    rintro k σ H1 ⟨own, rfl, rfl, hp, hq, ol, ob, k1⟩
    refine ⟨_, rfl, p, _, rfl, DGet.k (k := Sum.inr "own") hp, (by show 0 ≤ sizeLine; decide), fun l hl => ?_⟩
    have sl := same_new (o := .lst []) (Same.refl H1) hl
    have hp1 := sl _ _ hp
    have hq1 := sl _ _ hq
    have k2 := b2_same k1 sl
    refine ⟨qa, l, own, [], rfl, rfl, SqL.of hq1, SqL.of upd_same, _, rfl, ?_⟩
    generalize upd H1 l (.lst []) = H2 at hp1 hq1 k2
    cases own with
    | nil =>
      refine iteF ?_
      refine ⟨_, rfl, p, _, rfl, DGet.k (k := Sum.inr "own") hp1, (by show 0 ≤ sizeLine; decide), fun l hl => ?_⟩
      have sl := same_new (o := .lst []) (Same.refl H2) hl
      have hp3 := sl _ _ hp1
      have hq3 := sl _ _ hq1
      have k3 := b2_same k2 sl
      refine ⟨qa, l, [], [], rfl, rfl, SqL.of hq3, SqL.of upd_same, _, rfl, iteF ?_⟩
      generalize upd H2 l (.lst []) = H3 at hp3 hq3 k3
      refine ⟨_, rfl, p, _, rfl, DGet.k (k := Sum.inr "turn") hp3, _, _, rfl, rfl, _, rfl, p, _, rfl, DPut.k (k := Sum.inr "turn") hp3 (by show 3 < sizeLine; decide), ?_⟩
      refine ⟨_, rfl, p, _, rfl, DGet.k (k := Sum.inr "turn") upd_same, ?_⟩
      refine ⟨_, rfl, p, _, rfl, DGet.k (k := Sum.inr "seed") upd_same, _, rfl, _, rfl, _, _, rfl, rfl, .inl ⟨by omega, by omega⟩, _, _, rfl, rfl, .inr ⟨by decide, by decide⟩, _, _, rfl, rfl, _, rfl, _, _, rfl, rfl, .inr ⟨by decide, by decide⟩, _, _, rfl, rfl, ?_⟩
      refine ⟨_, rfl, _, _, rfl, rfl, .inr ⟨by decide, by decide⟩, _, _, rfl, rfl, (by show (0 : Int) < 2305843009213693921; decide), ?_⟩
      refine ⟨_, rfl, _, rfl, _, _, rfl, rfl, (by show (0 : Int) < 1000003; decide), _, _, rfl, rfl, _, _, rfl, rfl, .inr (mod_small _), _, _, rfl, rfl, (by show (0 : Int) < 2305843009213693907; decide), ?_⟩
      refine ⟨_, rfl, _, _, rfl, rfl, ⟨by decide, by decide⟩, _, rfl, _, _, rfl, rfl, m0, q _ _ (Int.emod_nonneg _ (by omega)) (Int.emod_lt_of_pos _ m0) ⟨[], seed, turn + 1, upd_same, ?_, ol, ob, s0, s1, by omega, by omega⟩ ?_⟩
      · rw [upd_ne (Ne.symm pq)]
        exact hq3
      · intro b o e h1 h2
        rw [upd_ne h1]
        exact k3 b o e h1 h2
    | cons o0 rest0 =>
      have ob0 : 0 ≤ o0 := ob o0 (by simp)
      have ob3 : ∀ a ∈ rest0, 0 ≤ a := fun a h => ob a (List.mem_cons_of_mem _ h)
      rw [List.length_cons] at ol
      refine iteT ⟨_, rfl, p, _, rfl, DGet.k (k := Sum.inr "own") hp1, qa, _, _, _, rfl, rfl, SqL.of hq1, atI0, rfl, _, rfl, ite2 (fun z => ?_) (fun z => ?_)⟩
      · refine ⟨fun σ H4 => ∃ own : List Int, σ = [some (.ref p), some (.int m), none, none, none] ∧ own.length < rest0.length + 1 ∧ H4 p = some (.dK (potL qa seed turn)) ∧ H4 qa = some (.lst (own.map V.int)) ∧ own.length ≤ 100 ∧ (∀ a ∈ own, 0 ≤ a) ∧ But2 p qa H H4, ?_, ?_⟩
        · rintro σ' H' ⟨own, e, l1, a1, a2, a3, a4, a5⟩
          exact ⟨own.length, l1, own, e, rfl, a1, a2, a3, a4, a5⟩
        · refine ⟨_, rfl, p, _, rfl, DGet.k (k := Sum.inr "own") hp1, .inl ⟨rfl, _, SqL.of hq1⟩, qa, _, 0, 0, .int o0, rfl, rfl, hq1, by decide, by decide, ?_, rfl, ?_⟩
          · unfold seqIndex?
            simp
          · refine ⟨rest0, rfl, Nat.lt_succ_self _, ?_, upd_same, by omega, ob3, ?_⟩
            · rw [upd_ne pq]
              exact hp1
            · intro b o e h1 h2
              rw [upd_ne h2]
              exact k2 b o e h1 h2
      · refine ⟨_, rfl, p, _, rfl, DGet.k (k := Sum.inr "own") hp1, (by show 0 ≤ sizeLine; decide), fun l hl => ?_⟩
        have sl := same_new (o := .lst []) (Same.refl H2) hl
        have hp3 := sl _ _ hp1
        have hq3 := sl _ _ hq1
        have k3 := b2_same k2 sl
        refine ⟨qa, l, o0 :: rest0, [], rfl, rfl, SqL.of hq3, SqL.of upd_same, _, rfl, iteT ?_⟩
        generalize upd H2 l (.lst []) = H3 at hp3 hq3 k3
        refine ⟨_, rfl, p, _, rfl, DGet.k (k := Sum.inr "own") hp3, qa, _, _, _, rfl, rfl, SqL.of hq3, atI0, _, rfl, _, _, rfl, rfl, m0, ?_⟩
        refine ⟨_, rfl, p, _, rfl, DGet.k (k := Sum.inr "own") hp3, qa, _, _, _, rfl, rfl, SqL.of hq3, atI0, _, rfl, _, _, rfl, rfl, ⟨m0, m1⟩, ?_⟩
        refine ⟨_, rfl, p, _, rfl, DGet.k (k := Sum.inr "own") hp3, qa, _, _, 0, rfl, rfl, hq3, (by unfold ixN; simp), ?_⟩
        refine ⟨_, rfl, q _ _ (Int.emod_nonneg _ (by omega)) (Int.emod_lt_of_pos _ m0) ⟨o0 / m :: rest0, seed, turn, ?_, upd_same, by rw [List.length_cons]; omega, ?_, s0, s1, t0, by omega⟩ ?_⟩
        · rw [upd_ne pq]
          exact hp3
        · intro a ha
          rcases List.mem_cons.mp ha with h | h
          · rw [h]
            exact Int.ediv_nonneg ob0 (by omega)
          · exact ob3 a h
        · intro b o e h1 h2
          rw [upd_ne h2]
          exact k3 b o e h1 h2
theorem scBox : FnScope ["_law_script", "_law_seed", "_law_own", "_law_far", "_law_cell"] ["_law_script"] (defScope sBox) := ⟨rfl, rfl, rfl, by decide +kernel, rfl, by decide +kernel, by decide +kernel⟩
set_option maxHeartbeats 4000000 in
theorem ok_box {f : Addr} {fd : FuncData} (F : Fun K "_law_box" "_law_box" sBox f fd) (T : Txt mg) : FnOk P w K mg base CX0 1 f fd ["_law_script"] (spBox K) := by
  refine F.ok scBox (fun vs H Q E h => ?_) (fun cdv A outer s H vs Q E hr h => ?_)
  · obtain ⟨_, _, rfl, _⟩ := h
    rfl
  · obtain ⟨a, ns, rfl, hS, hlen, q⟩ := h
    refine ⟨_, (pss_cons (ps_set (i := 1) scBox.nd rfl (Or.inl rfl) pe_int)
      (pss_cons (ps_set (i := 2) scBox.nd rfl (Or.inl rfl) (pe_lst pa_nil))
      (pss_cons (ps_set (i := 3) scBox.nd rfl (Or.inl rfl) (pe_op op_mulB (pe_op op_mulB (pe_op op_mulB (pe_op op_mulB (pe_op op_pow pe_int pe_int) (pe_op op_pow pe_int pe_int)) (pe_op op_pow pe_int pe_int)) (pe_op op_pow pe_int pe_int)) (pe_op op_pow pe_int pe_int)))
      (pss_cons (ps_for PassesOwn.never rfl (pi_list (pe_slice sl_list (pv 0) po_none (po_some pe_int))) (pg_name (i := 4) scBox.nd rfl (Or.inl rfl))
      (pss_cons (ps_set (i := 1) scBox.nd rfl (Or.inl rfl) (pe_op op_mod (pe_op op_add (pe_op op_add (pe_op op_mul (pv 1) pe_int) (pe_op op_mod (pv 4) (pe_op op_pow pe_int pe_int))) pe_int) pe_int))
      (pss_one (ps_if (pt_cmpR op_ge (pe_callB call_abs (by rfl) T.abs boot_abs (pa_cons (pv 4) pa_nil)) (pe_op op_pow pe_int pe_int) (nomark _))
      (pss_one (ps_expr (pe_bm PySem.F.plainAttrs_list PySem.F.slot_list_append PySem.F.type_list_append mt_append (pv 2) (pa_cons (pe_op op_mod (pe_callB call_abs (by rfl) T.abs boot_abs (pa_cons (pv 4) pa_nil)) (pv 3)) pa_nil))))
      pss_nil))))
      (pss_one (ps_ret (pe_disp (pps_cons pe_str (pv 2) (pps_cons pe_str (pv 1) (pps_cons pe_str pe_int pps_nil))) rfl rfl (by simp) (by decide)))))))), ?_⟩
    refine ⟨(by show 0 ≤ sizeLine; decide), fun ow how => ?_⟩
    have s1 := same_new (o := .lst []) (Same.refl H) how
    refine ⟨_, _, rfl, rfl, ⟨by decide, by decide, by decide⟩, _, _, rfl, rfl, ⟨by decide, by decide, by decide⟩, _, _, rfl, rfl, far_ok1, ?_⟩
    refine ⟨_, _, rfl, rfl, ⟨by decide, by decide, by decide⟩, _, _, rfl, rfl, far_ok2, _, _, rfl, rfl, ⟨by decide, by decide, by decide⟩, _, _, rfl, rfl, far_ok3, _, _, rfl, rfl, ⟨by decide, by decide, by decide⟩, _, _, rfl, rfl, far_ok4, ?_⟩
    obtain ⟨N, hN, eN⟩ : ∃ N : Int, 0 < N ∧ (10 : Int) ^ (60 : Int).toNat * 10 ^ (60 : Int).toNat * 10 ^ (60 : Int).toNat * 10 ^ (60 : Int).toNat * 10 ^ (60 : Int).toNat = N := ⟨_, far_pos, rfl⟩
    refine ⟨_, rfl, _, rfl, a, _, rfl, s1.seq hS, fun sc hsc => ?_⟩
    have cut : cutV (ns.map V.int) none (some (63 : Int)) = ns.map V.int := by
      unfold cutV
      show ((ns.map V.int).drop (HT.sIx _ 0 none)).take (HT.sIx _ _ (some ((63 : Nat) : Int)) - HT.sIx _ 0 none) = _
      rw [HT.sIx_nat, HT.sIx_none, Nat.min_eq_right (by rw [List.length_map]; omega)]
      simp
      exact List.take_of_length_le (by simp)
    rw [cut]
    have s2 := same_new (o := .lst (ns.map V.int)) s1 hsc
    have son : sc ≠ ow := fun z => by
      rw [z, upd_same] at hsc
      cases hsc
    refine ⟨sc, rfl, ⟨_, SqL.of upd_same⟩, for_list (xs := ns.map V.int) (fun i σ H2 => ∃ (seed : Int) (own : List Int) (v4 : Option V), σ = [some (.ref a), some (.int seed), some (.ref ow), some (.int N), v4] ∧ Same H H2 ∧ H2 ow = some (.lst (own.map V.int)) ∧ H2 sc = some (.lst (ns.map V.int)) ∧ 0 ≤ seed ∧ seed < 2 ^ 62 ∧ own.length ≤ i ∧ ∀ a ∈ own, 0 ≤ a)
      ⟨41, [], none, (by rw [← eN]; rfl), s2, (by rw [upd_ne (Ne.symm son)]; exact upd_same), upd_same, by decide, by decide, Nat.le_refl _, fun a h => (nomatch h)⟩ (fun i σ H2 _ ⟨_, _, _, _, _, _, h, _⟩ => SqL.of h) ?_ ?_⟩
    · rintro i x σ H2 hx ⟨seed, own, v4, rfl, s3, hov, hsv, e0, e1, ol, ob⟩
      obtain ⟨hil, rfl⟩ := get_map hx
      have z0 := Int.emod_nonneg (seed * 1000003 + ns[i] % 10 ^ (30 : Int).toNat + 7) (b := 2305843009213693951) (by decide)
      have z1 := Int.emod_lt_of_pos (seed * 1000003 + ns[i] % 10 ^ (30 : Int).toNat + 7) (b := 2305843009213693951) (by decide)
      have hline := sizeLine_eq
      refine ⟨_, rfl, _, _, rfl, rfl, .inr ⟨by decide, by decide⟩, _, rfl, _, _, rfl, rfl, ⟨by decide, by decide, by decide⟩, _, _, rfl, rfl, (by show (0 : Int) < 10 ^ 30; decide), _, _, rfl, rfl, _, _, rfl, rfl, _, _, rfl, rfl, (by show (0 : Int) < 2305843009213693951; decide), ?_⟩
      refine ⟨_, rfl, _, rfl, _, _, rfl, rfl, ⟨by decide, by decide, by decide⟩, _, _, rfl, rfl, _, rfl, ite2 (fun y => ?_) (fun y => ?_)⟩
      · refine ⟨_, rfl, .inl ⟨rfl, _, SqL.of hov⟩, _, rfl, _, rfl, _, rfl, _, _, rfl, rfl, hN, ow, _, _, rfl, rfl, hov, (by rw [List.length_map]; omega), ?_⟩
        refine ⟨_, own ++ [(if ns[i] < 0 then -ns[i] else ns[i]) % N], _, rfl, fun b o e => ?_, ?_, ?_, z0, by omega, by rw [List.length_append]; show own.length + 1 ≤ i + 1; omega, fun b hb => ?_⟩
        · rw [upd_ne (ne_of_none e how)]
          exact s3 b o e
        · rw [upd_same, List.map_append]
          rfl
        · rw [upd_ne son]
          exact hsv
        · rcases List.mem_append.mp hb with h | h
          · exact ob b h
          · rw [List.mem_singleton.mp h]
            exact Int.emod_nonneg _ (by omega)
      · exact ⟨_, own, _, rfl, s3, hov, hsv, z0, by omega, by omega, ob⟩
    · rintro σ H2 ⟨seed, own, v4, rfl, s3, hov, hsv, e0, e1, ol, ob⟩
      rw [List.length_map] at ol
      intro p hp
      have s4 := same_new (o := .dK []) (Same.refl H2) hp
      refine ⟨_, rfl, _, rfl, upd_same, potL ow seed 0, rfl, (by show 3 ≤ 15; decide), ?_⟩
      have np : H p = none := s3.free hp
      have po : ow ≠ p := ne_of_none hov hp
      refine q p ow _ np how ⟨own, seed, 0, upd_same, ?_, by omega, ob, e0, e1, by decide, by decide⟩ ?_
      · rw [upd_ne po, upd_ne po]
        exact hov
      · intro b o e
        have nb : b ≠ p := ne_of_none e np
        rw [upd_ne nb, upd_ne nb]
        exact s3 b o e
theorem scOf : FnScope ["_law_box_here", "_law_some"] ["_law_box_here", "_law_some"] (defScope sOf) := ⟨rfl, rfl, rfl, by decide +kernel, rfl, by decide +kernel, by decide +kernel⟩
theorem ok_of {f : Addr} {fd : FuncData} (F : Fun K "_law_of" "_law_of" sOf f fd) (T : Txt mg) {fNext : Addr} {fdNext : FuncData} (FNext : Fun K "_law_next" "_law_next" sNext fNext fdNext) (bNext : Binds K fdNext ["_law_box_here", "_law_many"] []) (mNext : mg "_law_next" = some (.ref fNext)) : FnOk P w K mg base CX0 2 f fd ["_law_box_here", "_law_some"] spOf := by
  have GNext : FnOk P w K mg base CX0 1 fNext fdNext ["_law_box_here", "_law_many"] spNext := ok_next FNext
  refine F.ok scOf (fun vs H Q E h => ?_) (fun cdv A outer s H vs Q E hr h => ?_)
  · obtain ⟨_, _, _, _, _, rfl, _⟩ := h
    rfl
  · obtain ⟨p, qa, l, xs, c, rfl, pot, hc, hl, n1, n2, x0, x1, q⟩ := h
    refine ⟨_, (pss_one (ps_ret (pe_ix ix_list (pv 1) (pe_call GNext (hr.mono (by decide)) rfl mNext FNext.kp bNext .nil pass0 (pa_cons (pv 0) (pa_cons (pe_callB call_len_seq (by rfl) T.len PySem.boot_len (pa_cons (pv 1) pa_nil)) pa_nil))) (fun _ _ => rfl)))), ?_⟩
    refine ⟨_, rfl, _, rfl, _, rfl, l, xs, rfl, .inl (SqL.of hl), p, qa, _, c, rfl, pot, hc, by omega, by omega, fun d H1 d0 d1 pot1 k1 => ?_⟩
    obtain ⟨z, hz, ez⟩ := atI_mem xs d d0 d1
    exact ⟨l, _, _, _, rfl, rfl, SqL.of (k1 _ _ hl n1 n2), ez, q z H1 hz pot1 k1⟩
theorem scValue : FnScope ["_law_box_here", "_law_breadth", "_law_some"] ["_law_box_here", "_law_breadth"] (defScope sValue) := ⟨rfl, rfl, rfl, by decide +kernel, rfl, by decide +kernel, by decide +kernel⟩
theorem ok_value {f : Addr} {fd : FuncData} (F : Fun K "_law_value" "_law_value" sValue f fd) (T : Txt mg) {fNext : Addr} {fdNext : FuncData} (FNext : Fun K "_law_next" "_law_next" sNext fNext fdNext) (bNext : Binds K fdNext ["_law_box_here", "_law_many"] []) (mNext : mg "_law_next" = some (.ref fNext)) : FnOk P w K mg base CX0 2 f fd ["_law_box_here", "_law_breadth"] spValue := by
  have GNext : FnOk P w K mg base CX0 1 fNext fdNext ["_law_box_here", "_law_many"] spNext := ok_next FNext
  refine F.ok scValue (fun vs H Q E h => ?_) (fun cdv A outer s H vs Q E hr h => ?_)
  · obtain ⟨_, _, _, _, rfl, _⟩ := h
    rfl
  · obtain ⟨p, qa, b, c, rfl, pot, hc, b0, b1, q⟩ := h
    have hp := two_pow_pos b.toNat
    have h60 : (2 : Int) ^ b.toNat ≤ 2 ^ 60 := two_pow_mono (by omega)
    refine ⟨_, (pss_cons (ps_set (i := 2) scValue.nd rfl (Or.inl rfl) (pe_lst (pa_cons pe_int (pa_cons pe_int (pa_cons (pe_op op_sub (pe_op op_shl pe_int (pv 1)) pe_int) (pa_cons (pe_call GNext (hr.mono (by decide)) rfl mNext FNext.kp bNext .nil pass0 (pa_cons (pv 0) (pa_cons (pe_op op_shl pe_int (pv 1)) pa_nil))) pa_nil))))))
      (pss_one (ps_ret (pe_op op_mod (pe_ix ix_list (pv 2) (pe_call GNext (hr.mono (by decide)) rfl mNext FNext.kp bNext .nil pass0 (pa_cons (pv 0) (pa_cons pe_int pa_nil))) (fun _ _ => rfl)) (pe_op op_shl pe_int (pv 1)))))), ?_⟩
    refine ⟨_, rfl, _, _, rfl, rfl, ⟨by omega, by omega, by decide⟩, _, _, rfl, rfl, _, rfl, _, rfl, _, _, rfl, rfl, ⟨by omega, by omega, by decide⟩, p, qa, _, c, rfl, pot, by omega, by omega, by omega, fun d1 H1 a0 a1 pot1 k1 => ⟨(by show 4 ≤ sizeLine; decide), fun l hl => ?_⟩⟩
    obtain ⟨n1, n2⟩ := pd_ne pot1 hl
    refine ⟨_, rfl, _, rfl, p, qa, _, _, rfl, pd_new pot1 hl, by omega, by decide, by decide, fun d2 H2 e0 e1 pot2 k2 => ?_⟩
    obtain ⟨z, hz, ez⟩ := atI_ints [0, 1, 1 * 2 ^ b.toNat - 1, d1] d2 e0 e1
    refine ⟨l, _, _, _, rfl, rfl, SqL.of (k2 l _ upd_same n1 n2), ez, _, rfl, _, _, rfl, rfl, ⟨by omega, by omega, by decide⟩, _, _, rfl, rfl, (by show (0 : Int) < 1 * 2 ^ b.toNat; omega), ?_⟩
    refine q _ _ (Int.emod_nonneg _ (by omega)) (by have := Int.emod_lt_of_pos z (b := 1 * 2 ^ b.toNat) (by omega); omega) (by rw [show c + 2 = c + 1 + 1 by omega]; exact pot2) (b2_trans (b2_new k1 hl) k2)
end
end K
namespace K
open PySem PyProof.Rows L2 Mth
def one (c : Nat) : Str := ⟨#[c]⟩
theorem str_ext {a b : Str} (h : a.cps.toList = b.cps.toList) : a = b := by
  cases a; cases b
  congr 1
  exact Array.ext' h
/-- the text of a number's places, the greatest first -/
def Tx (n : Int) (w : Nat) : Str := ⟨(Ds n w).reverse.toArray⟩
def Bits (z : Str) : Prop := ∀ c ∈ z.cps.toList, c = 48 ∨ c = 49
theorem Tx_bits (n : Int) (w : Nat) : Bits (Tx n w) := fun c hc => by
  have h : c ∈ Ds n w := by simpa [Tx] using hc
  obtain ⟨p, _, rfl⟩ := List.mem_map.mp h
  exact dig_bit n p
theorem Tx_length (n : Int) (w : Nat) : (Tx n w).cps.size = w := by simp [Tx, Ds_length]
theorem Tx_succ (n : Int) (i : Nat) : Tx n (i + 1) = one (dig n i) ++ Tx n i := by
  refine str_ext ?_
  rw [PySem.W.KT.app_list]
  simp [Tx, Ds_snoc, one]
theorem str_mod (m : Int) : Str.ofString (toString (m % 2)) = one (dig m 0) := by
  unfold dig
  have h : m % 2 = 0 ∨ m % 2 = 1 := by omega
  rw [Int.pow_zero, Int.ediv_one]
  rcases h with h | h
  · rw [h, if_neg (by decide)]; rfl
  · rw [h, if_pos rfl]; rfl
theorem dig_div (n : Int) : ∀ i : Nat, dig (n / 2 ^ i) 0 = dig n i := by
  intro i
  unfold dig
  rw [Int.pow_zero, Int.ediv_one]
theorem div_div2 (n : Int) (i : Nat) : n / 2 ^ i / 2 = n / 2 ^ (i + 1) := by
  rw [Int.ediv_ediv_of_nonneg (by have := two_pow_pos i; omega), Int.pow_succ]
theorem Wid_inj {m : Int} {a b : Nat} (h1 : Wid m a) (h2 : Wid m b) : a = b := by
  obtain ⟨x1, x2⟩ := h1
  obtain ⟨y1, y2⟩ := h2
  rcases Nat.lt_trichotomy a b with h | h | h
  · exfalso
    rcases y2 with y | y
    · omega
    · have := two_pow_mono (show a ≤ b - 1 by omega)
      omega
  · exact h
  · exfalso
    rcases x2 with x | x
    · omega
    · have := two_pow_mono (show b ≤ a - 1 by omega)
      omega
theorem Wid_le {m : Int} {a : Nat} (h1 : Wid m a) (k : Nat) (hm : m ≤ 2 ^ k) : a ≤ k := by
  obtain ⟨x1, x2⟩ := h1
  rcases x2 with x | x
  · omega
  · rcases Nat.lt_or_ge k a with h | h
    · have := two_pow_mono (show k ≤ a - 1 by omega)
      omega
    · exact h
def spWidthFor : Sp := fun vs H Q _ => ∃ m : Int, vs = [.int m] ∧ 1 ≤ m ∧ ∀ w : Nat, Wid m w → Q (.int w) H
def spBits : Sp := fun vs H Q _ => ∃ n w : Int, vs = [.int n, .int w] ∧ 0 ≤ w ∧ w ≤ 1000 ∧ Q (.str (Tx n w.toNat)) H
section
variable {P : Program} {w : World} {K : PySem.W.Frag} {mg : Str → Option Value} {base : Heap}
theorem scWidthFor : FnScope ["many", "width", "room"] ["many"] (defScope sWidthFor) := ⟨rfl, rfl, rfl, by decide +kernel, rfl, by decide +kernel, by decide +kernel⟩
theorem ok_widthfor {f : Addr} {fd : FuncData} (F : Fun K "width_for" "width_for" sWidthFor f fd) : FnOk P w K mg base CX0 1 f fd ["many"] spWidthFor := by
  refine F.ok scWidthFor (fun vs H Q E h => ?_) (fun cdv A outer s H vs Q E hr h => ?_)
  · obtain ⟨m, rfl, _⟩ := h
    rfl
  · obtain ⟨m, rfl, hm, k⟩ := h
    refine ⟨_, pss_cons (ps_set (i := 1) scWidthFor.nd rfl (Or.inl rfl) pe_int)
      (pss_cons (ps_set (i := 2) scWidthFor.nd rfl (Or.inl rfl) pe_int)
      (pss_cons (ps_while PassesOwn.never (pt_cmpR op_lt (pv 2) (pv 0) (nomark _))
        (pss_cons (ps_set (i := 2) scWidthFor.nd rfl (Or.inl rfl) (pe_op op_mul (pv 2) pe_int))
        (pss_one (ps_set (i := 1) scWidthFor.nd rfl (Or.inl rfl) (pe_op op_add (pv 1) pe_int)))))
      (pss_one (ps_ret (pv 1))))), ?_⟩
    refine while_by (fun σ H' => H' = H ∧ ∃ n : Nat, σ = [some (.int m), some (.int n), some (.int (2 ^ n))] ∧ (n = 0 ∨ 2 ^ (n - 1) < m))
      (fun σ _ => match σ with
        | [_, _, some (.int r)] => (m - r).toNat
        | _ => 0) ⟨rfl, 0, rfl, Or.inl rfl⟩ ?_ ?_
    · rintro σ H' ⟨rfl, n, rfl, hn⟩
      refine ⟨_, rfl, _, rfl, _, _, rfl, rfl, _, rfl, ?_⟩
      have h1 := two_pow_pos n
      have h2 := two_pow_succ n
      by_cases hlt : (2 : Int) ^ n < m
      · rw [decide_eq_true hlt]
        refine iteT ?_
        refine ⟨_, rfl, _, _, rfl, rfl, .inr ⟨by decide, by decide⟩, _, rfl, _, _, rfl, rfl, ⟨rfl, n + 1, ?_, .inr (by simpa using hlt)⟩, ?_⟩
        · rw [h2]; rfl
        · show (m - 2 ^ n * 2).toNat < (m - 2 ^ n).toNat
          omega
      · rw [decide_eq_false hlt]
        refine iteF ?_
        exact ⟨_, rfl, k n ⟨by omega, hn⟩⟩
    · rintro σ H' Q1 Q2 hq ⟨x, e1, y, e2, i, j, rfl, rfl, b, e3, q⟩
      exact ⟨_, e1, _, e2, i, j, rfl, rfl, b, e3, hq _ _ q⟩
theorem scBits : FnScope ["_law_number", "_law_width_here", "_law_found", "_law_k"] ["_law_number", "_law_width_here"] (defScope sBits) := ⟨rfl, rfl, rfl, by decide +kernel, rfl, by decide +kernel, by decide +kernel⟩
theorem ok_lbits {f : Addr} {fd : FuncData} (F : Fun K "_law_bits" "_law_bits" sBits f fd) (T : Txt mg) : FnOk P w K mg base CX0 1 f fd ["_law_number", "_law_width_here"] spBits := by
  refine F.ok scBits (fun vs H Q E h => ?_) (fun cdv A outer s H vs Q E hr h => ?_)
  · obtain ⟨_, _, rfl, _⟩ := h
    rfl
  · obtain ⟨n, w, rfl, h0, h1, q⟩ := h
    refine ⟨_, (pss_cons (ps_set (i := 2) scBits.nd rfl (Or.inl rfl) pe_str)
      (pss_cons (ps_for PassesOwn.never rfl (pi_range1 rfl T.range (pa_cons (pv 1) pa_nil)) (pg_name (i := 3) scBits.nd rfl (Or.inl rfl))
      (pss_cons (ps_set (i := 2) scBits.nd rfl (Or.inl rfl) (pe_op op_add_str (pe_callTy call_str_int (by rfl) T.str boot_str (pa_cons (pe_op op_mod (pv 0) pe_int) pa_nil)) (pv 2)))
      (pss_one (ps_set (i := 0) scBits.nd rfl (Or.inl rfl) (pe_op op_fdiv (pv 0) pe_int)))))
      (pss_one (ps_ret (pv 2))))), ?_⟩
    refine ⟨_, rfl, _, rfl, by omega, by omega, for_range (fun i σ H2 => ∃ v3, σ = [some (.int (n / 2 ^ i)), some (.int w), some (.str (Tx n i)), v3] ∧ H2 = H) ⟨none, by rw [Int.pow_zero, Int.ediv_one]; rfl, rfl⟩ ?_ ?_⟩
    · rintro i σ H2 hi ⟨v3, rfl, rfl⟩
      refine ⟨_, rfl, _, _, rfl, rfl, (by show (0 : Int) < 2; decide), _, rfl, ?_, _, rfl, _, _, rfl, rfl, ?_, ?_⟩
      · have h2 : (n / 2 ^ i % 2).natAbs ≤ 1 := by omega
        have h3 : (n / 2 ^ i % 2).natAbs < 2 ^ 1920 := Nat.lt_of_le_of_lt h2 (by decide)
        by_cases hz : (n / 2 ^ i % 2).natAbs = 0
        · rw [hz]; decide
        · exact (Nat.log2_lt hz).mpr h3
      · rw [str_mod]
        have hl2 : (Tx n i).length = i := Tx_length n i
        have h3 : (one (dig (n / 2 ^ i) 0)).length = 1 := rfl
        rw [hl2, h3]
        have := sizeLine_eq
        omega
      · refine ⟨_, rfl, _, _, rfl, rfl, ⟨by decide, by decide⟩, some (.int (0 + (i : Int))), ?_, rfl⟩
        rw [str_mod, dig_div, ← Tx_succ, ← div_div2]
        rfl
    · rintro σ H2 ⟨v3, rfl, rfl⟩
      exact ⟨_, rfl, q⟩
end
end K
namespace K
open PySem PyProof.Rows L2 Mth
/-- how much of a field goes into a letter -/
inductive Wy where
  | keep | low (w b : Int) | whole
def WayV (H : Hp) (v : V) : Wy → Prop
  | .keep => ∃ t, v = .ref t ∧ H t = some (.tup [.str "keep"])
  | .low w b => ∃ t, v = .ref t ∧ H t = some (.tup [.str "low", .int w, .int b])
  | .whole => ∃ t, v = .ref t ∧ H t = some (.tup [.str "whole"])
def WyOk (b : Int) : Wy → Prop
  | .keep => True
  | .low w d => 1 ≤ w ∧ w ≤ b ∧ 0 ≤ d ∧ d < 2 ^ w.toNat
  | .whole => True
theorem WayV.mono {H H' : Hp} {v : V} (k : ∀ a xs, H a = some (.tup xs) → H' a = some (.tup xs)) : ∀ {d : Wy}, WayV H v d → WayV H' v d
  | .keep, ⟨t, e, h⟩ => ⟨t, e, k _ _ h⟩
  | .low _ _, ⟨t, e, h⟩ => ⟨t, e, k _ _ h⟩
  | .whole, ⟨t, e, h⟩ => ⟨t, e, k _ _ h⟩
def WaysAt (H : Hp) (ws : List V) (ys : List Wy) : Prop := ws.length = ys.length ∧ ∀ (i : Nat) (h1 : i < ws.length) (h2 : i < ys.length), WayV H ws[i] ys[i]
theorem WaysAt.mono {H H' : Hp} {ws : List V} {ys : List Wy} (k : ∀ a xs, H a = some (.tup xs) → H' a = some (.tup xs)) (h : WaysAt H ws ys) : WaysAt H' ws ys := ⟨h.1, fun i h1 h2 => (h.2 i h1 h2).mono k⟩
theorem WaysAt.snoc {H : Hp} {ws : List V} {ys : List Wy} {v : V} {y : Wy} (h : WaysAt H ws ys) (e : WayV H v y) : WaysAt H (ws ++ [v]) (ys ++ [y]) := by
  refine ⟨by rw [List.length_append, List.length_append, h.1]; rfl, fun i h1 h2 => ?_⟩
  by_cases hlt : i < ws.length
  · rw [List.getElem_append_left hlt, List.getElem_append_left (by have := h.1; omega)]
    exact h.2 i hlt (by have := h.1; omega)
  · have e2 : i = ws.length := by
      rw [List.length_append] at h1
      have : [v].length = 1 := rfl
      omega
    subst e2
    rw [List.getElem_append_right (Nat.le_refl _), List.getElem_append_right (by rw [h.1]; exact Nat.le_refl _)]
    simp only [Nat.sub_self, List.getElem_cons_zero, h.1]
    exact e
/-- the form (r, c, ways) at f -/
def FormAt (H : Hp) (f : Addr) (r c : Int) (ys : List Wy) : Prop := ∃ (wt : Addr) (ws : List V), H f = some (.tup [.int r, .int c, .ref wt]) ∧ H wt = some (.tup ws) ∧ WaysAt H ws ys
theorem FormAt.mono {H H' : Hp} {f : Addr} {r c : Int} {ys : List Wy} (k : ∀ a xs, H a = some (.tup xs) → H' a = some (.tup xs)) (h : FormAt H f r c ys) : FormAt H' f r c ys := by
  obtain ⟨wt, ws, e1, e2, e3⟩ := h
  exact ⟨wt, ws, k _ _ e1, k _ _ e2, e3.mono k⟩
/-- a shape of these breadths with the check's number m -/
def ShB (H : Hp) (sh : Addr) (bs : List Int) (m : Int) : Prop := ∃ (ft : Addr) (fr : List Addr), H sh = some (.tup [.ref ft, .int m]) ∧ H ft = some (.tup (fr.map V.ref)) ∧ fr.length = bs.length ∧ (∀ (i : Nat) (h1 : i < fr.length) (h2 : i < bs.length), ∃ nm kd, H fr[i] = some (.tup [nm, .int bs[i], kd])) ∧ 1 ≤ bs.length ∧ bs.length ≤ 12 ∧ ∀ b ∈ bs, 1 ≤ b ∧ b ≤ 40
theorem ShB.mono {H H' : Hp} {sh : Addr} {bs : List Int} {m : Int} (k : ∀ a xs, H a = some (.tup xs) → H' a = some (.tup xs)) (h : ShB H sh bs m) : ShB H' sh bs m := by
  obtain ⟨ft, fr, h1, h2, h3, h4, h5⟩ := h
  refine ⟨ft, fr, k _ _ h1, k _ _ h2, h3, fun i a b => ?_, h5⟩
  obtain ⟨nm, kd, e⟩ := h4 i a b
  exact ⟨nm, kd, k _ _ e⟩
def WsB (bs : List Int) (ys : List Wy) : Prop := ys.length = bs.length ∧ ∀ (i : Nat) (h1 : i < bs.length) (h2 : i < ys.length), WyOk bs[i] ys[i]
/-- a field's width by a way -/
def wW (b : Int) : Wy → Int
  | .keep => 0
  | .low w _ => w
  | .whole => b
theorem wW_ok {b : Int} (h0 : 1 ≤ b) (h1 : b ≤ 40) : ∀ {y : Wy}, WyOk b y → 0 ≤ wW b y ∧ wW b y ≤ 40
  | .keep, _ => ⟨by show (0 : Int) ≤ 0; decide, by show (0 : Int) ≤ 40; decide⟩
  | .low w d, h => ⟨by show 0 ≤ w; have := h.1; omega, by show w ≤ 40; have := h.2.1; omega⟩
  | .whole, _ => ⟨by show 0 ≤ b; omega, h1⟩
def Wds (bs : List Int) (ys : List Wy) : List Int := List.zipWith wW bs ys
theorem Wds_len {bs : List Int} {ys : List Wy} (h : ys.length = bs.length) : (Wds bs ys).length = bs.length := by
  unfold Wds
  rw [List.length_zipWith, h, Nat.min_self]
theorem Wds_get {bs : List Int} {ys : List Wy} {i : Nat} (h1 : i < bs.length) (h2 : i < ys.length) (h3 : i < (Wds bs ys).length) : (Wds bs ys)[i] = wW bs[i] ys[i] := by
  exact List.getElem_zipWith ..
theorem Wds_ok {bs : List Int} {ys : List Wy} (hb : ∀ b ∈ bs, 1 ≤ b ∧ b ≤ 40) (h : WsB bs ys) : ∀ w ∈ Wds bs ys, 0 ≤ w ∧ w ≤ 40 := by
  intro w hw
  obtain ⟨i, hi, rfl⟩ := List.mem_iff_getElem.mp hw
  have hl := Wds_len h.1
  have h1 : i < bs.length := by omega
  have h2 : i < ys.length := by have := h.1; omega
  rw [Wds_get h1 h2]
  have := hb bs[i] (List.getElem_mem h1)
  exact wW_ok this.1 this.2 (h.2 i h1 h2)
/-- the bits of values by widths, one text each -/
def PcL (vals ws : List Int) : List Str := List.zipWith (fun v w => Tx (v % 2 ^ w.toNat) w.toNat) vals ws
/-- texts one behind another -/
def cat (ts : List Str) : Str := ts.foldl (· ++ ·) (Str.ofString "")
theorem cat_aux : ∀ (ts : List Str) (z : Str), (ts.foldl (· ++ ·) z).cps.toList = z.cps.toList ++ (ts.map (·.cps.toList)).flatten
  | [], z => by simp
  | t :: r, z => by
    rw [List.foldl_cons, cat_aux r, PySem.W.KT.app_list]
    simp
theorem cat_list (ts : List Str) : (cat ts).cps.toList = (ts.map (·.cps.toList)).flatten := by
  unfold cat
  rw [cat_aux]
  rfl
theorem cat_snoc (ts : List Str) (t : Str) : cat (ts ++ [t]) = cat ts ++ t := by
  unfold cat
  rw [List.foldl_append]
  rfl
theorem cat_len : ∀ ts : List Str, (cat ts).cps.size = (ts.map fun t => t.cps.size).sum := by
  intro ts
  rw [← Array.length_toList, cat_list, List.length_flatten, List.map_map]
  rfl
theorem sum_bound (ts : List Str) (h : ∀ t ∈ ts, t.cps.size ≤ 1000) : (ts.map fun t => t.cps.size).sum ≤ 1000 * ts.length := by
  induction ts with
  | nil => exact Nat.le_refl _
  | cons t r ih =>
    rw [List.map_cons, List.sum_cons, List.length_cons]
    have h1 := h t (by simp)
    have h2 := ih fun u hu => h u (List.mem_cons_of_mem _ hu)
    omega
def wsum (k : Int) : List Int → Int
  | [] => 0
  | v :: r => k * v + wsum (k + 1) r
theorem wsum_snoc (v : Int) : ∀ (vs : List Int) (k : Int), wsum k (vs ++ [v]) = wsum k vs + (k + vs.length) * v
  | [], k => by simp [wsum]
  | a :: r, k => by
    rw [List.cons_append, wsum, wsum_snoc v r (k + 1), wsum, List.length_cons]
    push_cast
    rw [show k + 1 + (r.length : Int) = k + ((r.length : Int) + 1) by omega]
    omega
def spBreadths : Sp := fun vs H Q _ => ∃ (sh : Addr) (bs : List Int) (m : Int), vs = [.ref sh] ∧ ShB H sh bs m ∧ ∀ (l : Addr) (H' : Hp), Same H H' → H' l = some (.lst (bs.map V.int)) → Q (.ref l) H'
def spWidthOf : Sp := fun vs H Q _ => ∃ (v : V) (b : Int) (y : Wy), vs = [v, .int b] ∧ WayV H v y ∧ Q (.int (wW b y)) H
def spWidths : Sp := fun vs H Q _ => ∃ (sh f : Addr) (bs : List Int) (m r c : Int) (ys : List Wy), vs = [.ref sh, .ref f] ∧ ShB H sh bs m ∧ FormAt H f r c ys ∧ ys.length = bs.length ∧ ∀ (l : Addr) (H' : Hp), Same H H' → H' l = some (.lst ((Wds bs ys).map V.int)) → Q (.ref l) H'
def spSizeOf : Sp := fun vs H Q _ => ∃ (sh f : Addr) (bs : List Int) (m r c : Int) (ys : List Wy), vs = [.ref sh, .ref f] ∧ ShB H sh bs m ∧ FormAt H f r c ys ∧ WsB bs ys ∧ ∀ H', Same H H' → Q (.int (Wds bs ys).sum) H'
section
variable {P : Program} {w : World} {K : PySem.W.Frag} {mg : Str → Option Value} {base : Heap}
theorem scBreadths : FnScope ["shape"] ["shape"] (defScope sBreadths) := ⟨rfl, rfl, rfl, by decide +kernel, rfl, by decide +kernel, by decide +kernel⟩
theorem ok_breadths {f : Addr} {fd : FuncData} (F : Fun K "breadths" "breadths" sBreadths f fd) (T : Txt mg) : FnOk P w K mg base CX0 1 f fd ["shape"] spBreadths := by
  refine F.ok scBreadths (fun vs H Q E h => ?_) (fun cdv A outer s H vs Q E hr h => ?_)
  · obtain ⟨_, _, _, rfl, _⟩ := h
    rfl
  · obtain ⟨sh, bs, m, rfl, hsh, q⟩ := h
    obtain ⟨ft, fr, e1, e2, hfl, e3, e4, e5, e6⟩ := id hsh
    refine ⟨_, (pss_one (ps_ret (pe_comp rfl rfl (xs := ["field"]) ⟨(by with_unfolding_all rfl), rfl, rfl, rfl, (by repeat (first | exact trivial | refine ⟨rfl, ?_⟩)), rfl⟩ (pi_tup (pe_ix ix_tup (pv 0) pe_int (fun _ _ => rfl))) (fun _ _ _ _ => (pg_name (i := 1) (by decide +kernel : (["shape", "field"] : List Str).Nodup) rfl (Or.inl rfl))) (fun _ _ _ _ => pif_nil) (fun _ _ _ _ => (pe_ix (ix_tupK (K := K) rfl) (pv 1) pe_int (fun _ _ => rfl)))))), ?_⟩
    refine ⟨_, rfl, sh, _, _, _, rfl, rfl, SqT.of e1, rfl, ft, rfl, ⟨_, SqT.of e2⟩, comp_tup (xs := fr.map V.ref) (fun j ys H1 => H1 = H ∧ ys = (bs.take j).map V.int) (by rw [List.length_map]; omega) ⟨rfl, by simp⟩ (fun j ys H1 ⟨z, _⟩ => by rw [z]; exact SqT.of e2) (fun j ys H1 ⟨_, z⟩ => by rw [z, List.length_map, List.length_take]; omega) ?_ ?_⟩
    · rintro j x ys H1 hx ⟨rfl, rfl⟩
      obtain ⟨hj, rfl⟩ := get_map hx
      have hjb : j < bs.length := by omega
      obtain ⟨nm, kv, f1⟩ := e3 j hj hjb
      refine yesG ⟨_, rfl, fr[j], _, _, _, rfl, rfl, SqT.of f1, rfl, rfl, ?_⟩
      rw [List.take_succ_eq_append_getElem hjb, List.map_append]
      rfl
    · rintro ys H1 ⟨rfl, rfl⟩ l hl
      have z : bs.take (fr.map V.ref).length = bs := List.take_of_length_le (by rw [List.length_map]; omega)
      refine q l _ (same_new (Same.refl _) hl) ?_
      rw [z]
      exact upd_same
theorem scWidthOf : FnScope ["way", "breadth"] ["way", "breadth"] (defScope sWidthOf) := ⟨rfl, rfl, rfl, by decide +kernel, rfl, by decide +kernel, by decide +kernel⟩
theorem ok_widthof {f : Addr} {fd : FuncData} (F : Fun K "width_of" "width_of" sWidthOf f fd) : FnOk P w K mg base CX0 1 f fd ["way", "breadth"] spWidthOf := by
  refine F.ok scWidthOf (fun vs H Q E h => ?_) (fun cdv A outer s H vs Q E hr h => ?_)
  · obtain ⟨_, _, _, rfl, _⟩ := h
    rfl
  · obtain ⟨v, b, y, rfl, hv, q⟩ := h
    refine ⟨_, (pss_cons (ps_if (pt_cmpR op_eq (pe_ix ix_tup (pv 0) pe_int (fun _ _ => rfl)) pe_str (nomark _))
      (pss_one (ps_ret pe_int))
      pss_nil)
      (pss_cons (ps_if (pt_cmpR op_eq (pe_ix ix_tup (pv 0) pe_int (fun _ _ => rfl)) pe_str (nomark _))
      (pss_one (ps_ret (pe_ix ix_tup (pv 0) pe_int (fun _ _ => rfl))))
      pss_nil)
      (pss_one (ps_ret (pv 1))))), ?_⟩
    cases y with
    | keep =>
      obtain ⟨t, rfl, ht⟩ := hv
      exact ⟨_, rfl, t, _, _, _, rfl, rfl, SqT.of ht, rfl, rfl, _, rfl, iteD rfl q⟩
    | whole =>
      obtain ⟨t, rfl, ht⟩ := hv
      exact ⟨_, rfl, t, _, _, _, rfl, rfl, SqT.of ht, rfl, rfl, _, rfl, iteDN (by decide) ⟨_, rfl, t, _, _, _, rfl, rfl, SqT.of ht, rfl, rfl, _, rfl, iteDN (by decide) ⟨_, rfl, q⟩⟩⟩
    | low wd d =>
      obtain ⟨t, rfl, ht⟩ := hv
      exact ⟨_, rfl, t, _, _, _, rfl, rfl, SqT.of ht, rfl, rfl, _, rfl, iteDN (by decide) ⟨_, rfl, t, _, _, _, rfl, rfl, SqT.of ht, rfl, rfl, _, rfl, iteD rfl ⟨_, rfl, t, _, _, _, rfl, rfl, SqT.of ht, rfl, q⟩⟩⟩
theorem scWidths : FnScope ["shape", "form"] ["shape", "form"] (defScope sWidths) := ⟨rfl, rfl, rfl, by decide +kernel, rfl, by decide +kernel, by decide +kernel⟩
theorem ok_widths {f : Addr} {fd : FuncData} (F : Fun K "widths" "widths" sWidths f fd) (T : Txt mg) {fBreadths fWidthOf : Addr} {fdBreadths fdWidthOf : FuncData} (FBreadths : Fun K "breadths" "breadths" sBreadths fBreadths fdBreadths) (bBreadths : Binds K fdBreadths ["shape"] []) (mBreadths : mg "breadths" = some (.ref fBreadths)) (FWidthOf : Fun K "width_of" "width_of" sWidthOf fWidthOf fdWidthOf) (bWidthOf : Binds K fdWidthOf ["way", "breadth"] []) (mWidthOf : mg "width_of" = some (.ref fWidthOf)) : FnOk P w K mg base CX0 2 f fd ["shape", "form"] spWidths := by
  have GBreadths : FnOk P w K mg base CX0 1 fBreadths fdBreadths ["shape"] spBreadths := ok_breadths FBreadths T
  have GWidthOf : FnOk P w K mg base CX0 1 fWidthOf fdWidthOf ["way", "breadth"] spWidthOf := ok_widthof FWidthOf
  refine F.ok scWidths (fun vs H Q E h => ?_) (fun cdv A outer s H vs Q E hr h => ?_)
  · obtain ⟨_, _, _, _, _, _, _, rfl, _⟩ := h
    rfl
  · obtain ⟨sh, fo, bs, m, r, c, ys, rfl, hsh, hfo, hyl, q⟩ := h
    obtain ⟨wt, ws, g1, g2, g3⟩ := id hfo
    refine ⟨_, (pss_one (ps_ret (pe_comp rfl rfl (xs := ["way", "breadth"]) ⟨(by with_unfolding_all rfl), rfl, rfl, rfl, (by repeat (first | exact trivial | refine ⟨rfl, ?_⟩)), rfl⟩ (pi_zip rfl T.zip (pe_ix ix_tup (pv 1) pe_int (fun _ _ => rfl)) (pe_call GBreadths (hr.mono (by decide)) rfl mBreadths FBreadths.kp bBreadths .nil pass0 (pa_cons (pv 0) pa_nil))) (fun _ _ _ _ => (pg_tupK (K := K) (n := 2) rfl rfl (pgs_cons (pg_name (i := 2) (by decide +kernel : (["shape", "form", "way", "breadth"] : List Str).Nodup) rfl (Or.inl rfl)) (pgs_cons (pg_name (i := 3) (by decide +kernel : (["shape", "form", "way", "breadth"] : List Str).Nodup) rfl (Or.inl rfl)) pgs_nil)) rfl)) (fun _ _ _ _ => pif_nil) (fun _ _ _ _ => (pe_call GWidthOf (hr.mono (by decide)) rfl mWidthOf FWidthOf.kp bWidthOf .nil pass0 (pa_cons (pv 2) (pa_cons (pv 3) pa_nil))))))), ?_⟩
    refine ⟨_, rfl, fo, _, _, _, rfl, rfl, SqT.of g1, rfl, _, rfl, sh, bs, m, rfl, hsh, fun l H1 s1 hl => ?_⟩
    have hb12 : bs.length ≤ 12 := by obtain ⟨_, _, _, _, _, _, _, h, _⟩ := hsh; exact h
    have hwl : ws.length = bs.length := by rw [g3.1, hyl]
    have hWl := Wds_len hyl
    refine ⟨wt, l, ws, _, rfl, s1 _ _ g2, hl, comp_z (xs := ws) (ys0 := bs.map V.int) (fun j zs H2 => Same H1 H2 ∧ zs = ((Wds bs ys).take j).map V.int) (by omega) (by rw [List.length_map]; omega) ⟨Same.refl _, by simp⟩ (fun j zs H2 ⟨z, _⟩ => ⟨z _ _ (s1 _ _ g2), z _ _ hl⟩) (fun j zs H2 ⟨_, z⟩ => by rw [z, List.length_map, List.length_take]; omega) ?_ ?_⟩
    · rintro j x y zs H2 U hx hy ⟨s2, rfl⟩ hU
      obtain ⟨hj, rfl⟩ := get_map hy
      obtain ⟨hw, rfl⟩ := List.getElem?_eq_some_iff.mp hx
      have s3 := same_new (o := .tup [ws[j], V.int bs[j]]) s2 hU
      have hjy : j < ys.length := by omega
      have hjW : j < (Wds bs ys).length := by omega
      refine ⟨U, [ws[j], V.int bs[j]], rfl, SqT.of upd_same, rfl, _, _, rfl, _, _, rfl, rfl, yesS ?_⟩
      refine ⟨_, rfl, _, rfl, ws[j], bs[j], ys[j], rfl, (g3.2 j hw hjy).mono (fun a xs e => s3 _ _ (s1 _ _ e)), s3, ?_⟩
      rw [List.take_succ_eq_append_getElem hjW, List.map_append, Wds_get hj hjy]
      rfl
    · rintro zs H2 ⟨s2, rfl⟩ p hp
      have z : (Wds bs ys).take ws.length = Wds bs ys := List.take_of_length_le (by omega)
      refine q p _ (s1.trans (same_new s2 hp)) ?_
      rw [z]
      exact upd_same
theorem scSizeOf : FnScope ["shape", "form"] ["shape", "form"] (defScope sSizeOf) := ⟨rfl, rfl, rfl, by decide +kernel, rfl, by decide +kernel, by decide +kernel⟩
theorem ok_sizeof {f : Addr} {fd : FuncData} (F : Fun K "size_of" "size_of" sSizeOf f fd) (T : Txt mg) {fBreadths fWidthOf fWidths : Addr} {fdBreadths fdWidthOf fdWidths : FuncData} (FBreadths : Fun K "breadths" "breadths" sBreadths fBreadths fdBreadths) (bBreadths : Binds K fdBreadths ["shape"] []) (mBreadths : mg "breadths" = some (.ref fBreadths)) (FWidthOf : Fun K "width_of" "width_of" sWidthOf fWidthOf fdWidthOf) (bWidthOf : Binds K fdWidthOf ["way", "breadth"] []) (mWidthOf : mg "width_of" = some (.ref fWidthOf)) (FWidths : Fun K "widths" "widths" sWidths fWidths fdWidths) (bWidths : Binds K fdWidths ["shape", "form"] []) (mWidths : mg "widths" = some (.ref fWidths)) : FnOk P w K mg base CX0 3 f fd ["shape", "form"] spSizeOf := by
  have GWidths : FnOk P w K mg base CX0 2 fWidths fdWidths ["shape", "form"] spWidths := ok_widths FWidths T FBreadths bBreadths mBreadths FWidthOf bWidthOf mWidthOf
  refine F.ok scSizeOf (fun vs H Q E h => ?_) (fun cdv A outer s H vs Q E hr h => ?_)
  · obtain ⟨_, _, _, _, _, _, _, rfl, _⟩ := h
    rfl
  · obtain ⟨sh, fo, bs, m, r, c, ys, rfl, hsh, hfo, hok, q⟩ := h
    refine ⟨_, (pss_one (ps_ret (pe_callB (call_sumL rfl) (by rfl) T.sum boot_sum (pa_cons (pe_call GWidths (hr.mono (by decide)) rfl mWidths FWidths.kp bWidths .nil pass0 (pa_cons (pv 0) (pa_cons (pv 1) pa_nil))) pa_nil)))), ?_⟩
    have hb12 : bs.length ≤ 12 := by obtain ⟨_, _, _, _, _, _, _, h, _⟩ := hsh; exact h
    have hWl := Wds_len hok.1
    have hWo : ∀ w ∈ Wds bs ys, 0 ≤ w ∧ w ≤ 40 := by obtain ⟨_, _, _, _, _, _, _, _, h⟩ := hsh; exact Wds_ok h hok
    exact ⟨_, rfl, _, rfl, sh, fo, bs, m, r, c, ys, rfl, hsh, hfo, hok.1, fun l H1 s1 hl => ⟨l, _, rfl, SqL.of hl, fun a ha => by have := hWo a ha; omega, by omega, q _ s1⟩⟩
end
end K
namespace K
open PySem PyProof.Rows L2 Mth
theorem mulOk1 {z : Str} (hz : z.length = 1) {n : Int} (h1 : 1 ≤ n) (h8 : n ≤ 8) : MulOk z n := by
  have h : n = 1 ∨ n = 2 ∨ n = 3 ∨ n = 4 ∨ n = 5 ∨ n = 6 ∨ n = 7 ∨ n = 8 := by omega
  refine ⟨?_, fun _ _ => ?_, fun _ _ => ?_⟩
  · rcases h with rfl | rfl | rfl | rfl | rfl | rfl | rfl | rfl <;> decide
  · rw [hz]
    rcases h with rfl | rfl | rfl | rfl | rfl | rfl | rfl | rfl <;> decide
  · rw [hz]
    rcases h with rfl | rfl | rfl | rfl | rfl | rfl | rfl | rfl <;> decide
theorem b2_none {p qa a : Addr} {H H' : Hp} (k : But2 p qa H H') (h : H' a = none) (n1 : a ≠ p) (n2 : a ≠ qa) : H a = none := by
  cases e : H a with
  | none => rfl
  | some o =>
    have := k a o e n1 n2
    rw [h] at this
    cases this
/-- forms at these places -/
def FormsAt (H : Hp) (fas : List Addr) (bs : List Int) (fs : List (Int × Int × List Wy)) : Prop := fas.length = fs.length ∧ (∀ (i : Nat) (h1 : i < fas.length) (h2 : i < fs.length), FormAt H fas[i] fs[i].1 fs[i].2.1 fs[i].2.2) ∧ ∀ f ∈ fs, 1 ≤ f.1 ∧ f.1 ≤ 40 ∧ 1 ≤ f.2.1 ∧ f.2.1 ≤ 40 ∧ WsB bs f.2.2
theorem FormsAt.mono {H H' : Hp} {fas : List Addr} {bs : List Int} {fs : List (Int × Int × List Wy)} (k : ∀ a xs, H a = some (.tup xs) → H' a = some (.tup xs)) (h : FormsAt H fas bs fs) : FormsAt H' fas bs fs := ⟨h.1, fun i h1 h2 => (h.2.1 i h1 h2).mono k, h.2.2⟩
theorem FormsAt.snoc {H : Hp} {fas : List Addr} {bs : List Int} {fs : List (Int × Int × List Wy)} {a : Addr} {f : Int × Int × List Wy} (h : FormsAt H fas bs fs) (e : FormAt H a f.1 f.2.1 f.2.2) (o : 1 ≤ f.1 ∧ f.1 ≤ 40 ∧ 1 ≤ f.2.1 ∧ f.2.1 ≤ 40 ∧ WsB bs f.2.2) : FormsAt H (fas ++ [a]) bs (fs ++ [f]) := by
  refine ⟨by rw [List.length_append, List.length_append, h.1]; rfl, fun i h1 h2 => ?_, fun g hg => ?_⟩
  · by_cases hlt : i < fas.length
    · have h3 : i < fs.length := by have := h.1; omega
      simp only [List.getElem_append_left hlt, List.getElem_append_left h3]
      exact h.2.1 i hlt h3
    · have e2 : i = fas.length := by
        rw [List.length_append] at h1
        have : [a].length = 1 := rfl
        omega
      subst e2
      have h4 : fs.length ≤ fas.length := by rw [h.1]; exact Nat.le_refl _
      have e5 : (fas ++ [a])[fas.length] = a := by rw [List.getElem_append_right (Nat.le_refl _)]; simp
      have e6 : (fs ++ [f])[fas.length] = f := by rw [List.getElem_append_right h4]; simp [h.1]
      rw [e5, e6]
      exact e
  · rcases List.mem_append.mp hg with q | q
    · exact h.2.2 g q
    · rw [List.mem_singleton.mp q]
      exact o
/-- the pact at pa -/
def PactAt (H : Hp) (pa : Addr) (bs : List Int) (m wide : Int) (fs : List (Int × Int × List Wy)) : Prop := ∃ (sh ft rd : Addr) (fas : List Addr), H pa = some (.tup [.ref sh, .int wide, .ref ft, .ref rd]) ∧ ShB H sh bs m ∧ H ft = some (.tup (fas.map V.ref)) ∧ FormsAt H fas bs fs ∧ fs.length ≤ 12 ∧ 1 ≤ wide ∧ wide ≤ 40 ∧ 1 ≤ m ∧ m ≤ 1000000
theorem PactAt.mono {H H' : Hp} {pa : Addr} {bs : List Int} {m wide : Int} {fs : List (Int × Int × List Wy)} (k : ∀ a xs, H a = some (.tup xs) → H' a = some (.tup xs)) (h : PactAt H pa bs m wide fs) : PactAt H' pa bs m wide fs := by
  obtain ⟨sh, ft, rd, fas, h1, h2, h3, h4, h5⟩ := h
  exact ⟨sh, ft, rd, fas, k _ _ h1, h2.mono k, k _ _ h3, h4.mono k, h5⟩
theorem ShB.tup {H : Hp} {sh : Addr} {bs : List Int} {m : Int} (h : ShB H sh bs m) : bs.length ≤ 12 := by obtain ⟨_, _, _, _, _, _, _, h, _⟩ := h; exact h
def spKind : Sp := fun vs H Q _ => ∃ (p qa : Addr) (i : Nat) (b c : Int), vs = [.ref p, .int (i : Int), .int b] ∧ i ≤ 11 ∧ 1 ≤ b ∧ b ≤ 40 ∧ PotD H p qa c ∧ c < 2 ^ 30 ∧ ∀ (v : V) (c' : Int) (H' : Hp), PotD H' p qa c' → c' ≤ c + 5 → But2 p qa H H' → Q v H'
def spShape : Sp := fun vs H Q _ => ∃ (p qa : Addr) (mo c : Int), vs = [.ref p, .int mo] ∧ 1 ≤ mo ∧ mo ≤ 12 ∧ PotD H p qa c ∧ c < 2 ^ 29 ∧ ∀ (sh : Addr) (bs : List Int) (m c' : Int) (H' : Hp), PotD H' p qa c' → c' ≤ c + 200 → But2 p qa H H' → ShB H' sh bs m → 1 ≤ m → m ≤ 1000000 → Q (.ref sh) H'
def spWay : Sp := fun vs H Q _ => ∃ (p qa : Addr) (b c : Int), vs = [.ref p, .int b] ∧ 1 ≤ b ∧ b ≤ 40 ∧ PotD H p qa c ∧ c < 2 ^ 30 ∧ ∀ (v : V) (y : Wy) (c' : Int) (H' : Hp), PotD H' p qa c' → c' ≤ c + 5 → But2 p qa H H' → WayV H' v y → WyOk b y → Q v H'
def spForm : Sp := fun vs H Q _ => ∃ (p qa sh : Addr) (bs : List Int) (m c : Int), vs = [.ref p, .ref sh] ∧ PotD H p qa c ∧ c < 2 ^ 29 ∧ ShB H sh bs m ∧ ∀ (f : Addr) (r d : Int) (ys : List Wy) (c' : Int) (H' : Hp), PotD H' p qa c' → c' ≤ c + 70 → But2 p qa H H' → FormAt H' f r d ys → 1 ≤ r ∧ r ≤ 40 ∧ 1 ≤ d ∧ d ≤ 40 ∧ WsB bs ys → Q (.ref f) H'
def spRoad : Sp := fun vs H Q _ => ∃ (p qa : Addr) (c : Int), vs = [.ref p] ∧ PotD H p qa c ∧ c < 2 ^ 30 ∧ ∀ (r : Addr) (H' : Hp), PotD H' p qa (c + 4) → But2 p qa H H' → Q (.ref r) H'
def spPact : Sp := fun vs H Q _ => ∃ (p qa : Addr) (mo c : Int), vs = [.ref p, .int mo] ∧ 1 ≤ mo ∧ mo ≤ 12 ∧ PotD H p qa c ∧ c < 2 ^ 28 ∧ ∀ (pa : Addr) (bs : List Int) (m wide : Int) (fs : List (Int × Int × List Wy)) (c' : Int) (H' : Hp), PotD H' p qa c' → c' ≤ c + 1500 → But2 p qa H H' → PactAt H' pa bs m wide fs → Q (.ref pa) H'
def spAnyHead : Sp := fun vs H Q _ => ∃ (p qa sh : Addr) (bs : List Int) (m c : Int), vs = [.ref p, .ref sh] ∧ PotD H p qa c ∧ c < 2 ^ 30 ∧ ShB H sh bs m ∧ ∀ (hd : Addr) (vals : List Int) (c' : Int) (H' : Hp), PotD H' p qa c' → c' ≤ c + 30 → But2 p qa H H' → H' hd = some (.tup (vals.map V.int)) → vals.length = bs.length → (∀ v ∈ vals, 0 ≤ v ∧ v < 2 ^ 40) → (∀ (i : Nat) (h1 : i < vals.length) (h2 : i < bs.length), vals[i] < 2 ^ bs[i].toNat) → Q (.ref hd) H'
section
variable {P : Program} {w : World} {K : PySem.W.Frag} {mg : Str → Option Value} {base : Heap}
theorem scKind : FnScope ["_law_box_here", "_law_place", "_law_breadth", "_law_way_here", "_law_many", "_law_first", "_law_step", "_law_times"] ["_law_box_here", "_law_place", "_law_breadth"] (defScope sKind) := ⟨rfl, rfl, rfl, by decide +kernel, rfl, by decide +kernel, by decide +kernel⟩
set_option maxHeartbeats 4000000 in
theorem ok_kind {f : Addr} {fd : FuncData} (F : Fun K "_law_kind" "_law_kind" sKind f fd) (T : Txt mg) {fNext fOf fValue : Addr} {fdNext fdOf fdValue : FuncData} (FNext : Fun K "_law_next" "_law_next" sNext fNext fdNext) (bNext : Binds K fdNext ["_law_box_here", "_law_many"] []) (mNext : mg "_law_next" = some (.ref fNext)) (FOf : Fun K "_law_of" "_law_of" sOf fOf fdOf) (bOf : Binds K fdOf ["_law_box_here", "_law_some"] []) (mOf : mg "_law_of" = some (.ref fOf)) (FValue : Fun K "_law_value" "_law_value" sValue fValue fdValue) (bValue : Binds K fdValue ["_law_box_here", "_law_breadth"] []) (mValue : mg "_law_value" = some (.ref fValue)) : FnOk P w K mg base CX0 3 f fd ["_law_box_here", "_law_place", "_law_breadth"] spKind := by
  have GNext : FnOk P w K mg base CX0 1 fNext fdNext ["_law_box_here", "_law_many"] spNext := ok_next FNext
  have GOf : FnOk P w K mg base CX0 2 fOf fdOf ["_law_box_here", "_law_some"] spOf := ok_of FOf T FNext bNext mNext
  have GValue : FnOk P w K mg base CX0 2 fValue fdValue ["_law_box_here", "_law_breadth"] spValue := ok_value FValue T FNext bNext mNext
  refine F.ok scKind (fun vs H Q E h => ?_) (fun cdv A outer s H vs Q E hr h => ?_)
  · obtain ⟨_, _, _, _, _, rfl, _⟩ := h
    rfl
  · obtain ⟨p, qa, i, b, c, rfl, i1, b0, b1, pot, hc, q⟩ := h
    refine ⟨_, (Hid.out (hs_cons (hs_set (i := 3) scKind.nd rfl (Or.inl rfl) ⟨(pe_call GNext (hr.mono (by decide)) rfl mNext FNext.kp bNext .nil pass0 (pa_cons (pv 0) (pa_cons pe_int pa_nil)))⟩)
      (hs_cons (hs_if (pt_cmpR op_lt (pv 3) pe_int (nomark _))
      (hs_one (hs_ret (he_tup (ha_cons ⟨pe_str⟩ ha_nil))))
      hs_nil)
      (hs_cons (hs_if (pt_cmpR op_lt (pv 3) pe_int (nomark _))
      (hs_one (hs_ret (he_tup (ha_cons ⟨pe_str⟩ (ha_cons ⟨(pe_call GValue (hr.mono (by decide)) rfl mValue FValue.kp bValue .nil pass0 (pa_cons (pv 0) (pa_cons (pv 2) pa_nil)))⟩ ha_nil)))))
      hs_nil)
      (hs_cons (hs_if (pt_cmpR op_eq (pv 3) pe_int (nomark _))
      (hs_cons (hs_set (i := 4) scKind.nd rfl (Or.inl rfl) ⟨(pe_callB (call_min2 rfl) (by rfl) T.min boot_min (pa_cons (pe_op op_add pe_int (pe_call GNext (hr.mono (by decide)) rfl mNext FNext.kp bNext .nil pass0 (pa_cons (pv 0) (pa_cons pe_int pa_nil)))) (pa_cons (pe_op op_shl pe_int (pv 2)) pa_nil)))⟩)
      (hs_cons ⟨(ps_asg (pe_tup (pa_cons (pe_call GNext (hr.mono (by decide)) rfl mNext FNext.kp bNext .nil pass0 (pa_cons (pv 0) (pa_cons (pe_op op_shl pe_int (pv 2)) pa_nil))) (pa_cons (pe_op op_add (pe_op op_mul pe_int (pe_call GNext (hr.mono (by decide)) rfl mNext FNext.kp bNext .nil pass0 (pa_cons (pv 0) (pa_cons pe_int pa_nil)))) pe_int) pa_nil))) (pg_tup rfl (pgs_cons (pg_name (i := 5) scKind.nd rfl (Or.inr rfl)) (pgs_cons (pg_name (i := 6) scKind.nd rfl (Or.inr rfl)) pgs_nil))))⟩
      (hs_one (hs_ret (he_tup (ha_cons ⟨pe_str⟩ (ha_cons ⟨(pe_callTy call_tuple_of (by rfl) T.tuple boot_tuple (pa_cons (pe_comp rfl rfl (xs := ["_law_k"]) ⟨(by with_unfolding_all rfl), rfl, rfl, rfl, (by repeat (first | exact trivial | refine ⟨rfl, ?_⟩)), rfl⟩ (pi_range1 rfl T.range (pa_cons (pv 4) pa_nil)) (fun _ _ _ _ => (pg_name (i := 8) (by decide +kernel : (["_law_box_here", "_law_place", "_law_breadth", "_law_way_here", "_law_many", "_law_first", "_law_step", "_law_times", "_law_k"] : List Str).Nodup) rfl (Or.inl rfl))) (fun _ _ _ _ => pif_nil) (fun _ _ _ _ => (pe_op op_mod (pe_op op_add (pv 5) (pe_op op_mul (pv 6) (pv 8))) (pe_op op_shl pe_int (pv 2))))) pa_nil))⟩ ha_nil)))))))
      hs_nil)
      (hs_cons (hs_if (PW.pt (pw_and (pt_cmpR op_lt (pv 3) pe_int (nomark _)) (pw_and1 (pt_cmpR op_gt (pv 1) pe_int (nomark _)))))
      (hs_cons (hs_set (i := 7) scKind.nd rfl (Or.inl rfl) (he_lst (ha_cons ⟨pe_int⟩ (ha_cons ⟨pe_int⟩ (ha_cons ⟨(pe_un un_neg pe_int)⟩ (ha_cons ⟨pe_int⟩ (ha_cons ⟨pe_int⟩ (ha_cons ⟨(pe_un un_neg pe_int)⟩ (ha_cons ⟨(pe_op op_sub (pe_call GNext (hr.mono (by decide)) rfl mNext FNext.kp bNext .nil pass0 (pa_cons (pv 0) (pa_cons pe_int pa_nil))) pe_int)⟩ ha_nil)))))))))
      (hs_one (hs_ret (he_tup (ha_cons ⟨pe_str⟩ (ha_cons ⟨(pe_call GNext (hr.mono (by decide)) rfl mNext FNext.kp bNext .nil pass0 (pa_cons (pv 0) (pa_cons (pv 1) pa_nil)))⟩ (ha_cons ⟨(pe_call GOf (hr.mono (by decide)) rfl mOf FOf.kp bOf .nil pass0 (pa_cons (pv 0) (pa_cons (pv 7) pa_nil)))⟩ ha_nil)))))))
      hs_nil)
      (hs_one (hs_ret (he_tup (ha_cons ⟨pe_str⟩ ha_nil)))))))))), ?_⟩
    have hp := two_pow_pos b.toNat
    have h40 : (2 : Int) ^ b.toNat ≤ 2 ^ 40 := two_pow_mono (by omega)
    have h2 : (2 : Int) ^ 1 ≤ 2 ^ b.toNat := two_pow_mono (by omega)
    have h2' : (2 : Int) ^ 1 = 2 := by decide
    refine ⟨_, rfl, p, qa, _, c, rfl, pot, by omega, by decide, by decide, fun w0 H1 a0 a1 pot1 k1 => ?_⟩
    refine ⟨_, rfl, _, _, rfl, rfl, _, rfl, ite2 (fun c1 => ?_) (fun c1 => ?_)⟩
    · exact ⟨(by show 1 ≤ sizeLine; decide), fun t ht => q _ _ _ (pd_new pot1 ht) (by omega) (b2_new k1 ht)⟩
    refine ⟨_, rfl, _, _, rfl, rfl, _, rfl, ite2 (fun c2 => ?_) (fun c2 => ?_)⟩
    · exact ⟨_, rfl, _, rfl, p, qa, b, _, rfl, pot1, by omega, by omega, by omega, fun d H2 _ _ pot2 k2 => ⟨(by show 2 ≤ sizeLine; decide), fun t ht => q _ _ _ (pd_new pot2 ht) (by omega) (b2_new (b2_trans k1 k2) ht)⟩⟩
    refine ⟨_, rfl, rfl, _, rfl, ite2 (fun c3 => ?_) (fun c3 => ?_)⟩
    · refine ⟨_, rfl, p, qa, _, _, rfl, pot1, by omega, by decide, by decide, fun d1 H2 e0 e1 pot2 k2 => ?_⟩
      refine ⟨_, _, rfl, rfl, _, rfl, _, _, rfl, rfl, ⟨by omega, by omega, by decide⟩, _, _, rfl, ?_⟩
      refine ⟨_, rfl, _, rfl, _, _, rfl, rfl, ⟨by omega, by omega, by decide⟩, p, qa, _, _, rfl, pot2, by omega, by omega, by omega, fun d2 H3 f0 f1 pot3 k3 => ?_⟩
      refine ⟨_, rfl, p, qa, _, _, rfl, pot3, by omega, by decide, by decide, fun d3 H4 g0 g1 pot4 k4 => ?_⟩
      refine ⟨_, _, rfl, rfl, .inl ⟨by decide, by decide⟩, _, _, rfl, rfl, (by show 2 ≤ sizeLine; decide), fun t1 ht1 => ?_⟩
      refine ⟨t1, [.int d2, .int (2 * d3 + 1)], rfl, SqT.of upd_same, rfl, _, _, rfl, _, _, rfl, rfl, ?_⟩
      have pot5 := pd_new (o := .tup [.int d2, .int (2 * d3 + 1)]) pot4 ht1
      have k5 := b2_new (o := .tup [.int d2, .int (2 * d3 + 1)]) (b2_trans (b2_trans (b2_trans k1 k2) k3) k4) ht1
      generalize upd H4 t1 (.tup [.int d2, .int (2 * d3 + 1)]) = H5 at pot5 k5
      refine ⟨_, rfl, _, rfl, ?_, ?_, comp_range (k := (if 1 * (2 : Int) ^ b.toNat < 2 + d1 then 1 * 2 ^ b.toNat else 2 + d1).toNat) (fun j ys H6 => H6 = H5 ∧ ys.length = j) (by split <;> omega) ⟨rfl, rfl⟩ (fun j ys H6 ⟨_, e⟩ => by rw [e]; exact Nat.le_refl _) ?_ ?_⟩
      · split <;> omega
      · split <;> omega
      · rintro j ys H6 hj ⟨rfl, rfl⟩
        refine yesG ?_
        exact ⟨_, rfl, _, rfl, _, rfl, _, _, rfl, rfl, .inl ⟨by omega, by omega⟩, _, _, rfl, rfl, _, rfl, _, _, rfl, rfl, ⟨by omega, by omega, by decide⟩, _, _, rfl, rfl, (by show (0 : Int) < 1 * 2 ^ b.toNat; omega), rfl, by rw [List.length_append]; rfl⟩
      · rintro ys H6 ⟨rfl, _⟩ l3 hl3
        exact ⟨l3, _, rfl, .inl ⟨SqL.of upd_same, fun t2 ht2 => ⟨(by show 2 ≤ sizeLine; decide), fun t3 ht3 => q _ _ _ (pd_new (pd_new (pd_new pot5 hl3) ht2) ht3) (by omega) (b2_new (b2_new (b2_new k5 hl3) ht2) ht3)⟩⟩⟩
    refine ⟨_, rfl, _, _, rfl, rfl, _, rfl, ite2 (fun c4 => ?_) (fun c4 => ?_)⟩
    · refine ⟨_, rfl, _, _, rfl, rfl, _, rfl, ite2 (fun c5 => ?_) (fun c5 => ?_)⟩
      · have i2 : (0 : Int) < (i : Int) := of_decide_eq_true c5
        refine ⟨_, rfl, _, rfl, _, rfl, p, qa, _, _, rfl, pot1, by omega, by decide, by decide, fun d1 H2 e0 e1 pot2 k2 => ?_⟩
        refine ⟨_, _, rfl, rfl, (by show 7 ≤ sizeLine; decide), fun l hl => ?_⟩
        obtain ⟨n1, n2⟩ := pd_ne pot2 hl
        refine ⟨_, rfl, _, rfl, p, qa, _, _, rfl, pd_new pot2 hl, by omega, by omega, by omega, fun d2 H3 f0 f1 pot3 k3 => ?_⟩
        refine ⟨_, rfl, _, rfl, p, qa, l, _, _, rfl, pot3, by omega, k3 _ _ upd_same n1 n2, n1, n2, (by show 0 < 7; decide), (by show 7 < 1000; decide), fun x H4 hx pot4 k4 => ⟨(by show 3 ≤ sizeLine; decide), fun t ht => ?_⟩⟩
        exact q _ _ _ (pd_new pot4 ht) (by omega) (b2_new (b2_trans (b2_trans (b2_new (b2_trans k1 k2) hl) k3) k4) ht)
      · exact ⟨(by show 1 ≤ sizeLine; decide), fun t ht => q _ _ _ (pd_new pot1 ht) (by omega) (b2_new k1 ht)⟩
    · exact iteF ⟨(by show 1 ≤ sizeLine; decide), fun t ht => q _ _ _ (pd_new pot1 ht) (by omega) (b2_new k1 ht)⟩
theorem scShape : FnScope ["_law_box_here", "_law_most", "_law_letters", "_law_first", "_law_fields", "_law_place", "_law_breadth", "_law_name"] ["_law_box_here", "_law_most"] (defScope sShape) := ⟨rfl, rfl, rfl, by decide +kernel, rfl, by decide +kernel, by decide +kernel⟩
set_option maxHeartbeats 4000000 in
theorem ok_shape {f : Addr} {fd : FuncData} (F : Fun K "_law_shape" "_law_shape" sShape f fd) (T : Txt mg) {fNext fOf fValue fKind : Addr} {fdNext fdOf fdValue fdKind : FuncData} (FNext : Fun K "_law_next" "_law_next" sNext fNext fdNext) (bNext : Binds K fdNext ["_law_box_here", "_law_many"] []) (mNext : mg "_law_next" = some (.ref fNext)) (FOf : Fun K "_law_of" "_law_of" sOf fOf fdOf) (bOf : Binds K fdOf ["_law_box_here", "_law_some"] []) (mOf : mg "_law_of" = some (.ref fOf)) (FValue : Fun K "_law_value" "_law_value" sValue fValue fdValue) (bValue : Binds K fdValue ["_law_box_here", "_law_breadth"] []) (mValue : mg "_law_value" = some (.ref fValue)) (FKind : Fun K "_law_kind" "_law_kind" sKind fKind fdKind) (bKind : Binds K fdKind ["_law_box_here", "_law_place", "_law_breadth"] []) (mKind : mg "_law_kind" = some (.ref fKind)) : FnOk P w K mg base CX0 4 f fd ["_law_box_here", "_law_most"] spShape := by
  have GNext : FnOk P w K mg base CX0 1 fNext fdNext ["_law_box_here", "_law_many"] spNext := ok_next FNext
  have GOf : FnOk P w K mg base CX0 2 fOf fdOf ["_law_box_here", "_law_some"] spOf := ok_of FOf T FNext bNext mNext
  have GKind : FnOk P w K mg base CX0 3 fKind fdKind ["_law_box_here", "_law_place", "_law_breadth"] spKind := ok_kind FKind T FNext bNext mNext FOf bOf mOf FValue bValue mValue
  refine F.ok scShape (fun vs H Q E h => ?_) (fun cdv A outer s H vs Q E hr h => ?_)
  · obtain ⟨_, _, _, _, rfl, _⟩ := h
    rfl
  · obtain ⟨p, qa, mo, c, rfl, mo0, mo1, pot, hc, q⟩ := h
    have hc0 := pd_nn pot
    refine ⟨_, (Hid.out (hs_cons (hs_set (i := 2) scShape.nd rfl (Or.inl rfl) ⟨pe_str⟩)
      (hs_cons ⟨(ps_par (i := 3) (j := 4) rfl scShape.nd rfl rfl (by decide) rfl rfl (pa_cons (pe_call GNext (hr.mono (by decide)) rfl mNext FNext.kp bNext .nil pass0 (pa_cons (pv 0) (pa_cons pe_int pa_nil))) (pa_cons (pe_lst pa_nil) pa_nil)) rfl)⟩
      (hs_cons (hs_for PassesOwn.never rfl (pi_range1 rfl T.range (pa_cons (pe_op op_add pe_int (pe_call GNext (hr.mono (by decide)) rfl mNext FNext.kp bNext .nil pass0 (pa_cons (pv 0) (pa_cons (pv 1) pa_nil)))) pa_nil)) (pg_name (i := 5) scShape.nd rfl (Or.inl rfl))
      (hs_cons (hs_set (i := 6) scShape.nd rfl (Or.inl rfl) ⟨(pe_call GOf (hr.mono (by decide)) rfl mOf FOf.kp bOf .nil pass0 (pa_cons (pv 0) (pa_cons (pe_lst (pa_cons pe_int (pa_cons pe_int (pa_cons pe_int (pa_cons pe_int (pa_cons pe_int (pa_cons pe_int (pa_cons pe_int (pa_cons pe_int pa_nil))))))))) pa_nil)))⟩)
      (hs_cons (hs_set (i := 7) scShape.nd rfl (Or.inl rfl) ⟨(pe_op op_mul_str (pe_ix ix_str (pv 2) (pe_op op_mod (pe_op op_add (pv 3) (pe_op op_mul pe_int (pv 5))) pe_int) (fun _ _ => rfl)) (pe_op op_add pe_int (pe_op op_mod (pe_op op_add (pv 3) (pv 5)) pe_int)))⟩)
      (hs_one ⟨(ps_expr (pe_bm PySem.F.plainAttrs_list PySem.F.slot_list_append PySem.F.type_list_append mt_append (pv 4) (pa_cons (pe_tup (pa_cons (pv 7) (pa_cons (pv 6) (pa_cons (pe_call GKind (hr.mono (by decide)) rfl mKind FKind.kp bKind .nil pass0 (pa_cons (pv 0) (pa_cons (pv 5) (pa_cons (pv 6) pa_nil)))) pa_nil)))) pa_nil)))⟩))))
      (hs_one (hs_ret (he_tup (ha_cons ⟨(pe_callTy call_tuple_of (by rfl) T.tuple boot_tuple (pa_cons (pv 4) pa_nil))⟩ (ha_cons ⟨(pe_call GOf (hr.mono (by decide)) rfl mOf FOf.kp bOf .nil pass0 (pa_cons (pv 0) (pa_cons (pe_lst (pa_cons pe_int (pa_cons pe_int (pa_cons pe_int (pa_cons pe_int (pa_cons pe_int (pa_cons pe_int (pa_cons pe_int (pa_cons (pe_op op_pow pe_int pe_int) pa_nil))))))))) pa_nil)))⟩ ha_nil))))))))), ?_⟩
    have hline := sizeLine_eq
    refine ⟨_, rfl, p, qa, _, c, rfl, pot, by omega, by decide, by decide, fun first H1 a0 a1 pot1 k1 => ⟨(by show 0 ≤ sizeLine; decide), fun fl hfl => ?_⟩⟩
    obtain ⟨fp1, fp2⟩ := pd_ne pot1 hfl
    have pot2 := pd_new (o := .lst []) pot1 hfl
    have hflH : H fl = none := b2_none k1 hfl fp1 fp2
    refine ⟨_, _, rfl, _, rfl, _, rfl, p, qa, mo, _, rfl, pot2, by omega, by omega, by omega, fun d2 H3 b0 b1 pot3 k3 => ?_⟩
    have hfl3 := k3 _ _ (upd_same (H := H1) (a := fl) (o := .lst [])) fp1 fp2
    have k13 := b2_trans (b2_new k1 hfl) k3
    refine ⟨_, _, rfl, rfl, _, rfl, by omega, by omega, for_range (fun j σ H4 => ∃ (cj : Int) (v5 v6 v7 : Option V) (fr : List Addr) (bs : List Int), σ = [some (.ref p), some (.int mo), some (.str "abcdefghijklmnopqrstuvwxyz"), some (.int first), some (.ref fl), v5, v6, v7] ∧ PotD H4 p qa cj ∧ cj ≤ c + 2 + 8 * (j : Int) ∧ But2 p qa H H4 ∧ H4 fl = some (.lst (fr.map V.ref)) ∧ fr.length = bs.length ∧ (∀ (i : Nat) (h1 : i < fr.length) (h2 : i < bs.length), ∃ nm kd, H4 fr[i] = some (.tup [nm, .int bs[i], kd])) ∧ bs.length = j ∧ ∀ b ∈ bs, 1 ≤ b ∧ b ≤ 40)
      ⟨_, _, _, _, [], [], rfl, pot3, by omega, k13, hfl3, rfl, fun i h => (nomatch h), rfl, fun b h => (nomatch h)⟩ ?_ ?_⟩
    · rintro j σ H4 hj ⟨cj, v5, v6, v7, fr, bs, rfl, pot4, cu, k4, hfl4, hfl', hF, hbl, hb⟩
      have hj12 : j < 12 := by omega
      refine ⟨_, rfl, (by show 8 ≤ sizeLine; decide), fun l hl => ?_⟩
      obtain ⟨n1, n2⟩ := pd_ne pot4 hl
      refine ⟨p, qa, l, _, _, rfl, pd_new pot4 hl, by omega, upd_same, n1, n2, (by show 0 < 8; decide), (by show 8 < 1000; decide), fun x H5 hx pot5 k5 => ?_⟩
      obtain ⟨b, rfl, bb0, bb1⟩ : ∃ b : Int, x = .int b ∧ 1 ≤ b ∧ b ≤ 40 := by
        simp only [List.mem_cons, List.not_mem_nil, or_false] at hx
        rcases hx with h | h | h | h | h | h | h | h <;> exact ⟨_, h, by decide, by decide⟩
      have m0 := Int.emod_nonneg (first + 3 * (0 + (j : Int))) (b := 26) (by decide)
      have m1 := Int.emod_lt_of_pos (first + 3 * (0 + (j : Int))) (b := 26) (by decide)
      have m2 := Int.emod_nonneg (first + (0 + (j : Int))) (b := 8) (by decide)
      have m3 := Int.emod_lt_of_pos (first + (0 + (j : Int))) (b := 8) (by decide)
      obtain ⟨ch, _, ech⟩ := atI_mem ("abcdefghijklmnopqrstuvwxyz" : Str).cps.toList _ m0 (by show _ < (26 : Int); exact m1)
      refine ⟨_, rfl, _, rfl, _, rfl, _, _, rfl, rfl, .inl ⟨by decide, by decide⟩, _, _, rfl, rfl, _, _, rfl, rfl, (by show (0 : Int) < 26; decide), _, _, ch, rfl, rfl, (by decide), ech, ?_⟩
      refine ⟨_, rfl, _, rfl, _, _, rfl, rfl, _, _, rfl, rfl, (by show (0 : Int) < 8; decide), _, _, rfl, rfl, _, _, rfl, rfl, mulOk1 rfl (by omega) (by omega), ?_⟩
      have k45 : But2 p qa H4 H5 := b2_trans (b2_new b2_refl hl) k5
      have hfl5 := k45 fl _ hfl4 fp1 fp2
      refine ⟨_, rfl, .inl ⟨rfl, _, SqL.of hfl5⟩, _, rfl, _, rfl, _, rfl, _, rfl, _, rfl, p, qa, j, b, _, (by rw [Int.zero_add]; rfl), by omega, by omega, by omega, pot5, by omega, fun kd c8 H8 pot8 hc8 k8 => ?_⟩
      refine ⟨(by show 3 ≤ sizeLine; decide), fun t ht => ?_⟩
      have k48 := b2_trans k45 k8
      have hfl8 := k8 fl _ hfl5 fp1 fp2
      have st := same_new (o := .tup [.str (PySem.Txt.mul ⟨#[ch]⟩ (1 + (first + (0 + (j : Int))) % 8)), .int b, kd]) (Same.refl H8) ht
      have hfl9 := st _ _ hfl8
      have tf : t ≠ fl := (ne_of_none hfl8 ht).symm
      refine ⟨fl, _, _, rfl, rfl, hfl9, (by rw [List.length_map]; omega), ?_⟩
      have m8 : ∀ a xs, H8 a = some (.tup xs) → upd (upd H8 t (.tup [.str (PySem.Txt.mul ⟨#[ch]⟩ (1 + (first + (0 + (j : Int))) % 8)), .int b, kd])) fl (.lst (fr.map V.ref ++ [.ref t])) a = some (.tup xs) := fun a xs e => by
        have h2 := st _ _ e
        rw [upd_ne]
        · exact h2
        · intro z
          rw [z, hfl9] at h2
          cases h2
      refine ⟨c8, _, _, _, fr ++ [t], bs ++ [b], rfl, pd_upd (pd_new pot8 ht) fp1 fp2, by push_cast; omega, b2_upd (b2_new (b2_trans k4 k48) ht) hflH, ?_, ?_, fun i h1 h2 => ?_, ?_, fun d hd => ?_⟩
      · rw [upd_same, List.map_append]
        rfl
      · rw [List.length_append, List.length_append, hfl']
        rfl
      · by_cases hlt : i < fr.length
        · have h3 : i < bs.length := by omega
          rw [List.getElem_append_left hlt, List.getElem_append_left h3]
          obtain ⟨nm, kd', e⟩ := hF i hlt h3
          exact ⟨nm, kd', m8 _ _ (b2_tup pot4 k48 _ _ e)⟩
        · have e2 : i = fr.length := by
            rw [List.length_append] at h1
            have : [t].length = 1 := rfl
            omega
          subst e2
          have e5 : (fr ++ [t])[fr.length] = t := by rw [List.getElem_append_right (Nat.le_refl _)]; simp
          have e6 : (bs ++ [b])[fr.length] = b := by rw [List.getElem_append_right (by omega)]; simp [hfl']
          rw [e5, e6]
          exact ⟨.str (PySem.Txt.mul ⟨#[ch]⟩ (1 + (first + (0 + (j : Int))) % 8)), kd, (by rw [upd_ne tf]; exact upd_same)⟩
      · rw [List.length_append, hbl]
        rfl
      · rcases List.mem_append.mp hd with h | h
        · exact hb d h
        · rw [List.mem_singleton.mp h]
          exact ⟨bb0, bb1⟩
    · rintro σ H4 ⟨cj, v5, v6, v7, fr, bs, rfl, pot4, cu, k4, hfl4, hfl', hF, hbl, hb⟩
      refine ⟨_, rfl, fl, _, rfl, .inl ⟨SqL.of hfl4, fun ft hft => ?_⟩⟩
      have pot5 := pd_new (o := .tup (fr.map V.ref)) pot4 hft
      have s5 := same_new (o := .tup (fr.map V.ref)) (Same.refl H4) hft
      have k5 := b2_new (o := .tup (fr.map V.ref)) k4 hft
      refine ⟨_, rfl, _, _, rfl, rfl, ⟨by decide, by decide, by decide⟩, (by show 8 ≤ sizeLine; decide), fun l hl => ?_⟩
      obtain ⟨n1, n2⟩ := pd_ne pot5 hl
      refine ⟨p, qa, l, _, _, rfl, pd_new pot5 hl, by omega, upd_same, n1, n2, (by show 0 < 8; decide), (by show 8 < 1000; decide), fun x H6 hx pot6 k6 => ⟨(by show 2 ≤ sizeLine; decide), fun sh hsh => ?_⟩⟩
      obtain ⟨m, rfl, mm0, mm1⟩ : ∃ b : Int, x = .int b ∧ 1 ≤ b ∧ b ≤ 1000000 := by
        simp only [List.mem_cons, List.not_mem_nil, or_false] at hx
        rcases hx with h | h | h | h | h | h | h | h <;> exact ⟨_, h, by decide, by decide⟩
      have k56 := b2_trans (b2_new (p := p) (qa := qa) b2_refl hl) k6
      have s9 := same_new (o := .tup [.ref ft, .int m]) (Same.refl H6) hsh
      have mono : ∀ a xs, H4 a = some (.tup xs) → upd H6 sh (.tup [.ref ft, .int m]) a = some (.tup xs) := fun a xs e => s9 _ _ (b2_tup pot5 k56 _ _ (s5 _ _ e))
      refine q sh bs m _ _ (pd_new pot6 hsh) (by omega) (b2_new (b2_trans k5 k56) hsh) ⟨ft, fr, upd_same, s9 _ _ (b2_tup pot5 k56 _ _ upd_same), hfl', fun i h1 h2 => ?_, by omega, by omega, hb⟩ mm0 mm1
      obtain ⟨nm, kd, e⟩ := hF i h1 h2
      exact ⟨nm, kd, mono _ _ e⟩
theorem scWay : FnScope ["_law_box_here", "_law_breadth", "_law_way_here", "_law_width_here"] ["_law_box_here", "_law_breadth"] (defScope sWay) := ⟨rfl, rfl, rfl, by decide +kernel, rfl, by decide +kernel, by decide +kernel⟩
set_option maxHeartbeats 4000000 in
theorem ok_way {f : Addr} {fd : FuncData} (F : Fun K "_law_way" "_law_way" sWay f fd) (T : Txt mg) {fNext fValue : Addr} {fdNext fdValue : FuncData} (FNext : Fun K "_law_next" "_law_next" sNext fNext fdNext) (bNext : Binds K fdNext ["_law_box_here", "_law_many"] []) (mNext : mg "_law_next" = some (.ref fNext)) (FValue : Fun K "_law_value" "_law_value" sValue fValue fdValue) (bValue : Binds K fdValue ["_law_box_here", "_law_breadth"] []) (mValue : mg "_law_value" = some (.ref fValue)) : FnOk P w K mg base CX0 3 f fd ["_law_box_here", "_law_breadth"] spWay := by
  have GNext : FnOk P w K mg base CX0 1 fNext fdNext ["_law_box_here", "_law_many"] spNext := ok_next FNext
  have GValue : FnOk P w K mg base CX0 2 fValue fdValue ["_law_box_here", "_law_breadth"] spValue := ok_value FValue T FNext bNext mNext
  refine F.ok scWay (fun vs H Q E h => ?_) (fun cdv A outer s H vs Q E hr h => ?_)
  · obtain ⟨_, _, _, _, rfl, _⟩ := h
    rfl
  · obtain ⟨p, qa, b, c, rfl, b0, b1, pot, hc, q⟩ := h
    refine ⟨_, (Hid.out (hs_cons (hs_set (i := 2) scWay.nd rfl (Or.inl rfl) ⟨(pe_call GNext (hr.mono (by decide)) rfl mNext FNext.kp bNext .nil pass0 (pa_cons (pv 0) (pa_cons pe_int pa_nil)))⟩)
      (hs_cons (hs_if (pt_cmpR op_lt (pv 2) pe_int (nomark _))
      (hs_one (hs_ret (he_tup (ha_cons ⟨pe_str⟩ ha_nil))))
      hs_nil)
      (hs_cons (hs_if (pt_cmpR op_eq (pv 2) pe_int (nomark _))
      (hs_one (hs_ret (he_tup (ha_cons ⟨pe_str⟩ ha_nil))))
      hs_nil)
      (hs_cons (hs_set (i := 3) scWay.nd rfl (Or.inl rfl) ⟨(pe_op op_add pe_int (pe_call GNext (hr.mono (by decide)) rfl mNext FNext.kp bNext .nil pass0 (pa_cons (pv 0) (pa_cons (pv 1) pa_nil))))⟩)
      (hs_one (hs_ret (he_tup (ha_cons ⟨pe_str⟩ (ha_cons ⟨(pv 3)⟩ (ha_cons ⟨(pe_call GValue (hr.mono (by decide)) rfl mValue FValue.kp bValue .nil pass0 (pa_cons (pv 0) (pa_cons (pv 3) pa_nil)))⟩ ha_nil))))))))))), ?_⟩
    refine ⟨_, rfl, p, qa, _, c, rfl, pot, by omega, by decide, by decide, fun w0 H1 a0 a1 pot1 k1 => ?_⟩
    refine ⟨_, rfl, _, _, rfl, rfl, _, rfl, ite2 (fun c1 => ?_) (fun c1 => ?_)⟩
    · exact ⟨(by show 1 ≤ sizeLine; decide), fun t ht => q _ .keep _ _ (pd_new pot1 ht) (by omega) (b2_new k1 ht) ⟨t, rfl, upd_same⟩ True.intro⟩
    refine ⟨_, rfl, rfl, _, rfl, ite2 (fun c2 => ?_) (fun c2 => ?_)⟩
    · exact ⟨(by show 1 ≤ sizeLine; decide), fun t ht => q _ .whole _ _ (pd_new pot1 ht) (by omega) (b2_new k1 ht) ⟨t, rfl, upd_same⟩ True.intro⟩
    refine ⟨_, rfl, _, rfl, p, qa, _, _, rfl, pot1, by omega, by omega, by omega, fun d1 H2 e0 e1 pot2 k2 => ?_⟩
    refine ⟨_, _, rfl, rfl, _, rfl, _, rfl, _, rfl, p, qa, _, _, rfl, pot2, by omega, by omega, by omega, fun d2 H3 f0 f1 pot3 k3 => ⟨(by show 3 ≤ sizeLine; decide), fun t ht => ?_⟩⟩
    exact q _ (.low (1 + d1) d2) _ _ (pd_new pot3 ht) (by omega) (b2_new (b2_trans (b2_trans k1 k2) k3) ht) ⟨t, rfl, upd_same⟩ ⟨by omega, by omega, f0, f1⟩
theorem scForm : FnScope ["_law_box_here", "_law_shape_here", "_law_ways"] ["_law_box_here", "_law_shape_here"] (defScope sForm) := ⟨rfl, rfl, rfl, by decide +kernel, rfl, by decide +kernel, by decide +kernel⟩
set_option maxHeartbeats 4000000 in
theorem ok_form {f : Addr} {fd : FuncData} (F : Fun K "_law_form" "_law_form" sForm f fd) (T : Txt mg) {fNext fOf fValue fWay : Addr} {fdNext fdOf fdValue fdWay : FuncData} (FNext : Fun K "_law_next" "_law_next" sNext fNext fdNext) (bNext : Binds K fdNext ["_law_box_here", "_law_many"] []) (mNext : mg "_law_next" = some (.ref fNext)) (FOf : Fun K "_law_of" "_law_of" sOf fOf fdOf) (bOf : Binds K fdOf ["_law_box_here", "_law_some"] []) (mOf : mg "_law_of" = some (.ref fOf)) (FValue : Fun K "_law_value" "_law_value" sValue fValue fdValue) (bValue : Binds K fdValue ["_law_box_here", "_law_breadth"] []) (mValue : mg "_law_value" = some (.ref fValue)) (FWay : Fun K "_law_way" "_law_way" sWay fWay fdWay) (bWay : Binds K fdWay ["_law_box_here", "_law_breadth"] []) (mWay : mg "_law_way" = some (.ref fWay)) : FnOk P w K mg base CX0 4 f fd ["_law_box_here", "_law_shape_here"] spForm := by
  have GOf : FnOk P w K mg base CX0 2 fOf fdOf ["_law_box_here", "_law_some"] spOf := ok_of FOf T FNext bNext mNext
  have GWay : FnOk P w K mg base CX0 3 fWay fdWay ["_law_box_here", "_law_breadth"] spWay := ok_way FWay T FNext bNext mNext FValue bValue mValue
  refine F.ok scForm (fun vs H Q E h => ?_) (fun cdv A outer s H vs Q E hr h => ?_)
  · obtain ⟨_, _, _, _, _, _, rfl, _⟩ := h
    rfl
  · obtain ⟨p, qa, sh, bs, m, c, rfl, pot, hc, hsh, q⟩ := h
    obtain ⟨ft, fr, e1, e2, hfl, e3, e4, e5, e6⟩ := id hsh
    refine ⟨_, (Hid.out (hs_cons (hs_set (i := 2) scForm.nd rfl (Or.inl rfl) ⟨(pe_callTy call_tuple_of (by rfl) T.tuple boot_tuple (pa_cons (pe_comp rfl rfl (xs := ["_law_field"]) ⟨(by with_unfolding_all rfl), rfl, rfl, rfl, (by repeat (first | exact trivial | refine ⟨rfl, ?_⟩)), rfl⟩ (pi_tup (pe_ix ix_tup (pv 1) pe_int (fun _ _ => rfl))) (fun _ _ _ _ => (pg_name (i := 3) (by decide +kernel : (["_law_box_here", "_law_shape_here", "_law_ways", "_law_field"] : List Str).Nodup) rfl (Or.inl rfl))) (fun _ _ _ _ => pif_nil) (fun _ _ _ _ => (pe_call GWay (hr.mono (by decide)) rfl mWay FWay.kp bWay .nil pass0 (pa_cons (pv 0) (pa_cons (pe_ix (ix_tupK (K := K) rfl) (pv 3) pe_int (fun _ _ => rfl)) pa_nil))))) pa_nil))⟩)
      (hs_one (hs_ret (he_tup (ha_cons ⟨(pe_call GOf (hr.mono (by decide)) rfl mOf FOf.kp bOf .nil pass0 (pa_cons (pv 0) (pa_cons (pe_lst (pa_cons pe_int (pa_cons pe_int (pa_cons pe_int (pa_cons pe_int (pa_cons pe_int (pa_cons pe_int (pa_cons pe_int pa_nil)))))))) pa_nil)))⟩ (ha_cons ⟨(pe_call GOf (hr.mono (by decide)) rfl mOf FOf.kp bOf .nil pass0 (pa_cons (pv 0) (pa_cons (pe_lst (pa_cons pe_int (pa_cons pe_int (pa_cons pe_int (pa_cons pe_int (pa_cons pe_int (pa_cons pe_int (pa_cons pe_int (pa_cons pe_int (pa_cons pe_int pa_nil)))))))))) pa_nil)))⟩ (ha_cons ⟨(pv 2)⟩ ha_nil)))))))), ?_⟩
    refine ⟨_, rfl, sh, _, _, _, rfl, rfl, SqT.of e1, rfl, ft, rfl, ⟨_, SqT.of e2⟩, comp_tup (xs := fr.map V.ref) (fun j vs H1 => ∃ (ys : List Wy) (cj : Int), PotD H1 p qa cj ∧ cj ≤ c + 5 * (j : Int) ∧ But2 p qa H H1 ∧ WaysAt H1 vs ys ∧ ys.length = j ∧ ∀ (i : Nat) (h1 : i < bs.length) (h2 : i < ys.length), WyOk bs[i] ys[i]) (by rw [List.length_map]; omega) ⟨[], c, pot, by omega, b2_refl, ⟨rfl, fun i h => (nomatch h)⟩, rfl, fun i _ h => (nomatch h)⟩ (fun j ys H1 ⟨_, _, _, _, k, _⟩ => SqT.of (b2_tup pot k _ _ e2)) (fun j vs H1 ⟨ys, _, _, _, _, w, z, _⟩ => by rw [w.1, z]; exact Nat.le_refl _) ?_ ?_⟩
    · rintro j x vs H1 hx ⟨ys, cj, pot1, cj1, k1, hw, hyl, hyo⟩
      obtain ⟨hj, rfl⟩ := get_map hx
      have hjb : j < bs.length := by omega
      obtain ⟨nm, kv, f1⟩ := e3 j hj hjb
      have f1 := b2_tup pot k1 _ _ f1
      have o1 := e6 _ (List.getElem_mem hjb)
      refine yesG ?_
      refine ⟨_, rfl, _, rfl, fr[j], _, _, _, rfl, rfl, SqT.of f1, rfl, p, qa, bs[j], cj, rfl, o1.1, o1.2, pot1, by omega, fun v y c' H2 pot2 hc2 k2 hv hy => ?_⟩
      refine ⟨ys ++ [y], c', pot2, by push_cast; omega, b2_trans k1 k2, (hw.mono (b2_tup pot1 k2)).snoc hv, by rw [List.length_append, hyl]; rfl, fun i h1 h2 => ?_⟩
      by_cases hlt : i < ys.length
      · rw [List.getElem_append_left hlt]
        exact hyo i h1 hlt
      · have e : i = j := by
          rw [List.length_append] at h2
          have : [y].length = 1 := rfl
          omega
        subst e
        rw [List.getElem_append_right (by omega)]
        simp only [hyl, Nat.sub_self, List.getElem_cons_zero]
        exact hy
    · rintro vs H1 ⟨ys, cj, pot1, cj1, k1, hw, hyl, hyo⟩
      rw [List.length_map] at cj1 hyl
      intro l hl
      refine ⟨l, _, rfl, .inl ⟨SqL.of upd_same, fun wt hwt => ?_⟩⟩
      have pot2 := pd_new (o := .tup vs) (pd_new (o := .lst vs) pot1 hl) hwt
      have k2 := b2_new (o := .tup vs) (b2_new (o := .lst vs) k1 hl) hwt
      have hw2 : WaysAt (upd (upd H1 l (.lst vs)) wt (.tup vs)) vs ys := hw.mono fun a xs e => (same_new (o := .tup vs) (same_new (o := .lst vs) (Same.refl _) hl) hwt) _ _ e
      have hwt' : upd (upd H1 l (.lst vs)) wt (.tup vs) wt = some (.tup vs) := upd_same
      generalize upd (upd H1 l (.lst vs)) wt (.tup vs) = H2 at pot2 k2 hw2 hwt'
      refine ⟨_, rfl, (by show 7 ≤ sizeLine; decide), fun l3 hl3 => ?_⟩
      obtain ⟨n1, n2⟩ := pd_ne pot2 hl3
      refine ⟨p, qa, l3, _, _, rfl, pd_new pot2 hl3, by omega, upd_same, n1, n2, (by show 0 < 7; decide), (by show 7 < 1000; decide), fun x H3 hx pot3 k3 => ?_⟩
      obtain ⟨r, rfl, rr0, rr1⟩ : ∃ b : Int, x = .int b ∧ 1 ≤ b ∧ b ≤ 40 := by
        simp only [List.mem_cons, List.not_mem_nil, or_false] at hx
        rcases hx with h | h | h | h | h | h | h <;> exact ⟨_, h, by decide, by decide⟩
      refine ⟨_, rfl, (by show 9 ≤ sizeLine; decide), fun l4 hl4 => ?_⟩
      obtain ⟨n3, n4⟩ := pd_ne pot3 hl4
      refine ⟨p, qa, l4, _, _, rfl, pd_new pot3 hl4, by omega, upd_same, n3, n4, (by show 0 < 9; decide), (by show 9 < 1000; decide), fun x H4 hx4 pot4 k4 => ?_⟩
      obtain ⟨d, rfl, dd0, dd1⟩ : ∃ b : Int, x = .int b ∧ 1 ≤ b ∧ b ≤ 40 := by
        simp only [List.mem_cons, List.not_mem_nil, or_false] at hx4
        rcases hx4 with h | h | h | h | h | h | h | h | h <;> exact ⟨_, h, by decide, by decide⟩
      refine ⟨_, rfl, (by show 3 ≤ sizeLine; decide), fun t ht => ?_⟩
      have k24 : But2 p qa H2 H4 := b2_trans (b2_new (b2_trans (b2_new b2_refl hl3) k3) hl4) k4
      have st := same_new (o := .tup [.int r, .int d, .ref wt]) (Same.refl H4) ht
      have mono : ∀ a xs, H2 a = some (.tup xs) → upd H4 t (.tup [.int r, .int d, .ref wt]) a = some (.tup xs) := fun a xs e => st _ _ (b2_tup pot2 k24 _ _ e)
      exact q t r d ys _ _ (pd_new pot4 ht) (by omega) (b2_new (b2_trans k2 k24) ht) ⟨wt, vs, upd_same, mono _ _ hwt', hw2.mono mono⟩ ⟨rr0, rr1, dd0, dd1, by omega, hyo⟩
theorem scAnyHead : FnScope ["_law_box_here", "_law_shape_here"] ["_law_box_here", "_law_shape_here"] (defScope sAnyHead) := ⟨rfl, rfl, rfl, by decide +kernel, rfl, by decide +kernel, by decide +kernel⟩
theorem ok_anyhead {f : Addr} {fd : FuncData} (F : Fun K "_law_any_head" "_law_any_head" sAnyHead f fd) (T : Txt mg) {fNext fValue : Addr} {fdNext fdValue : FuncData} (FNext : Fun K "_law_next" "_law_next" sNext fNext fdNext) (bNext : Binds K fdNext ["_law_box_here", "_law_many"] []) (mNext : mg "_law_next" = some (.ref fNext)) (FValue : Fun K "_law_value" "_law_value" sValue fValue fdValue) (bValue : Binds K fdValue ["_law_box_here", "_law_breadth"] []) (mValue : mg "_law_value" = some (.ref fValue)) : FnOk P w K mg base CX0 3 f fd ["_law_box_here", "_law_shape_here"] spAnyHead := by
  have GValue : FnOk P w K mg base CX0 2 fValue fdValue ["_law_box_here", "_law_breadth"] spValue := ok_value FValue T FNext bNext mNext
  refine F.ok scAnyHead (fun vs H Q E h => ?_) (fun cdv A outer s H vs Q E hr h => ?_)
  · obtain ⟨_, _, _, _, _, _, rfl, _⟩ := h
    rfl
  · obtain ⟨p, qa, sh, bs, m, c, rfl, pot, hc, hsh, q⟩ := h
    obtain ⟨ft, fr, e1, e2, hfl, e3, e4, e5, e6⟩ := id hsh
    refine ⟨_, (pss_one (ps_ret (pe_callTy call_tuple_of (by rfl) T.tuple boot_tuple (pa_cons (pe_comp rfl rfl (xs := ["_law_field"]) ⟨(by with_unfolding_all rfl), rfl, rfl, rfl, (by repeat (first | exact trivial | refine ⟨rfl, ?_⟩)), rfl⟩ (pi_tup (pe_ix ix_tup (pv 1) pe_int (fun _ _ => rfl))) (fun _ _ _ _ => (pg_name (i := 2) (by decide +kernel : (["_law_box_here", "_law_shape_here", "_law_field"] : List Str).Nodup) rfl (Or.inl rfl))) (fun _ _ _ _ => pif_nil) (fun _ _ _ _ => (pe_call GValue (hr.mono (by decide)) rfl mValue FValue.kp bValue .nil pass0 (pa_cons (pv 0) (pa_cons (pe_ix (ix_tupK (K := K) rfl) (pv 2) pe_int (fun _ _ => rfl)) pa_nil))))) pa_nil)))), ?_⟩
    refine ⟨_, rfl, sh, _, _, _, rfl, rfl, SqT.of e1, rfl, ft, rfl, ⟨_, SqT.of e2⟩, comp_tup (xs := fr.map V.ref) (fun j vs H1 => ∃ (vals : List Int) (cj : Int), vs = vals.map V.int ∧ PotD H1 p qa cj ∧ cj ≤ c + 2 * (j : Int) ∧ But2 p qa H H1 ∧ vals.length = j ∧ (∀ v ∈ vals, 0 ≤ v ∧ v < 2 ^ 40) ∧ ∀ (i : Nat) (h1 : i < vals.length) (h2 : i < bs.length), vals[i] < 2 ^ bs[i].toNat) (by rw [List.length_map]; omega) ⟨[], c, rfl, pot, by omega, b2_refl, rfl, fun v h => (nomatch h), fun i h => (nomatch h)⟩ (fun j ys H1 ⟨_, _, _, _, _, k, _⟩ => SqT.of (b2_tup pot k _ _ e2)) (fun j vs H1 ⟨vals, _, e, _, _, _, z, _⟩ => by rw [e, List.length_map, z]; exact Nat.le_refl _) ?_ ?_⟩
    · rintro j x vs H1 hx ⟨vals, cj, rfl, pot1, cj1, k1, hvl, hv, hvb⟩
      obtain ⟨hj, rfl⟩ := get_map hx
      have hjb : j < bs.length := by omega
      obtain ⟨nm, kv, f1⟩ := e3 j hj hjb
      have f1 := b2_tup pot k1 _ _ f1
      have o1 := e6 _ (List.getElem_mem hjb)
      refine yesG ?_
      refine ⟨_, rfl, _, rfl, fr[j], _, _, _, rfl, rfl, SqT.of f1, rfl, p, qa, bs[j], cj, rfl, pot1, by omega, o1.1, by omega, fun d H2 d0 d1 pot2 k2 => ?_⟩
      have h40 : (2 : Int) ^ bs[j].toNat ≤ 2 ^ 40 := two_pow_mono (by omega)
      refine ⟨vals ++ [d], cj + 2, by rw [List.map_append]; rfl, pot2, by push_cast; omega, b2_trans k1 k2, by rw [List.length_append, hvl]; rfl, fun v h => ?_, fun i h1 h2 => ?_⟩
      · rcases List.mem_append.mp h with h | h
        · exact hv v h
        · rw [List.mem_singleton.mp h]
          omega
      · by_cases hlt : i < vals.length
        · rw [List.getElem_append_left hlt]
          exact hvb i hlt h2
        · have e : i = j := by
            rw [List.length_append] at h1
            have : [d].length = 1 := rfl
            omega
          subst e
          rw [List.getElem_append_right (by omega)]
          simp only [hvl, Nat.sub_self, List.getElem_cons_zero]
          exact d1
    · rintro vs H1 ⟨vals, cj, rfl, pot1, cj1, k1, hvl, hv, hvb⟩ l hl
      rw [List.length_map] at cj1 hvl
      exact ⟨l, _, rfl, .inl ⟨SqL.of upd_same, fun hd hhd => q hd vals _ _ (pd_new (pd_new pot1 hl) hhd) (by omega) (b2_new (b2_new k1 hl) hhd) upd_same (by omega) hv hvb⟩⟩
theorem scRoad : FnScope ["_law_box_here", "_law_skips", "_law_gap"] ["_law_box_here"] (defScope sRoad) := ⟨rfl, rfl, rfl, by decide +kernel, rfl, by decide +kernel, by decide +kernel⟩
set_option maxHeartbeats 4000000 in
theorem ok_road {f : Addr} {fd : FuncData} (F : Fun K "_law_road" "_law_road" sRoad f fd) (T : Txt mg) {fNext fOf : Addr} {fdNext fdOf : FuncData} (FNext : Fun K "_law_next" "_law_next" sNext fNext fdNext) (bNext : Binds K fdNext ["_law_box_here", "_law_many"] []) (mNext : mg "_law_next" = some (.ref fNext)) (FOf : Fun K "_law_of" "_law_of" sOf fOf fdOf) (bOf : Binds K fdOf ["_law_box_here", "_law_some"] []) (mOf : mg "_law_of" = some (.ref fOf)) : FnOk P w K mg base CX0 3 f fd ["_law_box_here"] spRoad := by
  have GOf : FnOk P w K mg base CX0 2 fOf fdOf ["_law_box_here", "_law_some"] spOf := ok_of FOf T FNext bNext mNext
  refine F.ok scRoad (fun vs H Q E h => ?_) (fun cdv A outer s H vs Q E hr h => ?_)
  · obtain ⟨_, _, _, rfl, _⟩ := h
    rfl
  · obtain ⟨p, qa, c, rfl, pot, hc, q⟩ := h
    refine ⟨_, (Hid.out (hs_cons (hs_set (i := 1) scRoad.nd rfl (Or.inl rfl) ⟨(pe_call GOf (hr.mono (by decide)) rfl mOf FOf.kp bOf .nil pass0 (pa_cons (pv 0) (pa_cons (pe_lst (pa_cons pe_int (pa_cons pe_int (pa_cons pe_int (pa_cons pe_int (pa_cons pe_int (pa_cons pe_int (pa_cons pe_int pa_nil)))))))) pa_nil)))⟩)
      (hs_cons (hs_set (i := 2) scRoad.nd rfl (Or.inl rfl) ⟨(pe_op op_add (pv 1) (pe_call GOf (hr.mono (by decide)) rfl mOf FOf.kp bOf .nil pass0 (pa_cons (pv 0) (pa_cons (pe_lst (pa_cons pe_int (pa_cons pe_int (pa_cons pe_int (pa_cons pe_int (pa_cons pe_int pa_nil)))))) pa_nil))))⟩)
      (hs_one (hs_ret (he_tup (ha_cons ⟨(pv 1)⟩ (ha_cons ⟨(pv 2)⟩ (ha_cons ⟨(pe_call GOf (hr.mono (by decide)) rfl mOf FOf.kp bOf .nil pass0 (pa_cons (pv 0) (pa_cons (pe_lst (pa_cons pe_int (pa_cons pe_int (pa_cons pe_int (pa_cons pe_int (pa_cons pe_int (pa_cons pe_int pa_nil))))))) pa_nil)))⟩ (ha_cons ⟨(pe_call GOf (hr.mono (by decide)) rfl mOf FOf.kp bOf .nil pass0 (pa_cons (pv 0) (pa_cons (pe_lst (pa_cons pe_int (pa_cons pe_int (pa_cons pe_int (pa_cons pe_int (pa_cons pe_int (pa_cons pe_int (pa_cons pe_int pa_nil)))))))) pa_nil)))⟩ ha_nil)))))))))), ?_⟩
    refine ⟨_, rfl, (by show 7 ≤ sizeLine; decide), fun l1 h1 => ?_⟩
    obtain ⟨a1, a2⟩ := pd_ne pot h1
    refine ⟨p, qa, l1, _, _, rfl, pd_new pot h1, by omega, upd_same, a1, a2, (by show 0 < 7; decide), (by show 7 < 1000; decide), fun x1 H1 hx1 pot1 k1 => ?_⟩
    obtain ⟨s0, rfl⟩ : ∃ b : Int, x1 = .int b := by
      simp only [List.mem_cons, List.not_mem_nil, or_false] at hx1
      rcases hx1 with h | h | h | h | h | h | h <;> exact ⟨_, h⟩
    refine ⟨_, rfl, _, rfl, (by show 5 ≤ sizeLine; decide), fun l2 h2 => ?_⟩
    obtain ⟨b1, b2⟩ := pd_ne pot1 h2
    refine ⟨p, qa, l2, _, _, rfl, pd_new pot1 h2, by omega, upd_same, b1, b2, (by show 0 < 5; decide), (by show 5 < 1000; decide), fun x2 H2 hx2 pot2 k2 => ?_⟩
    obtain ⟨g0, rfl⟩ : ∃ b : Int, x2 = .int b := by
      simp only [List.mem_cons, List.not_mem_nil, or_false] at hx2
      rcases hx2 with h | h | h | h | h <;> exact ⟨_, h⟩
    refine ⟨_, _, rfl, rfl, _, rfl, _, rfl, _, rfl, (by show 6 ≤ sizeLine; decide), fun l3 h3 => ?_⟩
    obtain ⟨c1, c2⟩ := pd_ne pot2 h3
    refine ⟨p, qa, l3, _, _, rfl, pd_new pot2 h3, by omega, upd_same, c1, c2, (by show 0 < 6; decide), (by show 6 < 1000; decide), fun x3 H3 hx3 pot3 k3 => ?_⟩
    refine ⟨_, rfl, (by show 7 ≤ sizeLine; decide), fun l4 h4 => ?_⟩
    obtain ⟨d1, d2⟩ := pd_ne pot3 h4
    refine ⟨p, qa, l4, _, _, rfl, pd_new pot3 h4, by omega, upd_same, d1, d2, (by show 0 < 7; decide), (by show 7 < 1000; decide), fun x4 H4 hx4 pot4 k4 => ⟨(by show 4 ≤ sizeLine; decide), fun t ht => ?_⟩⟩
    exact q t _ (pd_le (pd_new pot4 ht) (by omega)) (b2_new (b2_trans (b2_new (b2_trans (b2_new (b2_trans (b2_new (b2_trans (b2_new b2_refl h1) k1) h2) k2) h3) k3) h4) k4) ht)
theorem scPact : FnScope ["_law_box_here", "_law_most", "_law_shape_here", "_law_forms"] ["_law_box_here", "_law_most"] (defScope sPact) := ⟨rfl, rfl, rfl, by decide +kernel, rfl, by decide +kernel, by decide +kernel⟩
set_option maxHeartbeats 4000000 in
theorem ok_pact {f : Addr} {fd : FuncData} (F : Fun K "_law_pact" "_law_pact" sPact f fd) (T : Txt mg) {fNext fOf fValue fKind fShape fWay fForm fRoad : Addr} {fdNext fdOf fdValue fdKind fdShape fdWay fdForm fdRoad : FuncData} (FNext : Fun K "_law_next" "_law_next" sNext fNext fdNext) (bNext : Binds K fdNext ["_law_box_here", "_law_many"] []) (mNext : mg "_law_next" = some (.ref fNext)) (FOf : Fun K "_law_of" "_law_of" sOf fOf fdOf) (bOf : Binds K fdOf ["_law_box_here", "_law_some"] []) (mOf : mg "_law_of" = some (.ref fOf)) (FValue : Fun K "_law_value" "_law_value" sValue fValue fdValue) (bValue : Binds K fdValue ["_law_box_here", "_law_breadth"] []) (mValue : mg "_law_value" = some (.ref fValue)) (FKind : Fun K "_law_kind" "_law_kind" sKind fKind fdKind) (bKind : Binds K fdKind ["_law_box_here", "_law_place", "_law_breadth"] []) (mKind : mg "_law_kind" = some (.ref fKind)) (FShape : Fun K "_law_shape" "_law_shape" sShape fShape fdShape) (bShape : Binds K fdShape ["_law_box_here", "_law_most"] []) (mShape : mg "_law_shape" = some (.ref fShape)) (FWay : Fun K "_law_way" "_law_way" sWay fWay fdWay) (bWay : Binds K fdWay ["_law_box_here", "_law_breadth"] []) (mWay : mg "_law_way" = some (.ref fWay)) (FForm : Fun K "_law_form" "_law_form" sForm fForm fdForm) (bForm : Binds K fdForm ["_law_box_here", "_law_shape_here"] []) (mForm : mg "_law_form" = some (.ref fForm)) (FRoad : Fun K "_law_road" "_law_road" sRoad fRoad fdRoad) (bRoad : Binds K fdRoad ["_law_box_here"] []) (mRoad : mg "_law_road" = some (.ref fRoad)) : FnOk P w K mg base CX0 5 f fd ["_law_box_here", "_law_most"] spPact := by
  have GOf : FnOk P w K mg base CX0 2 fOf fdOf ["_law_box_here", "_law_some"] spOf := ok_of FOf T FNext bNext mNext
  have GShape : FnOk P w K mg base CX0 4 fShape fdShape ["_law_box_here", "_law_most"] spShape := ok_shape FShape T FNext bNext mNext FOf bOf mOf FValue bValue mValue FKind bKind mKind
  have GForm : FnOk P w K mg base CX0 4 fForm fdForm ["_law_box_here", "_law_shape_here"] spForm := ok_form FForm T FNext bNext mNext FOf bOf mOf FValue bValue mValue FWay bWay mWay
  have GRoad : FnOk P w K mg base CX0 3 fRoad fdRoad ["_law_box_here"] spRoad := ok_road FRoad T FNext bNext mNext FOf bOf mOf
  refine F.ok scPact (fun vs H Q E h => ?_) (fun cdv A outer s H vs Q E hr h => ?_)
  · obtain ⟨_, _, _, _, rfl, _⟩ := h
    rfl
  · obtain ⟨p, qa, mo, c, rfl, mo0, mo1, pot, hc, q⟩ := h
    refine ⟨_, (Hid.out (hs_cons (hs_set (i := 2) scPact.nd rfl (Or.inr rfl) ⟨(pe_call GShape (hr.mono (by decide)) rfl mShape FShape.kp bShape .nil pass0 (pa_cons (pv 0) (pa_cons (pv 1) pa_nil)))⟩)
      (hs_cons (hs_set (i := 3) scPact.nd rfl (Or.inl rfl) ⟨(pe_callTy call_tuple_of (by rfl) T.tuple boot_tuple (pa_cons (pe_comp rfl rfl (xs := ["_law_k"]) ⟨(by with_unfolding_all rfl), rfl, rfl, rfl, (by repeat (first | exact trivial | refine ⟨rfl, ?_⟩)), rfl⟩ (pi_range1 rfl T.range (pa_cons (pe_call GOf (hr.mono (by decide)) rfl mOf FOf.kp bOf .nil pass0 (pa_cons (pv 0) (pa_cons (pe_lst (pa_cons pe_int (pa_cons pe_int (pa_cons pe_int (pa_cons pe_int (pa_cons pe_int (pa_cons pe_int pa_nil))))))) pa_nil))) pa_nil)) (fun _ _ _ _ => (pg_name (i := 4) (by decide +kernel : (["_law_box_here", "_law_most", "_law_shape_here", "_law_forms", "_law_k"] : List Str).Nodup) rfl (Or.inl rfl))) (fun _ _ _ _ => pif_nil) (fun _ _ _ _ => (pe_call GForm (hr.mono (by decide)) rfl mForm FForm.kp bForm .nil pass0 (pa_cons (pv 0) (pa_cons (pv 2) pa_nil))))) pa_nil))⟩)
      (hs_one (hs_ret (he_tup (ha_cons ⟨(pv 2)⟩ (ha_cons ⟨(pe_call GOf (hr.mono (by decide)) rfl mOf FOf.kp bOf .nil pass0 (pa_cons (pv 0) (pa_cons (pe_lst (pa_cons pe_int (pa_cons pe_int (pa_cons pe_int (pa_cons pe_int pa_nil))))) pa_nil)))⟩ (ha_cons ⟨(pv 3)⟩ (ha_cons ⟨(pe_call GRoad (hr.mono (by decide)) rfl mRoad FRoad.kp bRoad .nil pass0 (pa_cons (pv 0) pa_nil))⟩ ha_nil)))))))))), ?_⟩
    refine ⟨_, rfl, _, rfl, p, qa, mo, c, rfl, mo0, mo1, pot, by omega, fun sh bs m c1 H1 pot1 hc1 k1 hsh m0 m1 => ?_⟩
    refine ⟨_, rfl, (by show 6 ≤ sizeLine; decide), fun l1 h1 => ?_⟩
    obtain ⟨a1, a2⟩ := pd_ne pot1 h1
    refine ⟨p, qa, l1, _, _, rfl, pd_new pot1 h1, by omega, upd_same, a1, a2, (by show 0 < 6; decide), (by show 6 < 1000; decide), fun x1 H2 hx1 pot2 k2 => ?_⟩
    obtain ⟨n, rfl, n0, n1⟩ : ∃ b : Int, x1 = .int b ∧ 0 ≤ b ∧ b ≤ 12 := by
      simp only [List.mem_cons, List.not_mem_nil, or_false] at hx1
      rcases hx1 with h | h | h | h | h | h <;> exact ⟨_, h, by decide, by decide⟩
    have k12 : But2 p qa H1 H2 := b2_trans (b2_new b2_refl h1) k2
    have hsh2 := hsh.mono (b2_tup pot1 k12)
    refine ⟨_, rfl, by omega, by omega, comp_range (k := n.toNat) (fun j vs H3 => ∃ (fas : List Addr) (fs : List (Int × Int × List Wy)) (cj : Int), vs = fas.map V.ref ∧ PotD H3 p qa cj ∧ cj ≤ c + 201 + 70 * (j : Int) ∧ But2 p qa H2 H3 ∧ fas.length = j ∧ FormsAt H3 fas bs fs) (by omega) ⟨[], [], _, rfl, pot2, by omega, b2_refl, rfl, rfl, fun i h => (nomatch h), fun f h => (nomatch h)⟩ (fun j vs H3 ⟨fas, _, _, e, _, _, _, z, _⟩ => by rw [e, List.length_map, z]; exact Nat.le_refl _) ?_ ?_⟩
    · rintro j vs H3 hj ⟨fas, fs, cj, rfl, pot3, cj1, k3, hfl, hfs⟩
      refine yesG ?_
      refine ⟨_, rfl, _, rfl, p, qa, sh, bs, m, cj, rfl, pot3, by omega, hsh2.mono (b2_tup pot2 k3), fun fo r d ys c4 H4 pot4 hc4 k4 hfo hok => ?_⟩
      exact ⟨fas ++ [fo], fs ++ [(r, d, ys)], c4, by rw [List.map_append]; rfl, pot4, by push_cast; omega, b2_trans k3 k4, by rw [List.length_append, hfl]; rfl, (hfs.mono (b2_tup pot3 k4)).snoc hfo hok⟩
    · rintro vs H3 ⟨fas, fs, cj, rfl, pot3, cj1, k3, hfl, hfs⟩ l3 hl3
      refine ⟨l3, _, rfl, .inl ⟨SqL.of upd_same, fun ft hft => ?_⟩⟩
      have s4 := same_new (o := .tup (fas.map V.ref)) (same_new (o := .lst (fas.map V.ref)) (Same.refl H3) hl3) hft
      have hft' : upd (upd H3 l3 (.lst (fas.map V.ref))) ft (.tup (fas.map V.ref)) ft = some (.tup (fas.map V.ref)) := upd_same
      generalize upd (upd H3 l3 (.lst (fas.map V.ref))) ft (.tup (fas.map V.ref)) = H4 at s4 hft'
      have pot4 := pd_same pot3 s4
      refine ⟨_, rfl, _, rfl, (by show 4 ≤ sizeLine; decide), fun l5 h5 => ?_⟩
      obtain ⟨b1, b2⟩ := pd_ne pot4 h5
      refine ⟨p, qa, l5, _, _, rfl, pd_new pot4 h5, by omega, upd_same, b1, b2, (by show 0 < 4; decide), (by show 4 < 1000; decide), fun x5 H5 hx5 pot5 k5 => ?_⟩
      obtain ⟨wide, rfl, w0, w1⟩ : ∃ b : Int, x5 = .int b ∧ 1 ≤ b ∧ b ≤ 40 := by
        simp only [List.mem_cons, List.not_mem_nil, or_false] at hx5
        rcases hx5 with h | h | h | h <;> exact ⟨_, h, by decide, by decide⟩
      refine ⟨_, rfl, _, rfl, p, qa, _, rfl, pot5, by omega, fun rd H6 pot6 k6 => ⟨(by show 4 ≤ sizeLine; decide), fun pa hpa => ?_⟩⟩
      have k46 : But2 p qa H4 H6 := b2_trans (b2_trans (b2_new b2_refl h5) k5) k6
      have st := same_new (o := .tup [.ref sh, .int wide, .ref ft, .ref rd]) (Same.refl H6) hpa
      have m46 : ∀ a xs, H4 a = some (.tup xs) → upd H6 pa (.tup [.ref sh, .int wide, .ref ft, .ref rd]) a = some (.tup xs) := fun a xs e => st _ _ (b2_tup pot4 k46 _ _ e)
      refine q pa bs m wide fs _ _ (pd_new pot6 hpa) (by omega) (b2_new (b2_trans (b2_same (b2_trans (b2_trans k1 k12) k3) s4) k46) hpa) ⟨sh, ft, rd, fas, upd_same, (hsh2.mono (b2_tup pot2 k3)).mono fun a xs e => m46 _ _ (s4 _ _ e), m46 _ _ hft', hfs.mono fun a xs e => m46 _ _ (s4 _ _ e), by rw [← hfs.1, hfl]; omega, w0, w1, m0, m1⟩
end
end K
namespace K
open PySem PyProof.Rows L2 Mth
theorem rep_ways {H : Hp} {v : V} {y : Wy} (h : WayV H v y) (n : Nat) : WaysAt H (List.replicate n v) (List.replicate n y) := by
  refine ⟨by rw [List.length_replicate, List.length_replicate], fun i h1 h2 => ?_⟩
  rw [List.getElem_replicate, List.getElem_replicate]
  exact h
/-- the count and the ways of the form at a place, or of a whole letter -/
def AtF (bs : List Int) (wide : Int) (fs : List (Int × Int × List Wy)) (at' : V) (so cnt : Int) (ys : List Wy) : Prop :=
  (at' = .non ∧ so = 0 ∧ cnt = wide ∧ ys = List.replicate bs.length .whole) ∨ ∃ (k : Nat) (h : k < fs.length), at' = .int (k : Int) ∧ so = 1 + (k : Int) ∧ cnt = fs[k].2.1 ∧ ys = fs[k].2.2
theorem AtF.ok {H : Hp} {pa : Addr} {bs : List Int} {m wide : Int} {fs : List (Int × Int × List Wy)} {at' : V} {so cnt : Int} {ys : List Wy} (h : AtF bs wide fs at' so cnt ys) (hp : PactAt H pa bs m wide fs) : WsB bs ys ∧ 1 ≤ cnt ∧ cnt ≤ 40 := by
  obtain ⟨sh, ft, rd, fas, _, h2, _, h4, h5, w0, w1, _⟩ := hp
  rcases h with ⟨_, _, rfl, rfl⟩ | ⟨k, hk, _, _, rfl, rfl⟩
  · refine ⟨⟨by rw [List.length_replicate], fun i h1 h2 => ?_⟩, w0, w1⟩
    rw [List.getElem_replicate]
    exact True.intro
  · have := h4.2.2 _ (List.getElem_mem hk)
    exact ⟨this.2.2.2.2, this.2.2.1, this.2.2.2.1⟩
/-- the letter -/
def Lt (sw cw : Nat) (so n cnt m : Int) (ws vals : List Int) : Str := Tx so sw ++ Tx (n % 2 ^ cnt.toNat) cnt.toNat ++ cat (PcL vals ws) ++ Tx ((n + wsum 2 vals) % m) cw
theorem pcl_len : ∀ (vals ws : List Int), vals.length = ws.length → (∀ w ∈ ws, 0 ≤ w) → ((((PcL vals ws).map fun t => t.cps.size).sum : Nat) : Int) = ws.sum
  | [], [], _, _ => rfl
  | v :: vs, w :: ws, h, hw => by
    have ih := pcl_len vs ws (by simpa using h) fun x hx => hw x (List.mem_cons_of_mem _ hx)
    have h0 := hw w (by simp)
    show (((Tx (v % 2 ^ w.toNat) w.toNat).cps.size + ((PcL vs ws).map fun t => t.cps.size).sum : Nat) : Int) = w + ws.sum
    rw [Tx_length]
    omega
theorem sum_le (ws : List Int) (k : Int) (h : ∀ w ∈ ws, w ≤ k) : ws.sum ≤ k * ws.length := by
  induction ws with
  | nil => simp
  | cons w r ih =>
    have h1 := h w (by simp)
    have h2 := ih fun x hx => h x (List.mem_cons_of_mem _ hx)
    rw [List.sum_cons, List.length_cons]
    push_cast
    rw [Int.mul_add]
    omega
theorem str_len_app (a b : Str) : (a ++ b).length = a.length + b.length := by rw [← Str.length_append]
def spFormAt : Sp := fun vs H Q _ => ∃ (pa : Addr) (at' : V) (bs : List Int) (m wide so cnt : Int) (fs : List (Int × Int × List Wy)) (ys : List Wy), vs = [.ref pa, at'] ∧ PactAt H pa bs m wide fs ∧ AtF bs wide fs at' so cnt ys ∧ ∀ (f : Addr) (r : Int) (H' : Hp), Same H H' → FormAt H' f r cnt ys → Q (.ref f) H'
def spSortWidth : Sp := fun vs H Q _ => ∃ (pa : Addr) (bs : List Int) (m wide : Int) (fs : List (Int × Int × List Wy)), vs = [.ref pa] ∧ PactAt H pa bs m wide fs ∧ ∀ w : Nat, Wid (1 + (fs.length : Int)) w → Q (.int w) H
def spCheckWidth : Sp := fun vs H Q _ => ∃ (pa : Addr) (bs : List Int) (m wide : Int) (fs : List (Int × Int × List Wy)), vs = [.ref pa] ∧ PactAt H pa bs m wide fs ∧ ∀ w : Nat, Wid m w → Q (.int w) H
def spLetterSize : Sp := fun vs H Q _ => ∃ (pa : Addr) (at' : V) (bs : List Int) (m wide so cnt : Int) (fs : List (Int × Int × List Wy)) (ys : List Wy), vs = [.ref pa, at'] ∧ PactAt H pa bs m wide fs ∧ AtF bs wide fs at' so cnt ys ∧ ∀ (sw cw : Nat) (H' : Hp), Wid (1 + (fs.length : Int)) sw → Wid m cw → Same H H' → Q (.int (sw + cnt + (Wds bs ys).sum + cw)) H'
section
variable {P : Program} {w : World} {K : PySem.W.Frag} {mg : Str → Option Value} {base : Heap}
theorem scFormAt : FnScope ["pact", "at"] ["pact", "at"] (defScope sFormAt) := ⟨rfl, rfl, rfl, by decide +kernel, rfl, by decide +kernel, by decide +kernel⟩
set_option maxHeartbeats 4000000 in
theorem ok_format {f : Addr} {fd : FuncData} (F : Fun K "form_at" "form_at" sFormAt f fd) (T : Txt mg) : FnOk P w K mg base CX0 1 f fd ["pact", "at"] spFormAt := by
  refine F.ok scFormAt (fun vs H Q E h => ?_) (fun cdv A outer s H vs Q E hr h => ?_)
  · obtain ⟨_, _, _, _, _, _, _, _, _, rfl, _⟩ := h
    rfl
  · obtain ⟨pa, at', bs, m, wide, so, cnt, fs, ys, rfl, hp, hat, q⟩ := h
    obtain ⟨sh, ft, rd, fas, h1, h2, h3, h4, h5, w0, w1, m0, m1⟩ := id hp
    refine ⟨_, (Hid.out (hs_cons (hs_if (pt_cmpR op_isN (pv 1) pe_non (nomark _))
      (hs_one (hs_ret (he_tup (ha_cons ⟨pe_int⟩ (ha_cons ⟨(pe_ix ix_tup (pv 0) pe_int (fun _ _ => rfl))⟩ (ha_cons ⟨(pe_op op_mulT (pe_tup (pa_cons (pe_tup (pa_cons pe_str pa_nil)) pa_nil)) (pe_callB call_len_seq (by rfl) T.len PySem.boot_len (pa_cons (pe_ix ix_tup (pe_ix ix_tup (pv 0) pe_int (fun _ _ => rfl)) pe_int (fun _ _ => rfl)) pa_nil)))⟩ ha_nil))))))
      hs_nil)
      (hs_one (hs_ret ⟨(pe_ix ix_tup (pe_ix ix_tup (pv 0) pe_int (fun _ _ => rfl)) (pv 1) (fun _ _ => rfl))⟩)))), ?_⟩
    rcases hat with ⟨rfl, rfl, rfl, rfl⟩ | ⟨k, hk, rfl, rfl, rfl, rfl⟩
    · obtain ⟨fft, fr, g1, g2, g3, g4, g5, g6, g7⟩ := id h2
      refine ⟨_, rfl, rfl, _, rfl, iteD rfl ?_⟩
      refine ⟨_, rfl, pa, _, _, _, rfl, rfl, SqT.of h1, rfl, (by show 1 ≤ sizeLine; decide), fun t1 ht1 => ⟨(by show 1 ≤ sizeLine; decide), fun t2 ht2 => ?_⟩⟩
      have s1 := same_new (o := .tup [.str "whole"]) (Same.refl H) ht1
      have s2' := same_new (o := .tup [.ref t1]) (Same.refl _) ht2
      have s2 := s1.trans s2'
      refine ⟨_, rfl, pa, _, _, _, rfl, rfl, SqT.of (s2 _ _ h1), rfl, sh, _, _, _, rfl, rfl, SqT.of (s2 _ _ g1), rfl, fft, _, rfl, .inr (SqT.of (s2 _ _ g2)), t2, .ref t1, _, rfl, rfl, upd_same, by rw [List.length_map]; omega, by rw [List.length_map]; omega, fun r H1 hr1 k1 => ⟨(by show 3 ≤ sizeLine; decide), fun t3 ht3 => ?_⟩⟩
      have s3 := same_new (o := .tup [.int 1, .int cnt, .ref r]) (Same.refl H1) ht3
      have e : ((fr.map V.ref).length : Int).toNat = bs.length := by rw [List.length_map]; omega
      rw [e] at hr1
      exact q t3 1 _ (s2.trans (Same.trans k1 s3)) ⟨r, _, upd_same, s3 _ _ hr1, rep_ways (y := .whole) ⟨t1, rfl, s3 _ _ (k1 _ _ (s2' _ _ upd_same))⟩ _⟩
    · refine ⟨_, rfl, rfl, _, rfl, iteDN (by intro z; cases z) ?_⟩
      have hkf : k < fas.length := by rw [h4.1]; exact hk
      refine ⟨_, rfl, pa, _, _, _, rfl, rfl, SqT.of h1, rfl, _, rfl, ft, _, _, _, rfl, rfl, SqT.of h3, atI_nat (by simp [hkf]; rfl), ?_⟩
      exact q fas[k] _ H (Same.refl H) (h4.2.1 k hkf hk)
theorem scSortWidth : FnScope ["pact"] ["pact"] (defScope sSortWidth) := ⟨rfl, rfl, rfl, by decide +kernel, rfl, by decide +kernel, by decide +kernel⟩
theorem ok_sortwidth {f : Addr} {fd : FuncData} (F : Fun K "sort_width" "sort_width" sSortWidth f fd) (T : Txt mg) {fWidthFor : Addr} {fdWidthFor : FuncData} (FWidthFor : Fun K "width_for" "width_for" sWidthFor fWidthFor fdWidthFor) (bWidthFor : Binds K fdWidthFor ["many"] []) (mWidthFor : mg "width_for" = some (.ref fWidthFor)) : FnOk P w K mg base CX0 2 f fd ["pact"] spSortWidth := by
  have GWidthFor : FnOk P w K mg base CX0 1 fWidthFor fdWidthFor ["many"] spWidthFor := ok_widthfor FWidthFor
  refine F.ok scSortWidth (fun vs H Q E h => ?_) (fun cdv A outer s H vs Q E hr h => ?_)
  · obtain ⟨_, _, _, _, _, rfl, _⟩ := h
    rfl
  · obtain ⟨pa, bs, m, wide, fs, rfl, hp, q⟩ := h
    obtain ⟨sh, ft, rd, fas, h1, h2, h3, h4, h5, w0, w1, m0, m1⟩ := id hp
    refine ⟨_, (pss_one (ps_ret (pe_call GWidthFor (hr.mono (by decide)) rfl mWidthFor FWidthFor.kp bWidthFor .nil pass0 (pa_cons (pe_op op_add pe_int (pe_callB call_len_seq (by rfl) T.len PySem.boot_len (pa_cons (pe_ix ix_tup (pv 0) pe_int (fun _ _ => rfl)) pa_nil))) pa_nil)))), ?_⟩
    refine ⟨_, rfl, pa, _, _, _, rfl, rfl, SqT.of h1, rfl, ft, _, rfl, .inr (SqT.of h3), _, _, rfl, rfl, _, rfl, by rw [List.length_map]; omega, fun w hw => ?_⟩
    rw [List.length_map, h4.1] at hw
    exact q w hw
theorem scCheckWidth : FnScope ["pact"] ["pact"] (defScope sCheckWidth) := ⟨rfl, rfl, rfl, by decide +kernel, rfl, by decide +kernel, by decide +kernel⟩
theorem ok_checkwidth {f : Addr} {fd : FuncData} (F : Fun K "check_width" "check_width" sCheckWidth f fd) (T : Txt mg) {fWidthFor : Addr} {fdWidthFor : FuncData} (FWidthFor : Fun K "width_for" "width_for" sWidthFor fWidthFor fdWidthFor) (bWidthFor : Binds K fdWidthFor ["many"] []) (mWidthFor : mg "width_for" = some (.ref fWidthFor)) : FnOk P w K mg base CX0 2 f fd ["pact"] spCheckWidth := by
  have GWidthFor : FnOk P w K mg base CX0 1 fWidthFor fdWidthFor ["many"] spWidthFor := ok_widthfor FWidthFor
  refine F.ok scCheckWidth (fun vs H Q E h => ?_) (fun cdv A outer s H vs Q E hr h => ?_)
  · obtain ⟨_, _, _, _, _, rfl, _⟩ := h
    rfl
  · obtain ⟨pa, bs, m, wide, fs, rfl, hp, q⟩ := h
    obtain ⟨sh, ft, rd, fas, h1, h2, h3, h4, h5, w0, w1, m0, m1⟩ := id hp
    obtain ⟨fft, fr, g1, _⟩ := id h2
    refine ⟨_, (pss_one (ps_ret (pe_call GWidthFor (hr.mono (by decide)) rfl mWidthFor FWidthFor.kp bWidthFor .nil pass0 (pa_cons (pe_ix ix_tup (pe_ix ix_tup (pv 0) pe_int (fun _ _ => rfl)) pe_int (fun _ _ => rfl)) pa_nil)))), ?_⟩
    exact ⟨_, rfl, pa, _, _, _, rfl, rfl, SqT.of h1, rfl, sh, _, _, _, rfl, rfl, SqT.of g1, rfl, m, rfl, m0, q⟩
theorem scLetterSize : FnScope ["pact", "at", "form"] ["pact", "at"] (defScope sLetterSize) := ⟨rfl, rfl, rfl, by decide +kernel, rfl, by decide +kernel, by decide +kernel⟩
theorem ok_lettersize {f : Addr} {fd : FuncData} (F : Fun K "letter_size" "letter_size" sLetterSize f fd) (T : Txt mg) {fWidthFor fBreadths fWidthOf fWidths fSizeOf fFormAt fSortWidth fCheckWidth : Addr} {fdWidthFor fdBreadths fdWidthOf fdWidths fdSizeOf fdFormAt fdSortWidth fdCheckWidth : FuncData} (FWidthFor : Fun K "width_for" "width_for" sWidthFor fWidthFor fdWidthFor) (bWidthFor : Binds K fdWidthFor ["many"] []) (mWidthFor : mg "width_for" = some (.ref fWidthFor)) (FBreadths : Fun K "breadths" "breadths" sBreadths fBreadths fdBreadths) (bBreadths : Binds K fdBreadths ["shape"] []) (mBreadths : mg "breadths" = some (.ref fBreadths)) (FWidthOf : Fun K "width_of" "width_of" sWidthOf fWidthOf fdWidthOf) (bWidthOf : Binds K fdWidthOf ["way", "breadth"] []) (mWidthOf : mg "width_of" = some (.ref fWidthOf)) (FWidths : Fun K "widths" "widths" sWidths fWidths fdWidths) (bWidths : Binds K fdWidths ["shape", "form"] []) (mWidths : mg "widths" = some (.ref fWidths)) (FSizeOf : Fun K "size_of" "size_of" sSizeOf fSizeOf fdSizeOf) (bSizeOf : Binds K fdSizeOf ["shape", "form"] []) (mSizeOf : mg "size_of" = some (.ref fSizeOf)) (FFormAt : Fun K "form_at" "form_at" sFormAt fFormAt fdFormAt) (bFormAt : Binds K fdFormAt ["pact", "at"] []) (mFormAt : mg "form_at" = some (.ref fFormAt)) (FSortWidth : Fun K "sort_width" "sort_width" sSortWidth fSortWidth fdSortWidth) (bSortWidth : Binds K fdSortWidth ["pact"] []) (mSortWidth : mg "sort_width" = some (.ref fSortWidth)) (FCheckWidth : Fun K "check_width" "check_width" sCheckWidth fCheckWidth fdCheckWidth) (bCheckWidth : Binds K fdCheckWidth ["pact"] []) (mCheckWidth : mg "check_width" = some (.ref fCheckWidth)) : FnOk P w K mg base CX0 4 f fd ["pact", "at"] spLetterSize := by
  have GFormAt : FnOk P w K mg base CX0 1 fFormAt fdFormAt ["pact", "at"] spFormAt := ok_format FFormAt T
  have GSortWidth : FnOk P w K mg base CX0 2 fSortWidth fdSortWidth ["pact"] spSortWidth := ok_sortwidth FSortWidth T FWidthFor bWidthFor mWidthFor
  have GCheckWidth : FnOk P w K mg base CX0 2 fCheckWidth fdCheckWidth ["pact"] spCheckWidth := ok_checkwidth FCheckWidth T FWidthFor bWidthFor mWidthFor
  have GSizeOf : FnOk P w K mg base CX0 3 fSizeOf fdSizeOf ["shape", "form"] spSizeOf := ok_sizeof FSizeOf T FBreadths bBreadths mBreadths FWidthOf bWidthOf mWidthOf FWidths bWidths mWidths
  refine F.ok scLetterSize (fun vs H Q E h => ?_) (fun cdv A outer s H vs Q E hr h => ?_)
  · obtain ⟨_, _, _, _, _, _, _, _, _, rfl, _⟩ := h
    rfl
  · obtain ⟨pa, at', bs, m, wide, so, cnt, fs, ys, rfl, hp, hat, q⟩ := h
    have hws := hat.ok hp
    refine ⟨_, (pss_cons (ps_set (i := 2) scLetterSize.nd rfl (Or.inl rfl) (pe_call GFormAt (hr.mono (by decide)) rfl mFormAt FFormAt.kp bFormAt .nil pass0 (pa_cons (pv 0) (pa_cons (pv 1) pa_nil))))
      (pss_one (ps_ret (pe_op op_add (pe_op op_add (pe_op op_add (pe_call GSortWidth (hr.mono (by decide)) rfl mSortWidth FSortWidth.kp bSortWidth .nil pass0 (pa_cons (pv 0) pa_nil)) (pe_ix ix_tup (pv 2) pe_int (fun _ _ => rfl))) (pe_call GSizeOf (hr.mono (by decide)) rfl mSizeOf FSizeOf.kp bSizeOf .nil pass0 (pa_cons (pe_ix ix_tup (pv 0) pe_int (fun _ _ => rfl)) (pa_cons (pv 2) pa_nil)))) (pe_call GCheckWidth (hr.mono (by decide)) rfl mCheckWidth FCheckWidth.kp bCheckWidth .nil pass0 (pa_cons (pv 0) pa_nil)))))), ?_⟩
    refine ⟨_, rfl, _, rfl, pa, at', bs, m, wide, so, cnt, fs, ys, rfl, hp, hat, fun fo r H1 s1 hfo => ?_⟩
    have hp1 := hp.mono fun a xs e => s1 _ _ e
    obtain ⟨sh, ft, rd, fas, h1, h2, _⟩ := id hp1
    obtain ⟨wt, ws, f1, f2, f3⟩ := id hfo
    refine ⟨_, rfl, pa, bs, m, wide, fs, rfl, hp1, fun sw hsw => ?_⟩
    refine ⟨_, rfl, fo, _, _, _, rfl, rfl, SqT.of f1, rfl, _, _, rfl, rfl, ?_⟩
    refine ⟨_, rfl, pa, _, _, _, rfl, rfl, SqT.of h1, rfl, _, rfl, sh, fo, bs, m, r, cnt, ys, rfl, h2, hfo, hws.1, fun H2 s2 => ?_⟩
    refine ⟨_, _, rfl, rfl, _, rfl, pa, bs, m, wide, fs, rfl, hp1.mono (fun a xs e => s2 _ _ e), fun cw hcw => ⟨_, _, rfl, rfl, q sw cw H2 hsw hcw (s1.trans s2)⟩⟩
end
end K
namespace K
open PySem PyProof.Rows L2 Mth
theorem kit_ss {K : PySem.W.Frag} : PySem.W.kitOne K (.type "str") (.type "str") = some true := by rfl
def spWidth : Sp := fun vs H Q _ => ∃ m : Int, vs = [.int m] ∧ 1 ≤ m ∧ m ≤ 2 ^ 40 ∧ ∀ w : Nat, Wid m w → Q (.int w) H
def spCheck : Sp := fun vs H Q _ => ∃ (sh hd ft : Addr) (n m : Int) (vals : List Int), vs = [.ref sh, .int n, .ref hd] ∧ H sh = some (.tup [.ref ft, .int m]) ∧ 1 ≤ m ∧ H hd = some (.tup (vals.map V.int)) ∧ vals.length ≤ 12 ∧ Q (.int ((n + wsum 2 vals) % m)) H
def AtW (H : Hp) (v : V) (n : Nat) (ys : List Wy) : Prop := (v = .non ∧ ys = List.replicate n .whole) ∨ ∃ (wt : Addr) (ws : List V), v = .ref wt ∧ H wt = some (.tup ws) ∧ WaysAt H ws ys
def spLPieces : Sp := fun vs H Q _ => ∃ (sh hd : Addr) (v : V) (bs : List Int) (m : Int) (ys : List Wy) (vals : List Int), vs = [.ref sh, v, .ref hd] ∧ ShB H sh bs m ∧ AtW H v bs.length ys ∧ WsB bs ys ∧ H hd = some (.tup (vals.map V.int)) ∧ vals.length = bs.length ∧ ∀ H', Same H H' → Q (.str (cat (PcL vals (Wds bs ys)))) H'
def spLetter : Sp := fun vs H Q _ => ∃ (pa hd : Addr) (at' : V) (bs vals : List Int) (m wide so cnt n : Int) (fs : List (Int × Int × List Wy)) (ys : List Wy), vs = [.ref pa, at', .int n, .ref hd] ∧ PactAt H pa bs m wide fs ∧ AtF bs wide fs at' so cnt ys ∧ H hd = some (.tup (vals.map V.int)) ∧ vals.length = bs.length ∧ ∀ (sw cw : Nat) (H' : Hp), Wid (1 + (fs.length : Int)) sw → Wid m cw → Same H H' → Q (.str (Lt sw cw so n cnt m (Wds bs ys) vals)) H'
section
variable {P : Program} {w : World} {K : PySem.W.Frag} {mg : Str → Option Value} {base : Heap}
theorem scWidth : FnScope ["_law_many", "_law_width_here"] ["_law_many"] (defScope sWidth) := ⟨rfl, rfl, rfl, by decide +kernel, rfl, by decide +kernel, by decide +kernel⟩
theorem ok_lwidth {f : Addr} {fd : FuncData} (F : Fun K "_law_width" "_law_width" sWidth f fd) : FnOk P w K mg base CX0 1 f fd ["_law_many"] spWidth := by
  refine F.ok scWidth (fun vs H Q E h => ?_) (fun cdv A outer s H vs Q E hr h => ?_)
  · obtain ⟨m, rfl, _⟩ := h
    rfl
  · obtain ⟨m, rfl, hm, hm2, k⟩ := h
    refine ⟨_, (pss_cons (ps_set (i := 1) scWidth.nd rfl (Or.inl rfl) pe_int)
      (pss_cons (ps_while PassesOwn.never (pt_cmpR op_lt (pe_op op_shl pe_int (pv 1)) (pv 0) (nomark _))
      (pss_one (ps_set (i := 1) scWidth.nd rfl (Or.inl rfl) (pe_op op_add (pv 1) pe_int))))
      (pss_one (ps_ret (pv 1))))), ?_⟩
    refine ⟨fun μ σ H' => H' = H ∧ ∃ n : Nat, μ = (m - 2 ^ n).toNat ∧ σ = [some (.int m), some (.int n)] ∧ (n = 0 ∨ 2 ^ (n - 1) < m), ⟨_, rfl, 0, rfl, rfl, Or.inl rfl⟩, ?_⟩
    rintro μ σ H' ⟨rfl, n, rfl, rfl, hn⟩
    have h1 := two_pow_pos n
    have h2 := two_pow_succ n
    have hn42 : n ≤ 42 := by
      rcases hn with h | h
      · omega
      · rcases Nat.lt_or_ge 42 n with h3 | h3
        · have : (2 : Int) ^ 40 ≤ 2 ^ (n - 1) := two_pow_mono (by omega)
          omega
        · exact h3
    refine ⟨_, rfl, _, _, rfl, rfl, ⟨by omega, by omega, by decide⟩, _, rfl, _, _, rfl, rfl, _, rfl, ite2 (fun c1 => ?_) (fun c1 => ?_)⟩
    · have c2 : 1 * (2 : Int) ^ ((n : Int)).toNat < m := of_decide_eq_true c1
      rw [Int.toNat_natCast, Int.one_mul] at c2
      refine ⟨fun σ H4 => H4 = H' ∧ σ = [some (.int m), some (.int ((n + 1 : Nat) : Int))], ?_, ?_⟩
      · rintro σ' H4 ⟨rfl, rfl⟩
        exact ⟨_, by rw [h2]; omega, rfl, n + 1, rfl, rfl, .inr (by simpa using c2)⟩
      · exact ⟨_, rfl, _, _, rfl, rfl, rfl, rfl⟩
    · have c2 : ¬ (1 * (2 : Int) ^ ((n : Int)).toNat < m) := fun z => c1 (decide_eq_true z)
      rw [Int.toNat_natCast, Int.one_mul] at c2
      exact ⟨_, rfl, k n ⟨by omega, hn⟩⟩
theorem scCheck : FnScope ["_law_shape_here", "_law_number", "_law_head", "_law_total", "_law_place"] ["_law_shape_here", "_law_number", "_law_head"] (defScope sCheck) := ⟨rfl, rfl, rfl, by decide +kernel, rfl, by decide +kernel, by decide +kernel⟩
theorem ok_lcheck {f : Addr} {fd : FuncData} (F : Fun K "_law_check" "_law_check" sCheck f fd) (T : Txt mg) : FnOk P w K mg base CX0 1 f fd ["_law_shape_here", "_law_number", "_law_head"] spCheck := by
  refine F.ok scCheck (fun vs H Q E h => ?_) (fun cdv A outer s H vs Q E hr h => ?_)
  · obtain ⟨_, _, _, _, _, _, rfl, _⟩ := h
    rfl
  · obtain ⟨sh, hd, ft, n, m, vals, rfl, hsh, hm, hhd, hl, q⟩ := h
    refine ⟨_, (pss_cons (ps_set (i := 3) scCheck.nd rfl (Or.inl rfl) (pv 1))
      (pss_cons (ps_for PassesOwn.never rfl (pi_range1 rfl T.range (pa_cons (pe_callB call_len_seq (by rfl) T.len PySem.boot_len (pa_cons (pv 2) pa_nil)) pa_nil)) (pg_name (i := 4) scCheck.nd rfl (Or.inl rfl))
      (pss_one (ps_set (i := 3) scCheck.nd rfl (Or.inl rfl) (pe_op op_add (pv 3) (pe_op op_mul (pe_op op_add (pv 4) pe_int) (pe_ix ix_tup (pv 2) (pv 4) (fun _ _ => rfl)))))))
      (pss_one (ps_ret (pe_op op_mod (pv 3) (pe_ix ix_tup (pv 0) pe_int (fun _ _ => rfl))))))), ?_⟩
    refine ⟨_, rfl, _, rfl, hd, _, rfl, .inr (SqT.of hhd), _, rfl, by omega, by rw [List.length_map]; omega, for_range (fun i σ H2 => ∃ v4, σ = [some (.ref sh), some (.int n), some (.ref hd), some (.int (n + wsum 2 (vals.take i))), v4] ∧ H2 = H) ⟨none, by simp [wsum]; rfl, rfl⟩ ?_ ?_⟩
    · rintro i σ H2 hi ⟨v4, rfl, rfl⟩
      rw [List.length_map] at hi
      have hil : i < vals.length := by omega
      have e0 : (0 : Int) + (i : Int) = (i : Int) := Int.zero_add _
      refine ⟨_, rfl, _, rfl, _, _, rfl, rfl, _, rfl, _, rfl, hd, _, _, _, rfl, rfl, SqT.of hhd, (by rw [e0]; exact atI_nat (by simp [hil]; rfl)), _, _, rfl, rfl, .inl ⟨by omega, by omega⟩, _, _, rfl, rfl, some (.int (0 + (i : Int))), ?_, rfl⟩
      rw [List.take_succ_eq_append_getElem hil, wsum_snoc, List.length_take, Nat.min_eq_left (by omega), e0, Int.add_comm (i : Int) 2, ← Int.add_assoc]
      rfl
    · rintro σ H2 ⟨v4, rfl, rfl⟩
      rw [List.length_map, Int.toNat_natCast, List.take_length]
      exact ⟨_, rfl, _, rfl, sh, _, _, _, rfl, rfl, SqT.of hsh, rfl, _, _, rfl, rfl, (by show (0 : Int) < m; omega), q⟩
theorem scLWidthOf : FnScope ["_law_way_here", "_law_breadth"] ["_law_way_here", "_law_breadth"] (defScope sLWidthOf) := ⟨rfl, rfl, rfl, by decide +kernel, rfl, by decide +kernel, by decide +kernel⟩
theorem ok_lwidthof {f : Addr} {fd : FuncData} (F : Fun K "_law_width_of" "_law_width_of" sLWidthOf f fd) (T : Txt mg) : FnOk P w K mg base CX0 1 f fd ["_law_way_here", "_law_breadth"] spWidthOf := by
  refine F.ok scLWidthOf (fun vs H Q E h => ?_) (fun cdv A outer s H vs Q E hr h => ?_)
  · obtain ⟨_, _, _, rfl, _⟩ := h
    rfl
  · obtain ⟨v, b, y, rfl, hv, q⟩ := h
    refine ⟨_, (pss_cons (ps_if (pt_cmpR op_eq (pe_ix ix_tup (pv 0) pe_int (fun _ _ => rfl)) pe_str (nomark _))
      (pss_one (ps_ret (pe_ix ix_tup (pv 0) pe_int (fun _ _ => rfl))))
      pss_nil)
      (pss_one (ps_ret (pe_op op_mul (pv 1) (pe_callTy call_int1 (by rfl) T.int boot_int (pa_cons (pe_cmpR op_eq (pe_ix ix_tup (pv 0) pe_int (fun _ _ => rfl)) pe_str (nomark _)) pa_nil)))))), ?_⟩
    cases y with
    | keep =>
      obtain ⟨t, rfl, ht⟩ := hv
      refine ⟨_, rfl, t, _, _, _, rfl, rfl, SqT.of ht, rfl, rfl, _, rfl, iteDN (by decide) ?_⟩
      refine ⟨_, rfl, _, rfl, t, _, _, _, rfl, rfl, SqT.of ht, rfl, rfl, .inr ⟨_, rfl, _, _, rfl, rfl, .inr ?_, ?_⟩⟩
      · rw [decide_eq_false (by decide)]
        decide
      · rw [decide_eq_false (by decide), if_neg Bool.false_ne_true]
        show Q (.int (b * 0)) H
        rw [Int.mul_zero]
        exact q
    | whole =>
      obtain ⟨t, rfl, ht⟩ := hv
      refine ⟨_, rfl, t, _, _, _, rfl, rfl, SqT.of ht, rfl, rfl, _, rfl, iteDN (by decide) ?_⟩
      refine ⟨_, rfl, _, rfl, t, _, _, _, rfl, rfl, SqT.of ht, rfl, rfl, .inr ⟨_, rfl, _, _, rfl, rfl, .inr ?_, ?_⟩⟩
      · rw [decide_eq_true rfl]
        decide
      · rw [decide_eq_true rfl, if_pos rfl]
        show Q (.int (b * 1)) H
        rw [Int.mul_one]
        exact q
    | low wd d =>
      obtain ⟨t, rfl, ht⟩ := hv
      exact ⟨_, rfl, t, _, _, _, rfl, rfl, SqT.of ht, rfl, rfl, _, rfl, iteD rfl ⟨_, rfl, t, _, _, _, rfl, rfl, SqT.of ht, rfl, q⟩⟩
theorem scLPieces : FnScope ["_law_shape_here", "_law_ways", "_law_head", "_law_found", "_law_place", "_law_field", "_law_width_here"] ["_law_shape_here", "_law_ways", "_law_head"] (defScope sLPieces) := ⟨rfl, rfl, rfl, by decide +kernel, rfl, by decide +kernel, by decide +kernel⟩
theorem ok_lpieces {f : Addr} {fd : FuncData} (F : Fun K "_law_pieces" "_law_pieces" sLPieces f fd) (T : Txt mg) {fBits fLWidthOf : Addr} {fdBits fdLWidthOf : FuncData} (FBits : Fun K "_law_bits" "_law_bits" sBits fBits fdBits) (bBits : Binds K fdBits ["_law_number", "_law_width_here"] []) (mBits : mg "_law_bits" = some (.ref fBits)) (FLWidthOf : Fun K "_law_width_of" "_law_width_of" sLWidthOf fLWidthOf fdLWidthOf) (bLWidthOf : Binds K fdLWidthOf ["_law_way_here", "_law_breadth"] []) (mLWidthOf : mg "_law_width_of" = some (.ref fLWidthOf)) : FnOk P w K mg base CX0 2 f fd ["_law_shape_here", "_law_ways", "_law_head"] spLPieces := by
  have GBits : FnOk P w K mg base CX0 1 fBits fdBits ["_law_number", "_law_width_here"] spBits := ok_lbits FBits T
  have GLWidthOf : FnOk P w K mg base CX0 1 fLWidthOf fdLWidthOf ["_law_way_here", "_law_breadth"] spWidthOf := ok_lwidthof FLWidthOf T
  refine F.ok scLPieces (fun vs H Q E h => ?_) (fun cdv A outer s H vs Q E hr h => ?_)
  · obtain ⟨_, _, _, _, _, _, _, rfl, _⟩ := h
    rfl
  · obtain ⟨sh, hd, v, bs, m, ys, vals, rfl, hsh, hat, hok, hhd, hvl, q⟩ := h
    obtain ⟨ft, fr, e1, e2, hfl, e3, e4, e5, e6⟩ := id hsh
    refine ⟨_, (pss_cons (ps_set (i := 3) scLPieces.nd rfl (Or.inl rfl) pe_str)
      (pss_cons (ps_for PassesOwn.never rfl (pi_enumT rfl T.enumerate (pe_ix ix_tup (pv 0) pe_int (fun _ _ => rfl))) (pg_tup rfl (pgs_cons (pg_name (i := 4) scLPieces.nd rfl (Or.inl rfl)) (pgs_cons (pg_name (i := 5) scLPieces.nd rfl (Or.inl rfl)) pgs_nil)))
      (pss_cons (ps_set (i := 6) scLPieces.nd rfl (Or.inl rfl) (pe_ifExp (pt_cmpR op_isN (pv 1) pe_non (nomark _)) (pe_ix ix_tup (pv 5) pe_int (fun _ _ => rfl)) (pe_call GLWidthOf (hr.mono (by decide)) rfl mLWidthOf FLWidthOf.kp bLWidthOf .nil pass0 (pa_cons (pe_ix ix_tup (pv 1) (pv 4) (fun _ _ => rfl)) (pa_cons (pe_ix ix_tup (pv 5) pe_int (fun _ _ => rfl)) pa_nil)))))
      (pss_one (ps_set (i := 3) scLPieces.nd rfl (Or.inl rfl) (pe_op op_add_str (pv 3) (pe_call GBits (hr.mono (by decide)) rfl mBits FBits.kp bBits .nil pass0 (pa_cons (pe_op op_mod (pe_ix ix_tup (pv 2) (pv 4) (fun _ _ => rfl)) (pe_op op_shl pe_int (pv 6))) (pa_cons (pv 6) pa_nil))))))))
      (pss_one (ps_ret (pv 3))))), ?_⟩
    have hWl := Wds_len hok.1
    have hWo := Wds_ok e6 hok
    have hPl : (PcL vals (Wds bs ys)).length = bs.length := by unfold PcL; rw [List.length_zipWith]; omega
    have hline := sizeLine_eq
    refine ⟨_, rfl, sh, _, _, _, rfl, rfl, SqT.of e1, rfl, ft, fr.map V.ref, rfl, e2, for_eS (fun a b e => by cases e; rfl) (xs := fr.map V.ref) (fun j σ H2 => ∃ (v4 v5 v6 : Option V), σ = [some (.ref sh), some v, some (.ref hd), some (.str (cat ((PcL vals (Wds bs ys)).take j))), v4, v5, v6] ∧ Same H H2) ⟨_, _, _, rfl, Same.refl H⟩ (fun j σ H2 _ ⟨_, _, _, _, s2⟩ => s2 _ _ e2) ?_ ?_⟩
    · rintro j x σ H2 U hx ⟨v4, v5, v6, rfl, s2⟩ hU
      obtain ⟨hj, rfl⟩ := get_map hx
      have hjb : j < bs.length := by omega
      have hjy : j < ys.length := by have := hok.1; omega
      have hjv : j < vals.length := by omega
      have hjW : j < (Wds bs ys).length := by omega
      have hjP : j < (PcL vals (Wds bs ys)).length := by omega
      have s3 := same_new (o := .tup [.int (j : Int), .ref fr[j]]) s2 hU
      obtain ⟨nm, kd, f1⟩ := e3 j hj hjb
      refine ⟨U, [.int (j : Int), .ref fr[j]], rfl, SqT.of upd_same, rfl, _, _, rfl, _, _, rfl, rfl, ?_⟩
      generalize upd H2 U (.tup [.int (j : Int), .ref fr[j]]) = H3 at s3
      have f1' := s3 _ _ f1
      have hw := Wds_get hjb hjy hjW
      have hwo := hWo _ (List.getElem_mem hjW)
      have ePc : (PcL vals (Wds bs ys))[j] = Tx (vals[j] % 2 ^ (Wds bs ys)[j].toNat) (Wds bs ys)[j].toNat := List.getElem_zipWith ..
      have hlen : (cat ((PcL vals (Wds bs ys)).take j)).length ≤ 12000 := by
        have h1 := cat_len ((PcL vals (Wds bs ys)).take j)
        have h2 := sum_bound ((PcL vals (Wds bs ys)).take j) fun t ht => by
          obtain ⟨i, hi, rfl⟩ := List.mem_iff_getElem.mp (List.mem_of_mem_take ht)
          have g1 : i < vals.length := by omega
          have g2 : i < (Wds bs ys).length := by omega
          have e : (PcL vals (Wds bs ys))[i] = Tx (vals[i] % 2 ^ (Wds bs ys)[i].toNat) (Wds bs ys)[i].toNat := List.getElem_zipWith ..
          rw [e, Tx_length]
          have := hWo _ (List.getElem_mem g2)
          omega
        rw [List.length_take] at h2
        show (cat ((PcL vals (Wds bs ys)).take j)).cps.size ≤ 12000
        omega
      have hp := two_pow_pos (Wds bs ys)[j].toNat
      have fin : ∀ (R : V → Hp → Prop), R (.int (Wds bs ys)[j]) H3 → tIf (tTest (tOp (fun x y H Q => y = V.non ∧ Q (V.bl (decide (x = V.non))) H) (tVar 1) (tC V.non))) (tOp (rIxT K) (tVar 5) (tC (V.int 1))) (tCall spWidthOf [] E0 (tCons (tOp (rIxT K) (tVar 1) (tVar 4)) (tCons (tOp (rIxT K) (tVar 5) (tC (V.int 1))) tNil))) [some (.ref sh), some v, some (.ref hd), some (.str (cat ((PcL vals (Wds bs ys)).take j))), some (.int (j : Int)), some (.ref fr[j]), v6] H3 R := by
        intro R hR
        rw [hw] at hR
        rcases hat with ⟨rfl, rfl⟩ | ⟨wt, ws, rfl, g1, g2⟩
        · refine ⟨_, rfl, rfl, _, rfl, iteD rfl ⟨_, rfl, fr[j], _, _, _, rfl, rfl, SqT.of f1', rfl, ?_⟩⟩
          rw [List.getElem_replicate] at hR
          exact hR
        · have hjw : j < ws.length := by rw [g2.1]; exact hjy
          exact ⟨_, rfl, rfl, _, rfl, iteDN (by intro z; cases z) ⟨_, rfl, _, rfl, wt, _, _, _, rfl, rfl, SqT.of (s3 _ _ g1), atI_nat (by simp [hjw]), _, rfl, fr[j], _, _, _, rfl, rfl, SqT.of f1', rfl, ws[j], bs[j], ys[j], rfl, (g2.2 j hjw hjy).mono (fun a xs e => s3 _ _ e), hR⟩⟩
      have eatv : atI (vals.map V.int) (j : Int) = some (.int vals[j]) := atI_nat (by simp [hjv])
      refine fin _ ?_
      refine ⟨_, rfl, _, rfl, _, rfl, hd, _, _, _, rfl, rfl, SqT.of (s3 _ _ hhd), eatv, _, rfl, _, _, rfl, rfl, ⟨by omega, by omega, by decide⟩, _, _, rfl, rfl, (by show (0 : Int) < 1 * 2 ^ (Wds bs ys)[j].toNat; omega), _, rfl, _, (Wds bs ys)[j], rfl, by omega, by omega, _, _, rfl, rfl, ?_, ?_⟩
      · have hT : (Tx (vals[j] % (1 * 2 ^ (Wds bs ys)[j].toNat)) (Wds bs ys)[j].toNat).length = (Wds bs ys)[j].toNat := Tx_length _ _
        rw [hT]
        omega
      · refine ⟨some (.int (j : Int)), some (.ref fr[j]), some (.int (Wds bs ys)[j]), ?_, s3⟩
        rw [List.take_succ_eq_append_getElem hjP, cat_snoc, ePc, Int.one_mul]
        rfl
    · rintro σ H2 ⟨v4, v5, v6, rfl, s2⟩
      rw [List.length_map, List.take_of_length_le (by omega)]
      exact ⟨_, rfl, q _ s2⟩
theorem scLetter : FnScope ["_law_pact_here", "_law_at", "_law_number", "_law_head", "_law_shape_here", "_law_wide", "_law_forms", "_law_road_here", "_law_count", "_law_ways", "_law_sort", "_law_found"] ["_law_pact_here", "_law_at", "_law_number", "_law_head"] (defScope sLetter) := ⟨rfl, rfl, rfl, by decide +kernel, rfl, by decide +kernel, by decide +kernel⟩
set_option maxHeartbeats 4000000 in
theorem ok_letter {f : Addr} {fd : FuncData} (F : Fun K "_law_letter" "_law_letter" sLetter f fd) (T : Txt mg) {fBits fWidth fCheck fLWidthOf fLPieces : Addr} {fdBits fdWidth fdCheck fdLWidthOf fdLPieces : FuncData} (FBits : Fun K "_law_bits" "_law_bits" sBits fBits fdBits) (bBits : Binds K fdBits ["_law_number", "_law_width_here"] []) (mBits : mg "_law_bits" = some (.ref fBits)) (FWidth : Fun K "_law_width" "_law_width" sWidth fWidth fdWidth) (bWidth : Binds K fdWidth ["_law_many"] []) (mWidth : mg "_law_width" = some (.ref fWidth)) (FCheck : Fun K "_law_check" "_law_check" sCheck fCheck fdCheck) (bCheck : Binds K fdCheck ["_law_shape_here", "_law_number", "_law_head"] []) (mCheck : mg "_law_check" = some (.ref fCheck)) (FLWidthOf : Fun K "_law_width_of" "_law_width_of" sLWidthOf fLWidthOf fdLWidthOf) (bLWidthOf : Binds K fdLWidthOf ["_law_way_here", "_law_breadth"] []) (mLWidthOf : mg "_law_width_of" = some (.ref fLWidthOf)) (FLPieces : Fun K "_law_pieces" "_law_pieces" sLPieces fLPieces fdLPieces) (bLPieces : Binds K fdLPieces ["_law_shape_here", "_law_ways", "_law_head"] []) (mLPieces : mg "_law_pieces" = some (.ref fLPieces)) : FnOk P w K mg base CX0 3 f fd ["_law_pact_here", "_law_at", "_law_number", "_law_head"] spLetter := by
  have GBits : FnOk P w K mg base CX0 1 fBits fdBits ["_law_number", "_law_width_here"] spBits := ok_lbits FBits T
  have GWidth : FnOk P w K mg base CX0 1 fWidth fdWidth ["_law_many"] spWidth := ok_lwidth FWidth
  have GCheck : FnOk P w K mg base CX0 1 fCheck fdCheck ["_law_shape_here", "_law_number", "_law_head"] spCheck := ok_lcheck FCheck T
  have GLPieces : FnOk P w K mg base CX0 2 fLPieces fdLPieces ["_law_shape_here", "_law_ways", "_law_head"] spLPieces := ok_lpieces FLPieces T FBits bBits mBits FLWidthOf bLWidthOf mLWidthOf
  refine F.ok scLetter (fun vs H Q E h => ?_) (fun cdv A outer s H vs Q E hr h => ?_)
  · obtain ⟨_, _, _, _, _, _, _, _, _, _, _, _, rfl, _⟩ := h
    rfl
  · obtain ⟨pa, hd, at', bs, vals, m, wide, so, cnt, n, fs, ys, rfl, hp, hat, hhd, hvl, q⟩ := h
    obtain ⟨hws, c0, c1⟩ := hat.ok hp
    obtain ⟨sh, ft, rd, fas, h1, h2, h3, h4, h5, w0, w1, m0, m1⟩ := id hp
    have hb12 := h2.tup
    have hbb : ∀ b ∈ bs, 1 ≤ b ∧ b ≤ 40 := by obtain ⟨_, _, _, _, _, _, _, _, h⟩ := h2; exact h
    obtain ⟨fft, fr, g1, g2, g3, g4⟩ := id h2
    have hline := sizeLine_eq
    refine ⟨_, (pss_cons (ps_asg (pv 0) (pg_tup rfl (pgs_cons (pg_name (i := 4) scLetter.nd rfl (Or.inl rfl)) (pgs_cons (pg_name (i := 5) scLetter.nd rfl (Or.inl rfl)) (pgs_cons (pg_name (i := 6) scLetter.nd rfl (Or.inl rfl)) (pgs_cons (pg_name (i := 7) scLetter.nd rfl (Or.inl rfl)) pgs_nil))))))
      (pss_cons (ps_par3 (i := 8) (j := 9) (k := 10) rfl scLetter.nd rfl rfl rfl (by decide) (by decide) (by decide) rfl rfl rfl (pa_cons (pv 5) (pa_cons pe_non (pa_cons pe_int pa_nil))) rfl)
      (pss_cons (ps_if (pt_cmpR op_notN (pv 1) pe_non (nomark _))
      (pss_one (ps_par3 (i := 8) (j := 9) (k := 10) rfl scLetter.nd rfl rfl rfl (by decide) (by decide) (by decide) rfl rfl rfl (pa_cons (pe_ix ix_tup (pe_ix ix_tup (pv 6) (pv 1) (fun _ _ => rfl)) pe_int (fun _ _ => rfl)) (pa_cons (pe_ix ix_tup (pe_ix ix_tup (pv 6) (pv 1) (fun _ _ => rfl)) pe_int (fun _ _ => rfl)) (pa_cons (pe_op op_add pe_int (pv 1)) pa_nil))) rfl))
      pss_nil)
      (pss_cons (ps_set (i := 11) scLetter.nd rfl (Or.inl rfl) (pe_op op_add_str (pe_call GBits (hr.mono (by decide)) rfl mBits FBits.kp bBits .nil pass0 (pa_cons (pv 10) (pa_cons (pe_call GWidth (hr.mono (by decide)) rfl mWidth FWidth.kp bWidth .nil pass0 (pa_cons (pe_op op_add pe_int (pe_callB call_len_seq (by rfl) T.len PySem.boot_len (pa_cons (pv 6) pa_nil))) pa_nil)) pa_nil))) (pe_call GBits (hr.mono (by decide)) rfl mBits FBits.kp bBits .nil pass0 (pa_cons (pe_op op_mod (pv 2) (pe_op op_shl pe_int (pv 8))) (pa_cons (pv 8) pa_nil)))))
      (pss_cons (ps_set (i := 11) scLetter.nd rfl (Or.inl rfl) (pe_op op_add_str (pv 11) (pe_call GLPieces (hr.mono (by decide)) rfl mLPieces FLPieces.kp bLPieces .nil pass0 (pa_cons (pv 4) (pa_cons (pv 9) (pa_cons (pv 3) pa_nil))))))
      (pss_one (ps_ret (pe_op op_add_str (pv 11) (pe_call GBits (hr.mono (by decide)) rfl mBits FBits.kp bBits .nil pass0 (pa_cons (pe_call GCheck (hr.mono (by decide)) rfl mCheck FCheck.kp bCheck .nil pass0 (pa_cons (pv 4) (pa_cons (pv 2) (pa_cons (pv 3) pa_nil)))) (pa_cons (pe_call GWidth (hr.mono (by decide)) rfl mWidth FWidth.kp bWidth .nil pass0 (pa_cons (pe_ix ix_tup (pv 4) pe_int (fun _ _ => rfl)) pa_nil)) pa_nil))))))))))), ?_⟩
    refine ⟨_, rfl, pa, [.ref sh, .int wide, .ref ft, .ref rd], rfl, SqT.of h1, rfl, _, _, rfl, _, _, rfl, _, _, rfl, _, _, rfl, rfl, ?_⟩
    refine ⟨_, rfl, _, _, _, rfl, ?_⟩
    rcases hat with ⟨rfl, rfl, rfl, rfl⟩ | ⟨k, hk, rfl, rfl, rfl, rfl⟩
    · refine ⟨_, rfl, rfl, _, rfl, iteNS rfl ?_⟩
      have hp2 := two_pow_pos (cnt).toNat
      refine ⟨_, rfl, _, rfl, ft, _, rfl, .inr (SqT.of h3), _, _, rfl, rfl, _, rfl, by rw [List.length_map]; omega, by rw [List.length_map, h4.1]; omega, fun sw hsw => ?_⟩
      rw [List.length_map, h4.1] at hsw
      have hsw4 : sw ≤ 4 := Wid_le hsw 4 (by show 1 + (fs.length : Int) ≤ 16; omega)
      refine ⟨0, (sw : Int), rfl, by omega, by omega, ?_⟩
      rw [Int.toNat_natCast]
      refine ⟨_, rfl, _, rfl, _, _, rfl, rfl, ⟨by omega, by omega, by decide⟩, _, _, rfl, rfl, (by show (0 : Int) < 1 * 2 ^ (cnt).toNat; omega), _, rfl, _, cnt, rfl, by omega, by omega, ?_⟩
      rw [Int.one_mul]
      have e1 : (Tx (0) sw).length = sw := Tx_length _ sw
      have e2 : (Tx (n % 2 ^ (cnt).toNat) (cnt).toNat).length = (cnt).toNat := Tx_length _ _
      have e4 : (cat (PcL vals (Wds bs (List.replicate bs.length .whole)))).length = ((PcL vals (Wds bs (List.replicate bs.length .whole))).map fun t => t.cps.size).sum := cat_len _
      have hWl := Wds_len hws.1
      have hWo := Wds_ok hbb hws
      have e5 := pcl_len vals (Wds bs (List.replicate bs.length .whole)) (by omega) fun w h => (hWo w h).1
      have e6 := sum_le (Wds bs (List.replicate bs.length .whole)) 40 fun w h => (hWo w h).2
      refine ⟨_, _, rfl, rfl, by rw [e1, e2]; omega, ?_⟩
      refine ⟨_, rfl, _, rfl, _, rfl, _, rfl, sh, hd, _, bs, m, List.replicate bs.length .whole, vals, rfl, h2, .inl ⟨rfl, rfl⟩, hws, hhd, hvl, fun H2 s2 => ?_⟩
      refine ⟨_, _, rfl, rfl, by rw [str_len_app, e1, e2, e4]; omega, ?_⟩
      refine ⟨_, rfl, _, rfl, _, rfl, _, rfl, sh, hd, fft, n, m, vals, rfl, s2 _ _ g1, m0, s2 _ _ hhd, by omega, ?_⟩
      refine ⟨_, rfl, sh, _, _, _, rfl, rfl, SqT.of (s2 _ _ g1), rfl, m, rfl, m0, by omega, fun cw hcw => ?_⟩
      have hcw20 : cw ≤ 20 := Wid_le hcw 20 (by show m ≤ 1048576; omega)
      have e3 : (Tx ((n + wsum 2 vals) % m) cw).length = cw := Tx_length _ _
      refine ⟨_, (cw : Int), rfl, by omega, by omega, ?_⟩
      rw [Int.toNat_natCast]
      refine ⟨_, _, rfl, rfl, by rw [str_len_app, str_len_app, e1, e2, e3, e4]; omega, ?_⟩
      exact q sw cw H2 hsw hcw s2
    · have hkf : k < fas.length := by rw [h4.1]; exact hk
      obtain ⟨wt, ws, p1, p2, p3⟩ := h4.2.1 k hkf hk
      have eat : atI (fas.map V.ref) (k : Int) = some (.ref fas[k]) := atI_nat (by simp [hkf])
      refine ⟨_, rfl, rfl, _, rfl, (if_pos rfl : (if (!decide (V.int (k : Int) = V.non)) = true then _ else _) = _).mpr ?_⟩
      refine ⟨_, rfl, _, rfl, ft, _, _, _, rfl, rfl, SqT.of h3, eat, fas[k], _, _, _, rfl, rfl, SqT.of p1, rfl, _, rfl, _, rfl, ft, _, _, _, rfl, rfl, SqT.of h3, eat, fas[k], _, _, _, rfl, rfl, SqT.of p1, rfl, _, rfl, _, _, rfl, rfl, _, _, _, rfl, ?_⟩
      have hp2 := two_pow_pos (fs[k].2.1).toNat
      refine ⟨_, rfl, _, rfl, ft, _, rfl, .inr (SqT.of h3), _, _, rfl, rfl, _, rfl, by rw [List.length_map]; omega, by rw [List.length_map, h4.1]; omega, fun sw hsw => ?_⟩
      rw [List.length_map, h4.1] at hsw
      have hsw4 : sw ≤ 4 := Wid_le hsw 4 (by show 1 + (fs.length : Int) ≤ 16; omega)
      refine ⟨1 + (k : Int), (sw : Int), rfl, by omega, by omega, ?_⟩
      rw [Int.toNat_natCast]
      refine ⟨_, rfl, _, rfl, _, _, rfl, rfl, ⟨by omega, by omega, by decide⟩, _, _, rfl, rfl, (by show (0 : Int) < 1 * 2 ^ (fs[k].2.1).toNat; omega), _, rfl, _, fs[k].2.1, rfl, by omega, by omega, ?_⟩
      rw [Int.one_mul]
      have e1 : (Tx (1 + (k : Int)) sw).length = sw := Tx_length _ sw
      have e2 : (Tx (n % 2 ^ (fs[k].2.1).toNat) (fs[k].2.1).toNat).length = (fs[k].2.1).toNat := Tx_length _ _
      have e4 : (cat (PcL vals (Wds bs (fs[k].2.2)))).length = ((PcL vals (Wds bs (fs[k].2.2))).map fun t => t.cps.size).sum := cat_len _
      have hWl := Wds_len hws.1
      have hWo := Wds_ok hbb hws
      have e5 := pcl_len vals (Wds bs (fs[k].2.2)) (by omega) fun w h => (hWo w h).1
      have e6 := sum_le (Wds bs (fs[k].2.2)) 40 fun w h => (hWo w h).2
      refine ⟨_, _, rfl, rfl, by rw [e1, e2]; omega, ?_⟩
      refine ⟨_, rfl, _, rfl, _, rfl, _, rfl, sh, hd, _, bs, m, fs[k].2.2, vals, rfl, h2, .inr ⟨wt, ws, rfl, p2, p3⟩, hws, hhd, hvl, fun H2 s2 => ?_⟩
      refine ⟨_, _, rfl, rfl, by rw [str_len_app, e1, e2, e4]; omega, ?_⟩
      refine ⟨_, rfl, _, rfl, _, rfl, _, rfl, sh, hd, fft, n, m, vals, rfl, s2 _ _ g1, m0, s2 _ _ hhd, by omega, ?_⟩
      refine ⟨_, rfl, sh, _, _, _, rfl, rfl, SqT.of (s2 _ _ g1), rfl, m, rfl, m0, by omega, fun cw hcw => ?_⟩
      have hcw20 : cw ≤ 20 := Wid_le hcw 20 (by show m ≤ 1048576; omega)
      have e3 : (Tx ((n + wsum 2 vals) % m) cw).length = cw := Tx_length _ _
      refine ⟨_, (cw : Int), rfl, by omega, by omega, ?_⟩
      rw [Int.toNat_natCast]
      refine ⟨_, _, rfl, rfl, by rw [str_len_app, str_len_app, e1, e2, e3, e4]; omega, ?_⟩
      exact q sw cw H2 hsw hcw s2
end
end K
namespace K
open PySem PyProof.Rows L2 Mth
theorem tv_Tx {n : Int} {w : Nat} (h0 : 0 ≤ n) (h1 : n < 2 ^ w) : tv (Tx n w).cps.toList.reverse = n := by
  have e : (Tx n w).cps.toList.reverse = Ds n w := by simp [Tx]
  rw [e]
  exact tv_Ds w n h0 h1
theorem bits_app {a b : Str} (ha : Bits a) (hb : Bits b) : Bits (a ++ b) := fun c hc => by
  rw [PySem.W.KT.app_list] at hc
  rcases List.mem_append.mp hc with h | h
  · exact ha c h
  · exact hb c h
theorem bits_cat {ts : List Str} (h : ∀ t ∈ ts, Bits t) : Bits (cat ts) := fun c hc => by
  rw [cat_list] at hc
  obtain ⟨l, hl, hcl⟩ := List.mem_flatten.mp hc
  obtain ⟨t, ht, rfl⟩ := List.mem_map.mp hl
  exact h t ht c hcl
theorem pcl_bits (vals ws : List Int) : ∀ t ∈ PcL vals ws, Bits t := fun t ht => by
  obtain ⟨i, hi, rfl⟩ := List.mem_iff_getElem.mp ht
  have e : (PcL vals ws)[i] = _ := List.getElem_zipWith ..
  rw [e]
  exact Tx_bits _ _
/-- a letter with any check -/
def Lk (sw cw : Nat) (so r : Int) (cnt : Nat) (pcs : Str) (chk : Int) : Str := Tx so sw ++ Tx r cnt ++ pcs ++ Tx chk cw
theorem lk_list (sw cw : Nat) (so r : Int) (cnt : Nat) (pcs : Str) (chk : Int) : (Lk sw cw so r cnt pcs chk).cps.toList = (Tx so sw).cps.toList ++ ((Tx r cnt).cps.toList ++ (pcs.cps.toList ++ (Tx chk cw).cps.toList)) := by
  unfold Lk
  rw [PySem.W.KT.app_list, PySem.W.KT.app_list, PySem.W.KT.app_list]
  simp
theorem tx_ll (n : Int) (w : Nat) : (Tx n w).cps.toList.length = w := by rw [Array.length_toList]; exact Tx_length n w
theorem lk_size (sw cw : Nat) (so r : Int) (cnt : Nat) (pcs : Str) (chk : Int) : (Lk sw cw so r cnt pcs chk).cps.size = sw + cnt + pcs.cps.size + cw := by
  rw [← Array.length_toList, lk_list, List.length_append, List.length_append, List.length_append, tx_ll, tx_ll, tx_ll, Array.length_toList]
  omega
theorem lk_sort (sw cw : Nat) (so r : Int) (cnt : Nat) (pcs : Str) (chk : Int) : Txt.slice (Lk sw cw so r cnt pcs chk) none (some (sw : Int)) = Tx so sw := by
  refine str_ext ?_
  rw [slice_lo _ _ (by rw [lk_size]; omega), lk_list, List.take_append_of_le_length (by rw [tx_ll]; exact Nat.le_refl _), List.take_of_length_le (by rw [tx_ll]; exact Nat.le_refl _)]
theorem lk_rest (sw cw : Nat) (so r : Int) (cnt : Nat) (pcs : Str) (chk : Int) : Txt.slice (Lk sw cw so r cnt pcs chk) (some (sw : Int)) (some ((sw + cnt : Nat) : Int)) = Tx r cnt := by
  refine str_ext ?_
  rw [slice_mid _ _ _ (by omega) (by rw [lk_size]; omega), lk_list, List.drop_append_of_le_length (by rw [tx_ll]; exact Nat.le_refl _), List.drop_of_length_le (by rw [tx_ll]; exact Nat.le_refl _), List.nil_append, show sw + cnt - sw = cnt by omega, List.take_append_of_le_length (by rw [tx_ll]; exact Nat.le_refl _), List.take_of_length_le (by rw [tx_ll]; exact Nat.le_refl _)]
theorem lk_chk (sw cw : Nat) (so r : Int) (cnt : Nat) (pcs : Str) (chk : Int) : Txt.slice (Lk sw cw so r cnt pcs chk) (some ((sw + cnt + pcs.cps.size : Nat) : Int)) none = Tx chk cw := by
  refine str_ext ?_
  rw [slice_hi _ _ (by rw [lk_size]; omega), lk_list, ← List.append_assoc, ← List.append_assoc]
  rw [List.drop_append_of_le_length (by rw [List.length_append, List.length_append, tx_ll, tx_ll, Array.length_toList]; omega), List.drop_of_length_le (by rw [List.length_append, List.length_append, tx_ll, tx_ll, Array.length_toList]; omega), List.nil_append]
theorem lk_pcs (sw cw : Nat) (so r : Int) (cnt : Nat) (pcs : Str) (chk : Int) : Txt.slice (Lk sw cw so r cnt pcs chk) (some ((sw + cnt : Nat) : Int)) (some ((sw + cnt + pcs.cps.size : Nat) : Int)) = pcs := by
  refine str_ext ?_
  rw [slice_mid _ _ _ (by omega) (by rw [lk_size]; omega), lk_list, ← List.append_assoc, List.drop_append_of_le_length (by rw [List.length_append, tx_ll, tx_ll]; omega), List.drop_of_length_le (by rw [List.length_append, tx_ll, tx_ll]; omega), List.nil_append, show sw + cnt + pcs.cps.size - (sw + cnt) = pcs.cps.toList.length by rw [Array.length_toList]; omega, List.take_append_of_le_length (Nat.le_refl _), List.take_length]
def atV (so : Int) : V := if so = 0 then .non else .int (so - 1)
theorem AtF.v {bs : List Int} {wide : Int} {fs : List (Int × Int × List Wy)} {at' : V} {so cnt : Int} {ys : List Wy} (h : AtF bs wide fs at' so cnt ys) : atV so = at' ∧ 0 ≤ so ∧ so ≤ fs.length := by
  rcases h with ⟨rfl, rfl, _⟩ | ⟨k, hk, rfl, rfl, _⟩
  · exact ⟨rfl, by decide, by omega⟩
  · refine ⟨?_, by omega, by omega⟩
    unfold atV
    rw [if_neg (by omega), show (1 : Int) + k - 1 = k by omega]
def spAreBits : Sp := fun vs H Q _ => ∃ z, vs = [.str z] ∧ Bits z ∧ Q (.bl true) H
def spNumberOf : Sp := fun vs H Q _ => ∃ z : Str, vs = [.str z] ∧ Bits z ∧ Q (.int (tv z.cps.toList.reverse)) H
def spSortTold : Sp := fun vs H Q _ => ∃ (pa : Addr) (bs : List Int) (m wide so r chk : Int) (fs : List (Int × Int × List Wy)) (sw cw cnt : Nat) (pcs : Str), vs = [.ref pa, .str (Lk sw cw so r cnt pcs chk)] ∧ PactAt H pa bs m wide fs ∧ Wid (1 + (fs.length : Int)) sw ∧ 0 ≤ so ∧ so ≤ fs.length ∧ (Lk sw cw so r cnt pcs chk).length ≤ sizeLine ∧ Q (atV so) H
def spParted : Sp := fun vs H Q _ => ∃ (pa : Addr) (at' : V) (bs vals : List Int) (m wide so cnt r chk : Int) (fs : List (Int × Int × List Wy)) (ys : List Wy) (sw cw : Nat), vs = [.ref pa, .str (Lk sw cw so r cnt.toNat (cat (PcL vals (Wds bs ys))) chk)] ∧ PactAt H pa bs m wide fs ∧ AtF bs wide fs at' so cnt ys ∧ vals.length = bs.length ∧ Wid (1 + (fs.length : Int)) sw ∧ Wid m cw ∧ 0 ≤ r ∧ r < 2 ^ cnt.toNat ∧ 0 ≤ chk ∧ chk < m ∧ ∀ (t : Addr) (H' : Hp), Same H H' → H' t = some (.tup [at', .int r, .str (cat (PcL vals (Wds bs ys))), .int chk]) → Q (.ref t) H'
section
variable {P : Program} {w : World} {K : PySem.W.Frag} {mg : Str → Option Value} {base : Heap}
theorem scAreBits : FnScope ["thing", "sign"] ["thing"] (defScope sAreBits) := ⟨rfl, rfl, rfl, by decide +kernel, rfl, by decide +kernel, by decide +kernel⟩
theorem ok_arebits {f : Addr} {fd : FuncData} (F : Fun K "are_bits" "are_bits" sAreBits f fd) (T : Txt mg) : FnOk P w K mg base CX0 1 f fd ["thing"] spAreBits := by
  refine F.ok scAreBits (fun vs H Q E h => ?_) (fun cdv A outer s H vs Q E hr h => ?_)
  · obtain ⟨_, rfl, _⟩ := h
    rfl
  · obtain ⟨z, rfl, hb, q⟩ := h
    refine ⟨_, (pss_cons (ps_if (pt_not (pt_val (pe_callB call_isi (by rfl) T.isi boot_isinstance (pa_cons (pv 0) (pa_cons (pe_bltn (v := .ty "str") (by rfl) T.str boot_str rfl) pa_nil)))))
      (pss_one (ps_ret pe_bl))
      pss_nil)
      (pss_cons (ps_for PassesOwn.never rfl (pi_txt (pv 0)) (pg_name (i := 1) scAreBits.nd rfl (Or.inl rfl))
      (pss_one (ps_if (PW.pt (pw_and (pt_cmpR op_ne (pv 1) pe_str (nomark _)) (pw_and1 (pt_cmpR op_ne (pv 1) pe_str (nomark _)))))
      (pss_one (ps_ret pe_bl))
      pss_nil)))
      (pss_one (ps_ret pe_bl)))), ?_⟩
    refine ⟨_, rfl, _, _, _, _, rfl, .str z, kit_ss, _, rfl, iteF ?_⟩
    refine ⟨_, rfl, z, rfl, for_f (fun i σ H2 => H2 = H ∧ ∃ v1, σ = [some (.str z), v1]) ⟨rfl, none, rfl⟩ ?_ ?_⟩
    · rintro i σ H2 hi ⟨rfl, v1, rfl⟩
      have hc : z.cps.getD i 0 = z.cps.toList[i]'(by simpa using hi) := by simp [hi]
      have hm : z.cps.getD i 0 ∈ z.cps.toList := by rw [hc]; exact List.getElem_mem _
      rcases hb _ hm with e | e
      · have e2 : sgn z i = .str "0" := by unfold sgn; rw [e]; rfl
        refine ⟨_, rfl, (by rw [e2]; rfl), _, rfl, ?_⟩
        rw [e2]
        exact iteF ⟨rfl, _, rfl⟩
      · have e2 : sgn z i = .str "1" := by unfold sgn; rw [e]; rfl
        refine ⟨_, rfl, (by rw [e2]; rfl), _, rfl, ?_⟩
        rw [e2]
        refine iteT ⟨_, rfl, rfl, _, rfl, ?_⟩
        exact iteF ⟨rfl, _, rfl⟩
    · rintro σ H2 ⟨rfl, v1, rfl⟩
      exact q
theorem scNumberOf : FnScope ["bits", "number", "sign"] ["bits"] (defScope sNumberOf) := ⟨rfl, rfl, rfl, by decide +kernel, rfl, by decide +kernel, by decide +kernel⟩
theorem ok_numberof {f : Addr} {fd : FuncData} (F : Fun K "number_of" "number_of" sNumberOf f fd) (T : Txt mg) : FnOk P w K mg base CX0 1 f fd ["bits"] spNumberOf := by
  refine F.ok scNumberOf (fun vs H Q E h => ?_) (fun cdv A outer s H vs Q E hr h => ?_)
  · obtain ⟨_, rfl, _⟩ := h
    rfl
  · obtain ⟨z, rfl, hb, q⟩ := h
    refine ⟨_, (pss_cons (ps_set (i := 1) scNumberOf.nd rfl (Or.inl rfl) pe_int)
      (pss_cons (ps_for PassesOwn.never rfl (pi_txt (pv 0)) (pg_name (i := 2) scNumberOf.nd rfl (Or.inl rfl))
      (pss_one (ps_set (i := 1) scNumberOf.nd rfl (Or.inl rfl) (pe_op op_add (pe_op op_mul (pv 1) pe_int) (pe_callTy call_int_txt (by rfl) T.int boot_int (pa_cons (pv 2) pa_nil))))))
      (pss_one (ps_ret (pv 1))))), ?_⟩
    refine ⟨_, rfl, z, rfl, for_f (fun i σ H2 => H2 = H ∧ ∃ v2, σ = [some (.str z), some (.int (val (z.cps.toList.take i))), v2]) ⟨rfl, none, rfl⟩ ?_ ?_⟩
    · rintro i σ H2 hi ⟨rfl, v2, rfl⟩
      have hc : z.cps.getD i 0 = z.cps.toList[i]'(by simpa using hi) := by simp [hi]
      have hm : z.cps.getD i 0 ∈ z.cps.toList := by rw [hc]; exact List.getElem_mem _
      have hv : val (z.cps.toList.take (i + 1)) = val (z.cps.toList.take i) * 2 + bt (z.cps.getD i 0) := by
        rw [List.take_add_one, List.getElem?_eq_getElem (by simpa using hi), ← hc]
        exact val_snoc _ _
      have hi2 : PySem.intText? (one (z.cps.getD i 0)) = some (bt (z.cps.getD i 0)) := by
        rcases hb _ hm with e | e
        · rw [e]; decide +kernel
        · rw [e]; decide +kernel
      refine ⟨_, rfl, _, _, rfl, rfl, .inr ⟨by decide, by decide⟩, _, rfl, _, _, rfl, hi2, (by show 1 ≤ 640; decide), _, _, rfl, rfl, ?_⟩
      refine ⟨rfl, some (sgn z i), ?_⟩
      rw [hv]
      rfl
    · rintro σ H2 ⟨rfl, v2, rfl⟩
      refine ⟨_, rfl, ?_⟩
      rw [List.take_of_length_le (by simp), val_eq]
      exact q
theorem scSortTold : FnScope ["pact", "bits", "sort"] ["pact", "bits"] (defScope sSortTold) := ⟨rfl, rfl, rfl, by decide +kernel, rfl, by decide +kernel, by decide +kernel⟩
theorem ok_sorttold {f : Addr} {fd : FuncData} (F : Fun K "sort_told" "sort_told" sSortTold f fd) (T : Txt mg) {fNumberOf fWidthFor fSortWidth : Addr} {fdNumberOf fdWidthFor fdSortWidth : FuncData} (FNumberOf : Fun K "number_of" "number_of" sNumberOf fNumberOf fdNumberOf) (bNumberOf : Binds K fdNumberOf ["bits"] []) (mNumberOf : mg "number_of" = some (.ref fNumberOf)) (FWidthFor : Fun K "width_for" "width_for" sWidthFor fWidthFor fdWidthFor) (bWidthFor : Binds K fdWidthFor ["many"] []) (mWidthFor : mg "width_for" = some (.ref fWidthFor)) (FSortWidth : Fun K "sort_width" "sort_width" sSortWidth fSortWidth fdSortWidth) (bSortWidth : Binds K fdSortWidth ["pact"] []) (mSortWidth : mg "sort_width" = some (.ref fSortWidth)) : FnOk P w K mg base CX0 3 f fd ["pact", "bits"] spSortTold := by
  have GNumberOf : FnOk P w K mg base CX0 1 fNumberOf fdNumberOf ["bits"] spNumberOf := ok_numberof FNumberOf T
  have GSortWidth : FnOk P w K mg base CX0 2 fSortWidth fdSortWidth ["pact"] spSortWidth := ok_sortwidth FSortWidth T FWidthFor bWidthFor mWidthFor
  refine F.ok scSortTold (fun vs H Q E h => ?_) (fun cdv A outer s H vs Q E hr h => ?_)
  · obtain ⟨_, _, _, _, _, _, _, _, _, _, _, _, rfl, _⟩ := h
    rfl
  · obtain ⟨pa, bs, m, wide, so, r, chk, fs, sw, cw, cnt, pcs, rfl, hp, hsw, so0, so1, hz, q⟩ := h
    obtain ⟨sh, ft, rd, fas, h1, h2, h3, h4, h5, _⟩ := id hp
    refine ⟨_, (pss_cons (ps_set (i := 2) scSortTold.nd rfl (Or.inl rfl) (pe_call GNumberOf (hr.mono (by decide)) rfl mNumberOf FNumberOf.kp bNumberOf .nil pass0 (pa_cons (pe_slice sl_txt (pv 1) po_none (po_some (pe_call GSortWidth (hr.mono (by decide)) rfl mSortWidth FSortWidth.kp bSortWidth .nil pass0 (pa_cons (pv 0) pa_nil)))) pa_nil)))
      (pss_cons (ps_if (pt_cmpR op_gt (pv 2) (pe_callB call_len_seq (by rfl) T.len PySem.boot_len (pa_cons (pe_ix ix_tup (pv 0) pe_int (fun _ _ => rfl)) pa_nil)) (nomark _))
      (pss_one ps_never)
      pss_nil)
      (pss_one (ps_ret (pe_ifExp (pt_cmpR op_eq (pv 2) pe_int (nomark _)) pe_non (pe_op op_sub (pv 2) pe_int)))))), ?_⟩
    have hlt : so < 2 ^ sw := by have := hsw.1; omega
    refine ⟨_, rfl, _, rfl, pa, bs, m, wide, fs, rfl, hp, fun w hw => ?_⟩
    cases Wid_inj hsw hw
    refine ⟨_, rfl, _, rfl, hz, ?_⟩
    rw [lk_sort]
    refine ⟨_, rfl, Tx_bits _ _, ?_⟩
    rw [tv_Tx so0 hlt]
    refine ⟨_, rfl, _, rfl, pa, _, _, _, rfl, rfl, SqT.of h1, rfl, ft, _, rfl, .inr (SqT.of h3), _, _, rfl, rfl, _, rfl, iteDN (by rw [List.length_map, h4.1]; omega) ?_⟩
    refine ⟨_, rfl, rfl, _, rfl, ite2 (fun c1 => ?_) (fun c1 => ?_)⟩
    · have e : so = 0 := V.int.inj (of_decide_eq_true c1)
      have e2 : atV so = .non := by unfold atV; rw [if_pos e]
      rw [e2] at q
      exact q
    · have e : so ≠ 0 := fun z => c1 (decide_eq_true (by rw [z]))
      have e2 : atV so = .int (so - 1) := by unfold atV; rw [if_neg e]
      rw [e2] at q
      exact ⟨_, rfl, _, _, rfl, rfl, q⟩
theorem scParted : FnScope ["pact", "letter", "at", "begin", "behind", "last", "check"] ["pact", "letter"] (defScope sParted) := ⟨rfl, rfl, rfl, by decide +kernel, rfl, by decide +kernel, by decide +kernel⟩
set_option maxHeartbeats 4000000 in
theorem ok_parted {f : Addr} {fd : FuncData} (F : Fun K "parted" "parted" sParted f fd) (T : Txt mg) {fAreBits fNumberOf fWidthFor fBreadths fWidthOf fWidths fSizeOf fFormAt fSortWidth fCheckWidth fLetterSize fSortTold : Addr} {fdAreBits fdNumberOf fdWidthFor fdBreadths fdWidthOf fdWidths fdSizeOf fdFormAt fdSortWidth fdCheckWidth fdLetterSize fdSortTold : FuncData} (FAreBits : Fun K "are_bits" "are_bits" sAreBits fAreBits fdAreBits) (bAreBits : Binds K fdAreBits ["thing"] []) (mAreBits : mg "are_bits" = some (.ref fAreBits)) (FNumberOf : Fun K "number_of" "number_of" sNumberOf fNumberOf fdNumberOf) (bNumberOf : Binds K fdNumberOf ["bits"] []) (mNumberOf : mg "number_of" = some (.ref fNumberOf)) (FWidthFor : Fun K "width_for" "width_for" sWidthFor fWidthFor fdWidthFor) (bWidthFor : Binds K fdWidthFor ["many"] []) (mWidthFor : mg "width_for" = some (.ref fWidthFor)) (FBreadths : Fun K "breadths" "breadths" sBreadths fBreadths fdBreadths) (bBreadths : Binds K fdBreadths ["shape"] []) (mBreadths : mg "breadths" = some (.ref fBreadths)) (FWidthOf : Fun K "width_of" "width_of" sWidthOf fWidthOf fdWidthOf) (bWidthOf : Binds K fdWidthOf ["way", "breadth"] []) (mWidthOf : mg "width_of" = some (.ref fWidthOf)) (FWidths : Fun K "widths" "widths" sWidths fWidths fdWidths) (bWidths : Binds K fdWidths ["shape", "form"] []) (mWidths : mg "widths" = some (.ref fWidths)) (FSizeOf : Fun K "size_of" "size_of" sSizeOf fSizeOf fdSizeOf) (bSizeOf : Binds K fdSizeOf ["shape", "form"] []) (mSizeOf : mg "size_of" = some (.ref fSizeOf)) (FFormAt : Fun K "form_at" "form_at" sFormAt fFormAt fdFormAt) (bFormAt : Binds K fdFormAt ["pact", "at"] []) (mFormAt : mg "form_at" = some (.ref fFormAt)) (FSortWidth : Fun K "sort_width" "sort_width" sSortWidth fSortWidth fdSortWidth) (bSortWidth : Binds K fdSortWidth ["pact"] []) (mSortWidth : mg "sort_width" = some (.ref fSortWidth)) (FCheckWidth : Fun K "check_width" "check_width" sCheckWidth fCheckWidth fdCheckWidth) (bCheckWidth : Binds K fdCheckWidth ["pact"] []) (mCheckWidth : mg "check_width" = some (.ref fCheckWidth)) (FLetterSize : Fun K "letter_size" "letter_size" sLetterSize fLetterSize fdLetterSize) (bLetterSize : Binds K fdLetterSize ["pact", "at"] []) (mLetterSize : mg "letter_size" = some (.ref fLetterSize)) (FSortTold : Fun K "sort_told" "sort_told" sSortTold fSortTold fdSortTold) (bSortTold : Binds K fdSortTold ["pact", "bits"] []) (mSortTold : mg "sort_told" = some (.ref fSortTold)) : FnOk P w K mg base CX0 5 f fd ["pact", "letter"] spParted := by
  have GAreBits : FnOk P w K mg base CX0 1 fAreBits fdAreBits ["thing"] spAreBits := ok_arebits FAreBits T
  have GNumberOf : FnOk P w K mg base CX0 1 fNumberOf fdNumberOf ["bits"] spNumberOf := ok_numberof FNumberOf T
  have GFormAt : FnOk P w K mg base CX0 1 fFormAt fdFormAt ["pact", "at"] spFormAt := ok_format FFormAt T
  have GSortWidth : FnOk P w K mg base CX0 2 fSortWidth fdSortWidth ["pact"] spSortWidth := ok_sortwidth FSortWidth T FWidthFor bWidthFor mWidthFor
  have GCheckWidth : FnOk P w K mg base CX0 2 fCheckWidth fdCheckWidth ["pact"] spCheckWidth := ok_checkwidth FCheckWidth T FWidthFor bWidthFor mWidthFor
  have GLetterSize : FnOk P w K mg base CX0 4 fLetterSize fdLetterSize ["pact", "at"] spLetterSize := ok_lettersize FLetterSize T FWidthFor bWidthFor mWidthFor FBreadths bBreadths mBreadths FWidthOf bWidthOf mWidthOf FWidths bWidths mWidths FSizeOf bSizeOf mSizeOf FFormAt bFormAt mFormAt FSortWidth bSortWidth mSortWidth FCheckWidth bCheckWidth mCheckWidth
  have GSortTold : FnOk P w K mg base CX0 3 fSortTold fdSortTold ["pact", "bits"] spSortTold := ok_sorttold FSortTold T FNumberOf bNumberOf mNumberOf FWidthFor bWidthFor mWidthFor FSortWidth bSortWidth mSortWidth
  refine F.ok scParted (fun vs H Q E h => ?_) (fun cdv A outer s H vs Q E hr h => ?_)
  · obtain ⟨_, _, _, _, _, _, _, _, _, _, _, _, _, _, rfl, _⟩ := h
    rfl
  · obtain ⟨pa, at', bs, vals, m, wide, so, cnt, r, chk, fs, ys, sw, cw, rfl, hp, hat, hvl, hsw, hcw, r0, r1, k0, k1, q⟩ := h
    obtain ⟨hws, c0, c1⟩ := hat.ok hp
    obtain ⟨ev, so0, so1⟩ := hat.v
    obtain ⟨sh, ft, rd, fas, h1, h2, h3, h4, h5, w0, w1, m0, m1⟩ := id hp
    have hbb : ∀ b ∈ bs, 1 ≤ b ∧ b ≤ 40 := by obtain ⟨_, _, _, _, _, _, _, _, h⟩ := h2; exact h
    have hb12 := h2.tup
    have hsw4 : sw ≤ 4 := Wid_le hsw 4 (by show 1 + (fs.length : Int) ≤ 16; omega)
    have hcw20 : cw ≤ 20 := Wid_le hcw 20 (by show m ≤ 1048576; omega)
    have e4 : (cat (PcL vals (Wds bs ys))).cps.size = ((PcL vals (Wds bs ys)).map fun t => t.cps.size).sum := cat_len _
    have hWl := Wds_len hws.1
    have hWo := Wds_ok hbb hws
    have e5 := pcl_len vals (Wds bs ys) (by omega) fun w h => (hWo w h).1
    have e6 := sum_le (Wds bs ys) 40 fun w h => (hWo w h).2
    have hline := sizeLine_eq
    have hsz := lk_size sw cw so r cnt.toNat (cat (PcL vals (Wds bs ys))) chk
    have hzl : (Lk sw cw so r cnt.toNat (cat (PcL vals (Wds bs ys))) chk).length ≤ sizeLine := by
      show (Lk sw cw so r cnt.toNat (cat (PcL vals (Wds bs ys))) chk).cps.size ≤ sizeLine
      omega
    have hbits : Bits (Lk sw cw so r cnt.toNat (cat (PcL vals (Wds bs ys))) chk) := bits_app (bits_app (bits_app (Tx_bits _ _) (Tx_bits _ _)) (bits_cat (pcl_bits _ _))) (Tx_bits _ _)
    refine ⟨_, (pss_cons (ps_if (pt_not (pt_val (pe_call GAreBits (hr.mono (by decide)) rfl mAreBits FAreBits.kp bAreBits .nil pass0 (pa_cons (pv 1) pa_nil))))
      (pss_one ps_never)
      pss_nil)
      (pss_cons (ps_set (i := 2) scParted.nd rfl (Or.inl rfl) (pe_call GSortTold (hr.mono (by decide)) rfl mSortTold FSortTold.kp bSortTold .nil pass0 (pa_cons (pv 0) (pa_cons (pv 1) pa_nil))))
      (pss_cons (ps_if (pt_cmpR op_ne (pe_callB call_len_str (by rfl) T.len PySem.boot_len (pa_cons (pv 1) pa_nil)) (pe_call GLetterSize (hr.mono (by decide)) rfl mLetterSize FLetterSize.kp bLetterSize .nil pass0 (pa_cons (pv 0) (pa_cons (pv 2) pa_nil))) (nomark _))
      (pss_one ps_never)
      pss_nil)
      (pss_cons (ps_set (i := 3) scParted.nd rfl (Or.inl rfl) (pe_call GSortWidth (hr.mono (by decide)) rfl mSortWidth FSortWidth.kp bSortWidth .nil pass0 (pa_cons (pv 0) pa_nil)))
      (pss_cons (ps_set (i := 4) scParted.nd rfl (Or.inl rfl) (pe_op op_add (pv 3) (pe_ix ix_tup (pe_call GFormAt (hr.mono (by decide)) rfl mFormAt FFormAt.kp bFormAt .nil pass0 (pa_cons (pv 0) (pa_cons (pv 2) pa_nil))) pe_int (fun _ _ => rfl))))
      (pss_cons (ps_set (i := 5) scParted.nd rfl (Or.inl rfl) (pe_op op_sub (pe_callB call_len_str (by rfl) T.len PySem.boot_len (pa_cons (pv 1) pa_nil)) (pe_call GCheckWidth (hr.mono (by decide)) rfl mCheckWidth FCheckWidth.kp bCheckWidth .nil pass0 (pa_cons (pv 0) pa_nil))))
      (pss_cons (ps_set (i := 6) scParted.nd rfl (Or.inl rfl) (pe_call GNumberOf (hr.mono (by decide)) rfl mNumberOf FNumberOf.kp bNumberOf .nil pass0 (pa_cons (pe_slice sl_txt (pv 1) (po_some (pv 5)) po_none) pa_nil)))
      (pss_cons (ps_if (pt_cmpR op_ge (pv 6) (pe_ix ix_tup (pe_ix ix_tup (pv 0) pe_int (fun _ _ => rfl)) pe_int (fun _ _ => rfl)) (nomark _))
      (pss_one ps_never)
      pss_nil)
      (pss_one (ps_ret (pe_tup (pa_cons (pv 2) (pa_cons (pe_call GNumberOf (hr.mono (by decide)) rfl mNumberOf FNumberOf.kp bNumberOf .nil pass0 (pa_cons (pe_slice sl_txt (pv 1) (po_some (pv 3)) (po_some (pv 4))) pa_nil)) (pa_cons (pe_slice sl_txt (pv 1) (po_some (pv 4)) (po_some (pv 5))) (pa_cons (pv 6) pa_nil))))))))))))))), ?_⟩
    have hchk : chk < 2 ^ cw := by have := hcw.1; omega
    refine ⟨_, rfl, _, rfl, hbits, _, rfl, iteF ?_⟩
    refine ⟨_, rfl, _, rfl, pa, bs, m, wide, so, r, chk, fs, sw, cw, cnt.toNat, _, rfl, hp, hsw, so0, so1, hzl, ?_⟩
    rw [ev]
    refine ⟨_, rfl, _, rfl, hzl, _, rfl, _, rfl, pa, at', bs, m, wide, so, cnt, fs, ys, rfl, hp, hat, fun sw2 cw2 H1 hsw2 hcw2 s1 => ?_⟩
    cases Wid_inj hsw hsw2
    cases Wid_inj hcw hcw2
    have hp1 := hp.mono fun a xs e => s1 _ _ e
    refine ⟨rfl, _, rfl, iteNS ?_ ?_⟩
    · show V.int ((Lk sw cw so r cnt.toNat (cat (PcL vals (Wds bs ys))) chk).cps.size : Int) = _
      congr 1
      omega
    refine ⟨_, rfl, pa, bs, m, wide, fs, rfl, hp1, fun sw3 hsw3 => ?_⟩
    cases Wid_inj hsw hsw3
    refine ⟨_, rfl, _, rfl, _, rfl, pa, at', bs, m, wide, so, cnt, fs, ys, rfl, hp1, hat, fun fo rr H2 s2 hfo => ?_⟩
    obtain ⟨wt, ws, f1, f2, f3⟩ := id hfo
    have s12 := s1.trans s2
    have hp2 := hp.mono fun a xs e => s12 _ _ e
    refine ⟨fo, _, _, _, rfl, rfl, SqT.of f1, rfl, _, _, rfl, rfl, ?_⟩
    refine ⟨_, rfl, _, rfl, hzl, _, rfl, pa, bs, m, wide, fs, rfl, hp2, fun cw3 hcw3 => ?_⟩
    cases Wid_inj hcw hcw3
    refine ⟨_, _, rfl, rfl, ?_⟩
    have elast : ((Lk sw cw so r cnt.toNat (cat (PcL vals (Wds bs ys))) chk).length : Int) - (cw : Int) = ((sw + cnt.toNat + (cat (PcL vals (Wds bs ys))).cps.size : Nat) : Int) := by
      show ((Lk sw cw so r cnt.toNat (cat (PcL vals (Wds bs ys))) chk).cps.size : Int) - (cw : Int) = _
      omega
    have ebeh : (sw : Int) + cnt = ((sw + cnt.toNat : Nat) : Int) := by omega
    have x1 : Txt.slice (Lk sw cw so r cnt.toNat (cat (PcL vals (Wds bs ys))) chk) (some (((Lk sw cw so r cnt.toNat (cat (PcL vals (Wds bs ys))) chk).length : Int) - (cw : Int))) none = Tx chk cw := by rw [elast]; exact lk_chk ..
    have x2 : Txt.slice (Lk sw cw so r cnt.toNat (cat (PcL vals (Wds bs ys))) chk) (some (sw : Int)) (some ((sw : Int) + cnt)) = Tx r cnt.toNat := by rw [ebeh]; exact lk_rest ..
    have x3 : Txt.slice (Lk sw cw so r cnt.toNat (cat (PcL vals (Wds bs ys))) chk) (some ((sw : Int) + cnt)) (some (((Lk sw cw so r cnt.toNat (cat (PcL vals (Wds bs ys))) chk).length : Int) - (cw : Int))) = cat (PcL vals (Wds bs ys)) := by rw [elast, ebeh]; exact lk_pcs ..
    refine ⟨_, rfl, _, rfl, _, rfl, _, rfl, hzl, ?_⟩
    rw [x1]
    refine ⟨_, rfl, Tx_bits _ _, ?_⟩
    rw [tv_Tx k0 hchk]
    obtain ⟨fft, fr, g1, _⟩ := id h2
    refine ⟨_, rfl, _, rfl, pa, _, _, _, rfl, rfl, SqT.of (s12 _ _ h1), rfl, sh, _, _, _, rfl, rfl, SqT.of (s12 _ _ g1), rfl, _, _, rfl, rfl, _, rfl, iteDN (by omega) ?_⟩
    refine ⟨_, rfl, _, rfl, _, rfl, _, rfl, _, rfl, _, rfl, _, rfl, hzl, ?_⟩
    rw [x2]
    refine ⟨_, rfl, Tx_bits _ _, ?_⟩
    rw [tv_Tx r0 r1]
    refine ⟨_, rfl, _, rfl, _, rfl, _, rfl, _, rfl, _, rfl, hzl, ?_⟩
    rw [x3]
    refine ⟨_, rfl, (by show 4 ≤ sizeLine; decide), fun t ht => q t _ (s12.trans (same_new (Same.refl _) ht)) upd_same⟩
end
end K
namespace K
open PySem PyProof.Rows L2 Mth
theorem pe_never {X : Cx} {e : Expr} : PE X e (fun _ _ _ => False) := fun _ _ _ _ _ _ h => h.elim
/-- a number, a text or None -/
inductive Sc : V → Prop where
  | int (i : Int) : Sc (.int i)
  | str (z : Str) : Sc (.str z)
  | non : Sc .non
theorem kit_it {K : PySem.W.Frag} : PySem.W.kitOne K (.type "int") (.type "tuple") = some false := by rfl
theorem kit_is {K : PySem.W.Frag} : PySem.W.kitOne K (.type "int") (.type "str") = some false := by rfl
theorem kit_st {K : PySem.W.Frag} : PySem.W.kitOne K (.type "str") (.type "tuple") = some false := by rfl
theorem kit_nt {K : PySem.W.Frag} : PySem.W.kitOne K (.type "NoneType") (.type "tuple") = some false := by rfl
theorem kit_tt {K : PySem.W.Frag} : PySem.W.kitOne K (.type "tuple") (.type "tuple") = some true := by rfl
def spSame1 : Sp := fun vs H Q _ => ∃ x, vs = [x, x] ∧ Sc x ∧ Q (.bl true) H
def spSameT : Sp := fun vs H Q _ => ∃ (t1 t2 : Addr) (xs : List V), vs = [.ref t1, .ref t2] ∧ H t1 = some (.tup xs) ∧ H t2 = some (.tup xs) ∧ xs.length ≤ 1000 ∧ (∀ x ∈ xs, Sc x) ∧ ∀ H', Same H H' → Q (.bl true) H'
section
variable {P : Program} {w : World} {K : PySem.W.Frag} {mg : Str → Option Value} {base : Heap}
theorem scSame : FnScope ["_law_found", "_law_due"] ["_law_found", "_law_due"] (defScope sSame) := ⟨rfl, rfl, rfl, by decide +kernel, rfl, by decide +kernel, by decide +kernel⟩
theorem ok_same1 {f : Addr} {fd : FuncData} (F : Fun K "_law_same" "_law_same" sSame f fd) (T : Txt mg) : FnOk P w K mg base CX0 1 f fd ["_law_found", "_law_due"] spSame1 := by
  refine F.ok scSame (fun vs H Q E h => ?_) (fun cdv A outer s H vs Q E hr h => ?_)
  · obtain ⟨_, rfl, _⟩ := h
    rfl
  · obtain ⟨x, rfl, hx, q⟩ := h
    refine ⟨_, (pss_cons (ps_if (pt_val (pe_callB call_isi (by rfl) T.isi boot_isinstance (pa_cons (pv 1) (pa_cons (pe_bltn (v := .ty "tuple") (by rfl) T.tuple boot_tuple rfl) pa_nil))))
      (pss_cons (ps_if (PW.pt (pw_or (pt_not (pt_val (pe_callB call_isi (by rfl) T.isi boot_isinstance (pa_cons (pv 0) (pa_cons (pe_bltn (v := .ty "tuple") (by rfl) T.tuple boot_tuple rfl) pa_nil))))) (pw_or1 (pt_cmpR op_ne (pe_callB call_len_seq (by rfl) T.len PySem.boot_len (pa_cons (pv 0) pa_nil)) (pe_callB call_len_seq (by rfl) T.len PySem.boot_len (pa_cons (pv 1) pa_nil)) (nomark _)))))
      (pss_one (ps_ret pe_bl))
      pss_nil)
      (pss_one (ps_ret pe_never)))
      pss_nil)
      (pss_cons (ps_if (pt_cmpR op_isN (pv 1) pe_non (nomark _))
      (pss_one (ps_ret (pe_cmpR op_isN (pv 0) pe_non (nomark _))))
      pss_nil)
      (pss_cons (ps_if (pt_val (pe_callB call_isi (by rfl) T.isi boot_isinstance (pa_cons (pv 1) (pa_cons (pe_bltn (v := .ty "str") (by rfl) T.str boot_str rfl) pa_nil))))
      (pss_one (ps_ret (pe_and (pe_callB call_isi (by rfl) T.isi boot_isinstance (pa_cons (pv 0) (pa_cons (pe_bltn (v := .ty "str") (by rfl) T.str boot_str rfl) pa_nil))) (pe_one (pe_cmpR op_eq (pv 0) (pv 1) (nomark _))))))
      pss_nil)
      (pss_one (ps_ret (pe_and (pe_callB call_isi (by rfl) T.isi boot_isinstance (pa_cons (pv 0) (pa_cons (pe_bltn (v := .ty "int") (by rfl) T.int boot_int rfl) pa_nil))) (pe_and (pe_not (pe_callB call_isi (by rfl) T.isi boot_isinstance (pa_cons (pv 0) (pa_cons (pe_bltn (v := .ty "bool") (by rfl) T.bool boot_bool rfl) pa_nil)))) (pe_one (pe_cmpR op_eq (pv 0) (pv 1) (nomark _)))))))))), ?_⟩
    cases hx with
    | int i =>
      refine ⟨_, rfl, _, _, _, _, rfl, .int i, kit_it, _, rfl, iteF ?_⟩
      refine ⟨_, rfl, rfl, _, rfl, iteDN (by intro z; cases z) ?_⟩
      refine ⟨_, rfl, _, _, _, _, rfl, .int i, kit_is, _, rfl, iteF ?_⟩
      refine ⟨_, rfl, _, _, _, _, rfl, .int i, kit_ii, _, rfl, iteT ⟨_, rfl, _, _, _, _, rfl, .int i, kit_ib, _, rfl, _, rfl, iteT ⟨_, rfl, _, rfl, rfl, ?_⟩⟩⟩
      rw [decide_eq_true rfl]
      exact q
    | str z =>
      refine ⟨_, rfl, _, _, _, _, rfl, .str z, kit_st, _, rfl, iteF ?_⟩
      refine ⟨_, rfl, rfl, _, rfl, iteDN (by intro z; cases z) ?_⟩
      refine ⟨_, rfl, _, _, _, _, rfl, .str z, kit_ss, _, rfl, iteT ?_⟩
      refine ⟨_, rfl, _, _, _, _, rfl, .str z, kit_ss, _, rfl, iteT ⟨_, rfl, _, rfl, rfl, ?_⟩⟩
      rw [decide_eq_true rfl]
      exact q
    | non =>
      refine ⟨_, rfl, _, _, _, _, rfl, .non, kit_nt, _, rfl, iteF ?_⟩
      refine ⟨_, rfl, rfl, _, rfl, iteD rfl ?_⟩
      refine ⟨_, rfl, rfl, ?_⟩
      exact q
theorem ok_sameT {f : Addr} {fd : FuncData} (F : Fun K "_law_same" "_law_same" sSame f fd) (T : Txt mg) (bSame : Binds K fd ["_law_found", "_law_due"] []) (mSame : mg "_law_same" = some (.ref f)) : FnOk P w K mg base CX0 2 f fd ["_law_found", "_law_due"] spSameT := by
  have GSame : FnOk P w K mg base CX0 1 f fd ["_law_found", "_law_due"] spSame1 := ok_same1 F T
  have FSame := F
  refine F.ok scSame (fun vs H Q E h => ?_) (fun cdv A outer s H vs Q E hr h => ?_)
  · obtain ⟨_, _, _, rfl, _⟩ := h
    rfl
  · obtain ⟨t1, t2, xs, rfl, h1, h2, hl, hx, q⟩ := h
    refine ⟨_, (pss_cons (ps_if (pt_val (pe_callB call_isi (by rfl) T.isi boot_isinstance (pa_cons (pv 1) (pa_cons (pe_bltn (v := .ty "tuple") (by rfl) T.tuple boot_tuple rfl) pa_nil))))
      (pss_cons (ps_if (PW.pt (pw_or (pt_not (pt_val (pe_callB call_isi (by rfl) T.isi boot_isinstance (pa_cons (pv 0) (pa_cons (pe_bltn (v := .ty "tuple") (by rfl) T.tuple boot_tuple rfl) pa_nil))))) (pw_or1 (pt_cmpR op_ne (pe_callB call_len_seq (by rfl) T.len PySem.boot_len (pa_cons (pv 0) pa_nil)) (pe_callB call_len_seq (by rfl) T.len PySem.boot_len (pa_cons (pv 1) pa_nil)) (nomark _)))))
      (pss_one (ps_ret pe_bl))
      pss_nil)
      (pss_one (ps_ret (pe_callB (call_allB rfl) (by rfl) T.all boot_all (pa_cons (pe_comp rfl rfl (xs := ["_law_one", "_law_other"]) ⟨(by with_unfolding_all rfl), rfl, rfl, rfl, (by repeat (first | exact trivial | refine ⟨rfl, ?_⟩)), rfl⟩ (pi_zipT rfl T.zip (pv 0) (pv 1)) (fun _ _ _ _ => (pg_tupK (K := K) (n := 2) rfl rfl (pgs_cons (pg_name (i := 2) (by decide +kernel : (["_law_found", "_law_due", "_law_one", "_law_other"] : List Str).Nodup) rfl (Or.inl rfl)) (pgs_cons (pg_name (i := 3) (by decide +kernel : (["_law_found", "_law_due", "_law_one", "_law_other"] : List Str).Nodup) rfl (Or.inl rfl)) pgs_nil)) rfl)) (fun _ _ _ _ => pif_nil) (fun _ _ _ _ => (pe_call GSame (hr.mono (by decide)) rfl mSame FSame.kp bSame .nil pass0 (pa_cons (pv 2) (pa_cons (pv 3) pa_nil))))) pa_nil)))))
      pss_nil)
      (pss_cons (ps_if (pt_cmpR op_isN (pv 1) pe_non (nomark _))
      (pss_one (ps_ret (pe_cmpR op_isN (pv 0) pe_non (nomark _))))
      pss_nil)
      (pss_cons (ps_if (pt_val (pe_callB call_isi (by rfl) T.isi boot_isinstance (pa_cons (pv 1) (pa_cons (pe_bltn (v := .ty "str") (by rfl) T.str boot_str rfl) pa_nil))))
      (pss_one (ps_ret (pe_and (pe_callB call_isi (by rfl) T.isi boot_isinstance (pa_cons (pv 0) (pa_cons (pe_bltn (v := .ty "str") (by rfl) T.str boot_str rfl) pa_nil))) (pe_one (pe_cmpR op_eq (pv 0) (pv 1) (nomark _))))))
      pss_nil)
      (pss_one (ps_ret (pe_and (pe_callB call_isi (by rfl) T.isi boot_isinstance (pa_cons (pv 0) (pa_cons (pe_bltn (v := .ty "int") (by rfl) T.int boot_int rfl) pa_nil))) (pe_and (pe_not (pe_callB call_isi (by rfl) T.isi boot_isinstance (pa_cons (pv 0) (pa_cons (pe_bltn (v := .ty "bool") (by rfl) T.bool boot_bool rfl) pa_nil)))) (pe_one (pe_cmpR op_eq (pv 0) (pv 1) (nomark _)))))))))), ?_⟩
    refine ⟨_, rfl, _, _, _, _, rfl, .tup h2, kit_tt, _, rfl, iteT ?_⟩
    refine ⟨_, rfl, _, _, _, _, rfl, .tup h1, kit_tt, _, rfl, iteF ?_⟩
    refine ⟨_, rfl, t1, _, rfl, .inr (SqT.of h1), _, rfl, t2, _, rfl, .inr (SqT.of h2), rfl, _, rfl, iteNS rfl ?_⟩
    refine ⟨_, rfl, _, rfl, t1, t2, xs, xs, rfl, h1, h2, comp_zT (xs := xs) (ys0 := xs) (fun j ys H2 => Same H H2 ∧ ys = (List.replicate j true).map V.bl) (by omega) (Nat.le_refl _) ⟨Same.refl _, rfl⟩ (fun j ys H2 ⟨z, _⟩ => ⟨z _ _ h1, z _ _ h2⟩) (fun j ys H2 ⟨_, z⟩ => by rw [z, List.length_map, List.length_replicate]; exact Nat.le_refl _) ?_ ?_⟩
    · rintro j x y ys H2 U hx1 hy1 ⟨s2, rfl⟩ hU
      rw [hx1] at hy1
      cases Option.some.inj hy1
      refine ⟨U, [x, x], rfl, SqT.of upd_same, rfl, _, _, rfl, _, _, rfl, rfl, yesS ?_⟩
      refine ⟨_, rfl, _, rfl, x, rfl, hx x (List.mem_of_getElem? hx1), same_new s2 hU, ?_⟩
      rw [List.replicate_succ', List.map_append]
      rfl
    · rintro ys H2 ⟨s2, rfl⟩ p hp
      refine ⟨p, List.replicate xs.length true, rfl, SqL.of upd_same, ?_⟩
      rw [all_rep]
      exact q _ (same_new s2 hp)
end
end K
namespace K
open PySem PyProof.Rows L2 Mth
theorem lk_cut (sw cw : Nat) (so r : Int) (cnt : Nat) (pcs : Str) (chk chk2 : Int) : Txt.slice (Lk sw cw so r cnt pcs chk) none (some (((Lk sw cw so r cnt pcs chk).length : Int) - (cw : Int))) ++ Tx chk2 cw = Lk sw cw so r cnt pcs chk2 := by
  refine str_ext ?_
  have hs := lk_size sw cw so r cnt pcs chk
  have e : ((Lk sw cw so r cnt pcs chk).length : Int) - (cw : Int) = ((sw + cnt + pcs.cps.size : Nat) : Int) := by
    show ((Lk sw cw so r cnt pcs chk).cps.size : Int) - (cw : Int) = _
    omega
  rw [PySem.W.KT.app_list, e, slice_lo _ _ (by omega), lk_list, lk_list, ← List.append_assoc, ← List.append_assoc, List.take_append_of_le_length (by rw [List.length_append, List.length_append, tx_ll, tx_ll, Array.length_toList]; omega), List.take_of_length_le (by rw [List.length_append, List.length_append, tx_ll, tx_ll, Array.length_toList]; omega), List.append_assoc, List.append_assoc]
theorem cut_len (z : Str) (lo hi : Option Int) : (Txt.slice z lo hi).length ≤ z.length := Txt.slice_le z lo hi
theorem atf_sc {bs : List Int} {wide : Int} {fs : List (Int × Int × List Wy)} {at' : V} {so cnt : Int} {ys : List Wy} (h : AtF bs wide fs at' so cnt ys) : Sc at' := by
  rcases h with ⟨rfl, _⟩ | ⟨k, _, rfl, _⟩
  · exact .non
  · exact .int _
def spRight : Sp := fun vs H Q _ => ∃ (p qa pa hd : Addr) (at' : V) (bs vals : List Int) (m wide so cnt n c : Int) (fs : List (Int × Int × List Wy)) (ys : List Wy), vs = [.ref p, .ref pa, at', .int n, .ref hd] ∧ PotD H p qa c ∧ c < 2 ^ 39 ∧ PactAt H pa bs m wide fs ∧ AtF bs wide fs at' so cnt ys ∧ H hd = some (.tup (vals.map V.int)) ∧ vals.length = bs.length ∧ ∀ (H' : Hp), PotD H' p qa (c + 1) → But2 p qa H H' → Q (.bl true) H'
section
variable {P : Program} {w : World} {K : PySem.W.Frag} {mg : Str → Option Value} {base : Heap}
theorem scRight : FnScope ["_law_box_here", "_law_pact_here", "_law_at", "_law_number", "_law_head", "_law_shape_here", "_law_wide", "_law_forms", "_law_road_here", "_law_letter_here", "_law_last", "_law_ways", "_law_count", "_law_check_here", "_law_told", "_law_due"] ["_law_box_here", "_law_pact_here", "_law_at", "_law_number", "_law_head"] (defScope sRight) := ⟨rfl, rfl, rfl, by decide +kernel, rfl, by decide +kernel, by decide +kernel⟩
set_option maxHeartbeats 8000000 in
theorem ok_right {f : Addr} {fd : FuncData} (F : Fun K "_law_right" "_law_right" sRight f fd) (T : Txt mg) {fAreBits fNumberOf fWidthFor fBreadths fWidthOf fWidths fSizeOf fFormAt fSortWidth fCheckWidth fLetterSize fSortTold fParted fNext fBits fWidth fCheck fLWidthOf fLPieces fLetter fSame : Addr} {fdAreBits fdNumberOf fdWidthFor fdBreadths fdWidthOf fdWidths fdSizeOf fdFormAt fdSortWidth fdCheckWidth fdLetterSize fdSortTold fdParted fdNext fdBits fdWidth fdCheck fdLWidthOf fdLPieces fdLetter fdSame : FuncData} (FAreBits : Fun K "are_bits" "are_bits" sAreBits fAreBits fdAreBits) (bAreBits : Binds K fdAreBits ["thing"] []) (mAreBits : mg "are_bits" = some (.ref fAreBits)) (FNumberOf : Fun K "number_of" "number_of" sNumberOf fNumberOf fdNumberOf) (bNumberOf : Binds K fdNumberOf ["bits"] []) (mNumberOf : mg "number_of" = some (.ref fNumberOf)) (FWidthFor : Fun K "width_for" "width_for" sWidthFor fWidthFor fdWidthFor) (bWidthFor : Binds K fdWidthFor ["many"] []) (mWidthFor : mg "width_for" = some (.ref fWidthFor)) (FBreadths : Fun K "breadths" "breadths" sBreadths fBreadths fdBreadths) (bBreadths : Binds K fdBreadths ["shape"] []) (mBreadths : mg "breadths" = some (.ref fBreadths)) (FWidthOf : Fun K "width_of" "width_of" sWidthOf fWidthOf fdWidthOf) (bWidthOf : Binds K fdWidthOf ["way", "breadth"] []) (mWidthOf : mg "width_of" = some (.ref fWidthOf)) (FWidths : Fun K "widths" "widths" sWidths fWidths fdWidths) (bWidths : Binds K fdWidths ["shape", "form"] []) (mWidths : mg "widths" = some (.ref fWidths)) (FSizeOf : Fun K "size_of" "size_of" sSizeOf fSizeOf fdSizeOf) (bSizeOf : Binds K fdSizeOf ["shape", "form"] []) (mSizeOf : mg "size_of" = some (.ref fSizeOf)) (FFormAt : Fun K "form_at" "form_at" sFormAt fFormAt fdFormAt) (bFormAt : Binds K fdFormAt ["pact", "at"] []) (mFormAt : mg "form_at" = some (.ref fFormAt)) (FSortWidth : Fun K "sort_width" "sort_width" sSortWidth fSortWidth fdSortWidth) (bSortWidth : Binds K fdSortWidth ["pact"] []) (mSortWidth : mg "sort_width" = some (.ref fSortWidth)) (FCheckWidth : Fun K "check_width" "check_width" sCheckWidth fCheckWidth fdCheckWidth) (bCheckWidth : Binds K fdCheckWidth ["pact"] []) (mCheckWidth : mg "check_width" = some (.ref fCheckWidth)) (FLetterSize : Fun K "letter_size" "letter_size" sLetterSize fLetterSize fdLetterSize) (bLetterSize : Binds K fdLetterSize ["pact", "at"] []) (mLetterSize : mg "letter_size" = some (.ref fLetterSize)) (FSortTold : Fun K "sort_told" "sort_told" sSortTold fSortTold fdSortTold) (bSortTold : Binds K fdSortTold ["pact", "bits"] []) (mSortTold : mg "sort_told" = some (.ref fSortTold)) (FParted : Fun K "parted" "parted" sParted fParted fdParted) (bParted : Binds K fdParted ["pact", "letter"] []) (mParted : mg "parted" = some (.ref fParted)) (FNext : Fun K "_law_next" "_law_next" sNext fNext fdNext) (bNext : Binds K fdNext ["_law_box_here", "_law_many"] []) (mNext : mg "_law_next" = some (.ref fNext)) (FBits : Fun K "_law_bits" "_law_bits" sBits fBits fdBits) (bBits : Binds K fdBits ["_law_number", "_law_width_here"] []) (mBits : mg "_law_bits" = some (.ref fBits)) (FWidth : Fun K "_law_width" "_law_width" sWidth fWidth fdWidth) (bWidth : Binds K fdWidth ["_law_many"] []) (mWidth : mg "_law_width" = some (.ref fWidth)) (FCheck : Fun K "_law_check" "_law_check" sCheck fCheck fdCheck) (bCheck : Binds K fdCheck ["_law_shape_here", "_law_number", "_law_head"] []) (mCheck : mg "_law_check" = some (.ref fCheck)) (FLWidthOf : Fun K "_law_width_of" "_law_width_of" sLWidthOf fLWidthOf fdLWidthOf) (bLWidthOf : Binds K fdLWidthOf ["_law_way_here", "_law_breadth"] []) (mLWidthOf : mg "_law_width_of" = some (.ref fLWidthOf)) (FLPieces : Fun K "_law_pieces" "_law_pieces" sLPieces fLPieces fdLPieces) (bLPieces : Binds K fdLPieces ["_law_shape_here", "_law_ways", "_law_head"] []) (mLPieces : mg "_law_pieces" = some (.ref fLPieces)) (FLetter : Fun K "_law_letter" "_law_letter" sLetter fLetter fdLetter) (bLetter : Binds K fdLetter ["_law_pact_here", "_law_at", "_law_number", "_law_head"] []) (mLetter : mg "_law_letter" = some (.ref fLetter)) (FSame : Fun K "_law_same" "_law_same" sSame fSame fdSame) (bSame : Binds K fdSame ["_law_found", "_law_due"] []) (mSame : mg "_law_same" = some (.ref fSame)) : FnOk P w K mg base CX0 6 f fd ["_law_box_here", "_law_pact_here", "_law_at", "_law_number", "_law_head"] spRight := by
  have GNext : FnOk P w K mg base CX0 1 fNext fdNext ["_law_box_here", "_law_many"] spNext := ok_next FNext
  have GBits : FnOk P w K mg base CX0 1 fBits fdBits ["_law_number", "_law_width_here"] spBits := ok_lbits FBits T
  have GWidth : FnOk P w K mg base CX0 1 fWidth fdWidth ["_law_many"] spWidth := ok_lwidth FWidth
  have GCheck : FnOk P w K mg base CX0 1 fCheck fdCheck ["_law_shape_here", "_law_number", "_law_head"] spCheck := ok_lcheck FCheck T
  have GLPieces : FnOk P w K mg base CX0 2 fLPieces fdLPieces ["_law_shape_here", "_law_ways", "_law_head"] spLPieces := ok_lpieces FLPieces T FBits bBits mBits FLWidthOf bLWidthOf mLWidthOf
  have GLetter : FnOk P w K mg base CX0 3 fLetter fdLetter ["_law_pact_here", "_law_at", "_law_number", "_law_head"] spLetter := ok_letter FLetter T FBits bBits mBits FWidth bWidth mWidth FCheck bCheck mCheck FLWidthOf bLWidthOf mLWidthOf FLPieces bLPieces mLPieces
  have GParted : FnOk P w K mg base CX0 5 fParted fdParted ["pact", "letter"] spParted := ok_parted FParted T FAreBits bAreBits mAreBits FNumberOf bNumberOf mNumberOf FWidthFor bWidthFor mWidthFor FBreadths bBreadths mBreadths FWidthOf bWidthOf mWidthOf FWidths bWidths mWidths FSizeOf bSizeOf mSizeOf FFormAt bFormAt mFormAt FSortWidth bSortWidth mSortWidth FCheckWidth bCheckWidth mCheckWidth FLetterSize bLetterSize mLetterSize FSortTold bSortTold mSortTold
  have GSame : FnOk P w K mg base CX0 2 fSame fdSame ["_law_found", "_law_due"] spSameT := ok_sameT FSame T bSame mSame
  refine F.ok scRight (fun vs H Q E h => ?_) (fun cdv A outer s H vs Q E hr h => ?_)
  · obtain ⟨_, _, _, _, _, _, _, _, _, _, _, _, _, _, _, rfl, _⟩ := h
    rfl
  · obtain ⟨p, qa, pa, hd, at', bs, vals, m, wide, so, cnt, n, c, fs, ys, rfl, pot, hc, hp, hat, hhd, hvl, q⟩ := h
    obtain ⟨hws, c0, c1⟩ := hat.ok hp
    obtain ⟨sh, ft, rd, fas, h1, h2, h3, h4, h5, w0, w1, m0, m1⟩ := id hp
    obtain ⟨fft, fr, g1, g2, g3⟩ := id h2
    refine ⟨_, (pss_cons (ps_asg (pv 1) (pg_tup rfl (pgs_cons (pg_name (i := 5) scRight.nd rfl (Or.inl rfl)) (pgs_cons (pg_name (i := 6) scRight.nd rfl (Or.inl rfl)) (pgs_cons (pg_name (i := 7) scRight.nd rfl (Or.inl rfl)) (pgs_cons (pg_name (i := 8) scRight.nd rfl (Or.inl rfl)) pgs_nil))))))
      (pss_cons (ps_set (i := 9) scRight.nd rfl (Or.inl rfl) (pe_call GLetter (hr.mono (by decide)) rfl mLetter FLetter.kp bLetter .nil pass0 (pa_cons (pv 1) (pa_cons (pv 2) (pa_cons (pv 3) (pa_cons (pv 4) pa_nil))))))
      (pss_cons (ps_set (i := 10) scRight.nd rfl (Or.inl rfl) (pe_call GWidth (hr.mono (by decide)) rfl mWidth FWidth.kp bWidth .nil pass0 (pa_cons (pe_ix ix_tup (pv 5) pe_int (fun _ _ => rfl)) pa_nil)))
      (pss_cons (ps_par (i := 11) (j := 12) rfl scRight.nd rfl rfl (by decide) rfl rfl (pa_cons pe_non (pa_cons (pv 6) pa_nil)) rfl)
      (pss_cons (ps_if (pt_cmpR op_notN (pv 2) pe_non (nomark _))
      (pss_one (ps_par (i := 11) (j := 12) rfl scRight.nd rfl rfl (by decide) rfl rfl (pa_cons (pe_ix ix_tup (pe_ix ix_tup (pv 7) (pv 2) (fun _ _ => rfl)) pe_int (fun _ _ => rfl)) (pa_cons (pe_ix ix_tup (pe_ix ix_tup (pv 7) (pv 2) (fun _ _ => rfl)) pe_int (fun _ _ => rfl)) pa_nil)) rfl))
      pss_nil)
      (pss_cons (ps_for PassesOwn.never rfl (pi_tup (pe_tup (pa_cons (pe_call GCheck (hr.mono (by decide)) rfl mCheck FCheck.kp bCheck .nil pass0 (pa_cons (pv 5) (pa_cons (pv 3) (pa_cons (pv 4) pa_nil)))) (pa_cons (pe_call GNext (hr.mono (by decide)) rfl mNext FNext.kp bNext .nil pass0 (pa_cons (pv 0) (pa_cons (pe_ix ix_tup (pv 5) pe_int (fun _ _ => rfl)) pa_nil))) pa_nil)))) (pg_name (i := 13) scRight.nd rfl (Or.inl rfl))
      (pss_cons (ps_set (i := 14) scRight.nd rfl (Or.inl rfl) (pe_op op_add_str (pe_slice sl_txt (pv 9) po_none (po_some (pe_op op_sub (pe_callB call_len_str (by rfl) T.len PySem.boot_len (pa_cons (pv 9) pa_nil)) (pv 10)))) (pe_call GBits (hr.mono (by decide)) rfl mBits FBits.kp bBits .nil pass0 (pa_cons (pv 13) (pa_cons (pv 10) pa_nil)))))
      (pss_cons (ps_set (i := 15) scRight.nd rfl (Or.inl rfl) (pe_tup (pa_cons (pv 2) (pa_cons (pe_op op_mod (pv 3) (pe_op op_shl pe_int (pv 12))) (pa_cons (pe_call GLPieces (hr.mono (by decide)) rfl mLPieces FLPieces.kp bLPieces .nil pass0 (pa_cons (pv 5) (pa_cons (pv 11) (pa_cons (pv 4) pa_nil)))) (pa_cons (pv 13) pa_nil))))))
      (pss_one (ps_if (PW.pt (pw_or (pt_not (pt_val (pe_call GSame (hr.mono (by decide)) rfl mSame FSame.kp bSame .nil pass0 (pa_cons (pe_call GParted (hr.mono (by decide)) rfl mParted FParted.kp bParted .nil pass0 (pa_cons (pv 1) (pa_cons (pv 14) pa_nil))) (pa_cons (pv 15) pa_nil))))) (pw_or1 (pt_not (pt_val (pe_call GSame (hr.mono (by decide)) rfl mSame FSame.kp bSame .nil pass0 (pa_cons (pe_call GParted (hr.mono (by decide)) rfl mParted FParted.kp bParted .nil pass0 (pa_cons (pv 1) (pa_cons (pv 14) pa_nil))) (pa_cons (pv 15) pa_nil))))))))
      (pss_one (ps_ret pe_bl))
      pss_nil)))))
      (pss_one (ps_ret pe_bl)))))))), ?_⟩
    refine ⟨_, rfl, pa, [.ref sh, .int wide, .ref ft, .ref rd], rfl, SqT.of h1, rfl, _, _, rfl, _, _, rfl, _, _, rfl, _, _, rfl, rfl, ?_⟩
    refine ⟨_, rfl, _, rfl, _, rfl, _, rfl, pa, hd, at', bs, vals, m, wide, so, cnt, n, fs, ys, rfl, hp, hat, hhd, hvl, fun sw cw H1 hsw hcw s1 => ?_⟩
    have eL : Lt sw cw so n cnt m (Wds bs ys) vals = Lk sw cw so (n % 2 ^ cnt.toNat) cnt.toNat (cat (PcL vals (Wds bs ys))) ((n + wsum 2 vals) % m) := rfl
    rw [eL]
    refine ⟨_, rfl, sh, _, _, _, rfl, rfl, SqT.of (s1 _ _ g1), rfl, m, rfl, m0, by omega, fun cw2 hcw2 => ?_⟩
    cases Wid_inj hcw hcw2
    refine ⟨_, rfl, _, _, rfl, ?_⟩
    rcases id hat with ⟨rfl, rfl, rfl, rfl⟩ | ⟨k, hk, rfl, rfl, rfl, rfl⟩
    · refine ⟨_, rfl, rfl, _, rfl, iteNS rfl ?_⟩
      have hbb : ∀ b ∈ bs, 1 ≤ b ∧ b ≤ 40 := g3.2.2.2.2
      have hb12 : bs.length ≤ 12 := g3.2.2.2.1
      have hp2 := two_pow_pos (cnt).toNat
      have r0 := Int.emod_nonneg n (b := 2 ^ (cnt).toNat) (by omega)
      have r1 := Int.emod_lt_of_pos n (b := 2 ^ (cnt).toNat) (by omega)
      have k0 := Int.emod_nonneg (n + wsum 2 vals) (b := m) (by omega)
      have k1 := Int.emod_lt_of_pos (n + wsum 2 vals) (b := m) (by omega)
      have hsw4 : sw ≤ 4 := Wid_le hsw 4 (by show 1 + (fs.length : Int) ≤ 16; omega)
      have hcw20 : cw ≤ 20 := Wid_le hcw 20 (by show m ≤ 1048576; omega)
      have e4 : (cat (PcL vals (Wds bs (List.replicate bs.length .whole)))).cps.size = ((PcL vals (Wds bs (List.replicate bs.length .whole))).map fun t => t.cps.size).sum := cat_len _
      have hWl := Wds_len hws.1
      have hWo := Wds_ok hbb hws
      have e5 := pcl_len vals (Wds bs (List.replicate bs.length .whole)) (by omega) fun w h => (hWo w h).1
      have e6 := sum_le (Wds bs (List.replicate bs.length .whole)) 40 fun w h => (hWo w h).2
      have hline := sizeLine_eq
      have hsz := fun chk => lk_size sw cw (0) (n % 2 ^ (cnt).toNat) (cnt).toNat (cat (PcL vals (Wds bs (List.replicate bs.length .whole)))) chk
      have hzl : ∀ chk, (Lk sw cw (0) (n % 2 ^ (cnt).toNat) (cnt).toNat (cat (PcL vals (Wds bs (List.replicate bs.length .whole)))) chk).length ≤ 1000 := fun chk => by
        have := hsz chk
        show (Lk sw cw (0) (n % 2 ^ (cnt).toNat) (cnt).toNat (cat (PcL vals (Wds bs (List.replicate bs.length .whole)))) chk).cps.size ≤ 1000
        omega
      have hzs : ∀ chk, (Lk sw cw (0) (n % 2 ^ (cnt).toNat) (cnt).toNat (cat (PcL vals (Wds bs (List.replicate bs.length .whole)))) chk).length ≤ sizeLine := fun chk => Nat.le_trans (hzl chk) (by omega)
      refine ⟨_, rfl, _, rfl, _, rfl, sh, hd, fft, n, m, vals, rfl, s1 _ _ g1, m0, s1 _ _ hhd, by omega, ?_⟩
      refine ⟨_, rfl, _, rfl, sh, _, _, _, rfl, rfl, SqT.of (s1 _ _ g1), rfl, p, qa, m, c, rfl, pd_same pot s1, by omega, by omega, by omega, fun d H2 d0 d1 pot2 k2 => ⟨(by show 2 ≤ sizeLine; decide), fun tt htt => ?_⟩⟩
      have st := same_new (o := .tup [.int ((n + wsum 2 vals) % m), .int d]) (Same.refl H2) htt
      have pot3 := pd_same pot2 st
      have k3 : But2 p qa H _ := b2_same (b2_trans (b2_same b2_refl s1) k2) st
      have htt' : upd H2 tt (.tup [.int ((n + wsum 2 vals) % m), .int d]) tt = some (.tup [.int ((n + wsum 2 vals) % m), .int d]) := upd_same
      generalize upd H2 tt (.tup [.int ((n + wsum 2 vals) % m), .int d]) = H3 at pot3 k3 htt'
      have m3 := b2_tup pot k3
      have hp3 := hp.mono m3
      refine ⟨tt, rfl, ⟨_, SqT.of htt'⟩, for_tup (xs := [.int ((n + wsum 2 vals) % m), .int d]) (fun i σ H4 => ∃ v13 v14 v15, σ = [some (.ref p), some (.ref pa), some .non, some (.int n), some (.ref hd), some (.ref sh), some (.int cnt), some (.ref ft), some (.ref rd), some (.str (Lk sw cw (0) (n % 2 ^ (cnt).toNat) (cnt).toNat (cat (PcL vals (Wds bs (List.replicate bs.length .whole)))) ((n + wsum 2 vals) % m))), some (.int (cw : Int)), some (.non), some (.int (cnt)), v13, v14, v15] ∧ Same H3 H4) ⟨_, _, _, rfl, Same.refl _⟩ (fun i σ H4 _ ⟨_, _, _, _, s4⟩ => SqT.of (s4 _ _ htt')) ?_ ?_⟩
      · rintro i x σ H4 hx ⟨v13, v14, v15, rfl, s4⟩
        obtain ⟨chk, rfl, ck0, ck1⟩ : ∃ chk : Int, x = .int chk ∧ 0 ≤ chk ∧ chk < m := by
          have hm := List.mem_of_getElem? hx
          simp only [List.mem_cons, List.not_mem_nil, or_false] at hm
          rcases hm with rfl | rfl
          · exact ⟨_, rfl, k0, k1⟩
          · exact ⟨_, rfl, d0, d1⟩
        have hp4 := hp3.mono fun a xs e => s4 _ _ e
        have m4 : ∀ a xs, H a = some (.tup xs) → H4 a = some (.tup xs) := fun a xs e => s4 _ _ (m3 _ _ e)
        refine ⟨_, rfl, _, rfl, _, rfl, hzs _, _, rfl, _, _, rfl, rfl, _, rfl, _, rfl, hzs _, _, rfl, _, rfl, chk, (cw : Int), rfl, by omega, by omega, _, _, rfl, rfl, ?_, ?_⟩
        · have a1 := cut_len (Lk sw cw (0) (n % 2 ^ (cnt).toNat) (cnt).toNat (cat (PcL vals (Wds bs (List.replicate bs.length .whole)))) ((n + wsum 2 vals) % m)) none (some (((Lk sw cw (0) (n % 2 ^ (cnt).toNat) (cnt).toNat (cat (PcL vals (Wds bs (List.replicate bs.length .whole)))) ((n + wsum 2 vals) % m)).length : Int) - (cw : Int)))
          have a2 := hzl ((n + wsum 2 vals) % m)
          have a3 : (Tx chk (cw : Int).toNat).length = cw := by rw [Int.toNat_natCast]; exact Tx_length _ _
          rw [a3]
          omega
        rw [Int.toNat_natCast, lk_cut]
        refine ⟨_, rfl, _, rfl, _, rfl, _, _, rfl, rfl, ⟨by omega, by omega, by decide⟩, _, _, rfl, rfl, (by show (0 : Int) < 1 * 2 ^ (cnt).toNat; omega), _, rfl, _, rfl, _, rfl, sh, hd, _, bs, m, List.replicate bs.length .whole, vals, rfl, h2.mono m4, .inl ⟨rfl, rfl⟩, hws, m4 _ _ hhd, hvl, fun H5 s5 => ⟨_, rfl, (by show 4 ≤ sizeLine; decide), fun du hdu => ?_⟩⟩
        have sd := same_new (o := .tup [.non, .int (n % 2 ^ (cnt).toNat), .str (cat (PcL vals (Wds bs (List.replicate bs.length .whole)))), .int chk]) (Same.refl H5) hdu
        have hsc : ∀ x ∈ [.non, V.int (n % 2 ^ (cnt).toNat), .str (cat (PcL vals (Wds bs (List.replicate bs.length .whole)))), .int chk], Sc x := by
          intro x hx
          simp only [List.mem_cons, List.not_mem_nil, or_false] at hx
          rcases hx with rfl | rfl | rfl | rfl
          · exact atf_sc hat
          · exact .int _
          · exact .str _
          · exact .int _
        rw [Int.one_mul]
        have hdu' : upd H5 du (.tup [.non, .int (n % 2 ^ (cnt).toNat), .str (cat (PcL vals (Wds bs (List.replicate bs.length .whole)))), .int chk]) du = some (.tup [.non, .int (n % 2 ^ (cnt).toNat), .str (cat (PcL vals (Wds bs (List.replicate bs.length .whole)))), .int chk]) := upd_same
        have s56 := s5.trans sd
        generalize upd H5 du (.tup [.non, .int (n % 2 ^ (cnt).toNat), .str (cat (PcL vals (Wds bs (List.replicate bs.length .whole)))), .int chk]) = H6 at sd hdu' s56
        have hp6 := hp4.mono fun a xs e => s56 _ _ e
        refine ⟨_, rfl, _, rfl, pa, _, bs, vals, m, _, 0, cnt, _, chk, fs, List.replicate bs.length .whole, sw, cw, rfl, hp6, hat, hvl, hsw, hcw, r0, r1, ck0, ck1, fun t H7 s7 ht => ?_⟩
        refine ⟨_, rfl, t, du, _, rfl, ht, s7 _ _ hdu', (by show 4 ≤ 1000; decide), hsc, fun H8 s8 => ⟨_, rfl, iteF ?_⟩⟩
        have s68 := s7.trans s8
        refine ⟨_, rfl, _, rfl, pa, _, bs, vals, m, _, 0, cnt, _, chk, fs, List.replicate bs.length .whole, sw, cw, rfl, hp6.mono (fun a xs e => s68 _ _ e), hat, hvl, hsw, hcw, r0, r1, ck0, ck1, fun t H9 s9 ht => ?_⟩
        refine ⟨_, rfl, t, du, _, rfl, ht, s9 _ _ (s68 _ _ hdu'), (by show 4 ≤ 1000; decide), hsc, fun H10 s10 => ⟨_, rfl, iteF ?_⟩⟩
        exact ⟨_, _, _, rfl, s4.trans (s56.trans (s68.trans (s9.trans s10)))⟩
      · rintro σ H4 ⟨v13, v14, v15, rfl, s4⟩
        exact q _ (pd_same pot3 s4) (b2_same k3 s4)
    · have hkf : k < fas.length := by rw [h4.1]; exact hk
      obtain ⟨wt, ws, p1, p2, p3⟩ := h4.2.1 k hkf hk
      have eat : atI (fas.map V.ref) (k : Int) = some (.ref fas[k]) := atI_nat (by simp [hkf])
      refine ⟨_, rfl, rfl, _, rfl, (if_pos rfl : (if (!decide (V.int (k : Int) = V.non)) = true then _ else _) = _).mpr ?_⟩
      refine ⟨_, rfl, _, rfl, ft, _, _, _, rfl, rfl, SqT.of (s1 _ _ h3), eat, fas[k], _, _, _, rfl, rfl, SqT.of (s1 _ _ p1), rfl, _, rfl, _, rfl, ft, _, _, _, rfl, rfl, SqT.of (s1 _ _ h3), eat, fas[k], _, _, _, rfl, rfl, SqT.of (s1 _ _ p1), rfl, _, _, rfl, ?_⟩
      have hbb : ∀ b ∈ bs, 1 ≤ b ∧ b ≤ 40 := g3.2.2.2.2
      have hb12 : bs.length ≤ 12 := g3.2.2.2.1
      have hp2 := two_pow_pos (fs[k].2.1).toNat
      have r0 := Int.emod_nonneg n (b := 2 ^ (fs[k].2.1).toNat) (by omega)
      have r1 := Int.emod_lt_of_pos n (b := 2 ^ (fs[k].2.1).toNat) (by omega)
      have k0 := Int.emod_nonneg (n + wsum 2 vals) (b := m) (by omega)
      have k1 := Int.emod_lt_of_pos (n + wsum 2 vals) (b := m) (by omega)
      have hsw4 : sw ≤ 4 := Wid_le hsw 4 (by show 1 + (fs.length : Int) ≤ 16; omega)
      have hcw20 : cw ≤ 20 := Wid_le hcw 20 (by show m ≤ 1048576; omega)
      have e4 : (cat (PcL vals (Wds bs (fs[k].2.2)))).cps.size = ((PcL vals (Wds bs (fs[k].2.2))).map fun t => t.cps.size).sum := cat_len _
      have hWl := Wds_len hws.1
      have hWo := Wds_ok hbb hws
      have e5 := pcl_len vals (Wds bs (fs[k].2.2)) (by omega) fun w h => (hWo w h).1
      have e6 := sum_le (Wds bs (fs[k].2.2)) 40 fun w h => (hWo w h).2
      have hline := sizeLine_eq
      have hsz := fun chk => lk_size sw cw (1 + (k : Int)) (n % 2 ^ (fs[k].2.1).toNat) (fs[k].2.1).toNat (cat (PcL vals (Wds bs (fs[k].2.2)))) chk
      have hzl : ∀ chk, (Lk sw cw (1 + (k : Int)) (n % 2 ^ (fs[k].2.1).toNat) (fs[k].2.1).toNat (cat (PcL vals (Wds bs (fs[k].2.2)))) chk).length ≤ 1000 := fun chk => by
        have := hsz chk
        show (Lk sw cw (1 + (k : Int)) (n % 2 ^ (fs[k].2.1).toNat) (fs[k].2.1).toNat (cat (PcL vals (Wds bs (fs[k].2.2)))) chk).cps.size ≤ 1000
        omega
      have hzs : ∀ chk, (Lk sw cw (1 + (k : Int)) (n % 2 ^ (fs[k].2.1).toNat) (fs[k].2.1).toNat (cat (PcL vals (Wds bs (fs[k].2.2)))) chk).length ≤ sizeLine := fun chk => Nat.le_trans (hzl chk) (by omega)
      refine ⟨_, rfl, _, rfl, _, rfl, sh, hd, fft, n, m, vals, rfl, s1 _ _ g1, m0, s1 _ _ hhd, by omega, ?_⟩
      refine ⟨_, rfl, _, rfl, sh, _, _, _, rfl, rfl, SqT.of (s1 _ _ g1), rfl, p, qa, m, c, rfl, pd_same pot s1, by omega, by omega, by omega, fun d H2 d0 d1 pot2 k2 => ⟨(by show 2 ≤ sizeLine; decide), fun tt htt => ?_⟩⟩
      have st := same_new (o := .tup [.int ((n + wsum 2 vals) % m), .int d]) (Same.refl H2) htt
      have pot3 := pd_same pot2 st
      have k3 : But2 p qa H _ := b2_same (b2_trans (b2_same b2_refl s1) k2) st
      have htt' : upd H2 tt (.tup [.int ((n + wsum 2 vals) % m), .int d]) tt = some (.tup [.int ((n + wsum 2 vals) % m), .int d]) := upd_same
      generalize upd H2 tt (.tup [.int ((n + wsum 2 vals) % m), .int d]) = H3 at pot3 k3 htt'
      have m3 := b2_tup pot k3
      have hp3 := hp.mono m3
      refine ⟨tt, rfl, ⟨_, SqT.of htt'⟩, for_tup (xs := [.int ((n + wsum 2 vals) % m), .int d]) (fun i σ H4 => ∃ v13 v14 v15, σ = [some (.ref p), some (.ref pa), some (.int (k : Int)), some (.int n), some (.ref hd), some (.ref sh), some (.int wide), some (.ref ft), some (.ref rd), some (.str (Lk sw cw (1 + (k : Int)) (n % 2 ^ (fs[k].2.1).toNat) (fs[k].2.1).toNat (cat (PcL vals (Wds bs (fs[k].2.2)))) ((n + wsum 2 vals) % m))), some (.int (cw : Int)), some (.ref wt), some (.int (fs[k].2.1)), v13, v14, v15] ∧ Same H3 H4) ⟨_, _, _, rfl, Same.refl _⟩ (fun i σ H4 _ ⟨_, _, _, _, s4⟩ => SqT.of (s4 _ _ htt')) ?_ ?_⟩
      · rintro i x σ H4 hx ⟨v13, v14, v15, rfl, s4⟩
        obtain ⟨chk, rfl, ck0, ck1⟩ : ∃ chk : Int, x = .int chk ∧ 0 ≤ chk ∧ chk < m := by
          have hm := List.mem_of_getElem? hx
          simp only [List.mem_cons, List.not_mem_nil, or_false] at hm
          rcases hm with rfl | rfl
          · exact ⟨_, rfl, k0, k1⟩
          · exact ⟨_, rfl, d0, d1⟩
        have hp4 := hp3.mono fun a xs e => s4 _ _ e
        have m4 : ∀ a xs, H a = some (.tup xs) → H4 a = some (.tup xs) := fun a xs e => s4 _ _ (m3 _ _ e)
        refine ⟨_, rfl, _, rfl, _, rfl, hzs _, _, rfl, _, _, rfl, rfl, _, rfl, _, rfl, hzs _, _, rfl, _, rfl, chk, (cw : Int), rfl, by omega, by omega, _, _, rfl, rfl, ?_, ?_⟩
        · have a1 := cut_len (Lk sw cw (1 + (k : Int)) (n % 2 ^ (fs[k].2.1).toNat) (fs[k].2.1).toNat (cat (PcL vals (Wds bs (fs[k].2.2)))) ((n + wsum 2 vals) % m)) none (some (((Lk sw cw (1 + (k : Int)) (n % 2 ^ (fs[k].2.1).toNat) (fs[k].2.1).toNat (cat (PcL vals (Wds bs (fs[k].2.2)))) ((n + wsum 2 vals) % m)).length : Int) - (cw : Int)))
          have a2 := hzl ((n + wsum 2 vals) % m)
          have a3 : (Tx chk (cw : Int).toNat).length = cw := by rw [Int.toNat_natCast]; exact Tx_length _ _
          rw [a3]
          omega
        rw [Int.toNat_natCast, lk_cut]
        refine ⟨_, rfl, _, rfl, _, rfl, _, _, rfl, rfl, ⟨by omega, by omega, by decide⟩, _, _, rfl, rfl, (by show (0 : Int) < 1 * 2 ^ (fs[k].2.1).toNat; omega), _, rfl, _, rfl, _, rfl, sh, hd, _, bs, m, fs[k].2.2, vals, rfl, h2.mono m4, .inr ⟨wt, ws, rfl, m4 _ _ p2, p3.mono m4⟩, hws, m4 _ _ hhd, hvl, fun H5 s5 => ⟨_, rfl, (by show 4 ≤ sizeLine; decide), fun du hdu => ?_⟩⟩
        have sd := same_new (o := .tup [.int (k : Int), .int (n % 2 ^ (fs[k].2.1).toNat), .str (cat (PcL vals (Wds bs (fs[k].2.2)))), .int chk]) (Same.refl H5) hdu
        have hsc : ∀ x ∈ [.int (k : Int), V.int (n % 2 ^ (fs[k].2.1).toNat), .str (cat (PcL vals (Wds bs (fs[k].2.2)))), .int chk], Sc x := by
          intro x hx
          simp only [List.mem_cons, List.not_mem_nil, or_false] at hx
          rcases hx with rfl | rfl | rfl | rfl
          · exact atf_sc hat
          · exact .int _
          · exact .str _
          · exact .int _
        rw [Int.one_mul]
        have hdu' : upd H5 du (.tup [.int (k : Int), .int (n % 2 ^ (fs[k].2.1).toNat), .str (cat (PcL vals (Wds bs (fs[k].2.2)))), .int chk]) du = some (.tup [.int (k : Int), .int (n % 2 ^ (fs[k].2.1).toNat), .str (cat (PcL vals (Wds bs (fs[k].2.2)))), .int chk]) := upd_same
        have s56 := s5.trans sd
        generalize upd H5 du (.tup [.int (k : Int), .int (n % 2 ^ (fs[k].2.1).toNat), .str (cat (PcL vals (Wds bs (fs[k].2.2)))), .int chk]) = H6 at sd hdu' s56
        have hp6 := hp4.mono fun a xs e => s56 _ _ e
        refine ⟨_, rfl, _, rfl, pa, _, bs, vals, m, _, 1 + (k : Int), fs[k].2.1, _, chk, fs, fs[k].2.2, sw, cw, rfl, hp6, hat, hvl, hsw, hcw, r0, r1, ck0, ck1, fun t H7 s7 ht => ?_⟩
        refine ⟨_, rfl, t, du, _, rfl, ht, s7 _ _ hdu', (by show 4 ≤ 1000; decide), hsc, fun H8 s8 => ⟨_, rfl, iteF ?_⟩⟩
        have s68 := s7.trans s8
        refine ⟨_, rfl, _, rfl, pa, _, bs, vals, m, _, 1 + (k : Int), fs[k].2.1, _, chk, fs, fs[k].2.2, sw, cw, rfl, hp6.mono (fun a xs e => s68 _ _ e), hat, hvl, hsw, hcw, r0, r1, ck0, ck1, fun t H9 s9 ht => ?_⟩
        refine ⟨_, rfl, t, du, _, rfl, ht, s9 _ _ (s68 _ _ hdu'), (by show 4 ≤ 1000; decide), hsc, fun H10 s10 => ⟨_, rfl, iteF ?_⟩⟩
        exact ⟨_, _, _, rfl, s4.trans (s56.trans (s68.trans (s9.trans s10)))⟩
      · rintro σ H4 ⟨v13, v14, v15, rfl, s4⟩
        exact q _ (pd_same pot3 s4) (b2_same k3 s4)
theorem scLaw : FnScope ["_law_script", "_law_box_here", "_law_turn", "_law_pact_here", "_law_at"] ["_law_script"] (defScope sLaw) := ⟨rfl, rfl, rfl, by decide +kernel, rfl, by decide +kernel, by decide +kernel⟩
set_option maxHeartbeats 8000000 in
theorem ok_law {f : Addr} {fd : FuncData} (F : Fun K "law" "law" sLaw f fd) (T : Txt mg) {fAreBits fNumberOf fWidthFor fBreadths fWidthOf fWidths fSizeOf fFormAt fSortWidth fCheckWidth fLetterSize fSortTold fParted fBox fNext fOf fValue fKind fShape fWay fForm fRoad fPact fAnyHead fBits fWidth fCheck fLWidthOf fLPieces fLetter fSame fRight : Addr} {fdAreBits fdNumberOf fdWidthFor fdBreadths fdWidthOf fdWidths fdSizeOf fdFormAt fdSortWidth fdCheckWidth fdLetterSize fdSortTold fdParted fdBox fdNext fdOf fdValue fdKind fdShape fdWay fdForm fdRoad fdPact fdAnyHead fdBits fdWidth fdCheck fdLWidthOf fdLPieces fdLetter fdSame fdRight : FuncData} (FAreBits : Fun K "are_bits" "are_bits" sAreBits fAreBits fdAreBits) (bAreBits : Binds K fdAreBits ["thing"] []) (mAreBits : mg "are_bits" = some (.ref fAreBits)) (FNumberOf : Fun K "number_of" "number_of" sNumberOf fNumberOf fdNumberOf) (bNumberOf : Binds K fdNumberOf ["bits"] []) (mNumberOf : mg "number_of" = some (.ref fNumberOf)) (FWidthFor : Fun K "width_for" "width_for" sWidthFor fWidthFor fdWidthFor) (bWidthFor : Binds K fdWidthFor ["many"] []) (mWidthFor : mg "width_for" = some (.ref fWidthFor)) (FBreadths : Fun K "breadths" "breadths" sBreadths fBreadths fdBreadths) (bBreadths : Binds K fdBreadths ["shape"] []) (mBreadths : mg "breadths" = some (.ref fBreadths)) (FWidthOf : Fun K "width_of" "width_of" sWidthOf fWidthOf fdWidthOf) (bWidthOf : Binds K fdWidthOf ["way", "breadth"] []) (mWidthOf : mg "width_of" = some (.ref fWidthOf)) (FWidths : Fun K "widths" "widths" sWidths fWidths fdWidths) (bWidths : Binds K fdWidths ["shape", "form"] []) (mWidths : mg "widths" = some (.ref fWidths)) (FSizeOf : Fun K "size_of" "size_of" sSizeOf fSizeOf fdSizeOf) (bSizeOf : Binds K fdSizeOf ["shape", "form"] []) (mSizeOf : mg "size_of" = some (.ref fSizeOf)) (FFormAt : Fun K "form_at" "form_at" sFormAt fFormAt fdFormAt) (bFormAt : Binds K fdFormAt ["pact", "at"] []) (mFormAt : mg "form_at" = some (.ref fFormAt)) (FSortWidth : Fun K "sort_width" "sort_width" sSortWidth fSortWidth fdSortWidth) (bSortWidth : Binds K fdSortWidth ["pact"] []) (mSortWidth : mg "sort_width" = some (.ref fSortWidth)) (FCheckWidth : Fun K "check_width" "check_width" sCheckWidth fCheckWidth fdCheckWidth) (bCheckWidth : Binds K fdCheckWidth ["pact"] []) (mCheckWidth : mg "check_width" = some (.ref fCheckWidth)) (FLetterSize : Fun K "letter_size" "letter_size" sLetterSize fLetterSize fdLetterSize) (bLetterSize : Binds K fdLetterSize ["pact", "at"] []) (mLetterSize : mg "letter_size" = some (.ref fLetterSize)) (FSortTold : Fun K "sort_told" "sort_told" sSortTold fSortTold fdSortTold) (bSortTold : Binds K fdSortTold ["pact", "bits"] []) (mSortTold : mg "sort_told" = some (.ref fSortTold)) (FParted : Fun K "parted" "parted" sParted fParted fdParted) (bParted : Binds K fdParted ["pact", "letter"] []) (mParted : mg "parted" = some (.ref fParted)) (FBox : Fun K "_law_box" "_law_box" sBox fBox fdBox) (bBox : Binds K fdBox ["_law_script"] []) (mBox : mg "_law_box" = some (.ref fBox)) (FNext : Fun K "_law_next" "_law_next" sNext fNext fdNext) (bNext : Binds K fdNext ["_law_box_here", "_law_many"] []) (mNext : mg "_law_next" = some (.ref fNext)) (FOf : Fun K "_law_of" "_law_of" sOf fOf fdOf) (bOf : Binds K fdOf ["_law_box_here", "_law_some"] []) (mOf : mg "_law_of" = some (.ref fOf)) (FValue : Fun K "_law_value" "_law_value" sValue fValue fdValue) (bValue : Binds K fdValue ["_law_box_here", "_law_breadth"] []) (mValue : mg "_law_value" = some (.ref fValue)) (FKind : Fun K "_law_kind" "_law_kind" sKind fKind fdKind) (bKind : Binds K fdKind ["_law_box_here", "_law_place", "_law_breadth"] []) (mKind : mg "_law_kind" = some (.ref fKind)) (FShape : Fun K "_law_shape" "_law_shape" sShape fShape fdShape) (bShape : Binds K fdShape ["_law_box_here", "_law_most"] []) (mShape : mg "_law_shape" = some (.ref fShape)) (FWay : Fun K "_law_way" "_law_way" sWay fWay fdWay) (bWay : Binds K fdWay ["_law_box_here", "_law_breadth"] []) (mWay : mg "_law_way" = some (.ref fWay)) (FForm : Fun K "_law_form" "_law_form" sForm fForm fdForm) (bForm : Binds K fdForm ["_law_box_here", "_law_shape_here"] []) (mForm : mg "_law_form" = some (.ref fForm)) (FRoad : Fun K "_law_road" "_law_road" sRoad fRoad fdRoad) (bRoad : Binds K fdRoad ["_law_box_here"] []) (mRoad : mg "_law_road" = some (.ref fRoad)) (FPact : Fun K "_law_pact" "_law_pact" sPact fPact fdPact) (bPact : Binds K fdPact ["_law_box_here", "_law_most"] []) (mPact : mg "_law_pact" = some (.ref fPact)) (FAnyHead : Fun K "_law_any_head" "_law_any_head" sAnyHead fAnyHead fdAnyHead) (bAnyHead : Binds K fdAnyHead ["_law_box_here", "_law_shape_here"] []) (mAnyHead : mg "_law_any_head" = some (.ref fAnyHead)) (FBits : Fun K "_law_bits" "_law_bits" sBits fBits fdBits) (bBits : Binds K fdBits ["_law_number", "_law_width_here"] []) (mBits : mg "_law_bits" = some (.ref fBits)) (FWidth : Fun K "_law_width" "_law_width" sWidth fWidth fdWidth) (bWidth : Binds K fdWidth ["_law_many"] []) (mWidth : mg "_law_width" = some (.ref fWidth)) (FCheck : Fun K "_law_check" "_law_check" sCheck fCheck fdCheck) (bCheck : Binds K fdCheck ["_law_shape_here", "_law_number", "_law_head"] []) (mCheck : mg "_law_check" = some (.ref fCheck)) (FLWidthOf : Fun K "_law_width_of" "_law_width_of" sLWidthOf fLWidthOf fdLWidthOf) (bLWidthOf : Binds K fdLWidthOf ["_law_way_here", "_law_breadth"] []) (mLWidthOf : mg "_law_width_of" = some (.ref fLWidthOf)) (FLPieces : Fun K "_law_pieces" "_law_pieces" sLPieces fLPieces fdLPieces) (bLPieces : Binds K fdLPieces ["_law_shape_here", "_law_ways", "_law_head"] []) (mLPieces : mg "_law_pieces" = some (.ref fLPieces)) (FLetter : Fun K "_law_letter" "_law_letter" sLetter fLetter fdLetter) (bLetter : Binds K fdLetter ["_law_pact_here", "_law_at", "_law_number", "_law_head"] []) (mLetter : mg "_law_letter" = some (.ref fLetter)) (FSame : Fun K "_law_same" "_law_same" sSame fSame fdSame) (bSame : Binds K fdSame ["_law_found", "_law_due"] []) (mSame : mg "_law_same" = some (.ref fSame)) (FRight : Fun K "_law_right" "_law_right" sRight fRight fdRight) (bRight : Binds K fdRight ["_law_box_here", "_law_pact_here", "_law_at", "_law_number", "_law_head"] []) (mRight : mg "_law_right" = some (.ref fRight)) :
    FnOk P w K mg base CX0 7 f fd ["_law_script"] (spLaw K) := by
  have GBox : FnOk P w K mg base CX0 1 fBox fdBox ["_law_script"] (spBox K) := ok_box FBox T
  have GValue : FnOk P w K mg base CX0 2 fValue fdValue ["_law_box_here", "_law_breadth"] spValue := ok_value FValue T FNext bNext mNext
  have GPact : FnOk P w K mg base CX0 5 fPact fdPact ["_law_box_here", "_law_most"] spPact := ok_pact FPact T FNext bNext mNext FOf bOf mOf FValue bValue mValue FKind bKind mKind FShape bShape mShape FWay bWay mWay FForm bForm mForm FRoad bRoad mRoad
  have GAnyHead : FnOk P w K mg base CX0 3 fAnyHead fdAnyHead ["_law_box_here", "_law_shape_here"] spAnyHead := ok_anyhead FAnyHead T FNext bNext mNext FValue bValue mValue
  have GRight : FnOk P w K mg base CX0 6 fRight fdRight ["_law_box_here", "_law_pact_here", "_law_at", "_law_number", "_law_head"] spRight := ok_right FRight T FAreBits bAreBits mAreBits FNumberOf bNumberOf mNumberOf FWidthFor bWidthFor mWidthFor FBreadths bBreadths mBreadths FWidthOf bWidthOf mWidthOf FWidths bWidths mWidths FSizeOf bSizeOf mSizeOf FFormAt bFormAt mFormAt FSortWidth bSortWidth mSortWidth FCheckWidth bCheckWidth mCheckWidth FLetterSize bLetterSize mLetterSize FSortTold bSortTold mSortTold FParted bParted mParted FNext bNext mNext FBits bBits mBits FWidth bWidth mWidth FCheck bCheck mCheck FLWidthOf bLWidthOf mLWidthOf FLPieces bLPieces mLPieces FLetter bLetter mLetter FSame bSame mSame
  refine F.ok scLaw (fun vs H Q E h => ?_) (fun cdv A outer s H vs Q E hr h => ?_)
  · obtain ⟨a, ns, rfl, _⟩ := h
    rfl
  · obtain ⟨a, ns, rfl, hS, hlen, k⟩ := h
    refine ⟨_, (pss_cons (ps_set (i := 1) scLaw.nd rfl (Or.inl rfl) (pe_call GBox (hr.mono (by decide)) rfl mBox FBox.kp bBox .nil pass0 (pa_cons (pv 0) pa_nil)))
      (pss_cons (ps_for PassesOwn.never rfl (pi_range1 rfl T.range (pa_cons pe_int pa_nil)) (pg_name (i := 2) scLaw.nd rfl (Or.inl rfl))
      (pss_cons (ps_set (i := 3) scLaw.nd rfl (Or.inl rfl) (pe_call GPact (hr.mono (by decide)) rfl mPact FPact.kp bPact .nil pass0 (pa_cons (pv 1) (pa_cons pe_int pa_nil))))
      (pss_one (ps_for PassesOwn.never rfl (pi_list (pe_op op_cat (pe_lst (pa_cons pe_non pa_nil)) (pe_callTy (call_list_rng rfl) (by rfl) T.list boot_list (pa_cons (pe_callTy call_rng (by rfl) T.range boot_range (pa_cons (pe_callB call_len_seq (by rfl) T.len PySem.boot_len (pa_cons (pe_ix ix_tup (pv 3) pe_int (fun _ _ => rfl)) pa_nil)) pa_nil)) pa_nil)))) (pg_name (i := 4) scLaw.nd rfl (Or.inl rfl))
      (pss_one (ps_if (pt_not (pt_val (pe_call GRight (hr.mono (by decide)) rfl mRight FRight.kp bRight .nil pass0 (pa_cons (pv 1) (pa_cons (pv 3) (pa_cons (pv 4) (pa_cons (pe_call GValue (hr.mono (by decide)) rfl mValue FValue.kp bValue .nil pass0 (pa_cons (pv 1) (pa_cons (pe_ix ix_tup (pv 3) pe_int (fun _ _ => rfl)) pa_nil))) (pa_cons (pe_call GAnyHead (hr.mono (by decide)) rfl mAnyHead FAnyHead.kp bAnyHead .nil pass0 (pa_cons (pv 1) (pa_cons (pe_ix ix_tup (pv 3) pe_int (fun _ _ => rfl)) pa_nil))) pa_nil))))))))
      (pss_one (ps_ret pe_bl))
      pss_nil))))))
      (pss_one (ps_ret pe_bl)))), ?_⟩
    refine ⟨_, rfl, a, ns, rfl, hS, hlen, fun p qa H1 np nq pot1 s1 => ?_⟩
    refine ⟨_, rfl, by decide, by decide, for_range (n := 6) (fun j σ H2 => ∃ (v2 v3 v4 : Option V) (cj : Int), σ = [some (.ref a), some (.ref p), v2, v3, v4] ∧ PotD H2 p qa cj ∧ cj ≤ 3000 * (j : Int)) ⟨_, _, _, 0, rfl, pot1, by decide⟩ ?_ ?_⟩
    · rintro j σ H2 hj ⟨v2, v3, v4, cj, rfl, pot2, cj1⟩
      refine ⟨_, rfl, p, qa, 8, cj, rfl, by decide, by decide, pot2, by omega, fun pa bs m wide fs c3 H3 pot3 hc3 k3 hp => ?_⟩
      have hfs12 : fs.length ≤ 12 := by obtain ⟨_, _, _, _, _, _, _, _, h, _⟩ := hp; exact h
      obtain ⟨sh0, ft0, rd0, fas0, y1, y2, y3, y4, _⟩ := id hp
      refine ⟨(by show 1 ≤ sizeLine; decide), fun l1 h1 => ?_⟩
      have u1 := same_new (o := .lst [.non]) (Same.refl H3) h1
      refine ⟨_, rfl, pa, _, _, _, rfl, rfl, SqT.of (u1 _ _ y1), rfl, ft0, _, rfl, .inr (SqT.of (u1 _ _ y3)), _, rfl, by omega, by rw [List.length_map, y4.1]; omega, fun pr hpr => ?_⟩
      have u2 := same_new (o := .rng 0 ((fas0.map V.ref).length : Int)) (Same.refl _) hpr
      refine ⟨pr, (fas0.map V.ref).length, rfl, upd_same, by rw [List.length_map, y4.1]; omega, fun l2 h2 => ?_⟩
      have u3 := same_new (o := .lst ((List.range (fas0.map V.ref).length).map fun i : Nat => V.int (i : Int))) (Same.refl _) h2
      refine ⟨l1, l2, _, _, rfl, rfl, u3 _ _ (u2 _ _ upd_same), upd_same, (by rw [List.length_map, List.length_range, List.length_map, y4.1]; show 1 + fs.length ≤ sizeLine; have := sizeLine_eq; omega), fun l3 h3 => ?_⟩
      have u4 := same_new (o := .lst ([.non] ++ (List.range (fas0.map V.ref).length).map fun i : Nat => V.int (i : Int))) (Same.refl _) h3
      have u14 := u1.trans (u2.trans (u3.trans u4))
      obtain ⟨nl1, nl2⟩ := pd_ne (pd_same pot3 (u1.trans (u2.trans u3))) h3
      have hl3 := upd_same (H := upd (upd (upd H3 l1 (.lst [.non])) pr (.rng 0 ((fas0.map V.ref).length : Int))) l2 (.lst ((List.range (fas0.map V.ref).length).map fun i : Nat => V.int (i : Int)))) (a := l3) (o := .lst ([.non] ++ (List.range (fas0.map V.ref).length).map fun i : Nat => V.int (i : Int)))
      generalize upd (upd (upd (upd H3 l1 (.lst [.non])) pr (.rng 0 ((fas0.map V.ref).length : Int))) l2 (.lst ((List.range (fas0.map V.ref).length).map fun i : Nat => V.int (i : Int)))) l3 (.lst ([.non] ++ (List.range (fas0.map V.ref).length).map fun i : Nat => V.int (i : Int))) = H4 at u14 hl3
      have hxs : ∀ x ∈ ([V.non] ++ (List.range (fas0.map V.ref).length).map fun i : Nat => V.int (i : Int)), ∃ so cnt ys, AtF bs wide fs x so cnt ys := by
        intro x hx
        rcases List.mem_append.mp hx with h | h
        · rw [List.mem_singleton.mp h]
          exact ⟨0, wide, _, .inl ⟨rfl, rfl, rfl, rfl⟩⟩
        · obtain ⟨i, hi, rfl⟩ := List.mem_map.mp h
          have hi2 : i < fs.length := by
            have := List.mem_range.mp hi
            rw [List.length_map, y4.1] at this
            exact this
          exact ⟨_, _, _, .inr ⟨i, hi2, rfl, rfl, rfl, rfl⟩⟩
      have hxl : ([V.non] ++ (List.range (fas0.map V.ref).length).map fun i : Nat => V.int (i : Int)).length ≤ 13 := by
        rw [List.length_append, List.length_map, List.length_range, List.length_map, y4.1]
        show 1 + fs.length ≤ 13
        omega
      generalize ([V.non] ++ (List.range (fas0.map V.ref).length).map fun i : Nat => V.int (i : Int)) = xs at hl3 hxs hxl
      refine ⟨l3, rfl, ⟨_, SqL.of hl3⟩, for_list (xs := xs) (fun i σ H5 => ∃ (v4 : Option V) (ci : Int), σ = [some (.ref a), some (.ref p), some (.int (0 + (j : Int))), some (.ref pa), v4] ∧ PotD H5 p qa ci ∧ ci ≤ cj + 1500 + 40 * (i : Int) ∧ PactAt H5 pa bs m wide fs ∧ H5 l3 = some (.lst xs)) ⟨_, c3, rfl, pd_same pot3 u14, by omega, hp.mono fun a xs e => u14 _ _ e, hl3⟩ (fun i σ H5 _ ⟨_, _, _, _, _, _, z⟩ => SqL.of z) ?_ ?_⟩
      · rintro i x σ H5 hx ⟨v4, ci, rfl, pot5, ci1, hp5, hl5⟩
        have hil : i < xs.length := (List.getElem?_eq_some_iff.mp hx).1
        obtain ⟨so, cnt, ys, hat⟩ := hxs x (List.mem_of_getElem? hx)
        obtain ⟨sh, ft, rd, fas, z1, z2, z3, z4, z5, w0, w1, m0, m1⟩ := id hp5
        refine ⟨_, rfl, _, rfl, _, rfl, _, rfl, _, rfl, pa, _, _, _, rfl, rfl, SqT.of z1, rfl, p, qa, wide, ci, rfl, pot5, by omega, w0, by omega, fun n H6 n0 n1 pot6 k6 => ?_⟩
        have m6 := b2_tup pot5 k6
        refine ⟨_, rfl, _, rfl, pa, _, _, _, rfl, rfl, SqT.of (m6 _ _ z1), rfl, p, qa, sh, bs, m, _, rfl, pot6, by omega, z2.mono m6, fun hd vals c7 H7 pot7 hc7 k7 hhd hvl hv _ => ?_⟩
        have m7 := b2_tup pot6 k7
        refine ⟨p, qa, pa, hd, x, bs, vals, m, wide, so, cnt, n, c7, fs, ys, rfl, pot7, by omega, (hp5.mono m6).mono m7, hat, hhd, hvl, fun H8 pot8 k8 => ⟨_, rfl, iteF ?_⟩⟩
        have m8 := b2_tup pot7 k8
        exact ⟨_, c7 + 1, rfl, pot8, by push_cast; omega, ((hp5.mono m6).mono m7).mono m8, k8 _ _ (k7 _ _ (k6 _ _ hl5 nl1 nl2) nl1 nl2) nl1 nl2⟩
      · rintro σ H5 ⟨v4, ci, rfl, pot5, ci1, hp5, hl5⟩
        exact ⟨_, _, _, ci, rfl, pot5, by push_cast; omega⟩
    · rintro σ H2 ⟨v2, v3, v4, cj, rfl, pot2, cj1⟩
      exact k _
end
end K
namespace K
open PySem PyProof.Rows L2
set_option maxHeartbeats 8000000 in
theorem all_mk {l : PySem.W.OpenLaw} {w : World} {K : PySem.W.Frag} {h : Heap} {mg : Str → Option Value} {fa f1 f2 f3 f4 f5 f6 f7 f8 f9 f10 f11 f12 f13 f14 f15 f16 f17 f18 f19 f20 f21 f22 f23 f24 f25 f26 f27 f28 f29 f30 f31 f32 f33 : Addr} (X : K.In h) (G : h.Ns mainGlobals mg) (hfa : mg "law" = some (.ref fa))
    {od1 an1 : Option Addr} {sl1 : Array (Option Value)} {oc1 kV1 dc1 pm1 cd1 ct1 : Value}
    {od2 an2 : Option Addr} {sl2 : Array (Option Value)} {oc2 kV2 dc2 pm2 cd2 ct2 : Value}
    {od3 an3 : Option Addr} {sl3 : Array (Option Value)} {oc3 kV3 dc3 pm3 cd3 ct3 : Value}
    {od4 an4 : Option Addr} {sl4 : Array (Option Value)} {oc4 kV4 dc4 pm4 cd4 ct4 : Value}
    {od5 an5 : Option Addr} {sl5 : Array (Option Value)} {oc5 kV5 dc5 pm5 cd5 ct5 : Value}
    {od6 an6 : Option Addr} {sl6 : Array (Option Value)} {oc6 kV6 dc6 pm6 cd6 ct6 : Value}
    {od7 an7 : Option Addr} {sl7 : Array (Option Value)} {oc7 kV7 dc7 pm7 cd7 ct7 : Value}
    {od8 an8 : Option Addr} {sl8 : Array (Option Value)} {oc8 kV8 dc8 pm8 cd8 ct8 : Value}
    {od9 an9 : Option Addr} {sl9 : Array (Option Value)} {oc9 kV9 dc9 pm9 cd9 ct9 : Value}
    {od10 an10 : Option Addr} {sl10 : Array (Option Value)} {oc10 kV10 dc10 pm10 cd10 ct10 : Value}
    {od11 an11 : Option Addr} {sl11 : Array (Option Value)} {oc11 kV11 dc11 pm11 cd11 ct11 : Value}
    {od12 an12 : Option Addr} {sl12 : Array (Option Value)} {oc12 kV12 dc12 pm12 cd12 ct12 : Value}
    {od13 an13 : Option Addr} {sl13 : Array (Option Value)} {oc13 kV13 dc13 pm13 cd13 ct13 : Value}
    {od14 an14 : Option Addr} {sl14 : Array (Option Value)} {oc14 kV14 dc14 pm14 cd14 ct14 : Value}
    {od15 an15 : Option Addr} {sl15 : Array (Option Value)} {oc15 kV15 dc15 pm15 cd15 ct15 : Value}
    {od16 an16 : Option Addr} {sl16 : Array (Option Value)} {oc16 kV16 dc16 pm16 cd16 ct16 : Value}
    {od17 an17 : Option Addr} {sl17 : Array (Option Value)} {oc17 kV17 dc17 pm17 cd17 ct17 : Value}
    {od18 an18 : Option Addr} {sl18 : Array (Option Value)} {oc18 kV18 dc18 pm18 cd18 ct18 : Value}
    {od19 an19 : Option Addr} {sl19 : Array (Option Value)} {oc19 kV19 dc19 pm19 cd19 ct19 : Value}
    {od20 an20 : Option Addr} {sl20 : Array (Option Value)} {oc20 kV20 dc20 pm20 cd20 ct20 : Value}
    {od21 an21 : Option Addr} {sl21 : Array (Option Value)} {oc21 kV21 dc21 pm21 cd21 ct21 : Value}
    {od22 an22 : Option Addr} {sl22 : Array (Option Value)} {oc22 kV22 dc22 pm22 cd22 ct22 : Value}
    {od23 an23 : Option Addr} {sl23 : Array (Option Value)} {oc23 kV23 dc23 pm23 cd23 ct23 : Value}
    {od24 an24 : Option Addr} {sl24 : Array (Option Value)} {oc24 kV24 dc24 pm24 cd24 ct24 : Value}
    {od25 an25 : Option Addr} {sl25 : Array (Option Value)} {oc25 kV25 dc25 pm25 cd25 ct25 : Value}
    {od26 an26 : Option Addr} {sl26 : Array (Option Value)} {oc26 kV26 dc26 pm26 cd26 ct26 : Value}
    {od27 an27 : Option Addr} {sl27 : Array (Option Value)} {oc27 kV27 dc27 pm27 cd27 ct27 : Value}
    {od28 an28 : Option Addr} {sl28 : Array (Option Value)} {oc28 kV28 dc28 pm28 cd28 ct28 : Value}
    {od29 an29 : Option Addr} {sl29 : Array (Option Value)} {oc29 kV29 dc29 pm29 cd29 ct29 : Value}
    {od30 an30 : Option Addr} {sl30 : Array (Option Value)} {oc30 kV30 dc30 pm30 cd30 ct30 : Value}
    {od31 an31 : Option Addr} {sl31 : Array (Option Value)} {oc31 kV31 dc31 pm31 cd31 ct31 : Value}
    {od32 an32 : Option Addr} {sl32 : Array (Option Value)} {oc32 kV32 dc32 pm32 cd32 ct32 : Value}
    {od33 an33 : Option Addr} {sl33 : Array (Option Value)} {oc33 kV33 dc33 pm33 cd33 ct33 : Value}
    (a1 : PySem.W.nsIn K mainGlobals "are_bits" = some (some (.ref f1))) (l1 : K.lookup f1 = some ⟨oc1, od1, .func (PySem.W.fnOf "are_bits" "are_bits" (defArgs sAreBits) (defBody sAreBits) (defScope sAreBits) .none kV1 dc1 pm1 an1 cd1 ct1), sl1⟩) (c1 : PySem.W.codeIn K cd1 "are_bits" = true) (k1 : PySem.W.keepIn K (.ref f1) = true)
    (a2 : PySem.W.nsIn K mainGlobals "number_of" = some (some (.ref f2))) (l2 : K.lookup f2 = some ⟨oc2, od2, .func (PySem.W.fnOf "number_of" "number_of" (defArgs sNumberOf) (defBody sNumberOf) (defScope sNumberOf) .none kV2 dc2 pm2 an2 cd2 ct2), sl2⟩) (c2 : PySem.W.codeIn K cd2 "number_of" = true) (k2 : PySem.W.keepIn K (.ref f2) = true)
    (a3 : PySem.W.nsIn K mainGlobals "width_for" = some (some (.ref f3))) (l3 : K.lookup f3 = some ⟨oc3, od3, .func (PySem.W.fnOf "width_for" "width_for" (defArgs sWidthFor) (defBody sWidthFor) (defScope sWidthFor) .none kV3 dc3 pm3 an3 cd3 ct3), sl3⟩) (c3 : PySem.W.codeIn K cd3 "width_for" = true) (k3 : PySem.W.keepIn K (.ref f3) = true)
    (a4 : PySem.W.nsIn K mainGlobals "breadths" = some (some (.ref f4))) (l4 : K.lookup f4 = some ⟨oc4, od4, .func (PySem.W.fnOf "breadths" "breadths" (defArgs sBreadths) (defBody sBreadths) (defScope sBreadths) .none kV4 dc4 pm4 an4 cd4 ct4), sl4⟩) (c4 : PySem.W.codeIn K cd4 "breadths" = true) (k4 : PySem.W.keepIn K (.ref f4) = true)
    (a5 : PySem.W.nsIn K mainGlobals "width_of" = some (some (.ref f5))) (l5 : K.lookup f5 = some ⟨oc5, od5, .func (PySem.W.fnOf "width_of" "width_of" (defArgs sWidthOf) (defBody sWidthOf) (defScope sWidthOf) .none kV5 dc5 pm5 an5 cd5 ct5), sl5⟩) (c5 : PySem.W.codeIn K cd5 "width_of" = true) (k5 : PySem.W.keepIn K (.ref f5) = true)
    (a6 : PySem.W.nsIn K mainGlobals "widths" = some (some (.ref f6))) (l6 : K.lookup f6 = some ⟨oc6, od6, .func (PySem.W.fnOf "widths" "widths" (defArgs sWidths) (defBody sWidths) (defScope sWidths) .none kV6 dc6 pm6 an6 cd6 ct6), sl6⟩) (c6 : PySem.W.codeIn K cd6 "widths" = true) (k6 : PySem.W.keepIn K (.ref f6) = true)
    (a7 : PySem.W.nsIn K mainGlobals "size_of" = some (some (.ref f7))) (l7 : K.lookup f7 = some ⟨oc7, od7, .func (PySem.W.fnOf "size_of" "size_of" (defArgs sSizeOf) (defBody sSizeOf) (defScope sSizeOf) .none kV7 dc7 pm7 an7 cd7 ct7), sl7⟩) (c7 : PySem.W.codeIn K cd7 "size_of" = true) (k7 : PySem.W.keepIn K (.ref f7) = true)
    (a8 : PySem.W.nsIn K mainGlobals "form_at" = some (some (.ref f8))) (l8 : K.lookup f8 = some ⟨oc8, od8, .func (PySem.W.fnOf "form_at" "form_at" (defArgs sFormAt) (defBody sFormAt) (defScope sFormAt) .none kV8 dc8 pm8 an8 cd8 ct8), sl8⟩) (c8 : PySem.W.codeIn K cd8 "form_at" = true) (k8 : PySem.W.keepIn K (.ref f8) = true)
    (a9 : PySem.W.nsIn K mainGlobals "sort_width" = some (some (.ref f9))) (l9 : K.lookup f9 = some ⟨oc9, od9, .func (PySem.W.fnOf "sort_width" "sort_width" (defArgs sSortWidth) (defBody sSortWidth) (defScope sSortWidth) .none kV9 dc9 pm9 an9 cd9 ct9), sl9⟩) (c9 : PySem.W.codeIn K cd9 "sort_width" = true) (k9 : PySem.W.keepIn K (.ref f9) = true)
    (a10 : PySem.W.nsIn K mainGlobals "check_width" = some (some (.ref f10))) (l10 : K.lookup f10 = some ⟨oc10, od10, .func (PySem.W.fnOf "check_width" "check_width" (defArgs sCheckWidth) (defBody sCheckWidth) (defScope sCheckWidth) .none kV10 dc10 pm10 an10 cd10 ct10), sl10⟩) (c10 : PySem.W.codeIn K cd10 "check_width" = true) (k10 : PySem.W.keepIn K (.ref f10) = true)
    (a11 : PySem.W.nsIn K mainGlobals "letter_size" = some (some (.ref f11))) (l11 : K.lookup f11 = some ⟨oc11, od11, .func (PySem.W.fnOf "letter_size" "letter_size" (defArgs sLetterSize) (defBody sLetterSize) (defScope sLetterSize) .none kV11 dc11 pm11 an11 cd11 ct11), sl11⟩) (c11 : PySem.W.codeIn K cd11 "letter_size" = true) (k11 : PySem.W.keepIn K (.ref f11) = true)
    (a12 : PySem.W.nsIn K mainGlobals "sort_told" = some (some (.ref f12))) (l12 : K.lookup f12 = some ⟨oc12, od12, .func (PySem.W.fnOf "sort_told" "sort_told" (defArgs sSortTold) (defBody sSortTold) (defScope sSortTold) .none kV12 dc12 pm12 an12 cd12 ct12), sl12⟩) (c12 : PySem.W.codeIn K cd12 "sort_told" = true) (k12 : PySem.W.keepIn K (.ref f12) = true)
    (a13 : PySem.W.nsIn K mainGlobals "parted" = some (some (.ref f13))) (l13 : K.lookup f13 = some ⟨oc13, od13, .func (PySem.W.fnOf "parted" "parted" (defArgs sParted) (defBody sParted) (defScope sParted) .none kV13 dc13 pm13 an13 cd13 ct13), sl13⟩) (c13 : PySem.W.codeIn K cd13 "parted" = true) (k13 : PySem.W.keepIn K (.ref f13) = true)
    (a14 : PySem.W.nsIn K mainGlobals "_law_box" = some (some (.ref f14))) (l14 : K.lookup f14 = some ⟨oc14, od14, .func (PySem.W.fnOf "_law_box" "_law_box" (defArgs sBox) (defBody sBox) (defScope sBox) .none kV14 dc14 pm14 an14 cd14 ct14), sl14⟩) (c14 : PySem.W.codeIn K cd14 "_law_box" = true) (k14 : PySem.W.keepIn K (.ref f14) = true)
    (a15 : PySem.W.nsIn K mainGlobals "_law_next" = some (some (.ref f15))) (l15 : K.lookup f15 = some ⟨oc15, od15, .func (PySem.W.fnOf "_law_next" "_law_next" (defArgs sNext) (defBody sNext) (defScope sNext) .none kV15 dc15 pm15 an15 cd15 ct15), sl15⟩) (c15 : PySem.W.codeIn K cd15 "_law_next" = true) (k15 : PySem.W.keepIn K (.ref f15) = true)
    (a16 : PySem.W.nsIn K mainGlobals "_law_of" = some (some (.ref f16))) (l16 : K.lookup f16 = some ⟨oc16, od16, .func (PySem.W.fnOf "_law_of" "_law_of" (defArgs sOf) (defBody sOf) (defScope sOf) .none kV16 dc16 pm16 an16 cd16 ct16), sl16⟩) (c16 : PySem.W.codeIn K cd16 "_law_of" = true) (k16 : PySem.W.keepIn K (.ref f16) = true)
    (a17 : PySem.W.nsIn K mainGlobals "_law_value" = some (some (.ref f17))) (l17 : K.lookup f17 = some ⟨oc17, od17, .func (PySem.W.fnOf "_law_value" "_law_value" (defArgs sValue) (defBody sValue) (defScope sValue) .none kV17 dc17 pm17 an17 cd17 ct17), sl17⟩) (c17 : PySem.W.codeIn K cd17 "_law_value" = true) (k17 : PySem.W.keepIn K (.ref f17) = true)
    (a18 : PySem.W.nsIn K mainGlobals "_law_kind" = some (some (.ref f18))) (l18 : K.lookup f18 = some ⟨oc18, od18, .func (PySem.W.fnOf "_law_kind" "_law_kind" (defArgs sKind) (defBody sKind) (defScope sKind) .none kV18 dc18 pm18 an18 cd18 ct18), sl18⟩) (c18 : PySem.W.codeIn K cd18 "_law_kind" = true) (k18 : PySem.W.keepIn K (.ref f18) = true)
    (a19 : PySem.W.nsIn K mainGlobals "_law_shape" = some (some (.ref f19))) (l19 : K.lookup f19 = some ⟨oc19, od19, .func (PySem.W.fnOf "_law_shape" "_law_shape" (defArgs sShape) (defBody sShape) (defScope sShape) .none kV19 dc19 pm19 an19 cd19 ct19), sl19⟩) (c19 : PySem.W.codeIn K cd19 "_law_shape" = true) (k19 : PySem.W.keepIn K (.ref f19) = true)
    (a20 : PySem.W.nsIn K mainGlobals "_law_way" = some (some (.ref f20))) (l20 : K.lookup f20 = some ⟨oc20, od20, .func (PySem.W.fnOf "_law_way" "_law_way" (defArgs sWay) (defBody sWay) (defScope sWay) .none kV20 dc20 pm20 an20 cd20 ct20), sl20⟩) (c20 : PySem.W.codeIn K cd20 "_law_way" = true) (k20 : PySem.W.keepIn K (.ref f20) = true)
    (a21 : PySem.W.nsIn K mainGlobals "_law_form" = some (some (.ref f21))) (l21 : K.lookup f21 = some ⟨oc21, od21, .func (PySem.W.fnOf "_law_form" "_law_form" (defArgs sForm) (defBody sForm) (defScope sForm) .none kV21 dc21 pm21 an21 cd21 ct21), sl21⟩) (c21 : PySem.W.codeIn K cd21 "_law_form" = true) (k21 : PySem.W.keepIn K (.ref f21) = true)
    (a22 : PySem.W.nsIn K mainGlobals "_law_road" = some (some (.ref f22))) (l22 : K.lookup f22 = some ⟨oc22, od22, .func (PySem.W.fnOf "_law_road" "_law_road" (defArgs sRoad) (defBody sRoad) (defScope sRoad) .none kV22 dc22 pm22 an22 cd22 ct22), sl22⟩) (c22 : PySem.W.codeIn K cd22 "_law_road" = true) (k22 : PySem.W.keepIn K (.ref f22) = true)
    (a23 : PySem.W.nsIn K mainGlobals "_law_pact" = some (some (.ref f23))) (l23 : K.lookup f23 = some ⟨oc23, od23, .func (PySem.W.fnOf "_law_pact" "_law_pact" (defArgs sPact) (defBody sPact) (defScope sPact) .none kV23 dc23 pm23 an23 cd23 ct23), sl23⟩) (c23 : PySem.W.codeIn K cd23 "_law_pact" = true) (k23 : PySem.W.keepIn K (.ref f23) = true)
    (a24 : PySem.W.nsIn K mainGlobals "_law_any_head" = some (some (.ref f24))) (l24 : K.lookup f24 = some ⟨oc24, od24, .func (PySem.W.fnOf "_law_any_head" "_law_any_head" (defArgs sAnyHead) (defBody sAnyHead) (defScope sAnyHead) .none kV24 dc24 pm24 an24 cd24 ct24), sl24⟩) (c24 : PySem.W.codeIn K cd24 "_law_any_head" = true) (k24 : PySem.W.keepIn K (.ref f24) = true)
    (a25 : PySem.W.nsIn K mainGlobals "_law_bits" = some (some (.ref f25))) (l25 : K.lookup f25 = some ⟨oc25, od25, .func (PySem.W.fnOf "_law_bits" "_law_bits" (defArgs sBits) (defBody sBits) (defScope sBits) .none kV25 dc25 pm25 an25 cd25 ct25), sl25⟩) (c25 : PySem.W.codeIn K cd25 "_law_bits" = true) (k25 : PySem.W.keepIn K (.ref f25) = true)
    (a26 : PySem.W.nsIn K mainGlobals "_law_width" = some (some (.ref f26))) (l26 : K.lookup f26 = some ⟨oc26, od26, .func (PySem.W.fnOf "_law_width" "_law_width" (defArgs sWidth) (defBody sWidth) (defScope sWidth) .none kV26 dc26 pm26 an26 cd26 ct26), sl26⟩) (c26 : PySem.W.codeIn K cd26 "_law_width" = true) (k26 : PySem.W.keepIn K (.ref f26) = true)
    (a27 : PySem.W.nsIn K mainGlobals "_law_check" = some (some (.ref f27))) (l27 : K.lookup f27 = some ⟨oc27, od27, .func (PySem.W.fnOf "_law_check" "_law_check" (defArgs sCheck) (defBody sCheck) (defScope sCheck) .none kV27 dc27 pm27 an27 cd27 ct27), sl27⟩) (c27 : PySem.W.codeIn K cd27 "_law_check" = true) (k27 : PySem.W.keepIn K (.ref f27) = true)
    (a28 : PySem.W.nsIn K mainGlobals "_law_width_of" = some (some (.ref f28))) (l28 : K.lookup f28 = some ⟨oc28, od28, .func (PySem.W.fnOf "_law_width_of" "_law_width_of" (defArgs sLWidthOf) (defBody sLWidthOf) (defScope sLWidthOf) .none kV28 dc28 pm28 an28 cd28 ct28), sl28⟩) (c28 : PySem.W.codeIn K cd28 "_law_width_of" = true) (k28 : PySem.W.keepIn K (.ref f28) = true)
    (a29 : PySem.W.nsIn K mainGlobals "_law_pieces" = some (some (.ref f29))) (l29 : K.lookup f29 = some ⟨oc29, od29, .func (PySem.W.fnOf "_law_pieces" "_law_pieces" (defArgs sLPieces) (defBody sLPieces) (defScope sLPieces) .none kV29 dc29 pm29 an29 cd29 ct29), sl29⟩) (c29 : PySem.W.codeIn K cd29 "_law_pieces" = true) (k29 : PySem.W.keepIn K (.ref f29) = true)
    (a30 : PySem.W.nsIn K mainGlobals "_law_letter" = some (some (.ref f30))) (l30 : K.lookup f30 = some ⟨oc30, od30, .func (PySem.W.fnOf "_law_letter" "_law_letter" (defArgs sLetter) (defBody sLetter) (defScope sLetter) .none kV30 dc30 pm30 an30 cd30 ct30), sl30⟩) (c30 : PySem.W.codeIn K cd30 "_law_letter" = true) (k30 : PySem.W.keepIn K (.ref f30) = true)
    (a31 : PySem.W.nsIn K mainGlobals "_law_same" = some (some (.ref f31))) (l31 : K.lookup f31 = some ⟨oc31, od31, .func (PySem.W.fnOf "_law_same" "_law_same" (defArgs sSame) (defBody sSame) (defScope sSame) .none kV31 dc31 pm31 an31 cd31 ct31), sl31⟩) (c31 : PySem.W.codeIn K cd31 "_law_same" = true) (k31 : PySem.W.keepIn K (.ref f31) = true)
    (a32 : PySem.W.nsIn K mainGlobals "_law_right" = some (some (.ref f32))) (l32 : K.lookup f32 = some ⟨oc32, od32, .func (PySem.W.fnOf "_law_right" "_law_right" (defArgs sRight) (defBody sRight) (defScope sRight) .none kV32 dc32 pm32 an32 cd32 ct32), sl32⟩) (c32 : PySem.W.codeIn K cd32 "_law_right" = true) (k32 : PySem.W.keepIn K (.ref f32) = true)
    (a33 : PySem.W.nsIn K mainGlobals "law" = some (some (.ref f33))) (l33 : K.lookup f33 = some ⟨oc33, od33, .func (PySem.W.fnOf "law" "law" (defArgs sLaw) (defBody sLaw) (defScope sLaw) .none kV33 dc33 pm33 an33 cd33 ct33), sl33⟩) (c33 : PySem.W.codeIn K cd33 "law" = true) (k33 : PySem.W.keepIn K (.ref f33) = true)
    (z1 : PySem.W.nsIn K mainGlobals "ValueError" = some none) (z2 : PySem.W.nsIn K mainGlobals "sum" = some none) (z3 : PySem.W.nsIn K mainGlobals "range" = some none) (z4 : PySem.W.nsIn K mainGlobals "tuple" = some none) (z5 : PySem.W.nsIn K mainGlobals "enumerate" = some none) (z6 : PySem.W.nsIn K mainGlobals "isinstance" = some none) (z7 : PySem.W.nsIn K mainGlobals "str" = some none) (z8 : PySem.W.nsIn K mainGlobals "len" = some none) (z9 : PySem.W.nsIn K mainGlobals "min" = some none) (z10 : PySem.W.nsIn K mainGlobals "int" = some none) (z11 : PySem.W.nsIn K mainGlobals "all" = some none) (z12 : PySem.W.nsIn K mainGlobals "zip" = some none) (z13 : PySem.W.nsIn K mainGlobals "abs" = some none) (z14 : PySem.W.nsIn K mainGlobals "bool" = some none) (z15 : PySem.W.nsIn K mainGlobals "list" = some none) :
    ∃ fd : FuncData, (∀ (s : Shared) (v : Value), BindsTo s fd ⟨[v], []⟩ [("_law_script", v)]) ∧ ∀ base : Heap, K.In base → base.Ns mainGlobals mg → FnOk l.prog w K mg base CX0 7 fa fd ["_law_script"] (spLaw K) := by
  have e := hfa.symm.trans (PySem.W.mg_of X G a33)
  cases e
  have T : Txt mg := ⟨PySem.W.mg_none_of X G z1, PySem.W.mg_none_of X G z2, PySem.W.mg_none_of X G z3, PySem.W.mg_none_of X G z4, PySem.W.mg_none_of X G z5, PySem.W.mg_none_of X G z6, PySem.W.mg_none_of X G z7, PySem.W.mg_none_of X G z8, PySem.W.mg_none_of X G z9, PySem.W.mg_none_of X G z10, PySem.W.mg_none_of X G z11, PySem.W.mg_none_of X G z12, PySem.W.mg_none_of X G z13, PySem.W.mg_none_of X G z14, PySem.W.mg_none_of X G z15⟩
  have F1 := fun_mk (st := sAreBits) l1 c1 k1
  have F2 := fun_mk (st := sNumberOf) l2 c2 k2
  have F3 := fun_mk (st := sWidthFor) l3 c3 k3
  have F4 := fun_mk (st := sBreadths) l4 c4 k4
  have F5 := fun_mk (st := sWidthOf) l5 c5 k5
  have F6 := fun_mk (st := sWidths) l6 c6 k6
  have F7 := fun_mk (st := sSizeOf) l7 c7 k7
  have F8 := fun_mk (st := sFormAt) l8 c8 k8
  have F9 := fun_mk (st := sSortWidth) l9 c9 k9
  have F10 := fun_mk (st := sCheckWidth) l10 c10 k10
  have F11 := fun_mk (st := sLetterSize) l11 c11 k11
  have F12 := fun_mk (st := sSortTold) l12 c12 k12
  have F13 := fun_mk (st := sParted) l13 c13 k13
  have F14 := fun_mk (st := sBox) l14 c14 k14
  have F15 := fun_mk (st := sNext) l15 c15 k15
  have F16 := fun_mk (st := sOf) l16 c16 k16
  have F17 := fun_mk (st := sValue) l17 c17 k17
  have F18 := fun_mk (st := sKind) l18 c18 k18
  have F19 := fun_mk (st := sShape) l19 c19 k19
  have F20 := fun_mk (st := sWay) l20 c20 k20
  have F21 := fun_mk (st := sForm) l21 c21 k21
  have F22 := fun_mk (st := sRoad) l22 c22 k22
  have F23 := fun_mk (st := sPact) l23 c23 k23
  have F24 := fun_mk (st := sAnyHead) l24 c24 k24
  have F25 := fun_mk (st := sBits) l25 c25 k25
  have F26 := fun_mk (st := sWidth) l26 c26 k26
  have F27 := fun_mk (st := sCheck) l27 c27 k27
  have F28 := fun_mk (st := sLWidthOf) l28 c28 k28
  have F29 := fun_mk (st := sLPieces) l29 c29 k29
  have F30 := fun_mk (st := sLetter) l30 c30 k30
  have F31 := fun_mk (st := sSame) l31 c31 k31
  have F32 := fun_mk (st := sRight) l32 c32 k32
  have F33 := fun_mk (st := sLaw) l33 c33 k33
  have b1 := F1.binds (ps := ["thing"]) fun _ _ _ _ _ _ us hl => match us, hl with | [_], _ => rfl
  have m1 := PySem.W.mg_of X G a1
  have b2 := F2.binds (ps := ["bits"]) fun _ _ _ _ _ _ us hl => match us, hl with | [_], _ => rfl
  have m2 := PySem.W.mg_of X G a2
  have b3 := F3.binds (ps := ["many"]) fun _ _ _ _ _ _ us hl => match us, hl with | [_], _ => rfl
  have m3 := PySem.W.mg_of X G a3
  have b4 := F4.binds (ps := ["shape"]) fun _ _ _ _ _ _ us hl => match us, hl with | [_], _ => rfl
  have m4 := PySem.W.mg_of X G a4
  have b5 := F5.binds (ps := ["way", "breadth"]) fun _ _ _ _ _ _ us hl => match us, hl with | [_, _], _ => rfl
  have m5 := PySem.W.mg_of X G a5
  have b6 := F6.binds (ps := ["shape", "form"]) fun _ _ _ _ _ _ us hl => match us, hl with | [_, _], _ => rfl
  have m6 := PySem.W.mg_of X G a6
  have b7 := F7.binds (ps := ["shape", "form"]) fun _ _ _ _ _ _ us hl => match us, hl with | [_, _], _ => rfl
  have m7 := PySem.W.mg_of X G a7
  have b8 := F8.binds (ps := ["pact", "at"]) fun _ _ _ _ _ _ us hl => match us, hl with | [_, _], _ => rfl
  have m8 := PySem.W.mg_of X G a8
  have b9 := F9.binds (ps := ["pact"]) fun _ _ _ _ _ _ us hl => match us, hl with | [_], _ => rfl
  have m9 := PySem.W.mg_of X G a9
  have b10 := F10.binds (ps := ["pact"]) fun _ _ _ _ _ _ us hl => match us, hl with | [_], _ => rfl
  have m10 := PySem.W.mg_of X G a10
  have b11 := F11.binds (ps := ["pact", "at"]) fun _ _ _ _ _ _ us hl => match us, hl with | [_, _], _ => rfl
  have m11 := PySem.W.mg_of X G a11
  have b12 := F12.binds (ps := ["pact", "bits"]) fun _ _ _ _ _ _ us hl => match us, hl with | [_, _], _ => rfl
  have m12 := PySem.W.mg_of X G a12
  have b13 := F13.binds (ps := ["pact", "letter"]) fun _ _ _ _ _ _ us hl => match us, hl with | [_, _], _ => rfl
  have m13 := PySem.W.mg_of X G a13
  have b14 := F14.binds (ps := ["_law_script"]) fun _ _ _ _ _ _ us hl => match us, hl with | [_], _ => rfl
  have m14 := PySem.W.mg_of X G a14
  have b15 := F15.binds (ps := ["_law_box_here", "_law_many"]) fun _ _ _ _ _ _ us hl => match us, hl with | [_, _], _ => rfl
  have m15 := PySem.W.mg_of X G a15
  have b16 := F16.binds (ps := ["_law_box_here", "_law_some"]) fun _ _ _ _ _ _ us hl => match us, hl with | [_, _], _ => rfl
  have m16 := PySem.W.mg_of X G a16
  have b17 := F17.binds (ps := ["_law_box_here", "_law_breadth"]) fun _ _ _ _ _ _ us hl => match us, hl with | [_, _], _ => rfl
  have m17 := PySem.W.mg_of X G a17
  have b18 := F18.binds (ps := ["_law_box_here", "_law_place", "_law_breadth"]) fun _ _ _ _ _ _ us hl => match us, hl with | [_, _, _], _ => rfl
  have m18 := PySem.W.mg_of X G a18
  have b19 := F19.binds (ps := ["_law_box_here", "_law_most"]) fun _ _ _ _ _ _ us hl => match us, hl with | [_, _], _ => rfl
  have m19 := PySem.W.mg_of X G a19
  have b20 := F20.binds (ps := ["_law_box_here", "_law_breadth"]) fun _ _ _ _ _ _ us hl => match us, hl with | [_, _], _ => rfl
  have m20 := PySem.W.mg_of X G a20
  have b21 := F21.binds (ps := ["_law_box_here", "_law_shape_here"]) fun _ _ _ _ _ _ us hl => match us, hl with | [_, _], _ => rfl
  have m21 := PySem.W.mg_of X G a21
  have b22 := F22.binds (ps := ["_law_box_here"]) fun _ _ _ _ _ _ us hl => match us, hl with | [_], _ => rfl
  have m22 := PySem.W.mg_of X G a22
  have b23 := F23.binds (ps := ["_law_box_here", "_law_most"]) fun _ _ _ _ _ _ us hl => match us, hl with | [_, _], _ => rfl
  have m23 := PySem.W.mg_of X G a23
  have b24 := F24.binds (ps := ["_law_box_here", "_law_shape_here"]) fun _ _ _ _ _ _ us hl => match us, hl with | [_, _], _ => rfl
  have m24 := PySem.W.mg_of X G a24
  have b25 := F25.binds (ps := ["_law_number", "_law_width_here"]) fun _ _ _ _ _ _ us hl => match us, hl with | [_, _], _ => rfl
  have m25 := PySem.W.mg_of X G a25
  have b26 := F26.binds (ps := ["_law_many"]) fun _ _ _ _ _ _ us hl => match us, hl with | [_], _ => rfl
  have m26 := PySem.W.mg_of X G a26
  have b27 := F27.binds (ps := ["_law_shape_here", "_law_number", "_law_head"]) fun _ _ _ _ _ _ us hl => match us, hl with | [_, _, _], _ => rfl
  have m27 := PySem.W.mg_of X G a27
  have b28 := F28.binds (ps := ["_law_way_here", "_law_breadth"]) fun _ _ _ _ _ _ us hl => match us, hl with | [_, _], _ => rfl
  have m28 := PySem.W.mg_of X G a28
  have b29 := F29.binds (ps := ["_law_shape_here", "_law_ways", "_law_head"]) fun _ _ _ _ _ _ us hl => match us, hl with | [_, _, _], _ => rfl
  have m29 := PySem.W.mg_of X G a29
  have b30 := F30.binds (ps := ["_law_pact_here", "_law_at", "_law_number", "_law_head"]) fun _ _ _ _ _ _ us hl => match us, hl with | [_, _, _, _], _ => rfl
  have m30 := PySem.W.mg_of X G a30
  have b31 := F31.binds (ps := ["_law_found", "_law_due"]) fun _ _ _ _ _ _ us hl => match us, hl with | [_, _], _ => rfl
  have m31 := PySem.W.mg_of X G a31
  have b32 := F32.binds (ps := ["_law_box_here", "_law_pact_here", "_law_at", "_law_number", "_law_head"]) fun _ _ _ _ _ _ us hl => match us, hl with | [_, _, _, _, _], _ => rfl
  have m32 := PySem.W.mg_of X G a32
  exact ⟨PySem.W.fnOf "law" "law" (defArgs sLaw) (defBody sLaw) (defScope sLaw) .none kV33 dc33 pm33 an33 cd33 ct33, fun s v => .of_eq rfl, fun base _ _ => ok_law F33 T F1 b1 m1 F2 b2 m2 F3 b3 m3 F4 b4 m4 F5 b5 m5 F6 b6 m6 F7 b7 m7 F8 b8 m8 F9 b9 m9 F10 b10 m10 F11 b11 m11 F12 b12 m12 F13 b13 m13 F14 b14 m14 F15 b15 m15 F16 b16 m16 F17 b17 m17 F18 b18 m18 F19 b19 m19 F20 b20 m20 F21 b21 m21 F22 b22 m22 F23 b23 m23 F24 b24 m24 F25 b25 m25 F26 b26 m26 F27 b27 m27 F28 b28 m28 F29 b29 m29 F30 b30 m30 F31 b31 m31 F32 b32 m32⟩
end K
open PySem PySem.W PyProof.Rows
set_option maxRecDepth 100000 in
set_option maxHeartbeats 0 in
theorem PySem.Challenge.cw_shorthead_k24_letters_parted_holds : PySem.Challenge.rw_shorthead_k24_letters_parted.Holds := by
  w_on; o_law; k_head; (case hw => w_witness2)
  k_fill
  refine L2.walk_ofK (l := PySem.Challenge.rw_shorthead_k24_letters_parted) (n := 63) (k := 7) (x := "_law_script") (CX := L2.CX0) (sp := K.spLaw) rfl (by decide) rfl ⟨rfl, by decide, by decide⟩ (fun w h Y => PySem.W.kIn_of Y) ?F ?S ?C
  case F =>
    intro w mg fa h KX G hmg
    refine' K.all_mk KX G hmg ?a1 ?l1 ?c1 ?k1 ?a2 ?l2 ?c2 ?k2 ?a3 ?l3 ?c3 ?k3 ?a4 ?l4 ?c4 ?k4 ?a5 ?l5 ?c5 ?k5 ?a6 ?l6 ?c6 ?k6 ?a7 ?l7 ?c7 ?k7 ?a8 ?l8 ?c8 ?k8 ?a9 ?l9 ?c9 ?k9 ?a10 ?l10 ?c10 ?k10 ?a11 ?l11 ?c11 ?k11 ?a12 ?l12 ?c12 ?k12 ?a13 ?l13 ?c13 ?k13 ?a14 ?l14 ?c14 ?k14 ?a15 ?l15 ?c15 ?k15 ?a16 ?l16 ?c16 ?k16 ?a17 ?l17 ?c17 ?k17 ?a18 ?l18 ?c18 ?k18 ?a19 ?l19 ?c19 ?k19 ?a20 ?l20 ?c20 ?k20 ?a21 ?l21 ?c21 ?k21 ?a22 ?l22 ?c22 ?k22 ?a23 ?l23 ?c23 ?k23 ?a24 ?l24 ?c24 ?k24 ?a25 ?l25 ?c25 ?k25 ?a26 ?l26 ?c26 ?k26 ?a27 ?l27 ?c27 ?k27 ?a28 ?l28 ?c28 ?k28 ?a29 ?l29 ?c29 ?k29 ?a30 ?l30 ?c30 ?k30 ?a31 ?l31 ?c31 ?k31 ?a32 ?l32 ?c32 ?k32 ?a33 ?l33 ?c33 ?k33 ?z1 ?z2 ?z3 ?z4 ?z5 ?z6 ?z7 ?z8 ?z9 ?z10 ?z11 ?z12 ?z13 ?z14 ?z15
    (case a1 => k_is)
    (case l1 => k_is)
    (case c1 => k_is)
    (case k1 => k_is)
    (case a2 => k_is)
    (case l2 => k_is)
    (case c2 => k_is)
    (case k2 => k_is)
    (case a3 => k_is)
    (case l3 => k_is)
    (case c3 => k_is)
    (case k3 => k_is)
    (case a4 => k_is)
    (case l4 => k_is)
    (case c4 => k_is)
    (case k4 => k_is)
    (case a5 => k_is)
    (case l5 => k_is)
    (case c5 => k_is)
    (case k5 => k_is)
    (case a6 => k_is)
    (case l6 => k_is)
    (case c6 => k_is)
    (case k6 => k_is)
    (case a7 => k_is)
    (case l7 => k_is)
    (case c7 => k_is)
    (case k7 => k_is)
    (case a8 => k_is)
    (case l8 => k_is)
    (case c8 => k_is)
    (case k8 => k_is)
    (case a9 => k_is)
    (case l9 => k_is)
    (case c9 => k_is)
    (case k9 => k_is)
    (case a10 => k_is)
    (case l10 => k_is)
    (case c10 => k_is)
    (case k10 => k_is)
    (case a11 => k_is)
    (case l11 => k_is)
    (case c11 => k_is)
    (case k11 => k_is)
    (case a12 => k_is)
    (case l12 => k_is)
    (case c12 => k_is)
    (case k12 => k_is)
    (case a13 => k_is)
    (case l13 => k_is)
    (case c13 => k_is)
    (case k13 => k_is)
    (case a14 => k_is)
    (case l14 => k_is)
    (case c14 => k_is)
    (case k14 => k_is)
    (case a15 => k_is)
    (case l15 => k_is)
    (case c15 => k_is)
    (case k15 => k_is)
    (case a16 => k_is)
    (case l16 => k_is)
    (case c16 => k_is)
    (case k16 => k_is)
    (case a17 => k_is)
    (case l17 => k_is)
    (case c17 => k_is)
    (case k17 => k_is)
    (case a18 => k_is)
    (case l18 => k_is)
    (case c18 => k_is)
    (case k18 => k_is)
    (case a19 => k_is)
    (case l19 => k_is)
    (case c19 => k_is)
    (case k19 => k_is)
    (case a20 => k_is)
    (case l20 => k_is)
    (case c20 => k_is)
    (case k20 => k_is)
    (case a21 => k_is)
    (case l21 => k_is)
    (case c21 => k_is)
    (case k21 => k_is)
    (case a22 => k_is)
    (case l22 => k_is)
    (case c22 => k_is)
    (case k22 => k_is)
    (case a23 => k_is)
    (case l23 => k_is)
    (case c23 => k_is)
    (case k23 => k_is)
    (case a24 => k_is)
    (case l24 => k_is)
    (case c24 => k_is)
    (case k24 => k_is)
    (case a25 => k_is)
    (case l25 => k_is)
    (case c25 => k_is)
    (case k25 => k_is)
    (case a26 => k_is)
    (case l26 => k_is)
    (case c26 => k_is)
    (case k26 => k_is)
    (case a27 => k_is)
    (case l27 => k_is)
    (case c27 => k_is)
    (case k27 => k_is)
    (case a28 => k_is)
    (case l28 => k_is)
    (case c28 => k_is)
    (case k28 => k_is)
    (case a29 => k_is)
    (case l29 => k_is)
    (case c29 => k_is)
    (case k29 => k_is)
    (case a30 => k_is)
    (case l30 => k_is)
    (case c30 => k_is)
    (case k30 => k_is)
    (case a31 => k_is)
    (case l31 => k_is)
    (case c31 => k_is)
    (case k31 => k_is)
    (case a32 => k_is)
    (case l32 => k_is)
    (case c32 => k_is)
    (case k32 => k_is)
    (case a33 => k_is)
    (case l33 => k_is)
    (case c33 => k_is)
    (case k33 => k_is)
    (case z1 => k_is)
    (case z2 => k_is)
    (case z3 => k_is)
    (case z4 => k_is)
    (case z5 => k_is)
    (case z6 => k_is)
    (case z7 => k_is)
    (case z8 => k_is)
    (case z9 => k_is)
    (case z10 => k_is)
    (case z11 => k_is)
    (case z12 => k_is)
    (case z13 => k_is)
    (case z14 => k_is)
    (case z15 => k_is)
  case S => exact fun _ _ a ns hl _ hS => ⟨a, ns, rfl, hS, hl, fun _ => rfl⟩
  case C => exact fun _ _ _ _ z => z
