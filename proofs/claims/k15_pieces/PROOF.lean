import PyProof.Rows.All
import Wide.All
import OpenK.AllK
import Wide.FinOn
import Lean
import PyProof.EqAt
import PyProof.EqKinds
import PyProof.TupleCall
import PySem.Challenge.RW_shorthead_k15_pieces
set_option Elab.async false
set_option linter.all false
set_option maxRecDepth 100000
/-! THE HAND LAYER, for ints, bools, texts, own classes, LISTS and tuples (index, slices, in, append, pop ..), calls, loops. Paste it whole ahead of your own text; what your proof does not reach may be deleted. -/
namespace L2
open PySem PySem.Spec PyProof.Rows

/-- a key: an int or a str -/
abbrev Key := Sum Int Str
def keyIs : Key → Value → Bool
  | .inl k, v => Value.isInt k v
  | .inr x, v => Value.isStrOf x v
def keyH (w : World) : Key → Int
  | .inl k => hashInt k
  | .inr x => hashStr w x
theorem keyIs_shape : ∀ {k : Key} {v : Value}, keyIs k v = true → (∃ i t, k = Sum.inl i ∧ v = Value.int i t) ∨ (∃ x t, k = Sum.inr x ∧ v = Value.str x t)
  | .inl i, v, h => by
    obtain ⟨t, e⟩ := Value.isInt_shape (k := i) (v := v) h
    exact .inl ⟨i, t, rfl, e⟩
  | .inr x, v, h => by
    obtain ⟨t, e⟩ := Value.isStrOf_shape (x := x) (v := v) h
    exact .inr ⟨x, t, rfl, e⟩
theorem keyIs_int (i : Int) (t : Tok) : keyIs (.inl i) (.int i t) = true := by simp [keyIs, Value.isInt]
theorem keyIs_str (x : Str) (t : Tok) : keyIs (.inr x) (.str x t) = true := by simp [keyIs, Value.isStrOf]
theorem key_ll (a b : Int) : decide ((Sum.inl a : Key) = Sum.inl b) = (a == b) := by
  by_cases e : a = b
  · subst e; simp
  · have h : ¬ (Sum.inl a : Key) = Sum.inl b := fun q => e (Sum.inl.inj q)
    rw [decide_eq_false h]
    exact (beq_eq_false_iff_ne.mpr e).symm
theorem key_rr (a b : Str) : decide ((Sum.inr a : Key) = Sum.inr b) = decide (a = b) := by
  by_cases e : a = b
  · subst e; simp
  · have h : ¬ (Sum.inr a : Key) = Sum.inr b := fun q => e (Sum.inr.inj q)
    rw [decide_eq_false h, decide_eq_false e]
theorem key_lr (a : Int) (b : Str) : decide ((Sum.inl a : Key) = Sum.inr b) = false := decide_eq_false (fun q => nomatch q)
theorem key_rl (a : Str) (b : Int) : decide ((Sum.inr a : Key) = Sum.inl b) = false := decide_eq_false (fun q => nomatch q)

def mixKind (prog : Program) (w : World) : PySem.KeyKind prog w Key where
  is := keyIs
  hash := keyH w
  inj := fun v a b ha hb => by
    rcases keyIs_shape ha with ⟨i, t, rfl, rfl⟩ | ⟨x, t, rfl, rfl⟩
    · rcases keyIs_shape hb with ⟨j, u, rfl, e⟩ | ⟨y, u, rfl, e⟩
      · injection e with e1 _; rw [e1]
      · exact nomatch e
    · rcases keyIs_shape hb with ⟨j, u, rfl, e⟩ | ⟨y, u, rfl, e⟩
      · exact nomatch e
      · injection e with e1 _; rw [e1]
  byValue := fun k v h => by
    rcases keyIs_shape h with ⟨i, t, rfl, rfl⟩ | ⟨x, t, rfl, rfl⟩ <;> rfl
  pyHash := fun hv h => by
    rcases keyIs_shape hv with ⟨i, t, rfl, rfl⟩ | ⟨x, t, rfl, rfl⟩
    · exact wpAny_pyHash_int h
    · exact wpAny_pyHash_str h
  eqBool := fun hu hv h => by
    rcases keyIs_shape hu with ⟨i, t, rfl, rfl⟩ | ⟨x, t, rfl, rfl⟩
    · rcases keyIs_shape hv with ⟨j, u, rfl, rfl⟩ | ⟨y, u, rfl, rfl⟩
      · rw [key_ll] at h; exact wpAny_eqBool_int h
      · rw [key_lr] at h; exact SeqAt.EqAt.int_str i t y u _ _ _ _ h
    · rcases keyIs_shape hv with ⟨j, u, rfl, rfl⟩ | ⟨y, u, rfl, rfl⟩
      · rw [key_rl] at h; exact SeqAt.EqAt.str_int x t j u _ _ _ _ h
      · rw [key_rr] at h; exact wpAny_eqBool_str h
  «strs» := fun k x t v h => by
    rcases keyIs_shape h with ⟨i, u, rfl, e⟩ | ⟨y, u, rfl, e⟩
    · exact nomatch e
    · injection e with e1 _
      subst e1
      cases v <;> rfl

theorem mixKind_is (prog : Program) (w : World) (k : Key) (v : Value) : (mixKind prog w).is k v = keyIs k v := rfl
theorem mixKind_int (prog : Program) (w : World) (i : Int) (t : Tok) : (mixKind prog w).is (.inl i) (.int i t) = true := keyIs_int i t
theorem mixKind_str (prog : Program) (w : World) (x : Str) (t : Tok) : (mixKind prog w).is (.inr x) (.str x t) = true := keyIs_str x t
end L2

namespace L2
open PySem PySem.Spec PyProof.Rows

/-- a value, without the heap -/
inductive V where
  | non | bl (b : Bool) | int (i : Int) | str (x : Str) | byt (b : Array UInt8) | flt (b : UInt64) | ref (a : Addr) | ty (n : String)
  deriving DecidableEq

def RelV : V → Value → Prop
  | .non, u => u = Value.none
  | .bl b, u => u = Value.bool b
  | .int i, u => ∃ t, u = Value.int i t
  | .str x, u => ∃ t, u = Value.str x t
  | .byt b, u => ∃ t, u = Value.bytes b t
  | .flt b, u => ∃ t, u = Value.float b t
  | .ref a, u => u = Value.ref a
  | .ty n, u => u = Value.type n

abbrev Vals : List V → List Value → Prop := Paired RelV
theorem Vals.length {xs : List V} {us : List Value} (r : Vals xs us) : xs.length = us.length := Paired.length r
theorem Vals.get : ∀ {xs : List V} {us : List Value} {i : Nat} {x : V}, Vals xs us → xs[i]? = some x → ∃ u, us[i]? = some u ∧ RelV x u
  | _, _, _, _, .nil, e => by simp at e
  | _, _, 0, _, .cons r _, e => by simp at e; subst e; exact ⟨_, rfl, r⟩
  | _, _, i + 1, x, .cons _ t, e => by
    obtain ⟨u, h1, h2⟩ := Vals.get (i := i) (x := x) t (by simpa using e)
    exact ⟨u, by simpa using h1, h2⟩
theorem Vals.set {x : V} {u : Value} (r : RelV x u) : ∀ {xs : List V} {us : List Value} (i : Nat), Vals xs us → Vals (xs.set i x) (us.set i u)
  | _, _, _, .nil => .nil
  | _, _, 0, .cons _ t => .cons r t
  | _, _, i + 1, .cons q t => .cons q (Vals.set r i t)
theorem Vals.append : ∀ {xs ys : List V} {us ws : List Value}, Vals xs us → Vals ys ws → Vals (xs ++ ys) (us ++ ws)
  | _, _, _, _, .nil, s => s
  | _, _, _, _, .cons r t, s => .cons r (Vals.append t s)
theorem Vals.take : ∀ {xs : List V} {us : List Value} (n : Nat), Vals xs us → Vals (xs.take n) (us.take n)
  | _, _, 0, _ => .nil
  | _, _, _ + 1, .nil => .nil
  | _, _, n + 1, .cons r t => .cons r (Vals.take n t)
theorem Vals.drop : ∀ {xs : List V} {us : List Value} (n : Nat), Vals xs us → Vals (xs.drop n) (us.drop n)
  | _, _, 0, r => r
  | _, _, _ + 1, .nil => .nil
  | _, _, n + 1, .cons _ t => Vals.drop n t
theorem Vals.none_of : ∀ {xs : List V} {us : List Value} {i : Nat}, Vals xs us → xs[i]? = none → us[i]? = none := fun {xs us i} r e => by
  have h1 := r.length
  have h2 : xs.length ≤ i := List.getElem?_eq_none_iff.mp e
  exact List.getElem?_eq_none_iff.mpr (by omega)

def RelO : Option V → Option Value → Prop
  | some v, some u => RelV v u
  | none, none => True
  | _, _ => False
def KV {κ : Type} : List (κ × V) → List (κ × Value) → Prop := Paired fun (p : κ × V) (q : κ × Value) => p.1 = q.1 ∧ RelV p.2 q.2

/-- a key of a dict (00_mix): an int or a text -/
def kV : Key → V
  | .inl i => .int i
  | .inr x => .str x

/-- what stands at a tracked address -/
inductive HO where
  /-- a list -/
  | lst (xs : List V)
  /-- a tuple (never changes) -/
  | tup (xs : List V)
  /-- a dict whose keys are ints and texts; one whose keys are tuples of ints and texts (the empty one is both) -/
  | dK (kvs : List (Key × V)) | dT (kvs : List (List Key × V))
  /-- a set of ints: its members, its size -/
  | set (S : Int → Bool) (n : Nat)
  /-- an instance of the class at C, its dict at dx, its attributes -/
  | ins (C dx : Addr) (fs : List (Str × V))
  /-- the dict of the instance at x -/
  | own (x : Addr)
  /-- the dict of an exception -/
  | xd (fs : List (Str × V))
  /-- a bound method, f of x -/
  | met (f x : Addr)
  /-- a range object lo, lo + 1, .. below hi -/
  | rng (lo hi : Int)
  /-- a thing that is known to the object (the script; a dict while a loop walks it): read, never written while it is so -/
  | frz (o : Obj) (u : HO)
  /-- a code object's table -/
  | tbl (ps : Array Value)
  /-- any other thing, by what is true of its one object (a def of one's own: SetO a S n := HO.ext fun h => ..) -/
  | ext (φ : Heap → Prop)

abbrev Hp := Addr → Option HO
def upd (H : Hp) (a : Addr) (o : HO) : Hp := fun b => if b = a then some o else H b
theorem upd_same {H : Hp} {a : Addr} {o : HO} : upd H a o a = some o := by unfold upd; rw [if_pos rfl]
theorem upd_ne {H : Hp} {a b : Addr} {o : HO} (h : b ≠ a) : upd H a o b = H b := by unfold upd; rw [if_neg h]
theorem upd_upd {H : Hp} {a : Addr} {o u : HO} : upd (upd H a o) a u = upd H a u := by
  funext b; unfold upd; split <;> rfl
/-- two objects of different content stand apart -/
theorem ne_of {H : Hp} {a b : Addr} {o u : HO} (h : H a = some o) (h' : H b = some u) (d : o ≠ u) : a ≠ b := by
  intro e; subst e; rw [h] at h'; exact d (Option.some.inj h')
theorem ne_of_none {H : Hp} {a b : Addr} {o : HO} (h : H a = some o) (h' : H b = none) : a ≠ b := by
  intro e; subst e; rw [h] at h'; cases h'

section
variable (P : Program) (w : World)
def NoD (h : Heap) (a : Addr) : Prop := ∃ o, h.get? a = some o ∧ o.dict = none
def ObjOk (H : Hp) (h : Heap) (a : Addr) : HO → Prop
  | .lst xs => xs.length ≤ sizeLine ∧ ∃ (its : List Value) (n : Nat), Vals xs its ∧ h.get? a = some { cls := .type "list", data := .seq its.toArray n }
  | .tup xs => xs.length ≤ sizeLine ∧ ∃ its : List Value, Vals xs its ∧ IsTup h a its.toArray ∧ NoD h a
  | .dK kvs => kvs.length ≤ sizeLine ∧ (a == sysModules) = false ∧ ∃ vs, KV kvs vs ∧ h.DictOf (mixKind P w) a vs
  | .dT kvs => kvs.length ≤ sizeLine ∧ (a == sysModules) = false ∧ ∃ xs : List (List Key × Addr × Value),
      Paired (fun (p : List Key × V) (q : List Key × Addr × Value) => p.1 = q.1 ∧ H q.2.1 = some (.tup (p.1.map kV)) ∧ RelV p.2 q.2.2) kvs xs ∧
      ∃ o es ep, h.get? a = some o ∧ o.ExactDict ∧ o.data = .dict es ep ∧ es.toList = xs.map (entryOfKey (tupleKind (mixKind P w))) ∧ (xs.map (·.1)).Nodup
  | .set S n => h.SetOf (intKind P w) a S n
  | .ins C dx fs => H dx = some (.own a) ∧ fs.length ≤ 1000 ∧ dx ≠ a ∧ h.get? a = some (PySem.W.instObj C dx) ∧
      ∃ mA, h.Ns1 dx mA ∧ (∀ f, RelO (fs.lookup f) (mA f)) ∧ PySem.Within mA (fs.map (·.1))
  | .own _ => ∃ o, h.get? a = some o
  | .xd fs => ∃ mA, h.Ns1 a mA ∧ ∀ f, RelO (fs.lookup f) (mA f)
  | .rng lo hi => ∃ t u v, h.get? a = some { cls := .type "range", data := .fields #[.int lo t, .int hi u, .int 1 v] }
  | .frz o u => h.get? a = some o ∧ ObjOk H h a u
  | .tbl ps => h.get? a = some { cls := .none, data := .fields ps }
  | .met f x => h.get? a = some (PySem.W.methodObj (.ref f) (.ref x))
  | .ext φ => φ h ∧ (∃ o, h.get? a = some o) ∧ ∀ h1 h2 : Heap, φ h1 → (∀ o, h1.get? a = some o → h2.get? a = some o) → φ h2
/-- the abstract heap is held -/
def HOk (H : Hp) (h : Heap) : Prop := ∀ a o, H a = some o → ObjOk P w H h a o
end

section
variable {P : Program} {w : World} {H H' : Hp} {h h' : Heap} {a : Addr} {o : HO}
theorem ObjOk.lt (x : ObjOk P w H h a o) : a < h.objs.size := by
  cases o with
  | lst xs => obtain ⟨_, _, _, _, e⟩ := x; exact Heap.lt_size e
  | tup xs => obtain ⟨_, _, _, p, _⟩ := x; exact p.lt
  | dK kvs => obtain ⟨_, _, _, _, o, _, _, e, _⟩ := x; exact Heap.lt_size e
  | dT kvs => obtain ⟨_, _, _, _, o, _, _, e, _⟩ := x; exact Heap.lt_size e
  | set S n => obtain ⟨o, _, _, _, e, _⟩ := x; exact Heap.lt_size e
  | ins C dx fs => obtain ⟨_, _, _, e, _⟩ := x; exact Heap.lt_size e
  | own y => obtain ⟨_, e⟩ := x; exact Heap.lt_size e
  | xd fs => obtain ⟨_, ⟨_, _, _, e, _⟩, _⟩ := x; exact Heap.lt_size e
  | rng lo hi => obtain ⟨_, _, _, e⟩ := x; exact Heap.lt_size e
  | frz ob u => obtain ⟨e, _⟩ := x; exact Heap.lt_size e
  | tbl ps => exact Heap.lt_size (show h.get? a = some _ from x)
  | met f y => exact Heap.lt_size (show h.get? a = some _ from x)
  | ext φ => obtain ⟨_, ⟨_, e⟩, _⟩ := x; exact Heap.lt_size e
theorem Paired.mapP {α β : Type} {F G : α → β → Prop} : ∀ {l₁ : List α} {l₂ : List β}, Paired F l₁ l₂ → (∀ a b, F a b → G a b) → Paired G l₁ l₂
  | _, _, .nil, _ => .nil
  | _, _, .cons r t, f => .cons (f _ _ r) (Paired.mapP t f)
theorem Paired.imp' {α β : Type} {F G : α → β → Prop} (f : ∀ a b, F a b → G a b) {l₁ : List α} {l₂ : List β} (r : Paired F l₁ l₂) : Paired G l₁ l₂ := Paired.mapP r f
/-- what an object's description leans on: its own object, its own dict, the tuples -/
theorem ObjOk.stay (x : ObjOk P w H h a o) (k : ∀ b u, (b = a ∨ H b = some (.own a)) → h.get? b = some u → h'.get? b = some u)
    (ho : ∀ b, H b = some (.own a) → H' b = some (.own a)) (ht : ∀ b xs, H b = some (.tup xs) → H' b = some (.tup xs)) : ObjOk P w H' h' a o := by
  induction o with
  | lst xs => obtain ⟨z, its, n, r, e⟩ := x; exact ⟨z, its, n, r, k _ _ (.inl rfl) e⟩
  | tup xs => obtain ⟨z, its, r, ⟨ob, e, c⟩, od, ed, dn⟩ := x; exact ⟨z, its, r, ⟨ob, k _ _ (.inl rfl) e, c⟩, od, k _ _ (.inl rfl) ed, dn⟩
  | dK kvs => obtain ⟨z, y, vs, r, ob, es, ep, e, c⟩ := x; exact ⟨z, y, vs, r, ob, es, ep, k _ _ (.inl rfl) e, c⟩
  | dT kvs =>
    obtain ⟨z, y, xs, r, ob, es, ep, e, c⟩ := x
    exact ⟨z, y, xs, Paired.mapP r fun p q z => ⟨z.1, ht _ _ z.2.1, z.2.2⟩, ob, es, ep, k _ _ (.inl rfl) e, c⟩
  | set S n => obtain ⟨ob, es, ep, t, e, c⟩ := x; exact ⟨ob, es, ep, t, k _ _ (.inl rfl) e, c⟩
  | ins C dx fs =>
    obtain ⟨d, z, ne, e, mA, ⟨od, es, ep, e2, c⟩, r⟩ := x
    exact ⟨ho _ d, z, ne, k _ _ (.inl rfl) e, mA, ⟨od, es, ep, k _ _ (.inr d) e2, c⟩, r⟩
  | own y => obtain ⟨ob, e⟩ := x; exact ⟨ob, k _ _ (.inl rfl) e⟩
  | xd fs => obtain ⟨mA, ⟨od, es, ep, e, c⟩, r⟩ := x; exact ⟨mA, ⟨od, es, ep, k _ _ (.inl rfl) e, c⟩, r⟩
  | rng lo hi => obtain ⟨t, u, v, e⟩ := x; exact ⟨t, u, v, k _ _ (.inl rfl) e⟩
  | frz ob u ih => obtain ⟨e, q⟩ := x; exact ⟨k _ _ (.inl rfl) e, ih q⟩
  | tbl ps =>
    have e : h.get? a = some { cls := .none, data := .fields ps } := x
    show h'.get? a = some { cls := .none, data := .fields ps }
    exact k a _ (.inl rfl) e
  | met f y =>
    have e : h.get? a = some (PySem.W.methodObj (.ref f) (.ref y)) := x
    show h'.get? a = some (PySem.W.methodObj (.ref f) (.ref y))
    exact k a _ (.inl rfl) e
  | ext φ => obtain ⟨p, ⟨o, e⟩, st⟩ := x; exact ⟨st _ _ p fun o q => k _ _ (.inl rfl) q, ⟨o, k _ _ (.inl rfl) e⟩, st⟩
theorem HOk.lt (x : HOk P w H h) (e : H a = some o) : a < h.objs.size := (x a o e).lt
theorem HOk.fresh (x : HOk P w H h) (e : h.objs.size ≤ a) : H a = none := by
  cases q : H a with
  | none => rfl
  | some u => exact absurd (Nat.lt_of_lt_of_le (x.lt q) e) (Nat.lt_irrefl _)
/-- every object of the heap is kept -/
theorem HOk.kept (x : HOk P w H h) (k : ∀ b u, h.get? b = some u → h'.get? b = some u) : HOk P w H h' := fun a o e =>
  (x a o e).stay (fun b u _ q => k b u q) (fun _ q => q) fun _ _ q => q
/-- a new object is laid and tracked -/
theorem HOk.laid (x : HOk P w H h) (k : ∀ b u, h.get? b = some u → h'.get? b = some u) (hp : h.objs.size ≤ a) (new : ObjOk P w (upd H a o) h' a o) : HOk P w (upd H a o) h' := fun b u e => by
  have hn := x.fresh hp
  by_cases hb : b = a
  · subst hb; rw [upd_same] at e; cases e; exact new
  · rw [upd_ne hb] at e
    exact (x b u e).stay (fun c v _ q => k c v q) (fun c q => by rw [upd_ne (ne_of_none q hn)]; exact q) fun c xs q => by rw [upd_ne (ne_of_none q hn)]; exact q
end

/-- what may be read as u: it is u, or a known u -/
def Rd (H : Hp) (a : Addr) (u : HO) : Prop := H a = some u ∨ ∃ o, H a = some (.frz o u)
theorem Rd.of {H : Hp} {a : Addr} {u : HO} (h : H a = some u) : Rd H a u := .inl h
theorem Rd.ok {P : Program} {w : World} {H : Hp} {h : Heap} {a : Addr} {u : HO} (r : Rd H a u) (x : HOk P w H h) : ObjOk P w H h a u := by
  rcases r with r | ⟨o, r⟩
  · exact x a u r
  · obtain ⟨_, q⟩ := x a _ r
    exact q
/-- what may be written -/
def Mut : Option HO → Prop
  | some (.lst _) => True
  | some (.dK _) => True
  | some (.dT _) => True
  | some (.set _ _) => True
  | some (.ins _ _ _) => True
  | some (.ext _) => True
  | _ => False
section
variable {P : Program} {w : World} {H : Hp} {h h' : Heap} {x e : Addr} {o' : HO}
/-- the object at e is changed: x itself, or the dict of the instance x -/
theorem HOk.write (ok : HOk P w H h) (mu : Mut (H x)) (he : e = x ∨ H e = some (.own x)) (k : ∀ b u, b ≠ e → h.get? b = some u → h'.get? b = some u) (heo : ∃ u, h'.get? e = some u)
    (new : ObjOk P w (upd H x o') h' x o') : HOk P w (upd H x o') h' := fun b u q => by
  have nown : ∀ c y, H c = some (.own y) → c ≠ x := fun c y r z => by subst z; rw [r] at mu; exact mu
  have ntup : ∀ c xs, H c = some (.tup xs) → c ≠ x := fun c xs r z => by subst z; rw [r] at mu; exact mu
  by_cases hb : b = x
  · subst hb; rw [upd_same] at q; cases q; exact new
  · rw [upd_ne hb] at q
    by_cases hbe : b = e
    · have q' : H b = some (.own x) := by
        rcases he with z | z
        · exact absurd (hbe.trans z) hb
        · rw [hbe]; exact z
      rw [q] at q'; cases q'
      obtain ⟨v, hv⟩ := heo
      exact ⟨v, by rw [hbe]; exact hv⟩
    · refine (ok b u q).stay (fun c v hc r => k c v ?_ r) (fun c r => by rw [upd_ne (nown c b r)]; exact r) fun c xs r => by rw [upd_ne (ntup c xs r)]; exact r
      rcases hc with rfl | hc
      · exact hbe
      · rintro rfl
        rcases he with z | z
        · exact nown c b hc z
        · rw [hc] at z; cases z; exact hb rfl
end

/-! ### kept unless tracked; of the frames at fs (the callers') the slots may change (an exception that passes writes there); of the records at ex (iterators) nothing is said -/
structure Un (fs ex : List Addr) (H H' : Hp) (h h' : Heap) : Prop where
  keep : ∀ b o, h.get? b = some o → H b = none → b ∉ fs → b ∉ ex → h'.get? b = some o
  slot : ∀ b o, h.get? b = some o → H b = none → b ∈ fs → b ∉ ex → ∃ sl, h'.get? b = some { o with slots := sl }
  free : ∀ b o, h.get? b = some o → H b = none → b ∉ ex → H' b = none
  there : ∀ b o, h.get? b = some o → b ∉ ex → ∃ o', h'.get? b = some o'
  tups : ∀ b xs, H b = some (.tup xs) → H' b = some (.tup xs)
  frzs : ∀ b o u, H b = some (.frz o u) → H' b = some (.frz o u)
  tbls : ∀ b ps, H b = some (.tbl ps) → ∃ more, H' b = some (.tbl (ps ++ more))
section
variable {fs fs' ex ex' : List Addr} {H H1 H2 : Hp} {h h1 h2 h' : Heap} {a x e : Addr} {o : HO}
theorem Un.any (u : Un fs ex H H1 h h1) {b : Addr} {ob : Obj} (q : h.get? b = some ob) (n : H b = none) (hx : b ∉ ex) : ∃ sl, h1.get? b = some { ob with slots := sl } := by
  by_cases hb : b ∈ fs
  · exact u.slot b ob q n hb hx
  · exact ⟨ob.slots, u.keep b ob q n hb hx⟩
theorem Un.trans (a : Un fs ex H H1 h h1) (b : Un fs ex H1 H2 h1 h2) : Un fs ex H H2 h h2 where
  keep := fun c ob q n hc hx => b.keep c ob (a.keep c ob q n hc hx) (a.free c ob q n hx) hc hx
  slot := fun c ob q n hc hx => by
    obtain ⟨sl, e1⟩ := a.slot c ob q n hc hx
    obtain ⟨sl', e2⟩ := b.slot c _ e1 (a.free c ob q n hx) hc hx
    exact ⟨sl', e2⟩
  free := fun c ob q n hx => by
    obtain ⟨o', e1⟩ := a.there c ob q hx
    exact b.free c o' e1 (a.free c ob q n hx) hx
  there := fun c ob q hx => by
    obtain ⟨o', e1⟩ := a.there c ob q hx
    exact b.there c o' e1 hx
  tups := fun c xs q => b.tups c xs (a.tups c xs q)
  frzs := fun c ob xs q => b.frzs c ob xs (a.frzs c ob xs q)
  tbls := fun c ps q => by
    obtain ⟨m1, e1⟩ := a.tbls c ps q
    obtain ⟨m2, e2⟩ := b.tbls c _ e1
    exact ⟨m1 ++ m2, by rw [e2, Array.append_assoc]⟩
theorem Un.kept (k : ∀ b u, h.get? b = some u → h'.get? b = some u) : Un fs ex H H h h' :=
  ⟨fun b ob q _ _ _ => k b ob q, fun b ob q _ _ _ => ⟨ob.slots, k b ob q⟩, fun _ _ _ n _ => n, fun b ob q _ => ⟨ob, k b ob q⟩, fun _ _ q => q, fun _ _ _ q => q, fun _ ps q => ⟨#[], by rw [q]; simp⟩⟩
theorem Un.refl : Un fs ex H H h h := Un.kept fun _ _ q => q
theorem Un.laid (k : ∀ b u, h.get? b = some u → h'.get? b = some u) (hp : h.objs.size ≤ a) (hn : H a = none) : Un fs ex H (upd H a o) h h' where
  keep := fun b u q _ _ _ => k b u q
  slot := fun b u q _ _ _ => ⟨u.slots, k b u q⟩
  free := fun b u q n _ => by rw [upd_ne (Nat.ne_of_lt (Nat.lt_of_lt_of_le (Heap.lt_size q) hp))]; exact n
  there := fun b u q _ => ⟨u, k b u q⟩
  tups := fun b xs q => by rw [upd_ne (ne_of_none q hn)]; exact q
  frzs := fun b u xs q => by rw [upd_ne (ne_of_none q hn)]; exact q
  tbls := fun b ps q => ⟨#[], by rw [upd_ne (ne_of_none q hn), q]; simp⟩
theorem Un.write (mu : Mut (H x)) (he : e = x ∨ H e = some (.own x)) (k : ∀ b u, b ≠ e → h.get? b = some u → h'.get? b = some u) (heo : ∃ u, h'.get? e = some u) : Un fs ex H (upd H x o) h h' := by
  have hx : ∀ b, H b = none → b ≠ x := fun b n z => by subst z; rw [n] at mu; exact mu
  have hb : ∀ b, H b = none → b ≠ e := fun b n z => by
    subst z
    rcases he with r | r
    · exact hx b n r
    · rw [n] at r; cases r
  have hm : ∀ b u, H b = some u → ¬ Mut (some u) → b ≠ x := fun b u q nm z => by subst z; rw [q] at mu; exact nm mu
  refine ⟨fun b u q n _ _ => k b u (hb b n) q, fun b u q n _ _ => ⟨u.slots, k b u (hb b n) q⟩, fun b u q n _ => by rw [upd_ne (hx b n)]; exact n, fun b u q _ => ?_,
    fun b xs q => by rw [upd_ne (hm b _ q fun z => z)]; exact q, fun b u xs q => by rw [upd_ne (hm b _ q fun z => z)]; exact q, fun b ps q => ⟨#[], by rw [upd_ne (hm b _ q fun z => z), q]; simp⟩⟩
  by_cases hbe : b = e
  · subst hbe; exact heo
  · exact ⟨u, k b u hbe q⟩
theorem Un.mono (u : Un fs ex H H1 h h1) (hs : ∀ b ∈ fs, b ∈ fs') (hx : ∀ b ∈ ex, b ∈ ex') : Un fs' ex' H H1 h h1 :=
  ⟨fun b ob q n hb he => u.keep b ob q n (fun z => hb (hs b z)) fun z => he (hx b z), fun _ _ q n _ he => u.any q n fun z => he (hx _ z), fun b ob q n he => u.free b ob q n fun z => he (hx b z), fun b ob q he => u.there b ob q fun z => he (hx b z), u.tups, u.frzs, u.tbls⟩
end

/-! ### the heap without what is tracked -/
def trk (h : Heap) (H : Hp) : List Addr := (List.range h.objs.size).filter fun a => (H a).isSome
def hidT (h : Heap) (H : Hp) : Heap := PySem.W.hideAll h (trk h H)
theorem hidT_size (h : Heap) (H : Hp) : (hidT h H).objs.size = h.objs.size := PySem.W.hideAll_size _ _
theorem hidT_get {h : Heap} {H : Hp} {b : Addr} {o : Obj} (e : h.get? b = some o) (n : H b = none) : (hidT h H).get? b = some o :=
  PySem.W.hideAll_get _ e fun hm => by
    have q : (H b).isSome = true := (List.mem_filter.mp hm).2
    rw [n] at q; simp at q
theorem of_hidT {h : Heap} {H : Hp} {b : Addr} {o : Obj} (e : (hidT h H).get? b = some o) : h.get? b = some o ∧ H b = none := by
  have e' : h.get? b = some o := PySem.W.of_hideAll (trk h H) e
  refine ⟨e', ?_⟩
  cases q : H b with
  | none => rfl
  | some x =>
    have hm : b ∈ trk h H := List.mem_filter.mpr ⟨List.mem_range.mpr (Heap.lt_size e'), by simp [q]⟩
    have z : (hidT h H).get? b = none := PySem.W.hideAll_none (trk h H) hm
    rw [z] at e; cases e

/-! ### OpenK's ledger, filled with every new object but one -/
def allNews (g h : Heap) (L : Addr) : List (Addr × Obj) := (List.range h.objs.size).filterMap fun a => if a = L ∨ (g.get? a).isSome = true then none else (h.get? a).map fun o => (a, o)
theorem mem_allNews {g h : Heap} {L a : Addr} {o : Obj} (h1 : a ≠ L) (h2 : g.get? a = none) (h3 : h.get? a = some o) : (a, o) ∈ allNews g h L :=
  List.mem_filterMap.mpr ⟨a, List.mem_range.mpr (Heap.lt_size h3), by simp [h1, h2, h3]⟩
theorem of_mem_allNews {g h : Heap} {L : Addr} {p : Addr × Obj} (hp : p ∈ allNews g h L) : p.1 ≠ L ∧ g.get? p.1 = none ∧ h.get? p.1 = some p.2 := by
  obtain ⟨b, _, e⟩ := List.mem_filterMap.mp hp
  split at e
  · cases e
  · rename_i hn
    cases q : h.get? b with
    | none => rw [q] at e; simp at e
    | some u =>
      rw [q] at e
      simp only [Option.map_some, Option.some.injEq] at e
      subst e
      refine ⟨fun z => hn (.inl z), ?_, q⟩
      show g.get? b = none
      cases r : g.get? b with
      | none => rfl
      | some v => exact (hn (.inr (by simp [r]))).elim
def rest (g h : Heap) (L d : Addr) : List (Addr × Obj) := (allNews g h L).filter fun p => decide (p.1 ≠ d)
theorem rest_ne {g h : Heap} {L d : Addr} : ∀ p ∈ rest g h L d, p.1 ≠ d := fun p hp => of_decide_eq_true (List.mem_filter.mp hp).2
theorem mem_rest {g h : Heap} {L d a : Addr} {o : Obj} (h1 : a ≠ L) (h2 : g.get? a = none) (h3 : h.get? a = some o) (h4 : a ≠ d) : (a, o) ∈ rest g h L d :=
  List.mem_filter.mpr ⟨mem_allNews h1 h2 h3, decide_eq_true h4⟩
theorem news_all {g h : Heap} {L : Addr} : News g L h (allNews g h L) := fun p hp => let ⟨a, b, c⟩ := of_mem_allNews hp; ⟨c, a, b⟩
theorem news_at {g h : Heap} {L d : Addr} {o : Obj} (h1 : d ≠ L) (h2 : g.get? d = none) (h3 : h.get? d = some o) : News g L h ((d, o) :: rest g h L d) := fun p hp => by
  rcases List.mem_cons.mp hp with rfl | hp
  · exact ⟨h3, h1, h2⟩
  · exact news_all p (List.mem_filter.mp hp).1
/-- behind a rule that changed d alone: all else but the frame is kept -/
theorem kept_of_news {g h h' : Heap} {L d : Addr} {m : Str → Option Value} (k : ∀ b o, g.get? b = some o → h.get? b = some o) (F : Fr g L h' m) (N : News g L h' (rest g h L d)) :
    ∀ b o, b ≠ L → b ≠ d → h.get? b = some o → h'.get? b = some o := fun b o h1 h2 e => by
  cases q : g.get? b with
  | some u =>
    have := k b u q
    rw [e] at this; cases this
    exact F.keep b _ q
  | none => exact (N (b, o) (mem_rest h1 q e h2)).1
end L2

namespace L2
open PySem PySem.Spec PyProof.Rows

/-- the module's facts, over the base: the heap at the law's entry without what is tracked there -/
structure Mod (K : PySem.W.Frag) (mg : Str → Option Value) (base : Heap) : Prop where
  kin : K.In base
  glob : base.Ns mainGlobals mg
  blt : ∃ mb, base.Ns builtinsNs mb ∧ ∀ x : Str, x ≠ "__name__" → mb x = bootBuiltins x
  nolimit : base.NoLimit

/-- the context: a def's body (or a comprehension's block) running. base: fixed through the whole law; s₀, H₀: the entry; outer: the frames whose slots others may change (a def's callers); stack: all frames that run;
   ex: iterators that were made ahead of the entry and are walked here (a comprehension's); fn: the names whose cells were made at the entry (a def: all; a comprehension's block: its own); calm: not within an except suite; pn: pins that every state bears; xe: what is wanted of an exception that leaves the code -/
structure Cx where
  prog : Program
  w : World
  K : PySem.W.Frag
  mg : Str → Option Value
  base : Heap
  A : Around
  N : List Str
  s₀ : Shared
  H₀ : Hp
  env : Env
  outer : List Env
  stack : List Env
  ex : List Addr
  fn : Str → Bool
  calm : Bool
  pn : List (Addr × Obj)
  xe : Value → Shared → Prop
/-- the callers' frames -/
def frs (l : List Env) : List Addr := l.filterMap (·.frame)
abbrev Cx.fs (X : Cx) : List Addr := frs X.outer

def Vis (sc : Scope) (x : Str) : Prop := sc.names.lookup x = some .local ∨ sc.names.lookup x = some .cell ∨ sc.names.lookup x = some .free
def Loc (sc : Scope) (x : Str) : Prop := sc.names.lookup x = some .local ∨ sc.names.lookup x = some .cell
def Look (env : Env) (h : Heap) (m : Str → Option Value) (x : Str) (u : Value) : Prop :=
  (env.kindOf x = some .local ∧ m x = some u) ∨ ((env.kindOf x = some .cell ∨ env.kindOf x = some .free) ∧ ∃ c, env.cells.lookup x = some c ∧ h.IsCell c (some u))

structure Cx.Ok (X : Cx) : Prop where
  mod : Mod X.K X.mg X.base
  kind : X.env.scope.kind = .function
  glob : X.env.globals = mainGlobals
  blt : X.env.builtins = builtinsNs
  above : X.s₀.heap.objs.size ≤ X.env.locals
  inj : ∀ x y c, X.env.cells.lookup x = some c → X.env.cells.lookup y = some c → x = y
  has : ∀ x, (X.env.kindOf x = some .cell ∨ X.env.kindOf x = some .free) → ∃ c, X.env.cells.lookup x = some c
  cab : ∀ x c, X.fn x = true → X.env.cells.lookup x = some c → X.s₀.heap.objs.size ≤ c
  hd : X.calm = true → X.A.handled = none
  frames : X.A.frames = some X.stack
  stk : X.stack = X.outer ∨ (X.stack = X.env :: X.outer ∧ X.env.frame = some X.env.locals)
  exf : ∀ b ∈ X.ex, b ≠ X.env.locals ∧ ∀ x c, X.env.cells.lookup x = some c → c ≠ b
  bs : ∀ b o, X.base.get? b = some o → X.s₀.heap.get? b = some o ∧ X.H₀ b = none
  bsz : X.base.objs.size ≤ X.s₀.heap.objs.size
  noex : ∀ b o, X.base.get? b = some o → b ∉ X.ex
  exfs : ∀ b ∈ X.ex, b ∉ X.fs
  funs : X.s₀.heap.FunFrames X.base X.outer
  frf : ∀ b ∈ X.fs, X.H₀ b = none

structure Inv (X : Cx) (pins : List (Addr × Obj)) (σ : List (Option V)) (H : Hp) (s : Shared) : Prop where
  ok : X.Ok
  os : s.os = X.s₀.os
  bare : AllBare s.gens
  base : Un X.fs X.ex X.H₀ H X.s₀.heap s.heap
  loc : ∃ m, s.heap.Ns X.env.locals m ∧ ∀ (i : Nat) (x : Str) (v : V), X.N[i]? = some x → σ[i]? = some (some v) → Vis X.env.scope x → ∃ u, RelV v u ∧ Look X.env s.heap m x u
  cell : ∀ x c, X.env.cells.lookup x = some c → ∃ v, s.heap.IsCell c v
  free : H X.env.locals = none
  freeC : ∀ x c, X.env.cells.lookup x = some c → H c = none
  pin : ∀ p ∈ X.pn ++ pins, s.heap.get? p.1 = some p.2 ∧ H p.1 = none ∧ p.1 ≠ X.env.locals ∧ p.1 ∉ X.fs ∧ ∀ v, p.2.data ≠ .cell v
  hok : HOk X.prog X.w H s.heap
  len : σ.length = X.N.length

section
variable {X : Cx} {pins : List (Addr × Obj)} {σ : List (Option V)} {H H' : Hp} {s : Shared} {h' : Heap}

theorem Cx.Ok.nofr (ok : X.Ok) {b : Addr} {o : Obj} (e : X.base.get? b = some o) : b ∉ X.fs := fun hb => by
  have := (ok.funs.mem hb).1
  rw [e] at this; cases this
theorem Inv.bs (I : Inv X pins σ H s) : ∀ b o, X.base.get? b = some o → s.heap.get? b = some o ∧ H b = none := fun b o e =>
  ⟨I.base.keep b o (I.ok.bs b o e).1 (I.ok.bs b o e).2 (I.ok.nofr e) (I.ok.noex b o e), I.base.free b o (I.ok.bs b o e).1 (I.ok.bs b o e).2 (I.ok.noex b o e)⟩
theorem Inv.bk (I : Inv X pins σ H s) : ∀ b o, X.base.get? b = some o → s.heap.get? b = some o := fun b o e => (I.bs b o e).1
theorem Inv.mod (I : Inv X pins σ H s) : Mod X.K X.mg X.base := I.ok.mod
theorem Inv.kIn (I : Inv X pins σ H s) : X.K.In s.heap := I.ok.mod.kin.keeps I.bk
theorem Inv.nolimit (I : Inv X pins σ H s) : s.heap.NoLimit := I.ok.mod.nolimit.keeps I.bk
/-- the frame over the base: for OpenK's rules (K.In X.base is I.mod.kin) -/
theorem Inv.fr (I : Inv X pins σ H s) : ∃ m, Fr X.base X.env.locals s.heap m :=
  let ⟨m, hn, _⟩ := I.loc
  ⟨m, hn, I.bk, Nat.le_trans I.ok.bsz I.ok.above⟩
theorem Inv.lt (I : Inv X pins σ H s) : X.env.locals < s.heap.objs.size := let ⟨_, hn, _⟩ := I.loc; hn.lt
theorem Inv.sz (I : Inv X pins σ H s) : X.s₀.heap.objs.size ≤ s.heap.objs.size := Nat.le_trans I.ok.above (Nat.le_of_lt I.lt)
theorem Inv.nofs (I : Inv X pins σ H s) {a : Addr} (h : s.heap.objs.size ≤ a) : a ∉ X.fs := fun hb => by
  obtain ⟨_, o, ho, _⟩ := I.ok.funs.mem hb
  exact absurd (Nat.lt_of_lt_of_le (Heap.lt_size ho) (Nat.le_trans I.sz h)) (Nat.lt_irrefl _)
theorem Inv.cne (I : Inv X pins σ H s) : ∀ x c, X.env.cells.lookup x = some c → c ≠ X.env.locals := fun x c e z => by
  obtain ⟨v, o, ho, hd⟩ := I.cell x c e
  obtain ⟨m, ⟨o', es, ep, ho', hd', _⟩, _⟩ := I.loc
  rw [z, ho'] at ho; cases ho; rw [hd'] at hd; cases hd
theorem Inv.funs (I : Inv X pins σ H s) : s.heap.FunFrames X.base X.outer := by
  have all : ∀ (l : List Env), (∀ b ∈ frs l, b ∈ X.fs) → X.s₀.heap.FunFrames X.base l → s.heap.FunFrames X.base l := by
    intro l
    induction l with
    | nil => intro _ _; trivial
    | cons env r ih =>
      intro hs hl
      obtain ⟨hk, ⟨L, o, hf, hn, ho, hd⟩, hr⟩ := hl
      have hL : L ∈ X.fs := hs L (by unfold frs; rw [List.filterMap_cons, hf]; exact List.mem_cons_self)
      obtain ⟨sl, e⟩ := I.base.slot L o ho (I.ok.frf L hL) hL fun z => I.ok.exfs L z hL
      exact ⟨hk, ⟨L, _, hf, hn, e, hd⟩, ih (fun b hb => hs b (by unfold frs; rw [List.filterMap_cons, hf]; exact List.mem_cons_of_mem _ hb)) hr⟩
  exact all X.outer (fun _ hb => hb) I.ok.funs

/-- the frames that run, for a call -/
theorem Inv.stack (I : Inv X pins σ H s) : s.heap.FunFrames X.base X.stack := by
  rcases I.ok.stk with e | ⟨e, hf⟩
  · rw [e]; exact I.funs
  · rw [e]
    obtain ⟨m, hn, _⟩ := I.loc
    refine .cons (by rw [I.ok.kind]; decide) hf hn ?_ I.funs
    exact Heap.get?_none_of_le (Nat.le_trans I.ok.bsz I.ok.above)
theorem Inv.stkSub (I : Inv X pins σ H s) : ∀ b ∈ frs X.stack, b ∈ X.env.locals :: X.fs := fun b hb => by
  rcases I.ok.stk with e | ⟨e, hf⟩
  · rw [e] at hb; exact List.mem_cons_of_mem _ hb
  · rw [e] at hb
    unfold frs at hb
    rw [List.filterMap_cons, hf] at hb
    exact hb
theorem Inv.stkFree (I : Inv X pins σ H s) : ∀ b ∈ frs X.stack, H b = none := fun b hb => by
  rcases List.mem_cons.mp (I.stkSub b hb) with e | hb
  · rw [e]; exact I.free
  · obtain ⟨_, o, ho, _⟩ := I.ok.funs.mem hb
    exact I.base.free b o ho (I.ok.frf b hb) fun z => I.ok.exfs b z hb

/-- THE STEP: the untracked objects but the frame and the records at ch are kept (the callers' frames up to slots), the frame's map is kept, the new abstract heap is held -/
theorem Inv.step {g' : Array GenState} {t' : Nat} {d' : Drawn} {ch : List Addr} (I : Inv X pins σ H s)
    (hch : ∀ b ∈ ch, (b ∈ X.ex ∨ X.s₀.heap.objs.size ≤ b) ∧ b ≠ X.env.locals ∧ (∀ x c, X.env.cells.lookup x = some c → c ≠ b) ∧ ∀ p ∈ X.pn ++ pins, p.1 ≠ b)
    (keep : ∀ b o, b ≠ X.env.locals → b ∉ X.fs → b ∉ ch → s.heap.get? b = some o → H b = none → h'.get? b = some o)
    (slot : ∀ b o, b ≠ X.env.locals → b ∈ X.fs → b ∉ ch → s.heap.get? b = some o → H b = none → ∃ sl, h'.get? b = some { o with slots := sl }) (free : ∀ b o, b ∉ ch → s.heap.get? b = some o → H b = none → H' b = none)
    (there : ∀ b o, b ∉ ch → s.heap.get? b = some o → ∃ o', h'.get? b = some o')
    (tups : ∀ b xs, H b = some (.tup xs) → H' b = some (.tup xs)) (frzs : ∀ b o u, H b = some (.frz o u) → H' b = some (.frz o u)) (tbls : ∀ b ps, H b = some (.tbl ps) → ∃ more, H' b = some (.tbl (ps ++ more)))
    (ns : ∀ m, s.heap.Ns X.env.locals m → h'.Ns X.env.locals m) (hok : HOk X.prog X.w H' h') (hg : AllBare g') :
    Inv X pins σ H' { s with heap := h', gens := g', drawn := d', toks := t' } := by
  have neL : ∀ b o, X.s₀.heap.get? b = some o → b ≠ X.env.locals := fun b o e => Nat.ne_of_lt (Nat.lt_of_lt_of_le (Heap.lt_size e) I.ok.above)
  have neC : ∀ b o, X.s₀.heap.get? b = some o → b ∉ X.ex → b ∉ ch := fun b o e hx hb => by
    rcases (hch b hb).1 with z | z
    · exact hx z
    · exact absurd (Nat.lt_of_lt_of_le (Heap.lt_size e) z) (Nat.lt_irrefl _)
  have cellK : ∀ x c, X.env.cells.lookup x = some c → ∀ v, s.heap.IsCell c v → h'.IsCell c v := fun x c e v ⟨o, ho, hd⟩ => by
    have nch : c ∉ ch := fun z => (hch c z).2.2.1 x c e rfl
    by_cases hc : c ∈ X.fs
    · obtain ⟨sl, q⟩ := slot c o (I.cne x c e) hc nch ho (I.freeC x c e)
      exact ⟨_, q, hd⟩
    · exact ⟨o, keep c o (I.cne x c e) hc nch ho (I.freeC x c e), hd⟩
  refine ⟨I.ok, I.os, hg, ⟨fun b o e n hb hx => ?_, fun b o e n hb hx => ?_, fun b o e n hx => ?_, fun b o e hx => ?_, fun b xs e => tups b xs (I.base.tups b xs e), fun b o xs e => frzs b o xs (I.base.frzs b o xs e), fun b ps e => ?_⟩, ?_, fun x c e => ?_, ?_, fun x c e => ?_, fun p hp => ?_, hok, I.len⟩
  · exact keep b o (neL b o e) hb (neC b o e hx) (I.base.keep b o e n hb hx) (I.base.free b o e n hx)
  · obtain ⟨sl, e1⟩ := I.base.slot b o e n hb hx
    obtain ⟨sl', e2⟩ := slot b _ (neL b o e) hb (neC b o e hx) e1 (I.base.free b o e n hx)
    exact ⟨sl', e2⟩
  · obtain ⟨o', e1⟩ := I.base.there b o e hx
    exact free b o' (neC b o e hx) e1 (I.base.free b o e n hx)
  · obtain ⟨o', e1⟩ := I.base.there b o e hx
    exact there b o' (neC b o e hx) e1
  · obtain ⟨m1, e1⟩ := I.base.tbls b ps e
    obtain ⟨m2, e2⟩ := tbls b _ e1
    exact ⟨m1 ++ m2, by rw [e2, Array.append_assoc]⟩
  · obtain ⟨m, hn, hl⟩ := I.loc
    refine ⟨m, ns m hn, fun i x v e1 e2 e3 => ?_⟩
    obtain ⟨u, r, l⟩ := hl i x v e1 e2 e3
    refine ⟨u, r, ?_⟩
    rcases l with l | ⟨k, c, e, z⟩
    · exact .inl l
    · exact .inr ⟨k, c, e, cellK x c e _ z⟩
  · obtain ⟨v, z⟩ := I.cell x c e
    exact ⟨v, cellK x c e v z⟩
  · obtain ⟨m, ⟨o, _, _, ho, _⟩, _⟩ := I.loc
    exact free _ o (fun z => (hch _ z).2.1 rfl) ho I.free
  · obtain ⟨v, o, ho, hd⟩ := I.cell x c e
    exact free c o (fun z => (hch c z).2.2.1 x c e rfl) ho (I.freeC x c e)
  · obtain ⟨e, n, ne, nf, d⟩ := I.pin p hp
    have nch : p.1 ∉ ch := fun z => (hch p.1 z).2.2.2 p hp rfl
    exact ⟨keep p.1 p.2 ne nf nch e n, free p.1 p.2 nch e n, ne, nf, d⟩
/-- .. where the frame's own object is kept too -/
theorem Inv.un {t' : Nat} (I : Inv X pins σ H s) (u : Un X.fs [] H H' s.heap h') (hok : HOk X.prog X.w H' h') : Inv X pins σ H' { s with heap := h', toks := t' } := by
  obtain ⟨m, ⟨o, es, ep, ho, r⟩, _⟩ := id I.loc
  obtain ⟨sl, hL⟩ := u.any ho I.free (by simp)
  exact I.step (g' := s.gens) (d' := s.drawn) (ch := []) (fun _ z => nomatch z) (fun b o _ hb _ e n => u.keep b o e n hb (by simp)) (fun b o _ hb _ e n => u.slot b o e n hb (by simp)) (fun b o _ e n => u.free b o e n (by simp)) (fun b o _ e => u.there b o e (by simp)) u.tups u.frzs u.tbls (fun m' hm => by
    obtain ⟨o', es', ep', ho', r'⟩ := hm
    rw [ho] at ho'; cases ho'
    exact ⟨_, es', ep', hL, r'⟩) hok I.bare
/-- behind a call (or a comprehension's block): the slots of this frame may have changed too, the records at ch may have turned -/
theorem Inv.call {g' : Array GenState} {t' : Nat} {d' : Drawn} {ch : List Addr} (I : Inv X pins σ H s) (u : Un (frs X.stack) ch H H' s.heap h') (hok : HOk X.prog X.w H' h') (hg : AllBare g')
    (hch : ∀ b ∈ ch, (b ∈ X.ex ∨ X.s₀.heap.objs.size ≤ b) ∧ b ≠ X.env.locals ∧ (∀ x c, X.env.cells.lookup x = some c → c ≠ b) ∧ ∀ p ∈ X.pn ++ pins, p.1 ≠ b) :
    Inv X pins σ H' { s with heap := h', gens := g', drawn := d', toks := t' } := by
  obtain ⟨m, ⟨o, es, ep, ho, r⟩, _⟩ := id I.loc
  obtain ⟨sl, hL⟩ := u.any ho I.free fun z => (hch _ z).2.1 rfl
  exact I.step (ch := ch) hch (fun b o hL hb hc e n => u.keep b o e n (fun z => (List.mem_cons.mp (I.stkSub b z)).elim hL hb) hc) (fun b o _ _ hc e n => u.any e n hc) (fun b o hc e n => u.free b o e n hc) (fun b o hc e => u.there b o e hc) u.tups u.frzs u.tbls (fun m' hm => by
    obtain ⟨o', es', ep', ho', r'⟩ := hm
    rw [ho] at ho'; cases ho'
    exact ⟨_, es', ep', hL, r'⟩) hok hg
/-- an untracked record of ours (an iterator) has turned -/
theorem Inv.turned {t' : Nat} {it : Addr} (I : Inv X pins σ H s) (k : ∀ b o, b ≠ it → s.heap.get? b = some o → h'.get? b = some o) (hn : H it = none) (hL : it ≠ X.env.locals)
    (h1 : it ∈ X.ex ∨ X.s₀.heap.objs.size ≤ it) (h2 : ∀ x c, X.env.cells.lookup x = some c → c ≠ it) (h3 : ∀ p ∈ X.pn ++ pins, p.1 ≠ it) : Inv X pins σ H { s with heap := h', toks := t' } := by
  have nit : ∀ b u, H b = some u → b ≠ it := fun b u e z => by rw [z, hn] at e; cases e
  refine I.step (g' := s.gens) (d' := s.drawn) (ch := [it]) (fun b hb => ?_) (fun b o _ _ hc e _ => k b o (fun z => hc (by simp [z])) e) (fun b o _ _ hc e _ => ⟨o.slots, k b o (fun z => hc (by simp [z])) e⟩) (fun _ _ _ _ n => n)
    (fun b o hc e => ⟨o, k b o (fun z => hc (by simp [z])) e⟩) (fun _ _ e => e) (fun _ _ _ e => e) (fun b ps e => ⟨#[], by rw [e]; simp⟩) (fun m hm => ?_) (fun b u e => ?_) I.bare
  · have e : b = it := by simpa using hb
    subst e
    exact ⟨h1, hL, h2, h3⟩
  · obtain ⟨o, es, ep, ho, r⟩ := hm
    exact ⟨o, es, ep, k _ o (Ne.symm hL) ho, r⟩
  · refine (I.hok b u e).stay (fun c v hc q => k c v ?_ q) (fun _ q => q) fun _ _ q => q
    rcases hc with z | z
    · rw [z]; exact nit b u e
    · exact nit c _ z
theorem Inv.tok (I : Inv X pins σ H s) (t : Nat) : Inv X pins σ H { s with toks := t } := I.un (h' := s.heap) (t' := t) Un.refl I.hok
/-- all objects kept -/
theorem Inv.kept {t' : Nat} (I : Inv X pins σ H s) (k : ∀ b u, s.heap.get? b = some u → h'.get? b = some u) : Inv X pins σ H { s with heap := h', toks := t' } := I.un (Un.kept k) (I.hok.kept k)
/-- a new object laid and tracked -/
theorem Inv.laid {a : Addr} {o : HO} {t' : Nat} (I : Inv X pins σ H s) (k : ∀ b u, s.heap.get? b = some u → h'.get? b = some u) (hp : s.heap.objs.size ≤ a) (new : ObjOk X.prog X.w (upd H a o) h' a o) :
    Inv X pins σ (upd H a o) { s with heap := h', toks := t' } := I.un (Un.laid k hp (I.hok.fresh hp)) (I.hok.laid k hp new)
/-- an object written -/
theorem Inv.write {x e : Addr} {o : HO} {t' : Nat} (I : Inv X pins σ H s) (mu : Mut (H x)) (he : e = x ∨ H e = some (.own x)) (k : ∀ b u, b ≠ e → s.heap.get? b = some u → h'.get? b = some u) (heo : ∃ u, h'.get? e = some u)
    (new : ObjOk X.prog X.w (upd H x o) h' x o) : Inv X pins σ (upd H x o) { s with heap := h', toks := t' } := I.un (Un.write mu he k heo) (I.hok.write mu he k heo new)
/-- forgetting slots, pins -/
theorem Inv.weak {σ' : List (Option V)} (I : Inv X pins σ H s) (hl : σ'.length = σ.length) (w : ∀ (i : Nat) v, σ'[i]? = some (some v) → σ[i]? = some (some v)) : Inv X pins σ' H s :=
  ⟨I.ok, I.os, I.bare, I.base, let ⟨m, hn, hl'⟩ := I.loc; ⟨m, hn, fun i x v e1 e2 e3 => hl' i x v e1 (w i v e2) e3⟩, I.cell, I.free, I.freeC, I.pin, I.hok, hl.trans I.len⟩
theorem Inv.pins_of {pins' : List (Addr × Obj)} (I : Inv X pins σ H s) (h : ∀ p ∈ pins', s.heap.get? p.1 = some p.2 ∧ H p.1 = none ∧ p.1 ≠ X.env.locals ∧ p.1 ∉ X.fs ∧ ∀ v, p.2.data ≠ .cell v) : Inv X pins' σ H s :=
  ⟨I.ok, I.os, I.bare, I.base, I.loc, I.cell, I.free, I.freeC, fun p hp => (List.mem_append.mp hp).elim (fun z => I.pin p (List.mem_append_left _ z)) (h p), I.hok, I.len⟩

theorem nodup_ix {N : List Str} (hN : N.Nodup) {i j : Nat} {x : Str} (a : N[i]? = some x) (b : N[j]? = some x) : i = j := by
  obtain ⟨h1, e1⟩ := List.getElem?_eq_some_iff.mp a
  obtain ⟨h2, e2⟩ := List.getElem?_eq_some_iff.mp b
  exact (List.getElem_inj hN).mp (e1.trans e2.symm)

/-- a name is stored; what changed -/
theorem store_ok2 {M : Model} {A : Around} {E : Value → Shared → Prop} {i : Nat} {x : Str} {v : V} {u : Value} {Q : Unit → Shared → Prop} (I : Inv X pins σ H s) (hN : X.N.Nodup) (hi : X.N[i]? = some x) (hx : Loc X.env.scope x) (r : RelV v u)
    (h : ∀ s', Inv X pins (σ.set i (some v)) H s' → (∃ a, Heap.SameBut a s.heap s'.heap ∧ (a = X.env.locals ∨ X.env.cells.lookup x = some a)) → Q () s') (hf : X.fn x = true ∨ X.env.scope.names.lookup x = some .local := by first | exact .inl rfl | exact .inr rfl | assumption) : wpAny M A (storeName X.env x u) Q E s := by
  obtain ⟨m, hn, hl⟩ := id I.loc
  have hcls : (X.env.scope.kind == .class || (X.env.scope.kind == .module && X.env.locals != X.env.globals)) = false := by rw [I.ok.kind]; rfl
  have hiσ : i < σ.length := by rw [I.len]; exact (List.getElem?_eq_some_iff.mp hi).1
  have cne := I.cne
  have tracked : ∀ {a : Addr} {h' : Heap}, (∃ o, s.heap.get? a = some o ∧ H a = none) → Heap.SameBut a s.heap h' → HOk X.prog X.w H h' := fun {a h'} ha hs b ob e => by
    obtain ⟨_, _, hfree⟩ := ha
    refine (I.hok b ob e).stay (fun c w' hc q => (hs.2 c ?_).trans q) (fun _ q => q) fun _ _ q => q
    rintro rfl
    rcases hc with rfl | hc
    · rw [hfree] at e; cases e
    · rw [hfree] at hc; cases hc
  rcases hx with hk | hk
  · refine wpAny_storeName_local hk hn (fun h' hn' hs => ?_) hcls
    obtain ⟨oL, _, _, hoL, _⟩ := id hn
    refine h _ ⟨I.ok, I.os, I.bare, ⟨fun b o e n hb hx => ?_, fun b o e n hb hx => ?_, I.base.free, fun b o e hx => ?_, I.base.tups, I.base.frzs, I.base.tbls⟩, ⟨_, hn', fun j y v' e1 e2 e3 => ?_⟩, fun y c e => ?_, I.free, I.freeC, fun p hp => ?_, tracked ⟨oL, hoL, I.free⟩ hs, by simpa using I.len⟩ ⟨_, hs, .inl rfl⟩
    · exact (hs.2 b (Nat.ne_of_lt (Nat.lt_of_lt_of_le (Heap.lt_size e) I.ok.above))).trans (I.base.keep b o e n hb hx)
    · obtain ⟨sl, e1⟩ := I.base.slot b o e n hb hx
      exact ⟨sl, (hs.2 b (Nat.ne_of_lt (Nat.lt_of_lt_of_le (Heap.lt_size e) I.ok.above))).trans e1⟩
    · obtain ⟨o', e1⟩ := I.base.there b o e hx
      exact ⟨o', (hs.2 b (Nat.ne_of_lt (Nat.lt_of_lt_of_le (Heap.lt_size e) I.ok.above))).trans e1⟩
    · by_cases hj : j = i
      · subst hj
        rw [hi] at e1; cases e1
        rw [List.getElem?_set_self hiσ] at e2
        cases e2
        exact ⟨u, r, .inl ⟨hk, by simp⟩⟩
      · rw [List.getElem?_set_ne (Ne.symm hj)] at e2
        obtain ⟨u', r', q⟩ := hl j y v' e1 e2 e3
        refine ⟨u', r', ?_⟩
        rcases q with ⟨k, e⟩ | ⟨k, c, e, z⟩
        · refine .inl ⟨k, ?_⟩
          have : y ≠ x := fun e => hj (nodup_ix hN e1 (e ▸ hi))
          simp [this, e]
        · exact .inr ⟨k, c, e, z.sameBut hs (cne y c e)⟩
    · obtain ⟨w', z⟩ := I.cell y c e
      exact ⟨w', z.sameBut hs (cne y c e)⟩
    · obtain ⟨e, n, ne, nf, d⟩ := I.pin p hp
      exact ⟨(hs.2 p.1 ne).trans e, n, ne, nf, d⟩
  · have hfn : X.fn x = true := by
      rcases hf with z | z
      · exact z
      · rw [z] at hk; cases hk
    obtain ⟨c, hc⟩ := I.ok.has x (.inl hk)
    obtain ⟨w', z⟩ := I.cell x c hc
    refine wpAny_storeName_cell I.ok.kind hk hc z (fun h' hc' hs => ?_)
    obtain ⟨oc, hoc, hocd⟩ := id z
    refine h { s with heap := h' } ⟨I.ok, I.os, I.bare, ⟨fun b o e n hb hx => ?_, fun b o e n hb hx => ?_, I.base.free, fun b o e hx => ?_, I.base.tups, I.base.frzs, I.base.tbls⟩, ⟨m, hn.sameBut hs (Ne.symm (cne x c hc)), fun j y v' e1 e2 e3 => ?_⟩, fun y c' e => ?_, I.free, I.freeC, fun p hp => ?_, tracked ⟨oc, hoc, I.freeC x c hc⟩ hs, by simpa using I.len⟩ ⟨c, hs, .inr hc⟩
    · exact (hs.2 b (Nat.ne_of_lt (Nat.lt_of_lt_of_le (Heap.lt_size e) (I.ok.cab x c hfn hc)))).trans (I.base.keep b o e n hb hx)
    · obtain ⟨sl, e1⟩ := I.base.slot b o e n hb hx
      exact ⟨sl, (hs.2 b (Nat.ne_of_lt (Nat.lt_of_lt_of_le (Heap.lt_size e) (I.ok.cab x c hfn hc)))).trans e1⟩
    · obtain ⟨o', e1⟩ := I.base.there b o e hx
      exact ⟨o', (hs.2 b (Nat.ne_of_lt (Nat.lt_of_lt_of_le (Heap.lt_size e) (I.ok.cab x c hfn hc)))).trans e1⟩
    · by_cases hj : j = i
      · subst hj
        rw [hi] at e1; cases e1
        rw [List.getElem?_set_self hiσ] at e2
        cases e2
        exact ⟨u, r, .inr ⟨.inl hk, c, hc, hc'⟩⟩
      · rw [List.getElem?_set_ne (Ne.symm hj)] at e2
        obtain ⟨u', r', q⟩ := hl j y v' e1 e2 e3
        refine ⟨u', r', ?_⟩
        rcases q with q | ⟨k, c', e, z'⟩
        · exact .inl q
        · refine .inr ⟨k, c', e, z'.sameBut hs ?_⟩
          rintro rfl
          exact hj (nodup_ix hN e1 (I.ok.inj _ _ _ e hc ▸ hi))
    · by_cases hcc : c' = c
      · subst hcc; exact ⟨_, hc'⟩
      · obtain ⟨w2, z2⟩ := I.cell y c' e
        exact ⟨w2, z2.sameBut hs hcc⟩
    · obtain ⟨e, n, ne, nf, d⟩ := I.pin p hp
      refine ⟨(hs.2 p.1 ?_).trans e, n, ne, nf, d⟩
      intro q
      rw [q, hoc] at e
      have q' : oc = p.2 := Option.some.inj e
      exact d w' (by rw [← q']; exact hocd)
theorem store_ok {M : Model} {A : Around} {E : Value → Shared → Prop} {i : Nat} {x : Str} {v : V} {u : Value} {Q : Unit → Shared → Prop} (I : Inv X pins σ H s) (hN : X.N.Nodup) (hi : X.N[i]? = some x) (hx : Loc X.env.scope x) (r : RelV v u)
    (h : ∀ s', Inv X pins (σ.set i (some v)) H s' → Q () s') (hf : X.fn x = true ∨ X.env.scope.names.lookup x = some .local := by first | exact .inl rfl | exact .inr rfl | assumption) : wpAny M A (storeName X.env x u) Q E s :=
  store_ok2 I hN hi hx r (fun s' I' _ => h s' I') hf
/-- behind a call or a block, the state as it is -/
theorem Inv.call' {s' : Shared} {ch : List Addr} (I : Inv X pins σ H s) (ho : s'.os = s.os) (u : Un (frs X.stack) ch H H' s.heap s'.heap) (hok : HOk X.prog X.w H' s'.heap) (hg : AllBare s'.gens)
    (hch : ∀ b ∈ ch, (b ∈ X.ex ∨ X.s₀.heap.objs.size ≤ b) ∧ b ≠ X.env.locals ∧ (∀ x c, X.env.cells.lookup x = some c → c ≠ b) ∧ ∀ p ∈ X.pn ++ pins, p.1 ≠ b) : Inv X pins σ H' s' := by
  obtain ⟨h', g', d', t', o'⟩ := s'
  have e : o' = s.os := ho
  subst e
  exact I.call (g' := g') (t' := t') (d' := d') u hok hg hch
end

/-! ### the judgements -/
/-- an exception: its class, its own dict's address (where it has one), the abstract heap behind it -/
abbrev XK := Value → Option Addr → Hp → Prop
abbrev St := List (Option V)
abbrev VK := V → Hp → Prop
/-- an expression's reading; a test's; an argument list's -/
abbrev TE := St → Hp → VK → Prop
abbrev TT := St → Hp → (Bool → Hp → Prop) → Prop
abbrev TA := St → Hp → (List V → Hp → Prop) → Prop
/-- what is wanted behind a statement -/
structure Ends where
  nx : St → Hp → Prop
  rt : VK
  bk : St → Hp → Prop := fun _ _ => False
  ct : St → Hp → Prop := fun _ _ => False
abbrev TS := Ends → St → Hp → Prop

def EP (X : Cx) (pins : List (Addr × Obj)) (σ : St) (Q : VK) (u : Value) (s' : Shared) : Prop := ∃ v H', Inv X pins σ H' s' ∧ RelV v u ∧ Q v H'
def TP (X : Cx) (pins : List (Addr × Obj)) (σ : St) (Q : Bool → Hp → Prop) (b : Bool) (s' : Shared) : Prop := ∃ H', Inv X pins σ H' s' ∧ Q b H'
def AP (X : Cx) (pins : List (Addr × Obj)) (σ : St) (Q : List V → Hp → Prop) (us : List Value) (s' : Shared) : Prop := ∃ vs H', Inv X pins σ H' s' ∧ Vals vs us ∧ Q vs H'
def SP (X : Cx) (pins : List (Addr × Obj)) (D : Ends) (f : Flow) (s' : Shared) : Prop :=
  match f with
  | .next => ∃ σ' H', Inv X pins σ' H' s' ∧ D.nx σ' H'
  | .brk => ∃ σ' H', Inv X pins σ' H' s' ∧ D.bk σ' H'
  | .cont => ∃ σ' H', Inv X pins σ' H' s' ∧ D.ct σ' H'
  | .ret u => ∃ v σ' H', Inv X pins σ' H' s' ∧ RelV v u ∧ D.rt v H'

def PE (X : Cx) (e : Expr) (t : TE) : Prop :=
  ∀ (pins : List (Addr × Obj)) (s : Shared) (σ : St) (H : Hp) (Q : VK), Inv X pins σ H s → t σ H Q → wpAny (model X.prog X.w) X.A (eval e X.env) (EP X pins σ Q) X.xe s
def PT (X : Cx) (e : Expr) (t : TT) : Prop :=
  ∀ (pins : List (Addr × Obj)) (s : Shared) (σ : St) (H : Hp) (Q : Bool → Hp → Prop), Inv X pins σ H s → t σ H Q → wpAny (model X.prog X.w) X.A (isTrue e X.env (eval e X.env)) (TP X pins σ Q) X.xe s
/-- a test whatever its 'whole' is (and, or) -/
def PW (X : Cx) (e : Expr) (t : TT) : Prop :=
  ∀ (whole : Sem Value) (pins : List (Addr × Obj)) (s : Shared) (σ : St) (H : Hp) (Q : Bool → Hp → Prop), Inv X pins σ H s → t σ H Q → wpAny (model X.prog X.w) X.A (isTrue e X.env whole) (TP X pins σ Q) X.xe s
theorem PW.pt {X : Cx} {e : Expr} {t : TT} (h : PW X e t) : PT X e t := h _
/-- an argument list (no star), from the left -/
def PA (X : Cx) (es : List Expr) (t : TA) : Prop :=
  ∀ (pos : Pos) (pins : List (Addr × Obj)) (s : Shared) (σ : St) (H : Hp) (Q : List V → Hp → Prop), Inv X pins σ H s → t σ H Q → wpAny (model X.prog X.w) X.A (spliced (backTo pos (starEach es X.env))) (AP X pins σ Q) X.xe s
def PS (X : Cx) (st : Stmt) (t : TS) : Prop :=
  ∀ (pins : List (Addr × Obj)) (s : Shared) (σ : St) (H : Hp) (D : Ends), Inv X pins σ H s → t D σ H → wpAny (model X.prog X.w) X.A (exec st X.env) (SP X pins D) X.xe s
def PSs (X : Cx) (st : List Stmt) (t : TS) : Prop :=
  ∀ (pins : List (Addr × Obj)) (s : Shared) (σ : St) (H : Hp) (D : Ends), Inv X pins σ H s → t D σ H → wpAny (model X.prog X.w) X.A (execs st X.env) (SP X pins D) X.xe s
/-- weaken the end -/
theorem thn {α : Type} {t : Sem α} {Q Q' : α → Shared → Prop} {M : Model} {A : Around} {E : Value → Shared → Prop} {s : Shared} (h : wpAny M A t Q E s) (hQ : ∀ a s, Q a s → Q' a s) : wpAny M A t Q' E s := wpAny_mono h hQ fun _ _ x => x
end L2

namespace L2
open PySem PySem.Spec PyProof.Rows
section
variable {X : Cx}

/-- two expressions in a row -/
theorem bin {a b : Expr} {ta tb : TE} (ha : PE X a ta) (hb : PE X b tb) {pins : List (Addr × Obj)} {s : Shared} {σ : St} {H : Hp} {R : V → V → Hp → Prop} (I : Inv X pins σ H s) (h : ta σ H fun x H1 => tb σ H1 fun y H2 => R x y H2)
    {α : Type} {Q : α → Shared → Prop} {f : Value → Value → Sem α}
    (hf : ∀ v u s2 x y H2, Inv X pins σ H2 s2 → RelV x v → RelV y u → R x y H2 → wpAny (model X.prog X.w) X.A (f v u) Q X.xe s2) :
    wpAny (model X.prog X.w) X.A (eval a X.env) (fun v s₁ => wpAny (model X.prog X.w) X.A (eval b X.env) (fun u s₂ => wpAny (model X.prog X.w) X.A (f v u) Q X.xe s₂) X.xe s₁) X.xe s := by
  refine thn (ha pins s σ H _ I h) fun v s1 ⟨x, H1, I1, r1, q1⟩ => ?_
  refine thn (hb pins s1 σ H1 _ I1 q1) fun u s2 ⟨y, H2, I2, r2, q2⟩ => ?_
  exact hf v u s2 x y H2 I2 r1 r2 q2

/-! ### names and constants -/
def tVar (i : Nat) : TE := fun σ H Q => ∃ v, σ[i]? = some (some v) ∧ Q v H
def tC (v : V) : TE := fun _ H Q => Q v H
theorem pe_var {i : Nat} {x : Str} {pos : Pos} (hN : X.N[i]? = some x) (hv : Vis X.env.scope x) (hd : (x == ("__debug__" : Str)) = false := by decide) (hcd : (x == ("__classdict__" : Str)) = false := by decide) : PE X (.Name x pos) (tVar i) := by
  intro pins s σ H Q I h
  obtain ⟨v, e, h⟩ := h
  obtain ⟨m, hn, hl⟩ := I.loc
  obtain ⟨u, r, l⟩ := hl i x v hN e hv
  have fin : EP X pins σ Q u s := ⟨v, H, I, r, h⟩
  rcases l with ⟨hk, hm⟩ | ⟨hk, c, hc, hcell⟩
  · exact wpAny_Name (wpAny_loadName_local I.ok.kind hk hn hm fin) hd
  · rcases hk with hk | hk
    · exact wpAny_Name (wpAny_loadName_cell I.ok.kind hk hc hcell fin) hd
    · exact wpAny_Name (wpAny_loadName_free I.ok.kind hk hc hcell fin hcd) hd
theorem pe_int {i j pos} : PE X (.Constant (.int i) j pos) (tC (.int i)) := fun _ _ _ H _ I h => wpAny_Constant_int ⟨.int i, H, I.tok _, ⟨_, rfl⟩, h⟩
theorem pe_bl {b j pos} : PE X (.Constant (.bool b) j pos) (tC (.bl b)) := fun _ _ _ H _ I h => Constant_bool ⟨.bl b, H, I, rfl, h⟩
theorem pe_non {j pos} : PE X (.Constant .none j pos) (tC .non) := fun _ _ _ H _ I h => Constant_none ⟨.non, H, I, rfl, h⟩
theorem pe_str {x j pos} : PE X (.Constant (.str x) j pos) (tC (.str x)) := fun _ _ _ H _ I h => Calls.Constant_str ⟨.str x, H, I.tok _, ⟨_, rfl⟩, h⟩

/-- a global name of the def -/
def Gl (X : Cx) (x : Str) : Prop := X.env.kindOf x = some .globalImplicit
theorem ld_glob {E : Value → Shared → Prop} {pins : List (Addr × Obj)} {s : Shared} {σ : St} {H : Hp} {x : Str} {u : Value} {pos : Pos} {Q : Value → Shared → Prop} (I : Inv X pins σ H s) (hg : Gl X x) (hm : X.mg x = some u) (h : Q u s)
    (hd : (x == ("__debug__" : Str)) = false := by decide) : wpAny (model X.prog X.w) X.A (eval (.Name x pos) X.env) Q E s :=
  Calls.Name_function_global I.ok.kind hg (Calls.loadGlobal_global (by rw [I.ok.glob]; exact I.mod.glob.keeps I.bk) hm h) hd
theorem ld_blt {E : Value → Shared → Prop} {pins : List (Addr × Obj)} {s : Shared} {σ : St} {H : Hp} {x : Str} {u : Value} {pos : Pos} {Q : Value → Shared → Prop} (I : Inv X pins σ H s) (hg : Gl X x) (hm : X.mg x = none) (hv : bootBuiltins x = some u) (h : Q u s)
    (hn : x ≠ "__name__" := by decide) (hd : (x == ("__debug__" : Str)) = false := by decide) : wpAny (model X.prog X.w) X.A (eval (.Name x pos) X.env) Q E s := by
  obtain ⟨mb, h1, h2⟩ := I.mod.blt
  exact Calls.Name_function_global I.ok.kind hg (Calls.loadGlobal_builtin (by rw [I.ok.glob]; exact I.mod.glob.keeps I.bk) hm (by rw [I.ok.blt]; exact h1.keeps I.bk) ((h2 x hn).trans hv) h) hd
/-- a module's constant, a class, a function, as a value -/
theorem pe_glob {x : Str} {v : V} {u : Value} {pos : Pos} (hg : Gl X x) (hm : X.mg x = some u) (r : RelV v u) (hd : (x == ("__debug__" : Str)) = false := by decide) : PE X (.Name x pos) (tC v) :=
  fun _ _ _ H _ I h => ld_glob I hg hm ⟨v, H, I, r, h⟩ hd
theorem pe_bltn {x : Str} {v : V} {u : Value} {pos : Pos} (hg : Gl X x) (hm : X.mg x = none) (hv : bootBuiltins x = some u) (r : RelV v u) (hn : x ≠ "__name__" := by decide) (hd : (x == ("__debug__" : Str)) = false := by decide) : PE X (.Name x pos) (tC v) :=
  fun _ _ _ H _ I h => ld_blt I hg hm hv ⟨v, H, I, r, h⟩ hn hd

/-! ### arithmetic -/
/-- two ints -/
def t2I (ta tb : TE) (k : Int → Int → Hp → Prop) : St → Hp → Prop := fun σ H => ta σ H fun x H1 => tb σ H1 fun y H2 => ∃ i j, x = .int i ∧ y = .int j ∧ k i j H2
def tAdd (ta tb : TE) : TE := fun σ H Q => t2I ta tb (fun i j H2 => Q (.int (i + j)) H2) σ H
def tSub (ta tb : TE) : TE := fun σ H Q => t2I ta tb (fun i j H2 => Q (.int (i - j)) H2) σ H
/-- the left factor below 2^64 -/
def tMul (ta tb : TE) : TE := fun σ H Q => t2I ta tb (fun i j H2 => (-(2 ^ 64) < i ∧ i < 2 ^ 64) ∧ Q (.int (i * j)) H2) σ H
variable {a b : Expr} {ta tb : TE} {pos : Pos}
theorem pe_add (ha : PE X a ta) (hb : PE X b tb) : PE X (.BinOp a .Add b pos) (tAdd ta tb) := by
  intro pins s σ H Q I h
  refine wpAny_BinOp (bin ha hb I h fun v u s2 x y H2 I2 rx ry q => ?_)
  obtain ⟨i, j, rfl, rfl, q⟩ := q
  obtain ⟨t, rfl⟩ := rx
  obtain ⟨t', rfl⟩ := ry
  exact add_int ⟨.int _, H2, I2.tok _, ⟨_, rfl⟩, q⟩
theorem pe_sub (ha : PE X a ta) (hb : PE X b tb) : PE X (.BinOp a .Sub b pos) (tSub ta tb) := by
  intro pins s σ H Q I h
  refine wpAny_BinOp (bin ha hb I h fun v u s2 x y H2 I2 rx ry q => ?_)
  obtain ⟨i, j, rfl, rfl, q⟩ := q
  obtain ⟨t, rfl⟩ := rx
  obtain ⟨t', rfl⟩ := ry
  exact sub_int ⟨.int _, H2, I2.tok _, ⟨_, rfl⟩, q⟩
theorem pe_mul (ha : PE X a ta) (hb : PE X b tb) : PE X (.BinOp a .Mult b pos) (tMul ta tb) := by
  intro pins s σ H Q I h
  refine wpAny_BinOp (bin ha hb I h fun v u s2 x y H2 I2 rx ry q => ?_)
  obtain ⟨i, j, rfl, rfl, ⟨q1, q2⟩, q⟩ := q
  obtain ⟨t, rfl⟩ := rx
  obtain ⟨t', rfl⟩ := ry
  exact mul_int ⟨.int _, H2, I2.tok _, ⟨_, rfl⟩, q⟩ (.of_left (intBits_le_64 q1 q2))

/-! ### comparisons -/
def PC (X : Cx) (op : CmpOp) (a b : Expr) (t : TE) : Prop :=
  ∀ (pins : List (Addr × Obj)) (s : Shared) (σ : St) (H : Hp) (Q : VK), Inv X pins σ H s → t σ H Q →
    wpAny (model X.prog X.w) X.A (eval a X.env) (fun v s₁ => wpAny (model X.prog X.w) X.A (eval b X.env) (fun u s₂ => wpAny (model X.prog X.w) X.A (compareOp op v u) (EP X pins σ Q) X.xe s₂) X.xe s₁) X.xe s
theorem nobehind (b : Expr) {op : CmpOp} (h : op ≠ .In) (h2 : op ≠ .NotIn) : behindInMarks op b = false := by
  have e1 : (op == CmpOp.In) = false := by cases op <;> first | rfl | exact absurd rfl h
  have e2 : (op == CmpOp.NotIn) = false := by cases op <;> first | rfl | exact absurd rfl h2
  cases b <;> simp [behindInMarks, e1, e2]
def tCmp (p : Int → Int → Bool) (ta tb : TE) : TE := fun σ H Q => t2I ta tb (fun i j H2 => Q (.bl (p i j)) H2) σ H
abbrev tLt : TE → TE → TE := tCmp fun i j => decide (i < j)
abbrev tLe : TE → TE → TE := tCmp fun i j => decide (i ≤ j)
abbrev tGt : TE → TE → TE := tCmp fun i j => decide (j < i)
abbrev tGe : TE → TE → TE := tCmp fun i j => decide (j ≤ i)
abbrev tEqI : TE → TE → TE := tCmp fun i j => decide (i = j)
abbrev tNeI : TE → TE → TE := tCmp fun i j => !decide (i = j)
/-- a comparison of two ints, by its rule -/
theorem pc_int {op : CmpOp} {p : Int → Int → Bool} (ha : PE X a ta) (hb : PE X b tb)
    (rule : ∀ (i j : Int) (t u : Tok) (Q : Value → Shared → Prop) (s : Shared), Q (.bool (p i j)) s → wpAny (model X.prog X.w) X.A (compareOp op (.int i t) (.int j u)) Q X.xe s) : PC X op a b (tCmp p ta tb) := by
  intro pins s σ H Q I h
  refine bin ha hb I h fun v u s2 x y H2 I2 rx ry q => ?_
  obtain ⟨i, j, rfl, rfl, q⟩ := q
  obtain ⟨t, rfl⟩ := rx
  obtain ⟨t', rfl⟩ := ry
  exact rule i j t t' _ s2 ⟨.bl _, H2, I2, rfl, q⟩
theorem pc_lt (ha : PE X a ta) (hb : PE X b tb) : PC X .Lt a b (tLt ta tb) := pc_int ha hb fun _ _ _ _ _ _ h => lt_int h
theorem pc_le (ha : PE X a ta) (hb : PE X b tb) : PC X .LtE a b (tLe ta tb) := pc_int ha hb fun _ _ _ _ _ _ h => le_int h
theorem pc_gt (ha : PE X a ta) (hb : PE X b tb) : PC X .Gt a b (tGt ta tb) := pc_int ha hb fun _ _ _ _ _ _ h => gt_int h
theorem pc_ge (ha : PE X a ta) (hb : PE X b tb) : PC X .GtE a b (tGe ta tb) := pc_int ha hb fun _ _ _ _ _ _ h => ge_int h
theorem pc_eqI (ha : PE X a ta) (hb : PE X b tb) : PC X .Eq a b (tEqI ta tb) := pc_int ha hb fun _ _ _ _ _ _ h => eq_int (by rw [Bool.beq_eq_decide_eq]; exact h)
theorem pc_neI (ha : PE X a ta) (hb : PE X b tb) : PC X .NotEq a b (tNeI ta tb) := pc_int ha hb fun _ _ _ _ _ _ h => ne_int (by rw [bne, Bool.beq_eq_decide_eq]; exact h)
/-- is None -/
def tIsN (ta : TE) : TE := fun σ H Q => ta σ H fun x H1 => Q (.bl (decide (x = .non))) H1
def tNotN (ta : TE) : TE := fun σ H Q => ta σ H fun x H1 => Q (.bl (!decide (x = .non))) H1
theorem RelV.none_iff {x : V} {v : Value} (r : RelV x v) : (v == Value.none) = decide (x = .non) := by
  cases x with
  | non => cases r; rfl
  | bl _ => cases r; rfl
  | int _ => obtain ⟨t, rfl⟩ := r; rfl
  | str _ => obtain ⟨t, rfl⟩ := r; rfl
  | byt _ => obtain ⟨t, rfl⟩ := r; rfl
  | flt _ => obtain ⟨t, rfl⟩ := r; rfl
  | ref _ => cases r; rfl
  | ty _ => cases r; rfl
theorem pc_isN {j pos'} (ha : PE X a ta) : PC X .Is a (.Constant .none j pos') (tIsN ta) := by
  intro pins s σ H Q I h
  refine thn (ha pins s σ H _ I h) fun v s1 ⟨x, H1, I1, r1, q1⟩ => ?_
  exact Constant_none (is_none_gen ⟨.bl _, H1, I1, by rw [r1.none_iff]; rfl, q1⟩)
theorem pc_notN {j pos'} (ha : PE X a ta) : PC X .IsNot a (.Constant .none j pos') (tNotN ta) := by
  intro pins s σ H Q I h
  refine thn (ha pins s σ H _ I h) fun v s1 ⟨x, H1, I1, r1, q1⟩ => ?_
  exact Constant_none (isnot_none_gen ⟨.bl _, H1, I1, by rw [r1.none_iff]; rfl, q1⟩)
/-- a comparison as a value, as a test -/
def tB (t : TE) : TT := fun σ H Q => t σ H fun x H1 => ∃ c, x = .bl c ∧ Q c H1
theorem pe_cmp {op : CmpOp} {t : TE} (h : PC X op a b t) (h1 : behindInMarks op b = false := by first | exact nobehind _ (by decide) (by decide) | rfl) : PE X (.Compare a [op] [b] pos) t := fun pins s σ H Q I hw => wpAny_Compare1 (h pins s σ H Q I hw) h1
theorem pt_cmp {op : CmpOp} {t : TE} (h : PC X op a b t) (h1 : behindInMarks op b = false := by first | exact nobehind _ (by decide) (by decide) | rfl) : PT X (.Compare a [op] [b] pos) (tB t) := by
  intro pins s σ H Q I hw
  refine wpAny_isTrue_Compare1 (thn (h pins s σ H _ I hw) fun v s1 h1 => thn h1 fun u s2 h2 => thn h2 fun c s3 ⟨x, H1, I1, r1, q1⟩ => ?_) h1
  obtain ⟨d, rfl, q⟩ := q1
  cases r1
  exact wpAny_truthy_bool ⟨H1, I1, q⟩
/-- an expression whose value is a bool, as a test -/
theorem pt_val {e : Expr} {t : TE} (h : PE X e t) (he : ∀ whole, isTrue e X.env whole = (do let v ← whole; standAt e.pos; holding [v] (truthy v)) := by intro _; rfl) : PT X e (tB t) := by
  intro pins s σ H Q I hw
  refine isTrue_plain (thn (h pins s σ H _ I hw) fun v s1 ⟨x, H1, I1, r1, q1⟩ => ?_) (he _)
  obtain ⟨d, rfl, q⟩ := q1
  cases r1
  exact wpAny_truthy_bool ⟨H1, I1, q⟩

/-! ### and, or, not -/
variable {tA tB' : TT} {rest : List Expr}
def tAnd (t u : TT) : TT := fun σ H Q => t σ H fun c H1 => if c = true then u σ H1 Q else Q false H1
def tOr (t u : TT) : TT := fun σ H Q => t σ H fun c H1 => if c = true then Q true H1 else u σ H1 Q
def tNot (t : TT) : TT := fun σ H Q => t σ H fun c H1 => Q (!c) H1
theorem pw_and1 (ha : PT X a tA) : PW X (.BoolOp .And [a] pos) tA := by
  intro wh pins s σ H Q I h
  refine isTrue_and (thn (ha pins s σ H Q I h) fun c s1 e => ?_)
  cases c with
  | true => exact isTrue_and_nil e
  | false => exact e
theorem pw_or1 (ha : PT X a tA) : PW X (.BoolOp .Or [a] pos) tA := by
  intro wh pins s σ H Q I h
  refine isTrue_or (thn (ha pins s σ H Q I h) fun c s1 e => ?_)
  cases c with
  | false => exact isTrue_or_nil e
  | true => exact e
theorem pw_and (ha : PT X a tA) (hb : PW X (.BoolOp .And (b :: rest) pos) tB') : PW X (.BoolOp .And (a :: b :: rest) pos) (tAnd tA tB') := by
  intro wh pins s σ H Q I h
  refine isTrue_and (thn (ha pins s σ H _ I h) fun c s1 ⟨H1, I1, q1⟩ => ?_)
  cases c with
  | true => exact hb wh pins s1 σ H1 Q I1 q1
  | false => exact ⟨H1, I1, q1⟩
theorem pw_or (ha : PT X a tA) (hb : PW X (.BoolOp .Or (b :: rest) pos) tB') : PW X (.BoolOp .Or (a :: b :: rest) pos) (tOr tA tB') := by
  intro wh pins s σ H Q I h
  refine isTrue_or (thn (ha pins s σ H _ I h) fun c s1 ⟨H1, I1, q1⟩ => ?_)
  cases c with
  | true => exact ⟨H1, I1, q1⟩
  | false => exact hb wh pins s1 σ H1 Q I1 q1
theorem pt_not (ha : PT X a tA) : PT X (.UnaryOp .Not a pos) (tNot tA) := by
  intro pins s σ H Q I h
  exact isTrue_not (ha pins s σ H (fun c H1 => Q (!c) H1) I h)
/-- .. as values (bools) -/
def tAndV (ta tb : TE) : TE := fun σ H Q => ta σ H fun x H1 => ∃ c, x = .bl c ∧ if c = true then tb σ H1 Q else Q (.bl false) H1
def tOrV (ta tb : TE) : TE := fun σ H Q => ta σ H fun x H1 => ∃ c, x = .bl c ∧ if c = true then Q (.bl true) H1 else tb σ H1 Q
def tNotV (ta : TE) : TE := fun σ H Q => ta σ H fun x H1 => ∃ c, x = .bl c ∧ Q (.bl (!c)) H1
theorem pe_one {op} {t : TE} (h : PE X a t) : PE X (.BoolOp op [a] pos) t := fun pins s σ H Q I hw => BoolOp_one (h pins s σ H Q I hw)
theorem pe_and (ha : PE X a ta) (hb : PE X (.BoolOp .And (b :: rest) pos) tb) : PE X (.BoolOp .And (a :: b :: rest) pos) (tAndV ta tb) := by
  intro pins s σ H Q I h
  refine BoolOp_and (thn (ha pins s σ H _ I h) fun v s1 ⟨x, H1, I1, r1, q1⟩ => ?_)
  obtain ⟨c, rfl, q1⟩ := q1
  cases r1
  refine wpAny_truthy_bool ?_
  cases c with
  | true => exact hb pins s1 σ H1 Q I1 q1
  | false => exact ⟨.bl false, H1, I1, rfl, q1⟩
theorem pe_or (ha : PE X a ta) (hb : PE X (.BoolOp .Or (b :: rest) pos) tb) : PE X (.BoolOp .Or (a :: b :: rest) pos) (tOrV ta tb) := by
  intro pins s σ H Q I h
  refine BoolOp_or (thn (ha pins s σ H _ I h) fun v s1 ⟨x, H1, I1, r1, q1⟩ => ?_)
  obtain ⟨c, rfl, q1⟩ := q1
  cases r1
  refine wpAny_truthy_bool ?_
  cases c with
  | false => exact hb pins s1 σ H1 Q I1 q1
  | true => exact ⟨.bl true, H1, I1, rfl, q1⟩
theorem pe_not (ha : PE X a ta) : PE X (.UnaryOp .Not a pos) (tNotV ta) := by
  intro pins s σ H Q I h
  refine UnaryOp_ (thn (ha pins s σ H _ I h) fun v s1 ⟨x, H1, I1, r1, q1⟩ => ?_)
  obtain ⟨c, rfl, q1⟩ := q1
  cases r1
  exact not_of (wpAny_truthy_bool ⟨.bl (!c), H1, I1, rfl, q1⟩)
/-- a if t else b -/
def tIf (t : TT) (ta tb : TE) : TE := fun σ H Q => t σ H fun c H1 => if c = true then ta σ H1 Q else tb σ H1 Q
theorem pe_ifExp {c : Expr} (hc : PT X c tA) (ha : PE X a ta) (hb : PE X b tb) : PE X (.IfExp c a b pos) (tIf tA ta tb) := by
  intro pins s σ H Q I h
  refine wpAny_IfExp (thn (hc pins s σ H _ I h) fun d s1 ⟨H1, I1, q1⟩ => ?_)
  cases d with
  | true => exact ha pins s1 σ H1 Q I1 q1
  | false => exact hb pins s1 σ H1 Q I1 q1
end
end L2

namespace L2
open PySem PySem.Spec PyProof.Rows

/-! ### a list, a tuple that is read: tracked, frozen, or an object of the module -/
def SqL (K : PySem.W.Frag) (H : Hp) (a : Addr) (xs : List V) : Prop :=
  Rd H a (.lst xs) ∨
    ∃ (o : Obj) (its : Array Value) (n : Nat), K.lookup a = some o ∧ o.cls = .type "list" ∧ o.dict = none ∧ o.data = .seq its n ∧ its.size ≤ sizeLine ∧ Vals xs its.toList
def SqT (K : PySem.W.Frag) (H : Hp) (a : Addr) (xs : List V) : Prop :=
  Rd H a (.tup xs) ∨
    ∃ (o : Obj) (its : Array Value) (n : Nat), K.lookup a = some o ∧ o.cls = .type "tuple" ∧ o.data = .seq its n ∧ its.size ≤ sizeLine ∧ Vals xs its.toList
def absV : Value → Option V
  | .none => some .non
  | .bool b => some (.bl b)
  | .int i _ => some (.int i)
  | .str x _ => some (.str x)
  | .bytes b _ => some (.byt b)
  | .float b _ => some (.flt b)
  | .ref a => some (.ref a)
  | .type n => some (.ty n)
  | _ => none
theorem RelV.abs {x : V} {u : Value} (r : RelV x u) : absV u = some x := by
  cases x with
  | non => cases r; rfl
  | bl _ => cases r; rfl
  | int _ => obtain ⟨t, rfl⟩ := r; rfl
  | str _ => obtain ⟨t, rfl⟩ := r; rfl
  | byt _ => obtain ⟨t, rfl⟩ := r; rfl
  | flt _ => obtain ⟨t, rfl⟩ := r; rfl
  | ref _ => cases r; rfl
  | ty _ => cases r; rfl
theorem RelV.inj {x y : V} {u : Value} (r : RelV x u) (q : RelV y u) : x = y := Option.some.inj (r.abs.symm.trans q.abs)
theorem Vals.inj : ∀ {xs ys : List V} {us : List Value}, Vals xs us → Vals ys us → xs = ys
  | _, _, _, .nil, .nil => rfl
  | _, _, _, .cons r t, .cons r' t' => by rw [r.inj r', Vals.inj t t']
section
variable {X : Cx} {pins : List (Addr × Obj)} {σ : St} {H : Hp} {s : Shared} {a : Addr} {xs ys : List V}
theorem SqL.of {K : PySem.W.Frag} (h : H a = some (.lst xs)) : SqL K H a xs := .inl (.inl h)
theorem SqT.of {K : PySem.W.Frag} (h : H a = some (.tup xs)) : SqT K H a xs := .inl (.inl h)
theorem Inv.list (I : Inv X pins σ H s) (h : SqL X.K H a xs) : ∃ its : List Value, Vals xs its ∧ PlainL s.heap a its.toArray ∧ xs.length ≤ sizeLine := by
  rcases h with h | ⟨o, its, n, hk, hc, hd, hs, hz, r⟩
  · obtain ⟨z, its, n, r, e⟩ := h.ok I.hok
    exact ⟨its, r, ⟨_, n, e, rfl, rfl, rfl⟩, z⟩
  · refine ⟨its.toList, r, ⟨o, n, I.kIn a o hk, hc, hd, by simpa using hs⟩, ?_⟩
    have e := r.length
    simp only [Array.length_toList] at e
    omega
theorem Inv.tuple (I : Inv X pins σ H s) (h : SqT X.K H a xs) : ∃ its : List Value, Vals xs its ∧ IsTup s.heap a its.toArray ∧ xs.length ≤ sizeLine := by
  rcases h with h | ⟨o, its, n, hk, hc, hs, hz, r⟩
  · obtain ⟨z, its, r, p, _⟩ := h.ok I.hok
    exact ⟨its, r, p, z⟩
  · refine ⟨its.toList, r, ⟨o, I.kIn a o hk, hc, n, by simpa using hs⟩, ?_⟩
    have e := r.length
    simp only [Array.length_toList] at e
    omega
theorem Inv.list_inj (I : Inv X pins σ H s) (h : SqL X.K H a xs) (h' : SqL X.K H a ys) : xs = ys := by
  obtain ⟨its, r, ⟨o, n, e, _, _, d⟩, _⟩ := I.list h
  obtain ⟨its', r', ⟨o', n', e', _, _, d'⟩, _⟩ := I.list h'
  rw [e] at e'; cases e'
  rw [d] at d'
  injection d' with d1 _
  have : its = its' := by simpa using congrArg Array.toList d1
  subst this
  exact r.inj r'
theorem Inv.tuple_inj (I : Inv X pins σ H s) (h : SqT X.K H a xs) (h' : SqT X.K H a ys) : xs = ys := by
  obtain ⟨its, r, ⟨o, e, _, n, d⟩, _⟩ := I.tuple h
  obtain ⟨its', r', ⟨o', e', _, n', d'⟩, _⟩ := I.tuple h'
  rw [e] at e'; cases e'
  rw [d] at d'
  injection d' with d1 _
  have : its = its' := by simpa using congrArg Array.toList d1
  subst this
  exact r.inj r'
end

/-! ### another wish about exceptions -/
abbrev Cx.wish (X : Cx) (E : Value → Shared → Prop) : Cx := { X with xe := E }
/-- no exception leaves -/
abbrev Cx.nox (X : Cx) : Cx := X.wish fun _ _ => False
theorem Cx.Ok.wish {X : Cx} (ok : X.Ok) (E : Value → Shared → Prop) : (X.wish E).Ok :=
  ⟨ok.mod, ok.kind, ok.glob, ok.blt, ok.above, ok.inj, ok.has, ok.cab, ok.hd, ok.frames, ok.stk, ok.exf, ok.bs, ok.bsz, ok.noex, ok.exfs, ok.funs, ok.frf⟩
theorem Cx.Ok.unwish {X : Cx} {E : Value → Shared → Prop} (ok : (X.wish E).Ok) : X.Ok :=
  ⟨ok.mod, ok.kind, ok.glob, ok.blt, ok.above, ok.inj, ok.has, ok.cab, ok.hd, ok.frames, ok.stk, ok.exf, ok.bs, ok.bsz, ok.noex, ok.exfs, ok.funs, ok.frf⟩
section
variable {X : Cx} {pins : List (Addr × Obj)} {σ : St} {H : Hp} {s : Shared} {E : Value → Shared → Prop}
theorem Inv.wish (I : Inv X pins σ H s) (E : Value → Shared → Prop) : Inv (X.wish E) pins σ H s := ⟨I.ok.wish E, I.os, I.bare, I.base, I.loc, I.cell, I.free, I.freeC, I.pin, I.hok, I.len⟩
theorem Inv.unwish (I : Inv (X.wish E) pins σ H s) : Inv X pins σ H s := ⟨I.ok.unwish, I.os, I.bare, I.base, I.loc, I.cell, I.free, I.freeC, I.pin, I.hok, I.len⟩
theorem SP.unwish {D : Ends} {f : Flow} {s' : Shared} (h : SP (X.wish E) pins D f s') : SP X pins D f s' := by
  cases f with
  | next => obtain ⟨σ', H', I, q⟩ := h; exact ⟨σ', H', I.unwish, q⟩
  | brk => obtain ⟨σ', H', I, q⟩ := h; exact ⟨σ', H', I.unwish, q⟩
  | cont => obtain ⟨σ', H', I, q⟩ := h; exact ⟨σ', H', I.unwish, q⟩
  | ret u => obtain ⟨v, σ', H', I, r, q⟩ := h; exact ⟨v, σ', H', I.unwish, r, q⟩
theorem PE.nox {e : Expr} {t : TE} (h : PE X.nox e t) : PE X e t := fun pins s σ H Q I hw =>
  wpAny_mono (h pins s σ H Q (I.wish _) hw) (fun _ _ ⟨v, H', I', r, q⟩ => ⟨v, H', I'.unwish, r, q⟩) fun _ _ z => False.elim z
theorem PT.nox {e : Expr} {t : TT} (h : PT X.nox e t) : PT X e t := fun pins s σ H Q I hw =>
  wpAny_mono (h pins s σ H Q (I.wish _) hw) (fun _ _ ⟨H', I', q⟩ => ⟨H', I'.unwish, q⟩) fun _ _ z => False.elim z
theorem PSs.nox {st : List Stmt} {t : TS} (h : PSs X.nox st t) : PSs X st t := fun pins s σ H D I hw =>
  wpAny_mono (h pins s σ H D (I.wish _) hw) (fun _ _ q => q.unwish) fun _ _ z => False.elim z
end

/-! ### blocks and small statements -/
section
variable {X : Cx} {st : Stmt} {rest : List Stmt} {t u : TS} {e : Expr} {te : TE} {pos : Pos}
def tNext : TS := fun D σ H => D.nx σ H
def tSeq (t u : TS) : TS := fun D σ H => t { D with nx := u D } σ H
theorem pss_nil : PSs X [] tNext := fun _ _ σ H _ I h => wpAny_execs_nil ⟨σ, H, I, h⟩
theorem pss_cons (h1 : PS X st t) (h2 : PSs X rest u) : PSs X (st :: rest) (tSeq t u) := by
  intro pins s σ H D I h
  refine wpAny_execs_cons (thn (h1 pins s σ H { D with nx := u D } I h) fun f s1 q => ?_)
  cases f with
  | next =>
    obtain ⟨σ', H', I', q⟩ := q
    exact h2 pins s1 σ' H' D I' q
  | ret v => exact q
  | brk => exact q
  | cont => exact q
theorem pss_one (h1 : PS X st t) : PSs X [st] t := by
  intro pins s σ H D I h
  refine wpAny_execs_cons (thn (h1 pins s σ H D I h) fun f s1 q => ?_)
  cases f with
  | next => exact wpAny_execs_nil q
  | ret v => exact q
  | brk => exact q
  | cont => exact q
def tBreak : TS := fun D σ H => D.bk σ H
def tCont : TS := fun D σ H => D.ct σ H
theorem ps_pass : PS X (.Pass pos) tNext := fun _ _ σ H _ I h => wpAny_Pass ⟨σ, H, I, h⟩
theorem ps_break : PS X (.Break pos) tBreak := fun _ _ σ H _ I h => wpAny_Break ⟨σ, H, I, h⟩
theorem ps_continue : PS X (.Continue pos) tCont := fun _ _ σ H _ I h => wpAny_Continue ⟨σ, H, I, h⟩
/-- in a def's body nothing is shown -/
theorem Inv.quiet {pins : List (Addr × Obj)} {σ : St} {H : Hp} {s : Shared} (I : Inv X pins σ H s) : interactive X.env = false := by simp [interactive, I.ok.kind]
/-- a docstring -/
theorem ps_doc {x j pos pos'} : PS X (.Expr (.Constant (.str x) j pos) pos') tNext := fun _ s σ H _ I h => wpAny_Expr (Calls.Constant_str (show SP X _ _ .next { s with toks := s.toks + 1 } from ⟨σ, H, I.tok _, h⟩)) I.quiet
/-- an expression whose value is dropped -/
def tDrop (te : TE) : TS := fun D σ H => te σ H fun _ H1 => D.nx σ H1
theorem ps_expr (he : PE X e te) (hs : swapsWith e none pos.line X.env = pure false := by rfl) : PS X (.Expr e pos) (tDrop te) := by
  intro pins s σ H D I h
  exact wpAny_Expr_any (thn (he pins s σ H _ I h) fun v s1 ⟨x, H1, I1, r1, q1⟩ => ⟨σ, H1, I1, q1⟩) I.quiet hs
def tRet (te : TE) : TS := fun D σ H => te σ H D.rt
theorem ps_ret (he : PE X e te) : PS X (.Return (some e) pos) (tRet te) := by
  intro pins s σ H D I h
  exact wpAny_Return_some (thn (he pins s σ H _ I h) fun v s1 ⟨x, H1, I1, r1, q1⟩ => ⟨x, σ, H1, I1, r1, q1⟩)
def tRetN : TS := fun D _ H => D.rt .non H
theorem ps_retN : PS X (.Return none pos) tRetN := fun _ _ σ H _ I h => wpAny_Return_none ⟨.non, σ, H, I, rfl, h⟩
def tIfS (c : TT) (t u : TS) : TS := fun D σ H => c σ H fun b H1 => if b = true then t D σ H1 else u D σ H1
theorem ps_if {c : Expr} {a b : List Stmt} {tc : TT} (hc : PT X c tc) (ha : PSs X a t) (hb : PSs X b u) : PS X (.If c a b pos) (tIfS tc t u) := by
  intro pins s σ H D I h
  refine wpAny_If (thn (hc pins s σ H _ I h) fun d s1 ⟨H1, I1, q1⟩ => ?_)
  cases d with
  | true => exact ha pins s1 σ H1 D I1 q1
  | false => exact hb pins s1 σ H1 D I1 q1
/-- code that the proof never comes to -/
def tNever : TS := fun _ _ _ => False
theorem ps_never : PS X st tNever := fun _ _ _ _ _ _ h => h.elim
theorem pss_never {sts : List Stmt} : PSs X sts tNever := fun _ _ _ _ _ _ h => h.elim
end

/-! ### targets -/
abbrev TG := V → St → Hp → (St → Hp → Prop) → Prop
abbrev TGs := List V → St → Hp → (St → Hp → Prop) → Prop
def PG (X : Cx) (target : Expr) (t : TG) : Prop :=
  ∀ (pins : List (Addr × Obj)) (s : Shared) (σ : St) (H : Hp) (v : V) (u : Value) (Q : St → Hp → Prop), Inv X pins σ H s → RelV v u → t v σ H Q →
    wpAny (model X.prog X.w) X.A (assign target X.env u) (fun _ s' => ∃ σ' H', Inv X pins σ' H' s' ∧ Q σ' H') X.xe s
/-- several targets, one after another -/
def PGs (X : Cx) (ts : List Expr) (t : TGs) : Prop :=
  ∀ (pins : List (Addr × Obj)) (s : Shared) (σ : St) (H : Hp) (vs : List V) (us : List Value) (Q : St → Hp → Prop), Inv X pins σ H s → Vals vs us → t vs σ H Q →
    wpAny (model X.prog X.w) X.A (assignInOrder ((assignEach ts X.env).map (·.2)) us) (fun _ s' => ∃ σ' H', Inv X pins σ' H' s' ∧ Q σ' H') X.xe s
/-- o[i] = v, by values -/
abbrev TSet := V → V → V → Hp → (Hp → Prop) → Prop
def PSet (X : Cx) (t : TSet) : Prop :=
  ∀ (pins : List (Addr × Obj)) (s : Shared) (σ : St) (H : Hp) (o i v : V) (ov iv u : Value) (Q : Hp → Prop), Inv X pins σ H s → RelV o ov → RelV i iv → RelV v u → t o i v H Q →
    wpAny (model X.prog X.w) X.A (setItem ov iv u) (fun _ s' => ∃ H', Inv X pins σ H' s' ∧ Q H') X.xe s
/-- a op= b, by values -/
abbrev TIp := V → V → Hp → VK → Prop
def PIp (X : Cx) (op : Operator) (t : TIp) : Prop :=
  ∀ (pins : List (Addr × Obj)) (s : Shared) (σ : St) (H : Hp) (x y : V) (v u : Value) (Q : VK), Inv X pins σ H s → RelV x v → RelV y u → t x y H Q →
    wpAny (model X.prog X.w) X.A (inplaceOp op v u) (EP X pins σ Q) X.xe s
section
variable {X : Cx} {pos : Pos}
def gName (i : Nat) : TG := fun v σ H Q => Q (σ.set i (some v)) H
theorem pg_name {i : Nat} {x : Str} (hN : X.N.Nodup) (hi : X.N[i]? = some x) (hx : Loc X.env.scope x) (hf : X.fn x = true ∨ X.env.scope.names.lookup x = some .local := by first | exact .inl rfl | exact .inr rfl | assumption) : PG X (.Name x pos) (gName i) := by
  intro pins s σ H v u Q I r h
  exact wpAny_assign_Name (store_ok I hN hi hx r (fun s' I' => ⟨_, H, I', h⟩) hf)
def gNil : TGs := fun vs σ H Q => vs = [] ∧ Q σ H
def gCons (t : TG) (u : TGs) : TGs := fun vs σ H Q => ∃ v r, vs = v :: r ∧ t v σ H fun σ' H' => u r σ' H' Q
theorem pgs_nil : PGs X [] gNil := by
  intro pins s σ H vs us Q I r h
  obtain ⟨e, h⟩ := h
  subst e
  cases r
  exact assignInOrder_nil ⟨σ, H, I, h⟩
theorem pgs_cons {e : Expr} {es : List Expr} {t : TG} {u : TGs} (h1 : PG X e t) (h2 : PGs X es u)
    (hs : (assignEach (e :: es) X.env).map (·.2) = assign e X.env :: (assignEach es X.env).map (·.2) := by rfl) : PGs X (e :: es) (gCons t u) := by
  intro pins s σ H vs us Q I r h
  obtain ⟨v, vr, e1, h⟩ := h
  subst e1
  cases r with
  | cons r rr =>
    rw [hs]
    refine assignInOrder_cons (thn (h1 pins s σ H _ _ _ I r h) fun _ s1 ⟨σ1, H1, I1, q1⟩ => ?_)
    exact h2 pins s1 σ1 H1 _ _ Q I1 rr q1
/-- (a, b, ..) = a tuple of that length -/
def gTup (K : PySem.W.Frag) (n : Nat) (t : TGs) : TG := fun v σ H Q => ∃ a xs, v = .ref a ∧ SqT K H a xs ∧ xs.length = n ∧ t xs σ H Q
theorem pg_tup {es : List Expr} {k : Nat} {t : TGs} {n : Nat} (hc : X.calm = true) (h : PGs X es t)
    (hn : (assignEach es X.env).length = n := by rfl) (hst : (assignEach es X.env).findIdx? (·.1) = none := by rfl) : PG X (.Tuple es k pos) (gTup X.K n t) := by
  intro pins s σ H v u Q I r hw
  obtain ⟨a, xs, e1, hq, hl, hw⟩ := hw
  subst e1
  cases r
  obtain ⟨its, rv, ht, hz⟩ := I.tuple hq
  refine assign_Tuple_tuple (I.ok.hd hc) ht (by simp [hn, ← hl, rv.length]) hst fun h' hx => ?_
  have I1 : Inv X pins σ H { s with heap := h' } := I.kept (t' := s.toks) fun b o e => hx b o (Nat.ne_of_lt (Heap.lt_size e)) e
  exact h pins _ σ H xs _ Q I1 (by simpa using rv) hw
/-- o[i] = .. -/
def gSub (to ti : TE) (t : TSet) : TG := fun v σ H Q => to σ H fun o H1 => ti σ H1 fun i H2 => t o i v H2 fun H3 => Q σ H3
theorem pg_sub {o i : Expr} {to ti : TE} {t : TSet} (ho : PE X o to) (hi : PE X i ti) (hs : PSet X t)
    (ha : ∀ v, assign (.Subscript o i pos) X.env v = (do
      let ov ← holding [v] (eval o X.env)
      let iv ← holding [v, ov] (eval i X.env)
      standAt pos
      holding [v, ov, iv] (setItem ov iv v)
      release [v, ov, iv] []) := by intro _; rfl) : PG X (.Subscript o i pos) (gSub to ti t) := by
  intro pins s σ H v u Q I r h
  rw [ha]
  refine wpAny_bind (wpAny_holding (thn (ho pins s σ H _ I h) fun ov s1 ⟨x, H1, I1, r1, q1⟩ => ?_))
  refine wpAny_bind (wpAny_holding (thn (hi pins s1 σ H1 _ I1 q1) fun iv s2 ⟨y, H2, I2, r2, q2⟩ => ?_))
  refine wpAny_bind (wpAny_standAt (wpAny_bind (wpAny_holding (thn (hs pins s2 σ H2 x y v ov iv u _ I2 r1 r2 r q2) fun _ s3 ⟨H3, I3, q3⟩ => ?_))))
  exact wpAny_release ⟨σ, H3, I3, q3⟩
/-- target = value -/
def tAsg (te : TE) (g : TG) : TS := fun D σ H => te σ H fun x H1 => g x σ H1 D.nx
theorem ps_asg {tg e : Expr} {te : TE} {g : TG} (he : PE X e te) (hg : PG X tg g) (hs : swapsWithSole [tg] e pos.line X.env = pure false := by rfl) (hw : swappedStores [tg] e X.env = pure none := by rfl)
    (h1 : (assignEach [tg] X.env).map (·.2) = [assign tg X.env] := by rfl) : PS X (.Assign [tg] e pos) (tAsg te g) := by
  intro pins s σ H D I h
  refine wpAny_Assign_stores (thn (he pins s σ H _ I h) fun v s1 ⟨x, H1, I1, r1, q1⟩ => ?_) hs hw
  rw [h1]
  exact thn (hg pins s1 σ H1 x v _ I1 r1 q1) fun _ s2 q => q
/-- name = value -/
theorem ps_set {i : Nat} {x : Str} {e : Expr} {te : TE} {pos' : Pos} (hN : X.N.Nodup) (hi : X.N[i]? = some x) (hx : Loc X.env.scope x) (he : PE X e te) (hs : swapsWith e (some (.Name x pos')) pos.line X.env = pure false := by rfl) (hf : X.fn x = true ∨ X.env.scope.names.lookup x = some .local := by first | exact .inl rfl | exact .inr rfl | assumption) :
    PS X (.Assign [.Name x pos'] e pos) (tAsg te (gName i)) := by
  intro pins s σ H D I h
  refine wpAny_Assign_Name (thn (he pins s σ H _ I h) fun v s1 ⟨y, H1, I1, r1, q1⟩ => ?_) hs
  exact store_ok I1 hN hi hx r1 (fun s2 I2 => ⟨_, H1, I2, q1⟩) hf
/-- a, b = x, y with plain local names: stored from the right; the pair itself is not tracked (the opening rows as in PyProof/Rows/TupAssign.lean:23) -/
def tPar (i j : Nat) (ta : TA) : TS := fun D σ H => ta σ H fun vs H1 => ∃ v w, vs = [v, w] ∧ D.nx ((σ.set i (some v)).set j (some w)) H1
theorem ps_par {i j : Nat} {x y : Str} {a b : Expr} {ta : TA} {px py pt : Pos} {kt k2 pt2} (hc : X.calm = true) (hN : X.N.Nodup) (hi : X.N[i]? = some x) (hj : X.N[j]? = some y) (hij : i ≠ j)
    (hx : X.env.scope.names.lookup x = some .local) (hy : X.env.scope.names.lookup y = some .local) (ha : PA X [a, b] ta)
    (hw : swappedStores [.Tuple [.Name x px, .Name y py] kt pt] (.Tuple [a, b] k2 pt2) X.env = pure (some [x, y]))
    (hs : swapsWithSole [.Tuple [.Name x px, .Name y py] kt pt] (.Tuple [a, b] k2 pt2) pos.line X.env = pure false := by rfl) :
    PS X (.Assign [.Tuple [.Name x px, .Name y py] kt pt] (.Tuple [a, b] k2 pt2) pos) (tPar i j ta) := by
  intro pins s σ H D I h
  rw [exec_Assign_arm]
  refine wpAny_bind (wpAny_standAt ?_)
  rw [hs]
  refine wpAny_bind (wpAny_pure ?_)
  rw [if_neg (by decide)]
  refine wpAny_bind (Tuple_ (thn (ha _ pins s σ H _ I h) fun us s1 ⟨vs, H1, I1, r1, q1⟩ => ?_))
  obtain ⟨v, w, e1, q1⟩ := q1
  subst e1
  obtain ⟨u1, u2, rfl, rv, rw'⟩ : ∃ u1 u2, us = [u1, u2] ∧ RelV v u1 ∧ RelV w u2 := by
    cases r1 with
    | cons p q =>
      cases q with
      | cons p' q' =>
        cases q'
        exact ⟨_, _, rfl, p, p'⟩
  refine wpAny_newObj_type ?_ (by show 2 ≤ sizeLine; decide)
  have I2 : Inv X pins σ H1 { s1 with heap := s1.heap.push { cls := .type "tuple", data := .seq [u1, u2].toArray } } := I1.kept (t' := s1.toks) fun b o e => Heap.get?_push_of_some _ e
  rw [hw]
  refine wpAny_bind (wpAny_pure ?_)
  show wpAny (model X.prog X.w) X.A (do rule "assign.swapped-stores"; let items ← unpackItems (.ref s1.heap.objs.size) 2 none; assignInOrder [fun v => bindName X.env y v, fun v => bindName X.env x v] items.reverse; pure Flow.next) _ _ _
  refine wpAny_bind (wpAny_rule (wpAny_bind (unpackItems_tuple (items := #[u1, u2]) (I.ok.hd hc) (IsTup.new s1.heap _) fun h' hx' => ?_)))
  have I3 := I2.kept (h' := h') (t' := s1.toks) fun b o e => hx' b o (Nat.ne_of_lt (Heap.lt_size e)) e
  show wpAny _ _ (assignInOrder [fun v => bindName X.env y v, fun v => bindName X.env x v] [u2, u1] >>= fun _ => pure Flow.next) _ _ _
  refine wpAny_bind (assignInOrder_cons (wpAny_bindName (store_ok I3 hN hj (.inl hy) rw' (fun s2 I4 => ?_) (.inr hy))))
  refine assignInOrder_cons (wpAny_bindName (store_ok I4 hN hi (.inl hx) rv (fun s3 I5 => assignInOrder_nil (wpAny_pure ?_)) (.inr hx)))
  rw [List.set_comm _ _ (Ne.symm hij)] at I5
  exact ⟨_, H1, I5, q1⟩
/-- name op= e -/
def tAug (i : Nat) (te : TE) (ti : TIp) : TS := fun D σ H => ∃ x, σ[i]? = some (some x) ∧ te σ H fun y H1 => ti x y H1 fun z H2 => D.nx (σ.set i (some z)) H2
theorem ps_aug {i : Nat} {x : Str} {e : Expr} {te : TE} {op : Operator} {ti : TIp} {pos' : Pos} (hN : X.N.Nodup) (hi : X.N[i]? = some x) (hx : Loc X.env.scope x) (he : PE X e te) (ho : PIp X op ti) (hf : X.fn x = true ∨ X.env.scope.names.lookup x = some .local := by first | exact .inl rfl | exact .inr rfl | assumption) :
    PS X (.AugAssign (.Name x pos') op e pos) (tAug i te ti) := by
  intro pins s σ H D I h
  obtain ⟨v, e1, h⟩ := h
  obtain ⟨m, hn, hl⟩ := I.loc
  have vis : Vis X.env.scope x := by rcases hx with k | k; exact .inl k; exact .inr (.inl k)
  obtain ⟨u, r, l⟩ := hl i x v hi e1 vis
  refine wpAny_AugAssign_Name ?_
  have go : wpAny (model X.prog X.w) X.A (eval e X.env) (fun w s₂ => wpAny (model X.prog X.w) X.A (inplaceOp op u w) (fun r s₃ => wpAny (model X.prog X.w) X.A (storeName X.env x r) (fun _ => SP X pins D .next) X.xe s₃) X.xe s₂) X.xe s := by
    refine thn (he pins s σ H _ I h) fun w s1 ⟨y, H1, I1, r1, q1⟩ => ?_
    refine thn (ho pins s1 σ H1 v y u w _ I1 r r1 q1) fun z s2 ⟨zv, H2, I2, r2, q2⟩ => ?_
    exact store_ok I2 hN hi hx r2 (fun s3 I3 => ⟨_, H2, I3, q2⟩) hf
  rcases l with ⟨hk, hm⟩ | ⟨hk, c, hc, hcell⟩
  · exact wpAny_loadName_local I.ok.kind hk hn hm go
  · rcases hk with hk | hk
    · exact wpAny_loadName_cell I.ok.kind hk hc hcell go
    · rcases hx with k | k
      · have : X.env.scope.names.lookup x = some .free := hk
        rw [k] at this; cases this
      · have : X.env.scope.names.lookup x = some .free := hk
        rw [k] at this; cases this
/-- o[i] op= e -/
def tAugS (to ti te : TE) (tget : V → V → Hp → VK → Prop) (tip : TIp) (tset : TSet) : TS := fun D σ H => to σ H fun o H1 => ti σ H1 fun i H2 => tget o i H2 fun x H3 => te σ H3 fun y H4 => tip x y H4 fun z H5 => tset o i z H5 fun H6 => D.nx σ H6
/-- o[i], by values -/
def PGet (X : Cx) (t : V → V → Hp → VK → Prop) : Prop :=
  ∀ (pins : List (Addr × Obj)) (s : Shared) (σ : St) (H : Hp) (o i : V) (ov iv : Value) (Q : VK), Inv X pins σ H s → RelV o ov → RelV i iv → t o i H Q →
    wpAny (model X.prog X.w) X.A (getItem ov iv) (EP X pins σ Q) X.xe s
theorem ps_augS {o i e : Expr} {to ti te : TE} {tget : V → V → Hp → VK → Prop} {tip : TIp} {tset : TSet} {op : Operator} {tpos : Pos} (ho : PE X o to) (hi : PE X i ti) (hg : PGet X tget) (he : PE X e te) (hp : PIp X op tip) (hs : PSet X tset)
    (ha : ∀ ov iv new, augStore i ov iv new = (do holding [new, ov, iv] (setItem ov iv new); release [new, ov, iv] []; pure .next) := by intros; rfl) : PS X (.AugAssign (.Subscript o i tpos) op e pos) (tAugS to ti te tget tip tset) := by
  intro pins s σ H D I h
  refine wpAny_AugAssign_SubscriptAny (thn (ho pins s σ H _ I h) fun ov s1 ⟨x1, H1, I1, r1, q1⟩ => ?_) ha
  refine thn (hi pins s1 σ H1 _ I1 q1) fun iv s2 ⟨x2, H2, I2, r2, q2⟩ => ?_
  refine thn (hg pins s2 σ H2 x1 x2 ov iv _ I2 r1 r2 q2) fun old s3 ⟨x3, H3, I3, r3, q3⟩ => ?_
  refine thn (he pins s3 σ H3 _ I3 q3) fun v s4 ⟨x4, H4, I4, r4, q4⟩ => ?_
  refine thn (hp pins s4 σ H4 x3 x4 old v _ I4 r3 r4 q4) fun new s5 ⟨x5, H5, I5, r5, q5⟩ => ?_
  exact thn (hs pins s5 σ H5 x1 x2 x5 ov iv new _ I5 r1 r2 r5 q5) fun _ s6 ⟨H6, I6, q6⟩ => ⟨σ, H6, I6, q6⟩
/-- ints -/
def ipI (f : Int → Int → Int) : TIp := fun x y H Q => ∃ i j, x = .int i ∧ y = .int j ∧ Q (.int (f i j)) H
theorem ip_add : PIp X .Add (ipI fun i j => i + j) := by
  intro pins s σ H x y v u Q I r1 r2 h
  obtain ⟨i, j, e1, e2, q⟩ := h
  subst e1; subst e2
  obtain ⟨t, rfl⟩ := r1
  obtain ⟨t', rfl⟩ := r2
  exact iadd_int ⟨.int _, H, I.tok _, ⟨_, rfl⟩, q⟩
theorem ip_sub : PIp X .Sub (ipI fun i j => i - j) := by
  intro pins s σ H x y v u Q I r1 r2 h
  obtain ⟨i, j, e1, e2, q⟩ := h
  subst e1; subst e2
  obtain ⟨t, rfl⟩ := r1
  obtain ⟨t', rfl⟩ := r2
  exact isub_int ⟨.int _, H, I.tok _, ⟨_, rfl⟩, q⟩
end

/-! ### while -/
section
variable {X : Cx} {pos : Pos}
/-- the invariant W with its measure -/
def tWhile (c : TT) (tb : TS) : TS := fun D σ H => ∃ W : Nat → St → Hp → Prop, (∃ m, W m σ H) ∧ ∀ m σ H, W m σ H →
  c σ H fun b H1 => if b = true then ∃ N : St → Hp → Prop, (∀ σ' H', N σ' H' → ∃ m', m' < m ∧ W m' σ' H') ∧ tb { D with nx := N, ct := N, bk := D.nx } σ H1 else D.nx σ H1
theorem ps_while {c : Expr} {body : List Stmt} {tc : TT} {tb : TS} (hp : PassesOwn (model X.prog X.w) X.A X.env X.xe) (hc : PT X c tc) (hb : PSs X body tb) : PS X (.While c body [] pos) (tWhile tc tb) := by
  intro pins s σ H D I h
  obtain ⟨W, ⟨m0, w0⟩, turn⟩ := h
  refine wpAny_While (codeAny_whileLoop (fun n s' => ∃ σ' H', Inv X pins σ' H' s' ∧ W n σ' H') ?_ m0 ⟨σ, H, I, w0⟩)
  rintro n s1 ⟨σ1, H1, I1, w1⟩
  refine wpAny_passesOwn hp (thn (hc pins s1 σ1 H1 _ I1 (turn n σ1 H1 w1)) fun b s2 ⟨H2, I2, q2⟩ => ?_)
  cases b with
  | true =>
    obtain ⟨N, hN, q2⟩ := q2
    rw [if_pos rfl]
    refine wpAny_passesOwn hp (thn (hb pins s2 σ1 H2 _ I2 q2) fun f s3 q3 => ?_)
    cases f with
    | next =>
      obtain ⟨σ3, H3, I3, n3⟩ := q3
      obtain ⟨m', hm, w3⟩ := hN σ3 H3 n3
      exact ⟨m', hm, σ3, H3, I3, w3⟩
    | cont =>
      obtain ⟨σ3, H3, I3, n3⟩ := q3
      obtain ⟨m', hm, w3⟩ := hN σ3 H3 n3
      exact ⟨m', hm, σ3, H3, I3, w3⟩
    | brk => exact q3
    | ret v => exact q3
  | false =>
    rw [if_neg Bool.false_ne_true]
    exact wpAny_execs_nil ⟨σ1, H2, I2, q2⟩
end

/-! ### what a loop or a comprehension walks -/
/-- at turn i: it yields x (the heap may grow), or it stops -/
structure It where
  go : Nat → Hp → Prop
  yld : Nat → Hp → V → Hp → Prop
  stop : Nat → Hp → Prop
/-- the iterator's own objects may turn: they are not the frame's, not pinned, younger than the entry (or a comprehension's own) -/
def FpOk (X : Cx) (pins : List (Addr × Obj)) (H : Hp) (b : Addr) : Prop :=
  H b = none ∧ b ≠ X.env.locals ∧ b ∉ X.fs ∧ (b ∈ X.ex ∨ X.s₀.heap.objs.size ≤ b) ∧ (∀ x c, X.env.cells.lookup x = some c → c ≠ b) ∧ ∀ p ∈ X.pn ++ pins, p.1 ≠ b
theorem Inv.fpOk {X : Cx} {pins : List (Addr × Obj)} {σ : St} {H H' : Hp} {s : Shared} {b : Addr} (I : Inv X pins σ H s) (hb : s.heap.objs.size ≤ b) (hn : H' b = none) : FpOk X pins H' b := by
  refine ⟨hn, Nat.ne_of_gt (Nat.lt_of_lt_of_le I.lt hb), I.nofs hb, .inr (Nat.le_trans I.sz hb), fun x c e z => ?_, fun p hp z => ?_⟩
  · obtain ⟨v, q⟩ := I.cell x c e
    exact absurd (Nat.lt_of_lt_of_le q.lt (by rw [z]; exact hb)) (Nat.lt_irrefl _)
  · exact absurd (Nat.lt_of_lt_of_le (Heap.lt_size (I.pin p hp).1) (by rw [z]; exact hb)) (Nat.lt_irrefl _)
structure Turn (P : Program) (w : World) (K : PySem.W.Frag) (tg : Expr) (J : It) (fp : List Addr) (it : Addr) (tn : Nat → Heap → Prop) : Prop where
  mem : it ∈ fp
  obj : ∀ i h, tn i h → ∀ b ∈ fp, ∃ o, h.get? b = some o ∧ ∀ v, o.data ≠ .cell v
  keep : ∀ i h h', tn i h → (∀ b ∈ fp, ∀ o, h.get? b = some o → h'.get? b = some o) → tn i h'
  item : ∀ (X : Cx), X.prog = P → X.w = w → X.K = K → X.calm = true → ∀ (i : Nat) (pins : List (Addr × Obj)) (s : Shared) (σ : St) (H : Hp) (E : Value → Shared → Prop), Inv X pins σ H s → (∀ b ∈ fp, FpOk X pins H b) → tn i s.heap → J.go i H →
    wpAny (model P w) X.A (pyNext (.ref it)) (fun r s1 => ∃ u, r = some u ∧
      wpAny (model P w) X.A (letOwnedTupleGo tg (.ref it) u) (fun _ s2 => ∃ x H', Inv X pins σ H' s2 ∧ RelV x u ∧ J.yld i H x H' ∧ tn (i + 1) s2.heap ∧ ∀ b ∈ fp, H' b = none) E s1) E s
  done : ∀ (X : Cx), X.prog = P → X.w = w → X.K = K → X.calm = true → ∀ (i : Nat) (pins : List (Addr × Obj)) (s : Shared) (σ : St) (H : Hp) (E : Value → Shared → Prop), Inv X pins σ H s → (∀ b ∈ fp, FpOk X pins H b) → tn i s.heap → J.stop i H →
    wpAny (model P w) X.A (pyNext (.ref it)) (fun r s1 => r = none ∧ Inv X pins σ H s1) E s
  self : ∀ (A : Around) (i : Nat) (s : Shared) (Q : Value → Shared → Prop) (E : Value → Shared → Prop), tn i s.heap → Q (.ref it) s → wpAny (model P w) A (pyIter (.ref it)) Q E s
abbrev TI := St → Hp → (It → Hp → Prop) → Prop
/-- an iterator has come -/
def PIE (X : Cx) (pins : List (Addr × Obj)) (σ : St) (tg : Expr) (R : It → Hp → Prop) (itv : Value) (s2 : Shared) : Prop :=
  ∃ (it : Addr) (fp : List Addr) (tn : Nat → Heap → Prop) (J : It) (H' : Hp), itv = .ref it ∧ Inv X pins σ H' s2 ∧ Turn X.prog X.w X.K tg J fp it tn ∧ tn 0 s2.heap ∧ (∀ b ∈ fp, FpOk X pins H' b) ∧ R J H'
def PI (X : Cx) (tg iter : Expr) (wi : TI) : Prop :=
  ∀ (pins : List (Addr × Obj)) (s : Shared) (σ : St) (H : Hp) (R : It → Hp → Prop), Inv X pins σ H s → wi σ H R →
    wpAny (model X.prog X.w) X.A (eval iter X.env) (fun v s1 => wpAny (model X.prog X.w) X.A (pyIter v) (PIE X pins σ tg R) X.xe s1) X.xe s

/-- the step ahead of the store is nothing for an iterator that keeps no tuple -/
theorem go_of {M : Model} {A : Around} {E : Value → Shared → Prop} {s : Shared} {tg : Expr} {it : Addr} {u : Value} {o : Obj} {n : String} {vs : Array Value} {Q : Unit → Shared → Prop} (ho : s.heap.get? it = some o) (hc : o.cls = .type n) (hd : o.data = .fields vs)
    (hn : ["enumerate", "zip", "dict_itemiterator", "dict_reverseitemiterator", "odict_iterator", "itertools.zip_longest", "itertools.pairwise"].contains n = false) (hQ : Q () s) : wpAny M A (letOwnedTupleGo tg (.ref it) u) Q E s := by
  unfold letOwnedTupleGo
  cases tg <;> first
    | exact wpAny_pure hQ
    | (cases u <;> first
        | exact wpAny_pure hQ
        | (refine wpAny_bind (wpAny_load ho ?_)
           rw [hc, hd]
           show wpAny M A (if (["enumerate", "zip", "dict_itemiterator", "dict_reverseitemiterator", "odict_iterator", "itertools.zip_longest", "itertools.pairwise"].contains n && vs[0]? == some (rawInt _)) = true then _ else _) Q E s
           rw [if_neg (by intro h; rw [hn, Bool.false_and] at h; cases h)]
           exact wpAny_pure hQ))

/-- the list at a, as it stands at each turn (a loop may append to it) -/
def Itl (K : PySem.W.Frag) (a : Addr) : It :=
  ⟨fun i H => ∃ xs x, SqL K H a xs ∧ xs[i]? = some x, fun i H x H' => H' = H ∧ ∀ xs, SqL K H a xs → xs[i]? = some x, fun i H => ∃ xs, SqL K H a xs ∧ xs.length ≤ i⟩
def Itt (K : PySem.W.Frag) (a : Addr) : It :=
  ⟨fun i H => ∃ xs x, SqT K H a xs ∧ xs[i]? = some x, fun i H x H' => H' = H ∧ ∀ xs, SqT K H a xs → xs[i]? = some x, fun i H => ∃ xs, SqT K H a xs ∧ xs.length ≤ i⟩
/-- lo, lo + 1, .. (n of them) -/
def Itr (lo : Int) (n : Nat) : It := ⟨fun i _ => i < n, fun i H x H' => H' = H ∧ x = .int (lo + i), fun i _ => n ≤ i⟩
theorem turn_list {P : Program} {w : World} {K : PySem.W.Frag} {tg : Expr} (a it : Addr) : Turn P w K tg (Itl K a) [it] it (fun i h => h.IsListIter it a i) where
  mem := by simp
  obj := fun i h st b hb => by
    have e : b = it := by simpa using hb
    subst e
    obtain ⟨o, e, c, d⟩ := st
    exact ⟨o, e, fun v z => by rw [d] at z; cases z⟩
  keep := fun i h h' st k => st.at fun o e => k it (by simp) o e
  item := by
    intro X hP hw hK hc i pins s σ H E I hf st hg
    subst hP hw hK
    obtain ⟨xs, x, hq, hx⟩ := hg
    obtain ⟨its, rv, p, hz⟩ := I.list hq
    obtain ⟨u, hu, ru⟩ := rv.get hx
    obtain ⟨f0, f1, f2, f3, f4, f5⟩ := hf it (by simp)
    refine wpAny_pyNext_list_item st p.isList (x := u) (by simpa using hu) fun h' st' sb => ?_
    have I1 : Inv X pins σ H { s with heap := h' } := I.turned (t' := s.toks) (fun b o hb e => (sb.2 b hb).trans e) f0 f1 f3 f4 f5
    obtain ⟨o, e, c, d⟩ := id st'
    exact ⟨u, rfl, go_of (s := { s with heap := h' }) e c d (by decide) ⟨x, H, I1, ru, ⟨rfl, fun ys hy => by rw [I.list_inj hy hq]; exact hx⟩, st', fun b hb => (hf b hb).1⟩⟩
  done := by
    intro X hP hw hK hc i pins s σ H E I hf st hg
    subst hP hw hK
    obtain ⟨xs, hq, hx⟩ := hg
    obtain ⟨its, rv, p, hz⟩ := I.list hq
    obtain ⟨f0, f1, f2, f3, f4, f5⟩ := hf it (by simp)
    have hl := rv.length
    exact wpAny_pyNext_list_end (I.ok.hd hc) st p.isList (by simp; omega) fun h' eb => ⟨rfl, I.turned (t' := s.toks) (fun b o hb e => eb b o hb e) f0 f1 f3 f4 f5⟩
  self := fun _ _ _ _ _ st h => wpAny_pyIter_listiter st h
theorem turn_tuple {P : Program} {w : World} {K : PySem.W.Frag} {tg : Expr} (a it : Addr) : Turn P w K tg (Itt K a) [it] it (fun i h => h.IsTupleIter it a i) where
  mem := by simp
  obj := fun i h st b hb => by
    have e : b = it := by simpa using hb
    subst e
    obtain ⟨o, e, c, d⟩ := st
    exact ⟨o, e, fun v z => by rw [d] at z; cases z⟩
  keep := fun i h h' st k => st.at fun o e => k it (by simp) o e
  item := by
    intro X hP hw hK hc i pins s σ H E I hf st hg
    subst hP hw hK
    obtain ⟨xs, x, hq, hx⟩ := hg
    obtain ⟨its, rv, p, hz⟩ := I.tuple hq
    obtain ⟨u, hu, ru⟩ := rv.get hx
    obtain ⟨f0, f1, f2, f3, f4, f5⟩ := hf it (by simp)
    refine wpAny_pyNext_tuple_item st (show s.heap.IsTuple a its.toArray from p) (x := u) (by simpa using hu) fun h' st' sb => ?_
    have I1 : Inv X pins σ H { s with heap := h' } := I.turned (t' := s.toks) (fun b o hb e => (sb.2 b hb).trans e) f0 f1 f3 f4 f5
    obtain ⟨o, e, c, d⟩ := id st'
    exact ⟨u, rfl, go_of (s := { s with heap := h' }) e c d (by decide) ⟨x, H, I1, ru, ⟨rfl, fun ys hy => by rw [I.tuple_inj hy hq]; exact hx⟩, st', fun b hb => (hf b hb).1⟩⟩
  done := by
    intro X hP hw hK hc i pins s σ H E I hf st hg
    subst hP hw hK
    obtain ⟨xs, hq, hx⟩ := hg
    obtain ⟨its, rv, p, hz⟩ := I.tuple hq
    obtain ⟨f0, f1, f2, f3, f4, f5⟩ := hf it (by simp)
    have hl := rv.length
    exact wpAny_pyNext_tuple_end (I.ok.hd hc) st (show s.heap.IsTuple a its.toArray from p) (by simp; omega) fun h' eb => ⟨rfl, I.turned (t' := s.toks) (fun b o hb e => eb b o hb e) f0 f1 f3 f4 f5⟩
  self := fun _ _ _ _ _ st h => wpAny_pyIter_tupleiter st h
theorem turn_range {P : Program} {w : World} {K : PySem.W.Frag} {tg : Expr} (it : Addr) (lo : Int) (n : Nat) : Turn P w K tg (Itr lo n) [it] it (fun i h => IsRangeIter h it (lo + (i : Nat) * 1) ((n : Int) - (i : Nat)) 1) where
  mem := by simp
  obj := fun i h st b hb => by
    have e : b = it := by simpa using hb
    subst e
    exact ⟨_, st, fun v z => by
      have z' : Data.fields _ = Data.cell v := z
      cases z'⟩
  keep := fun i h h' st k => k it (by simp) _ st
  item := by
    intro X hP hw hK hc i pins s σ H E I hf st hg
    subst hP hw hK
    obtain ⟨f0, f1, f2, f3, f4, f5⟩ := hf it (by simp)
    have W := Walks.range (prog := X.prog) (w := X.w) (I.ok.hd hc) it lo 1 n
    refine W.item i s _ _ hg st fun v h' tk hv st' kk => ?_
    obtain ⟨t, rfl⟩ := hv
    have I1 : Inv X pins σ H { s with heap := h', toks := tk } := I.turned (fun b o hb e => kk b o (by simpa using hb) e) f0 f1 f3 f4 f5
    refine ⟨_, rfl, go_of (s := { s with heap := h', toks := tk }) (n := "range_iterator") st' rfl rfl (by decide) ⟨.int (lo + i), H, I1, ⟨t, ?_⟩, ⟨rfl, rfl⟩, st', fun b hb => (hf b hb).1⟩⟩
    rw [Int.mul_one]
  done := by
    intro X hP hw hK hc i pins s σ H E I hf st hg
    subst hP hw hK
    obtain ⟨f0, f1, f2, f3, f4, f5⟩ := hf it (by simp)
    exact wpAny_pyNext_range_end (I.ok.hd hc) st (by have : n ≤ i := hg; omega) fun h' eb => ⟨rfl, I.turned (t' := s.toks) (fun b o hb e => eb b o hb e) f0 f1 f3 f4 f5⟩
  self := fun _ _ _ _ _ st h => wpAny_pyIter_rangeiter st h
end L2

namespace L2
open PySem PySem.Spec PyProof.Rows
section
variable {X : Cx} {tg : Expr}
def iList (K : PySem.W.Frag) (tl : TE) : TI := fun σ H R => tl σ H fun x H1 => ∃ a, x = .ref a ∧ (∃ xs, SqL K H1 a xs) ∧ R (Itl K a) H1
def iTup (K : PySem.W.Frag) (tl : TE) : TI := fun σ H R => tl σ H fun x H1 => ∃ a, x = .ref a ∧ (∃ xs, SqT K H1 a xs) ∧ R (Itt K a) H1
theorem pi_list {l : Expr} {tl : TE} (hl : PE X l tl) : PI X tg l (iList X.K tl) := by
  intro pins s σ H R I h
  refine thn (hl pins s σ H _ I h) fun v s1 ⟨x, H1, I1, r1, q1⟩ => ?_
  obtain ⟨a, e, ⟨xs, hq⟩, q⟩ := q1
  subst e
  cases r1
  obtain ⟨its, rv, p, hz⟩ := I1.list hq
  refine wpAny_pyIter_list p.isList ?_
  refine ⟨s1.heap.objs.size, [s1.heap.objs.size], _, _, H1, rfl, I1.kept (t' := s1.toks) fun b o e => Heap.get?_push_of_some _ e, turn_list a _, ⟨_, Heap.get?_push_size _ rfl, rfl, rfl⟩, fun b hb => ?_, q⟩
  have e : b = s1.heap.objs.size := by simpa using hb
  subst e
  exact I1.fpOk (Nat.le_refl _) (I1.hok.fresh (Nat.le_refl _))
theorem pi_tup {l : Expr} {tl : TE} (hl : PE X l tl) : PI X tg l (iTup X.K tl) := by
  intro pins s σ H R I h
  refine thn (hl pins s σ H _ I h) fun v s1 ⟨x, H1, I1, r1, q1⟩ => ?_
  obtain ⟨a, e, ⟨xs, hq⟩, q⟩ := q1
  subst e
  cases r1
  obtain ⟨its, rv, p, hz⟩ := I1.tuple hq
  refine wpAny_pyIter_tuple (show s1.heap.IsTuple a its.toArray from p) ?_
  refine ⟨s1.heap.objs.size, [s1.heap.objs.size], _, _, H1, rfl, I1.kept (t' := s1.toks) fun b o e => Heap.get?_push_of_some _ e, turn_tuple a _, ⟨_, Heap.get?_push_size _ rfl, rfl, rfl⟩, fun b hb => ?_, q⟩
  have e : b = s1.heap.objs.size := by simpa using hb
  subst e
  exact I1.fpOk (Nat.le_refl _) (I1.hok.fresh (Nat.le_refl _))
/-- a range object just made, walked -/
theorem range_it {pins : List (Addr × Obj)} {σ : St} {H : Hp} {s : Shared} {R : It → Hp → Prop} {E : Value → Shared → Prop} {lo hi : Int} {t u v : Tok} {tk : Nat} (I : Inv X pins σ H s) (h1 : -(2 ^ 62) ≤ lo) (h2 : lo < 2 ^ 62) (h3 : -(2 ^ 62) ≤ hi) (h4 : hi < 2 ^ 62)
    (q : R (Itr lo (hi - lo).toNat) H) : wpAny (model X.prog X.w) X.A (pyIter (.ref s.heap.objs.size)) (PIE X pins σ tg R) E { s with heap := s.heap.push { cls := .type "range", data := .fields #[.int lo t, .int hi u, .int 1 v] }, toks := tk } := by
  refine wpAny_pyIter_range (IsRange.new ..) (small_one h1 h2 h3 h4) ?_
  have I1 : Inv X pins σ H { s with heap := s.heap.push { cls := .type "range", data := .fields #[.int lo t, .int hi u, .int 1 v] }, toks := tk } := I.kept fun b o e => Heap.get?_push_of_some _ e
  refine ⟨(s.heap.push { cls := .type "range", data := .fields #[.int lo t, .int hi u, .int 1 v] }).objs.size, [(s.heap.push { cls := .type "range", data := .fields #[.int lo t, .int hi u, .int 1 v] }).objs.size], _, _, H, rfl,
    I1.kept (t' := tk) fun b o e => Heap.get?_push_of_some _ e, turn_range _ lo (hi - lo).toNat, ?_, fun b hb => ?_, q⟩
  · have e1 : lo + ((0 : Nat) : Int) * 1 = lo := by simp
    have e2 : (((hi - lo).toNat : Nat) : Int) - ((0 : Nat) : Int) = Builtin.Range.rangeSize lo hi 1 := by rw [rangeSize_one]; split <;> omega
    show IsRangeIter _ _ (lo + ((0 : Nat) : Int) * 1) ((((hi - lo).toNat : Nat) : Int) - ((0 : Nat) : Int)) 1
    rw [e1, e2]
    exact Heap.get?_push_size _ rfl
  · have e : b = (s.heap.push { cls := .type "range", data := .fields #[.int lo t, .int hi u, .int 1 v] }).objs.size := by simpa using hb
    subst e
    exact I1.fpOk (Nat.le_refl _) (I1.hok.fresh (Nat.le_refl _))
def iRng1 (ta : TA) : TI := fun σ H R => ta σ H fun vs H1 => ∃ j : Int, vs = [.int j] ∧ -(2 ^ 62) ≤ j ∧ j < 2 ^ 62 ∧ R (Itr 0 j.toNat) H1
def iRng2 (ta : TA) : TI := fun σ H R => ta σ H fun vs H1 => ∃ i j : Int, vs = [.int i, .int j] ∧ (-(2 ^ 62) ≤ i ∧ i < 2 ^ 62 ∧ -(2 ^ 62) ≤ j ∧ j < 2 ^ 62) ∧ R (Itr i (j - i).toNat) H1
theorem pi_range1 {a : Expr} {ta : TA} {p pos : Pos} (hg : Gl X "range") (hm : X.mg "range" = none) (ha : PA X [a] ta) (hs : starEach [a] X.env = [(false, eval a X.env)] := by rfl) : PI X tg (.Call (.Name "range" p) [a] [] pos) (iRng1 ta) := by
  intro pins s σ H R I h
  refine Call_ (ld_blt I hg hm boot_range (PyProof.Rows.callWith_type1 (thn (ha pos pins s σ H _ I h) fun us s1 ⟨vs, H1, I1, r1, q1⟩ => ?_) hs rfl))
  obtain ⟨j, e, q1, q2, q⟩ := q1
  subst e
  cases r1 with
  | cons r rr =>
    cases rr
    obtain ⟨t, rfl⟩ := r
    exact call_range_1 (range_it I1 (by omega) (by omega) q1 q2 (by simpa using q))
theorem pi_range2 {a b : Expr} {ta : TA} {p pos : Pos} (hg : Gl X "range") (hm : X.mg "range" = none) (ha : PA X [a, b] ta) (hs : starEach [a, b] X.env = [(false, eval a X.env), (false, eval b X.env)] := by rfl) (hs2 : starEach [b] X.env = [(false, eval b X.env)] := by rfl) :
    PI X tg (.Call (.Name "range" p) [a, b] [] pos) (iRng2 ta) := by
  intro pins s σ H R I h
  refine Call_ (ld_blt I hg hm boot_range (PyProof.Rows.callWith_type1 (thn (ha pos pins s σ H _ I h) fun us s1 ⟨vs, H1, I1, r1, q1⟩ => ?_) (by rw [hs, hs2]) (by rw [hs2]; rfl)))
  obtain ⟨i, j, e, ⟨q1, q2, q3, q4⟩, q⟩ := q1
  subst e
  cases r1 with
  | cons r rr =>
    cases rr with
    | cons r' rr =>
      cases rr
      obtain ⟨t, rfl⟩ := r
      obtain ⟨t', rfl⟩ := r'
      exact call_range_2 (range_it I1 q1 q2 q3 q4 q)

/-! ### for -/
/-- W: the invariant by the turn and a measure; N: what the body is to reach -/
def tFor (wi : TI) (g : TG) (tb : TS) : TS := fun D σ H => wi σ H fun J H1 => ∃ W : Nat → Nat → St → Hp → Prop, (∃ m, W 0 m σ H1) ∧ ∀ i m σ H, W i m σ H →
  (J.stop i H ∧ D.nx σ H) ∨ (J.go i H ∧ ∃ N : St → Hp → Prop, (∀ σ' H', N σ' H' → ∃ m', m' < m ∧ W (i + 1) m' σ' H') ∧ ∀ x H', J.yld i H x H' → g x σ H' fun σ2 H2 => tb { D with nx := N, ct := N, bk := D.nx } σ2 H2)
/-- the records at fp as they stand -/
def pinsAt (fp : List Addr) (h : Heap) : List (Addr × Obj) := fp.filterMap fun b => (h.get? b).map fun o => (b, o)
theorem mem_pinsAt {fp : List Addr} {h : Heap} {b : Addr} {o : Obj} (hb : b ∈ fp) (e : h.get? b = some o) : (b, o) ∈ pinsAt fp h := List.mem_filterMap.mpr ⟨b, hb, by rw [e]; rfl⟩
theorem of_pinsAt {fp : List Addr} {h : Heap} {p : Addr × Obj} (hp : p ∈ pinsAt fp h) : p.1 ∈ fp ∧ h.get? p.1 = some p.2 := by
  obtain ⟨b, hb, e⟩ := List.mem_filterMap.mp hp
  cases q : h.get? b with
  | none => rw [q] at e; cases e
  | some o =>
    rw [q] at e
    have e' : (b, o) = p := Option.some.inj e
    subst e'
    exact ⟨hb, q⟩
theorem Inv.pinned {pins : List (Addr × Obj)} {σ : St} {H : Hp} {s : Shared} {fp : List Addr} (I : Inv X pins σ H s) (hf : ∀ b ∈ fp, FpOk X pins H b) (ho : ∀ b ∈ fp, ∃ o, s.heap.get? b = some o ∧ ∀ v, o.data ≠ .cell v) : Inv X (pins ++ pinsAt fp s.heap) σ H s :=
  I.pins_of fun p hp => (List.mem_append.mp hp).elim (fun z => I.pin p (List.mem_append_right _ z)) fun z => by
    obtain ⟨hb, e⟩ := of_pinsAt z
    obtain ⟨f0, f1, f2, _⟩ := hf p.1 hb
    obtain ⟨o, e', d⟩ := ho p.1 hb
    rw [e] at e'; cases e'
    exact ⟨e, f0, f1, f2, d⟩
theorem Inv.unpinned {pins pl : List (Addr × Obj)} {σ : St} {H : Hp} {s : Shared} (I : Inv X (pins ++ pl) σ H s) : Inv X pins σ H s := I.pins_of fun p hp => I.pin p (List.mem_append_right _ (List.mem_append_left _ hp))
theorem ps_for {iter : Expr} {body : List Stmt} {wi : TI} {g : TG} {tb : TS} {pos : Pos} (hp : PassesOwn (model X.prog X.w) X.A X.env X.xe) (hc : X.calm = true) (hi : PI X tg iter wi) (hg : PG X tg g) (hb : PSs X body tb)
    (hs : ∀ x, foldedSetIterable iter X.env x = pure x := by intro _; rfl) : PS X (.For tg iter body [] pos) (tFor wi g tb) := by
  intro pins s σ H D I h
  refine wpAny_For (thn (hi pins s σ H _ I h) fun v s1 h1 => thn h1 fun itv s2 h2 => ?_) hs
  obtain ⟨it, fp, tn, J, H2, e, I2, T, st2, f2, W, ⟨m0, w0⟩, turn⟩ := h2
  subst e
  -- what stays true of the iterator's objects through the loop
  have stat : ∀ {H' : Hp}, (∀ b ∈ fp, H' b = none) → ∀ b ∈ fp, FpOk X pins H' b := fun hn b hb => ⟨hn b hb, (f2 b hb).2⟩
  refine codeAny_forLoop_any (fun n s' => ∃ i σ' H', Inv X pins σ' H' s' ∧ tn i s'.heap ∧ (∀ b ∈ fp, H' b = none) ∧ W i n σ' H') ?_ m0 ⟨0, σ, H2, I2, st2, fun b hb => (f2 b hb).1, w0⟩
  rintro n s3 ⟨i, σ3, H3, I3, st3, fr3, w3⟩
  rcases turn i n σ3 H3 w3 with ⟨stop, qn⟩ | ⟨go, N, hN, step⟩
  · refine wpAny_passesOwn hp (thn (T.done X rfl rfl rfl hc i pins s3 σ3 H3 X.xe I3 (stat fr3) st3 stop) fun r s4 ⟨hr, I4⟩ => ?_)
    subst hr
    exact wpAny_execs_nil ⟨σ3, H3, I4, qn⟩
  · refine wpAny_passesOwn hp (thn (T.item X rfl rfl rfl hc i pins s3 σ3 H3 X.xe I3 (stat fr3) st3 go) fun r s4 ⟨u, hr, h4⟩ => ?_)
    subst hr
    refine wpAny_passesOwn hp (thn h4 fun _ s5 ⟨x, H5, I5, r5, y5, st5, fr5⟩ => ?_)
    have I5' := I5.pinned (stat fr5) (T.obj _ _ st5)
    refine wpAny_passesOwn hp (thn (hg _ s5 σ3 H5 x u _ I5' r5 (step x H5 y5)) fun _ s6 ⟨σ6, H6, I6, q6⟩ => ?_)
    refine wpAny_passesOwn hp (thn (hb _ s6 σ6 H6 _ I6 q6) fun f s7 q7 => ?_)
    have again : ∀ {σ7 : St} {H7 : Hp}, Inv X (pins ++ pinsAt fp s5.heap) σ7 H7 s7 → N σ7 H7 → ∃ m, m < n ∧ ∃ i σ' H', Inv X pins σ' H' s7 ∧ tn i s7.heap ∧ (∀ b ∈ fp, H' b = none) ∧ W i m σ' H' := fun {σ7 H7} I7 n7 => by
      obtain ⟨m', hm, w7⟩ := hN σ7 H7 n7
      refine ⟨m', hm, i + 1, σ7, H7, I7.unpinned, T.keep _ _ _ st5 fun b hb o e => (I7.pin (b, o) (List.mem_append_right _ (List.mem_append_right _ (mem_pinsAt hb e)))).1, fun b hb => ?_, w7⟩
      obtain ⟨o, e, d⟩ := T.obj _ _ st5 b hb
      exact (I7.pin (b, o) (List.mem_append_right _ (List.mem_append_right _ (mem_pinsAt hb e)))).2.1
    cases f with
    | next => obtain ⟨σ7, H7, I7, n7⟩ := q7; exact again I7 n7
    | cont => obtain ⟨σ7, H7, I7, n7⟩ := q7; exact again I7 n7
    | brk => obtain ⟨σ7, H7, I7, q7⟩ := q7; exact ⟨σ7, H7, I7.unpinned, q7⟩
    | ret v => obtain ⟨x7, σ7, H7, I7, r7, q7⟩ := q7; exact ⟨x7, σ7, H7, I7.unpinned, r7, q7⟩
end

/-! ### the forms one uses -/
/-- over a list that the body leaves as it is -/
theorem for_list {K : PySem.W.Frag} {a : Addr} {xs : List V} {g : TG} {tb : TS} {D : Ends} {σ : St} {H : Hp} (Pv : Nat → St → Hp → Prop) (h0 : Pv 0 σ H) (hl : ∀ i σ H, i ≤ xs.length → Pv i σ H → SqL K H a xs)
    (hs : ∀ i x σ H, xs[i]? = some x → Pv i σ H → g x σ H fun σ2 H2 => tb { D with nx := Pv (i + 1), ct := Pv (i + 1), bk := D.nx } σ2 H2) (hd : ∀ σ H, Pv xs.length σ H → D.nx σ H) :
    ∃ W : Nat → Nat → St → Hp → Prop, (∃ m, W 0 m σ H) ∧ ∀ i m σ H, W i m σ H →
      ((Itl K a).stop i H ∧ D.nx σ H) ∨ ((Itl K a).go i H ∧ ∃ N : St → Hp → Prop, (∀ σ' H', N σ' H' → ∃ m', m' < m ∧ W (i + 1) m' σ' H') ∧ ∀ x H', (Itl K a).yld i H x H' → g x σ H' fun σ2 H2 => tb { D with nx := N, ct := N, bk := D.nx } σ2 H2) := by
  refine ⟨fun i m σ H => m = xs.length - i ∧ i ≤ xs.length ∧ Pv i σ H, ⟨xs.length, by simp, Nat.zero_le _, h0⟩, ?_⟩
  rintro i m σ H ⟨rfl, hi, p⟩
  have q := hl i σ H hi p
  by_cases hlt : i < xs.length
  · refine .inr ⟨⟨xs, xs[i], q, by simp [hlt]⟩, Pv (i + 1), fun σ' H' p' => ⟨xs.length - (i + 1), by omega, rfl, hlt, p'⟩, fun x H' y => ?_⟩
    obtain ⟨e, y⟩ := y
    subst e
    exact hs i x σ _ (y xs q) p
  · have e : i = xs.length := by omega
    subst e
    exact .inl ⟨⟨xs, q, Nat.le_refl _⟩, hd σ H p⟩
theorem for_tup {K : PySem.W.Frag} {a : Addr} {xs : List V} {g : TG} {tb : TS} {D : Ends} {σ : St} {H : Hp} (Pv : Nat → St → Hp → Prop) (h0 : Pv 0 σ H) (hl : ∀ i σ H, i ≤ xs.length → Pv i σ H → SqT K H a xs)
    (hs : ∀ i x σ H, xs[i]? = some x → Pv i σ H → g x σ H fun σ2 H2 => tb { D with nx := Pv (i + 1), ct := Pv (i + 1), bk := D.nx } σ2 H2) (hd : ∀ σ H, Pv xs.length σ H → D.nx σ H) :
    ∃ W : Nat → Nat → St → Hp → Prop, (∃ m, W 0 m σ H) ∧ ∀ i m σ H, W i m σ H →
      ((Itt K a).stop i H ∧ D.nx σ H) ∨ ((Itt K a).go i H ∧ ∃ N : St → Hp → Prop, (∀ σ' H', N σ' H' → ∃ m', m' < m ∧ W (i + 1) m' σ' H') ∧ ∀ x H', (Itt K a).yld i H x H' → g x σ H' fun σ2 H2 => tb { D with nx := N, ct := N, bk := D.nx } σ2 H2) := by
  refine ⟨fun i m σ H => m = xs.length - i ∧ i ≤ xs.length ∧ Pv i σ H, ⟨xs.length, by simp, Nat.zero_le _, h0⟩, ?_⟩
  rintro i m σ H ⟨rfl, hi, p⟩
  have q := hl i σ H hi p
  by_cases hlt : i < xs.length
  · refine .inr ⟨⟨xs, xs[i], q, by simp [hlt]⟩, Pv (i + 1), fun σ' H' p' => ⟨xs.length - (i + 1), by omega, rfl, hlt, p'⟩, fun x H' y => ?_⟩
    obtain ⟨e, y⟩ := y
    subst e
    exact hs i x σ _ (y xs q) p
  · have e : i = xs.length := by omega
    subst e
    exact .inl ⟨⟨xs, q, Nat.le_refl _⟩, hd σ H p⟩
theorem for_range {lo : Int} {n : Nat} {g : TG} {tb : TS} {D : Ends} {σ : St} {H : Hp} (Pv : Nat → St → Hp → Prop) (h0 : Pv 0 σ H)
    (hs : ∀ i σ H, i < n → Pv i σ H → g (.int (lo + i)) σ H fun σ2 H2 => tb { D with nx := Pv (i + 1), ct := Pv (i + 1), bk := D.nx } σ2 H2) (hd : ∀ σ H, Pv n σ H → D.nx σ H) :
    ∃ W : Nat → Nat → St → Hp → Prop, (∃ m, W 0 m σ H) ∧ ∀ i m σ H, W i m σ H →
      ((Itr lo n).stop i H ∧ D.nx σ H) ∨ ((Itr lo n).go i H ∧ ∃ N : St → Hp → Prop, (∀ σ' H', N σ' H' → ∃ m', m' < m ∧ W (i + 1) m' σ' H') ∧ ∀ x H', (Itr lo n).yld i H x H' → g x σ H' fun σ2 H2 => tb { D with nx := N, ct := N, bk := D.nx } σ2 H2) := by
  refine ⟨fun i m σ H => m = n - i ∧ i ≤ n ∧ Pv i σ H, ⟨n, by simp, Nat.zero_le _, h0⟩, ?_⟩
  rintro i m σ H ⟨rfl, hi, p⟩
  by_cases hlt : i < n
  · refine .inr ⟨hlt, Pv (i + 1), fun σ' H' p' => ⟨n - (i + 1), by omega, rfl, hlt, p'⟩, fun x H' y => ?_⟩
    obtain ⟨e, y⟩ := y
    subst e y
    exact hs i σ _ hlt p
  · have e : i = n := by omega
    subst e
    exact .inl ⟨Nat.le_refl _, hd σ H p⟩
/-- while, by a word and a measure of the state -/
theorem while_by {c : TT} {tb : TS} {D : Ends} {σ : St} {H : Hp} (Pv : St → Hp → Prop) (μ : St → Hp → Nat) (h0 : Pv σ H)
    (hs : ∀ σ H, Pv σ H → c σ H fun b H1 => if b = true then tb { D with nx := fun σ' H' => Pv σ' H' ∧ μ σ' H' < μ σ H, ct := fun σ' H' => Pv σ' H' ∧ μ σ' H' < μ σ H, bk := D.nx } σ H1 else D.nx σ H1)
    (mono : ∀ σ H Q Q', (∀ b H1, Q b H1 → Q' b H1) → c σ H Q → c σ H Q') : tWhile c tb D σ H := by
  refine ⟨fun m σ H => m = μ σ H ∧ Pv σ H, ⟨_, rfl, h0⟩, ?_⟩
  rintro m σ H ⟨rfl, p⟩
  refine mono σ H _ _ (fun b H1 q => ?_) (hs σ H p)
  cases b with
  | true => exact ⟨_, fun σ' H' ⟨p', l⟩ => ⟨_, l, rfl, p'⟩, q⟩
  | false => exact q
end L2

namespace L2
open PySem PySem.Spec PyProof.Rows

abbrev R2 := V → V → Hp → VK → Prop
/-- a two-place operation on values: f is binaryOp op, inplaceOp op or compareOp op -/
def OpR (X : Cx) (f : Value → Value → Sem Value) (r : R2) : Prop :=
  ∀ (pins : List (Addr × Obj)) (s : Shared) (σ : St) (H : Hp) (x y : V) (v u : Value) (Q : VK), Inv X pins σ H s → RelV x v → RelV y u → r x y H Q →
    wpAny (model X.prog X.w) X.A (f v u) (EP X pins σ Q) X.xe s
/-- a one-place operation -/
def UnR (X : Cx) (f : Value → Sem Value) (r : V → Hp → VK → Prop) : Prop :=
  ∀ (pins : List (Addr × Obj)) (s : Shared) (σ : St) (H : Hp) (x : V) (v : Value) (Q : VK), Inv X pins σ H s → RelV x v → r x H Q →
    wpAny (model X.prog X.w) X.A (f v) (EP X pins σ Q) X.xe s
/-- a call of a value that is known (a builtin, a type) with values -/
def CallR (X : Cx) (f : Value) (r : List V → Hp → VK → Prop) : Prop :=
  ∀ (pins : List (Addr × Obj)) (s : Shared) (σ : St) (H : Hp) (xs : List V) (us : List Value) (Q : VK), Inv X pins σ H s → Vals xs us → r xs H Q →
    wpAny (model X.prog X.w) X.A (call f us) (EP X pins σ Q) X.xe s
/-- a value's truth -/
def TruR (X : Cx) (r : V → Hp → (Bool → Hp → Prop) → Prop) : Prop :=
  ∀ (pins : List (Addr × Obj)) (s : Shared) (σ : St) (H : Hp) (x : V) (v : Value) (Q : Bool → Hp → Prop), Inv X pins σ H s → RelV x v → r x H Q →
    wpAny (model X.prog X.w) X.A (truthy v) (TP X pins σ Q) X.xe s

def tOp (r : R2) (ta tb : TE) : TE := fun σ H Q => ta σ H fun x H1 => tb σ H1 fun y H2 => r x y H2 Q
def tUn (r : V → Hp → VK → Prop) (ta : TE) : TE := fun σ H Q => ta σ H fun x H1 => r x H1 Q
/-- ints in, under C, and a value out -/
def rI (C : Int → Int → Prop) (g : Int → Int → V) : R2 := fun x y H Q => ∃ i j, x = .int i ∧ y = .int j ∧ C i j ∧ Q (g i j) H
def rI0 (g : Int → Int → V) : R2 := fun x y H Q => ∃ i j, x = .int i ∧ y = .int j ∧ Q (g i j) H
def rU (g : Int → V) : V → Hp → VK → Prop := fun x H Q => ∃ i, x = .int i ∧ Q (g i) H

section
variable {X : Cx} {a b c : Expr} {ta tb tc : TE} {pos : Pos}

theorem binT (ha : PE X a ta) (hb : PE X b tb) {pins : List (Addr × Obj)} {s : Shared} {σ : St} {H : Hp} {R : V → V → Hp → Prop} (I : Inv X pins σ H s)
    (h : ta σ H fun x H1 => tb σ H1 fun y H2 => R x y H2) {Q : Value → Shared → Prop} {f : Value → Value → Sem Value}
    (hf : ∀ v u s2 x y H2, Inv X pins σ H2 s2 → RelV x v → RelV y u → R x y H2 → wpAny (model X.prog X.w) X.A (f v u) Q X.xe s2) :
    wpAny (model X.prog X.w) X.A (eval a X.env) (fun v s₁ => wpAny (model X.prog X.w) X.A (eval b X.env) (fun u s₂ => wpAny (model X.prog X.w) X.A (f v u) Q X.xe s₂) X.xe s₁) X.xe s := by
  refine thn (ha pins s σ H _ I h) fun v s1 ⟨x, H1, I1, r1, q1⟩ => ?_
  refine thn (hb pins s1 σ H1 _ I1 q1) fun u s2 ⟨y, H2, I2, r2, q2⟩ => ?_
  exact hf v u s2 x y H2 I2 r1 r2 q2

theorem pe_op {op : Operator} {r : R2} (ho : OpR X (binaryOp op) r) (ha : PE X a ta) (hb : PE X b tb) : PE X (.BinOp a op b pos) (tOp r ta tb) := by
  intro pins s σ H Q I h
  exact wpAny_BinOp (binT ha hb I h fun v u s2 x y H2 I2 rx ry q => ho pins s2 σ H2 x y v u Q I2 rx ry q)
theorem pe_un {op : UnaryOp} {r : V → Hp → VK → Prop} (ho : UnR X (unaryOp op) r) (ha : PE X a ta) : PE X (.UnaryOp op a pos) (tUn r ta) := by
  intro pins s σ H Q I h
  exact UnaryOp_ (thn (ha pins s σ H _ I h) fun v s1 ⟨x, H1, I1, r1, q1⟩ => ho pins s1 σ H1 x v Q I1 r1 q1)
/-- a op= e at a name: the name's slot i -/
theorem augR {op : Operator} {r : R2} (ho : OpR X (inplaceOp op) r) {pins : List (Addr × Obj)} {s : Shared} {σ : St} {H : Hp} {x y : V} {v u : Value} {Q : VK} (I : Inv X pins σ H s)
    (rx : RelV x v) (ry : RelV y u) (q : r x y H Q) : wpAny (model X.prog X.w) X.A (inplaceOp op v u) (EP X pins σ Q) X.xe s := ho pins s σ H x y v u Q I rx ry q

/-! ### ints -/
theorem opI {f : Value → Value → Sem Value} {C : Int → Int → Prop} {g : Int → Int → Int}
    (rule : ∀ (i j : Int) (t u : Tok) (s : Shared) (Q : Value → Shared → Prop) (E : Value → Shared → Prop), C i j → Q (.int (g i j) s.toks) { s with toks := s.toks + 1 } → wpAny (model X.prog X.w) X.A (f (.int i t) (.int j u)) Q E s) :
    OpR X f (rI C fun i j => .int (g i j)) := by
  intro pins s σ H x y v u Q I rx ry h
  obtain ⟨i, j, rfl, rfl, hc, q⟩ := h
  obtain ⟨t, rfl⟩ := rx
  obtain ⟨t', rfl⟩ := ry
  exact rule i j t t' s _ _ hc ⟨.int (g i j), H, I.tok _, ⟨_, rfl⟩, q⟩
theorem opI0 {f : Value → Value → Sem Value} {g : Int → Int → Int}
    (rule : ∀ (i j : Int) (t u : Tok) (s : Shared) (Q : Value → Shared → Prop) (E : Value → Shared → Prop), Q (.int (g i j) s.toks) { s with toks := s.toks + 1 } → wpAny (model X.prog X.w) X.A (f (.int i t) (.int j u)) Q E s) :
    OpR X f (rI0 fun i j => .int (g i j)) := by
  intro pins s σ H x y v u Q I rx ry h
  obtain ⟨i, j, rfl, rfl, q⟩ := h
  obtain ⟨t, rfl⟩ := rx
  obtain ⟨t', rfl⟩ := ry
  exact rule i j t t' s _ _ ⟨.int (g i j), H, I.tok _, ⟨_, rfl⟩, q⟩
theorem opB0 {f : Value → Value → Sem Value} {g : Int → Int → Bool}
    (rule : ∀ (i j : Int) (t u : Tok) (s : Shared) (Q : Value → Shared → Prop) (E : Value → Shared → Prop), Q (.bool (g i j)) s → wpAny (model X.prog X.w) X.A (f (.int i t) (.int j u)) Q E s) :
    OpR X f (rI0 fun i j => .bl (g i j)) := by
  intro pins s σ H x y v u Q I rx ry h
  obtain ⟨i, j, rfl, rfl, q⟩ := h
  obtain ⟨t, rfl⟩ := rx
  obtain ⟨t', rfl⟩ := ry
  exact rule i j t t' s _ _ ⟨.bl (g i j), H, I, rfl, q⟩

def CDiv (i j : Int) : Prop := 0 < j ∧ j < 1073741824
def CDivN (i j : Int) : Prop := j ≠ 0 ∧ j.natAbs < 1073741824
def CPow (i j : Int) : Prop := 0 ≤ j ∧ j ≤ 1000000 ∧ i.natAbs < 2 ^ 64
def CMul (i j : Int) : Prop := (-(2 ^ 64) < i ∧ i < 2 ^ 64) ∨ (-(2 ^ 64) < j ∧ j < 2 ^ 64)
theorem CMul.ok {i j : Int} (h : CMul i j) : IntMulOk i j := by
  rcases h with ⟨h1, h2⟩ | ⟨h1, h2⟩
  · exact .of_left (intBits_le_64 h1 h2)
  · exact .of_right (intBits_le_64 h1 h2)
theorem two_pow_nn (k : Nat) : (0 : Int) ≤ 2 ^ k := by
  rw [two_pow_cast]
  exact Int.natCast_nonneg _

theorem op_add : OpR X (binaryOp .Add) (rI0 fun i j => .int (i + j)) := opI0 fun _ _ _ _ _ _ _ q => add_int q
theorem op_sub : OpR X (binaryOp .Sub) (rI0 fun i j => .int (i - j)) := opI0 fun _ _ _ _ _ _ _ q => sub_int q
theorem op_mul : OpR X (binaryOp .Mult) (rI CMul fun i j => .int (i * j)) := opI fun _ _ _ _ _ _ _ hc q => mul_int q hc.ok
/-- // by a positive divisor -/
theorem op_fdiv : OpR X (binaryOp .FloorDiv) (rI CDiv fun i j => .int (i / j)) := opI fun i j _ _ _ _ _ hc q => by
  have h1 : (0 : Int) < j := hc.1
  have h2 : j < 1073741824 := hc.2
  exact floordiv_int (by omega) (by rw [Int.fdiv_eq_ediv_of_nonneg i (by omega)]; exact q) (.inl (PyProof.noPylong_small (by omega)))
theorem op_fdivN : OpR X (binaryOp .FloorDiv) (rI CDivN fun i j => .int (i.fdiv j)) := opI fun _ _ _ _ _ _ _ hc q => floordiv_int hc.1 q (.inl (PyProof.noPylong_small hc.2))
/-- % by a positive divisor of any size -/
theorem op_mod : OpR X (binaryOp .Mod) (rI (fun _ j => 0 < j) fun i j => .int (i % j)) := opI fun i j _ _ _ _ _ hc q => by
  have h1 : (0 : Int) < j := hc
  exact mod_int' (by omega) (by rw [Int.fmod_eq_emod_of_nonneg i (by omega)]; exact q)
theorem op_modN : OpR X (binaryOp .Mod) (rI (fun _ j => j ≠ 0) fun i j => .int (i.fmod j)) := opI fun _ _ _ _ _ _ _ hc q => mod_int' hc q
theorem op_pow : OpR X (binaryOp .Pow) (rI CPow fun i j => .int (i ^ j.toNat)) := opI fun _ _ _ _ _ _ _ hc q => pow_int_small hc.1 hc.2.1 hc.2.2 q
theorem op_shl : OpR X (binaryOp .LShift) (rI CPow fun i j => .int (i * 2 ^ j.toNat)) := opI fun _ _ _ _ _ _ _ hc q => lshift_int_small hc.1 hc.2.1 hc.2.2 q
theorem op_shr : OpR X (binaryOp .RShift) (rI (fun _ j => 0 ≤ j) fun i j => .int (i / 2 ^ j.toNat)) := opI fun i j _ _ _ _ _ hc q =>
  rshift_int hc (by rw [Int.fdiv_eq_ediv_of_nonneg i (two_pow_nn _)]; exact q)
theorem op_and : OpR X (binaryOp .BitAnd) (rI0 fun i j => .int (Builtin.bitAnd i j)) := opI0 fun _ _ _ _ _ _ _ q => and_int q
theorem op_or : OpR X (binaryOp .BitOr) (rI0 fun i j => .int (Builtin.bitOr i j)) := opI0 fun _ _ _ _ _ _ _ q => or_int q
theorem op_xor : OpR X (binaryOp .BitXor) (rI0 fun i j => .int (Builtin.bitXor i j)) := opI0 fun _ _ _ _ _ _ _ q => xor_int q

theorem iop_add : OpR X (inplaceOp .Add) (rI0 fun i j => .int (i + j)) := opI0 fun _ _ _ _ _ _ _ q => iadd_int q
theorem iop_sub : OpR X (inplaceOp .Sub) (rI0 fun i j => .int (i - j)) := opI0 fun _ _ _ _ _ _ _ q => isub_int q
theorem iop_mul : OpR X (inplaceOp .Mult) (rI CMul fun i j => .int (i * j)) := opI fun _ _ _ _ _ _ _ hc q => imul_int q hc.ok
theorem iop_fdiv : OpR X (inplaceOp .FloorDiv) (rI CDiv fun i j => .int (i / j)) := opI fun i j _ _ _ _ _ hc q => by
  have h1 : (0 : Int) < j := hc.1
  have h2 : j < 1073741824 := hc.2
  exact ifloordiv_int (by omega) (by rw [Int.fdiv_eq_ediv_of_nonneg i (by omega)]; exact q) (.inl (PyProof.noPylong_small (by omega)))
theorem iop_mod : OpR X (inplaceOp .Mod) (rI (fun _ j => 0 < j) fun i j => .int (i % j)) := opI fun i j _ _ _ _ _ hc q => by
  have h1 : (0 : Int) < j := hc
  exact imod_int (by omega) (by rw [Int.fmod_eq_emod_of_nonneg i (by omega)]; exact q)
theorem iop_shl : OpR X (inplaceOp .LShift) (rI CPow fun i j => .int (i * 2 ^ j.toNat)) := opI fun _ _ _ _ _ _ _ hc q => ilshift_int_small hc.1 hc.2.1 hc.2.2 q
theorem iop_shr : OpR X (inplaceOp .RShift) (rI (fun _ j => 0 ≤ j) fun i j => .int (i / 2 ^ j.toNat)) := opI fun i j _ _ _ _ _ hc q =>
  irshift_int hc (by rw [Int.fdiv_eq_ediv_of_nonneg i (two_pow_nn _)]; exact q)
theorem iop_and : OpR X (inplaceOp .BitAnd) (rI0 fun i j => .int (Builtin.bitAnd i j)) := opI0 fun _ _ _ _ _ _ _ q => iand_int q
theorem iop_or : OpR X (inplaceOp .BitOr) (rI0 fun i j => .int (Builtin.bitOr i j)) := opI0 fun _ _ _ _ _ _ _ q => ior_int q
theorem iop_xor : OpR X (inplaceOp .BitXor) (rI0 fun i j => .int (Builtin.bitXor i j)) := opI0 fun _ _ _ _ _ _ _ q => ixor_int q

theorem unI {f : Value → Sem Value} {g : Int → Int}
    (rule : ∀ (i : Int) (t : Tok) (s : Shared) (Q : Value → Shared → Prop) (E : Value → Shared → Prop), Q (.int (g i) s.toks) { s with toks := s.toks + 1 } → wpAny (model X.prog X.w) X.A (f (.int i t)) Q E s) :
    UnR X f (rU fun i => .int (g i)) := by
  intro pins s σ H x v Q I rx h
  obtain ⟨i, rfl, q⟩ := h
  obtain ⟨t, rfl⟩ := rx
  exact rule i t s _ _ ⟨.int (g i), H, I.tok _, ⟨_, rfl⟩, q⟩
theorem un_neg : UnR X (unaryOp .USub) (rU fun i => .int (-i)) := unI fun _ _ _ _ _ q => neg_int q
theorem un_inv : UnR X (unaryOp .Invert) (rU fun i => .int (Builtin.bitNot i)) := unI fun _ _ _ _ _ q => invert_int q

/-! ### bools among ints: n += (a < b) -/
theorem op_add_ib : OpR X (binaryOp .Add) (fun x y H Q => ∃ i k, x = .int i ∧ y = .bl k ∧ Q (.int (i + b2i k)) H) := by
  intro pins s σ H x y v u Q I rx ry h
  obtain ⟨i, k, rfl, rfl, q⟩ := h
  obtain ⟨t, rfl⟩ := rx
  cases ry
  exact add_int_bool ⟨.int (i + b2i k), H, I.tok _, ⟨_, rfl⟩, q⟩
end

/-! ### comparisons -/
/-- the scalars that == tells apart as data does -/
def scal : V → V → Bool
  | .non, .non => true | .non, .int _ => true | .int _, .non => true | .non, .bl _ => true | .bl _, .non => true | .non, .str _ => true | .str _, .non => true
  | .int _, .int _ => true | .bl _, .bl _ => true | .str _, .str _ => true | .byt _, .byt _ => true
  | .int _, .str _ => true | .str _, .int _ => true | .bl _, .str _ => true | .str _, .bl _ => true
  | _, _ => false
def rEq : R2 := fun x y H Q => scal x y = true ∧ Q (.bl (decide (x = y))) H
def rNe : R2 := fun x y H Q => scal x y = true ∧ Q (.bl (!decide (x = y))) H

theorem dec_int {i j : Int} : decide (V.int i = V.int j) = (i == j) := by
  rw [Bool.eq_iff_iff]
  simp
theorem dec_bl {i j : Bool} : decide (V.bl i = V.bl j) = (i == j) := by
  rw [Bool.eq_iff_iff]
  simp
theorem dec_str {i j : Str} : decide (V.str i = V.str j) = (i == j) := by
  rw [Bool.eq_iff_iff]
  simp
theorem dec_byt {i j : Array UInt8} : decide (V.byt i = V.byt j) = (i.toList == j.toList) := by
  rw [Bool.eq_iff_iff]
  cases i
  cases j
  simp

section
variable {X : Cx} {a b c : Expr} {ta tb tc : TE} {pos : Pos}
theorem fin_bl {pins : List (Addr × Obj)} {σ : St} {H : Hp} {s : Shared} {Q : VK} {k k' : Bool} (I : Inv X pins σ H s) (q : Q (.bl k) H) (e : k = k') : EP X pins σ Q (.bool k') s := by
  subst e
  exact ⟨.bl k, H, I, rfl, q⟩
theorem op_eq : OpR X (compareOp .Eq) rEq := by
  intro pins s σ H x y v u Q I rx ry h
  obtain ⟨hs, q⟩ := h
  cases x with
  | non =>
    cases rx
    cases y with
    | non => cases ry; exact PySem.EqNone.eq_none_none (fin_bl I q (by simp))
    | bl j => cases ry; exact PySem.EqNone.eq_none_bool (fin_bl I q (by simp))
    | int j => obtain ⟨t', rfl⟩ := ry; exact PySem.EqNone.eq_none_int (fin_bl I q (by simp))
    | str j => obtain ⟨t', rfl⟩ := ry; exact PySem.EqNone.eq_none_str (fin_bl I q (by simp))
    | _ => exact absurd (show false = true from hs) Bool.false_ne_true
  | bl i =>
    cases rx
    cases y with
    | non => cases ry; exact PySem.EqNone.eq_bool_none (fin_bl I q (by simp))
    | bl j => cases ry; exact eq_bool (fin_bl I q dec_bl)
    | str j => obtain ⟨t', rfl⟩ := ry; exact PySem.EqMixed.eq_bool_str (fin_bl I q (by simp))
    | _ => exact absurd (show false = true from hs) Bool.false_ne_true
  | int i =>
    obtain ⟨t, rfl⟩ := rx
    cases y with
    | non => cases ry; exact PySem.EqNone.eq_int_none (fin_bl I q (by simp))
    | int j => obtain ⟨t', rfl⟩ := ry; exact eq_int (fin_bl I q dec_int)
    | str j => obtain ⟨t', rfl⟩ := ry; exact PySem.EqMixed.eq_int_str (fin_bl I q (by simp))
    | _ => exact absurd (show false = true from hs) Bool.false_ne_true
  | str i =>
    obtain ⟨t, rfl⟩ := rx
    cases y with
    | non => cases ry; exact PySem.EqNone.eq_str_none (fin_bl I q (by simp))
    | bl j => cases ry; exact PySem.EqMixed.eq_str_bool (fin_bl I q (by simp))
    | int j => obtain ⟨t', rfl⟩ := ry; exact PySem.EqMixed.eq_str_int (fin_bl I q (by simp))
    | str j => obtain ⟨t', rfl⟩ := ry; exact eq_str (fin_bl I q dec_str)
    | _ => exact absurd (show false = true from hs) Bool.false_ne_true
  | byt i =>
    obtain ⟨t, rfl⟩ := rx
    cases y with
    | byt j => obtain ⟨t', rfl⟩ := ry; exact PySem.W.eq_bytes (fin_bl I q dec_byt)
    | _ => exact absurd (show false = true from hs) Bool.false_ne_true
  | _ => cases y <;> exact absurd (show false = true from hs) Bool.false_ne_true
theorem op_ne : OpR X (compareOp .NotEq) rNe := by
  intro pins s σ H x y v u Q I rx ry h
  obtain ⟨hs, q⟩ := h
  cases x with
  | non =>
    cases rx
    cases y with
    | non => cases ry; exact PySem.EqNone.ne_none_none (fin_bl I q (by simp))
    | bl j => cases ry; exact PySem.EqNone.ne_none_bool (fin_bl I q (by simp))
    | int j => obtain ⟨t', rfl⟩ := ry; exact PySem.EqNone.ne_none_int (fin_bl I q (by simp))
    | str j => obtain ⟨t', rfl⟩ := ry; exact PySem.EqNone.ne_none_str (fin_bl I q (by simp))
    | _ => exact absurd (show false = true from hs) Bool.false_ne_true
  | bl i =>
    cases rx
    cases y with
    | non => cases ry; exact PySem.EqNone.ne_bool_none (fin_bl I q (by simp))
    | bl j => cases ry; exact ne_bool (fin_bl I q (congrArg not dec_bl))
    | str j => obtain ⟨t', rfl⟩ := ry; exact PySem.EqMixed.ne_bool_str (fin_bl I q (by simp))
    | _ => exact absurd (show false = true from hs) Bool.false_ne_true
  | int i =>
    obtain ⟨t, rfl⟩ := rx
    cases y with
    | non => cases ry; exact PySem.EqNone.ne_int_none (fin_bl I q (by simp))
    | int j => obtain ⟨t', rfl⟩ := ry; exact ne_int (fin_bl I q (congrArg not dec_int))
    | str j => obtain ⟨t', rfl⟩ := ry; exact PySem.EqMixed.ne_int_str (fin_bl I q (by simp))
    | _ => exact absurd (show false = true from hs) Bool.false_ne_true
  | str i =>
    obtain ⟨t, rfl⟩ := rx
    cases y with
    | non => cases ry; exact PySem.EqNone.ne_str_none (fin_bl I q (by simp))
    | bl j => cases ry; exact PySem.EqMixed.ne_str_bool (fin_bl I q (by simp))
    | int j => obtain ⟨t', rfl⟩ := ry; exact PySem.EqMixed.ne_str_int (fin_bl I q (by simp))
    | str j => obtain ⟨t', rfl⟩ := ry; exact ne_str (fin_bl I q (congrArg not dec_str))
    | _ => exact absurd (show false = true from hs) Bool.false_ne_true
  | byt i =>
    obtain ⟨t, rfl⟩ := rx
    cases y with
    | byt j => obtain ⟨t', rfl⟩ := ry; exact PySem.W.ne_bytes (fin_bl I q (congrArg not dec_byt))
    | _ => exact absurd (show false = true from hs) Bool.false_ne_true
  | _ => cases y <;> exact absurd (show false = true from hs) Bool.false_ne_true

theorem op_lt : OpR X (compareOp .Lt) (rI0 fun i j => .bl (decide (i < j))) := opB0 fun _ _ _ _ _ _ _ q => lt_int q
theorem op_le : OpR X (compareOp .LtE) (rI0 fun i j => .bl (decide (i ≤ j))) := opB0 fun _ _ _ _ _ _ _ q => le_int q
theorem op_gt : OpR X (compareOp .Gt) (rI0 fun i j => .bl (decide (j < i))) := opB0 fun _ _ _ _ _ _ _ q => gt_int q
theorem op_ge : OpR X (compareOp .GtE) (rI0 fun i j => .bl (decide (j ≤ i))) := opB0 fun _ _ _ _ _ _ _ q => ge_int q
theorem op_lt_str : OpR X (compareOp .Lt) (fun x y H Q => ∃ i j, x = .str i ∧ y = .str j ∧ Q (.bl (decide (i.cps.toList < j.cps.toList))) H) := by
  intro pins s σ H x y v u Q I rx ry h
  obtain ⟨i, j, rfl, rfl, q⟩ := h
  obtain ⟨t, rfl⟩ := rx
  obtain ⟨t', rfl⟩ := ry
  exact lt_str (fin_bl I q rfl)
/-- the one string within the other -/
theorem op_in_str : OpR X (compareOp .In) (fun x y H Q => ∃ i j, x = .str i ∧ y = .str j ∧ Q (.bl (!(Builtin.Str.occurrences j i 0 j.length 1).isEmpty)) H) := by
  intro pins s σ H x y v u Q I rx ry h
  obtain ⟨i, j, rfl, rfl, q⟩ := h
  obtain ⟨t, rfl⟩ := rx
  obtain ⟨t', rfl⟩ := ry
  exact in_str (fin_bl I q rfl)

/-- is None, is not None: the right side a value none -/
theorem op_isN : OpR X (compareOp .Is) (fun x y H Q => y = .non ∧ Q (.bl (decide (x = .non))) H) := by
  intro pins s σ H x y v u Q I rx ry h
  obtain ⟨rfl, q⟩ := h
  cases ry
  refine is_none_gen (fin_bl I q ?_)
  cases x <;> first
    | (cases rx; rfl)
    | (obtain ⟨t, rfl⟩ := rx; rfl)
theorem op_notN : OpR X (compareOp .IsNot) (fun x y H Q => y = .non ∧ Q (.bl (!decide (x = .non))) H) := by
  intro pins s σ H x y v u Q I rx ry h
  obtain ⟨rfl, q⟩ := h
  cases ry
  refine isnot_none_gen (fin_bl I q ?_)
  cases x <;> first
    | (cases rx; rfl)
    | (obtain ⟨t, rfl⟩ := rx; rfl)

theorem op_notin_str : OpR X (compareOp .NotIn) (fun x y H Q => ∃ i j, x = .str i ∧ y = .str j ∧ Q (.bl (!(!(Builtin.Str.occurrences j i 0 j.length 1).isEmpty))) H) := by
  intro pins s σ H x y v u Q I rx ry h
  obtain ⟨i, j, rfl, rfl, q⟩ := h
  obtain ⟨t, rfl⟩ := rx
  obtain ⟨t', rfl⟩ := ry
  exact notIn_str (fin_bl I q rfl)
/-- is, is not of two objects that are tracked lists or instances -/
def isObj : HO → Bool
  | .lst _ => true
  | .ins _ _ _ => true
  | _ => false
theorem obj_there {pins : List (Addr × Obj)} {s : Shared} {σ : St} {H : Hp} {a : Addr} {o : HO} (I : Inv X pins σ H s) (h : H a = some o) (p : isObj o = true) : ∃ ob, s.heap.get? a = some ob ∧ ob.cls ≠ .type "tuple" := by
  cases o with
  | lst xs =>
    obtain ⟨_, its, n, _, e⟩ : xs.length ≤ sizeLine ∧ ∃ (its : List Value) (n : Nat), Vals xs its ∧ s.heap.get? a = some { cls := .type "list", data := .seq its.toArray n } := I.hok a _ h
    exact ⟨_, e, (by show Value.type "list" ≠ .type "tuple"; decide +kernel)⟩
  | ins C dx fs =>
    have x := I.hok a _ h
    obtain ⟨_, _, _, e, _⟩ := x
    exact ⟨_, e, (by show Value.ref C ≠ .type "tuple"; exact fun z => by cases z)⟩
  | _ => exact absurd (show false = true from p) Bool.false_ne_true
theorem op_is_ref : OpR X (compareOp .Is) (fun x y H Q => ∃ a b oa ob, x = .ref a ∧ y = .ref b ∧ H a = some oa ∧ isObj oa = true ∧ H b = some ob ∧ isObj ob = true ∧ Q (.bl (decide (a = b))) H) := by
  intro pins s σ H x y v u Q I rx ry h
  obtain ⟨a, b, oa, ob, rfl, rfl, ha, pa, hb, pb, q⟩ := h
  cases rx
  cases ry
  obtain ⟨o1, e1, n1⟩ := obj_there I ha pa
  obtain ⟨o2, e2, _⟩ := obj_there I hb pb
  by_cases z : a = b
  · subst z
    exact wpAny_is_ref_self (fin_bl I q (by simp))
  · exact wpAny_is_ref_other z e1 e2 n1 (fin_bl I q (by simp [z]))
theorem op_isnot_ref : OpR X (compareOp .IsNot) (fun x y H Q => ∃ a b oa ob, x = .ref a ∧ y = .ref b ∧ H a = some oa ∧ isObj oa = true ∧ H b = some ob ∧ isObj ob = true ∧ Q (.bl (!decide (a = b))) H) := by
  intro pins s σ H x y v u Q I rx ry h
  obtain ⟨a, b, oa, ob, rfl, rfl, ha, pa, hb, pb, q⟩ := h
  cases rx
  cases ry
  obtain ⟨o1, e1, n1⟩ := obj_there I ha pa
  obtain ⟨o2, e2, _⟩ := obj_there I hb pb
  by_cases z : a = b
  · subst z
    exact wpAny_isNot_ref_self (fin_bl I q (by simp))
  · exact wpAny_isNot_ref_other z e1 e2 n1 (fin_bl I q (by simp [z]))

/-- two rules for one operation: by cases -/
theorem OpR.or {f : Value → Value → Sem Value} {r r' : R2} (h : OpR X f r) (h' : OpR X f r') : OpR X f (fun x y H Q => r x y H Q ∨ r' x y H Q) := by
  intro pins s σ H x y v u Q I rx ry q
  rcases q with q | q
  · exact h pins s σ H x y v u Q I rx ry q
  · exact h' pins s σ H x y v u Q I rx ry q

theorem nomark (b : Expr) {op : CmpOp} (h : op ≠ .In := by decide) (h2 : op ≠ .NotIn := by decide) : behindInMarks op b = false := by
  have e1 : (op == CmpOp.In) = false := by cases op <;> first | rfl | exact absurd rfl h
  have e2 : (op == CmpOp.NotIn) = false := by cases op <;> first | rfl | exact absurd rfl h2
  cases b <;> simp [behindInMarks, e1, e2]
/-- a comparison as a value; hm: nomark b, or (for in, not in) by with_unfolding_all rfl -/
theorem pe_cmpR {op : CmpOp} {r : R2} (ho : OpR X (compareOp op) r) (ha : PE X a ta) (hb : PE X b tb) (hm : behindInMarks op b = false) : PE X (.Compare a [op] [b] pos) (tOp r ta tb) := by
  intro pins s σ H Q I h
  exact wpAny_Compare1 (binT ha hb I h fun v u s2 x y H2 I2 rx ry q => ho pins s2 σ H2 x y v u Q I2 rx ry q) hm
/-- a reading of a value as a test -/
def tTest (t : TE) : TT := fun σ H Q => t σ H fun x H' => ∃ k, x = .bl k ∧ Q k H'
theorem pt_cmpR {op : CmpOp} {r : R2} (ho : OpR X (compareOp op) r) (ha : PE X a ta) (hb : PE X b tb) (hm : behindInMarks op b = false) : PT X (.Compare a [op] [b] pos) (tTest (tOp r ta tb)) := by
  intro pins s σ H Q I h
  refine wpAny_isTrue_Compare1 (thn (ha pins s σ H _ I h) fun v s1 ⟨x, H1, I1, r1, q1⟩ => thn (hb pins s1 σ H1 _ I1 q1) fun u s2 ⟨y, H2, I2, r2, q2⟩ =>
    thn (ho pins s2 σ H2 x y v u _ I2 r1 r2 q2) fun c s3 ⟨z, H3, I3, r3, k, e, q3⟩ => ?_) hm
  subst e
  cases r3
  exact wpAny_truthy_bool ⟨H3, I3, q3⟩
/-- a op1 b op2 c -/
def tChain (r r' : R2) (ta tb tc : TE) : TE := fun σ H Q => ta σ H fun x H1 => tb σ H1 fun y H2 => r x y H2 fun z H3 => ∃ k, z = .bl k ∧
  (if k = true then tc σ H3 fun w' H4 => r' y w' H4 Q else Q (.bl false) H3)
theorem pe_chain {op op' : CmpOp} {r r' : R2} (ho : OpR X (compareOp op) r) (ho' : OpR X (compareOp op') r') (ha : PE X a ta) (hb : PE X b tb) (hc : PE X c tc)
    (hm : lastMarks [op, op'] [b, c] = false := by with_unfolding_all rfl) : PE X (.Compare a [op, op'] [b, c] pos) (tChain r r' ta tb tc) := by
  intro pins s σ H Q I h
  refine Compare_chain (thn (ha pins s σ H _ I h) fun v s1 ⟨x, H1, I1, r1, q1⟩ => chain_link (thn (hb pins s1 σ H1 _ I1 q1) fun u s2 ⟨y, H2, I2, r2, q2⟩ =>
    thn (ho pins s2 σ H2 x y v u _ I2 r1 r2 q2) fun d s3 ⟨z, H3, I3, r3, k, e, q3⟩ => ?_)) hm
  subst e
  cases r3
  refine wpAny_truthy_bool ?_
  cases k with
  | false => exact ite_ff ⟨.bl false, H3, I3, rfl, q3⟩
  | true => exact ite_tt (chain_last (thn (hc pins s3 σ H3 _ I3 q3) fun w' s4 ⟨z', H4, I4, r4, q4⟩ => ho' pins s4 σ H4 y z' u w' Q I4 r2 r4 q4))
theorem pt_chain {op op' : CmpOp} {r r' : R2} (ho : OpR X (compareOp op) r) (ho' : OpR X (compareOp op') r') (ha : PE X a ta) (hb : PE X b tb) (hc : PE X c tc)
    (hm : lastMarks [op, op'] [b, c] = false := by with_unfolding_all rfl) : PT X (.Compare a [op, op'] [b, c] pos) (tTest (tChain r r' ta tb tc)) := by
  intro pins s σ H Q I h
  refine isTrue_chain (thn (ha pins s σ H _ I h) fun v s1 ⟨x, H1, I1, r1, q1⟩ => test_link (thn (hb pins s1 σ H1 _ I1 q1) fun u s2 ⟨y, H2, I2, r2, q2⟩ =>
    thn (ho pins s2 σ H2 x y v u _ I2 r1 r2 q2) fun d s3 ⟨z, H3, I3, r3, k, e, q3⟩ => ?_)) hm
  subst e
  cases r3
  refine wpAny_truthy_bool ?_
  cases k with
  | false =>
    obtain ⟨k', e', q'⟩ := q3
    cases e'
    exact ite_ff ⟨H3, I3, q'⟩
  | true =>
    refine ite_tt (test_last (thn (hc pins s3 σ H3 _ I3 q3) fun w' s4 ⟨z', H4, I4, r4, q4⟩ => thn (ho' pins s4 σ H4 y z' u w' _ I4 r2 r4 q4) fun d' s5 ⟨z2, H5, I5, r5, k2, e2, q5⟩ => ?_))
    subst e2
    cases r5
    exact wpAny_truthy_bool ⟨H5, I5, q5⟩

/-! ### truth -/
/-- a value's truth by the abstract heap -/
def TruV (K : PySem.W.Frag) (x : V) (H : Hp) (k : Bool) : Prop :=
  match x with
  | .non => k = false
  | .bl b => k = b
  | .int i => k = (i != 0)
  | .str y => y.length ≤ sizeLine ∧ k = ((y.length : Int) != 0)
  | .byt y => y.size ≤ sizeLine ∧ k = ((y.size : Int) != 0)
  | .ref p => (∃ xs, SqL K H p xs ∧ k = !xs.isEmpty) ∨ (∃ xs, SqT K H p xs ∧ k = !xs.isEmpty) ∨ ∃ kvs, H p = some (.dK kvs) ∧ k = !kvs.isEmpty
  | _ => False
theorem isEmpty_kv {κ : Type} {kvs : List (κ × V)} {vs : List (κ × Value)} (r : KV kvs vs) : (!vs.isEmpty) = !kvs.isEmpty := by
  cases r <;> rfl
theorem isEmpty_of {xs : List V} {its : List Value} (r : Vals xs its) : (!its.toArray.isEmpty) = !xs.isEmpty := by
  cases r <;> simp
theorem line63 : (sizeLine : Nat) < 2 ^ 63 := by rw [sizeLine_eq]; decide
theorem tru_ok : TruR X (fun x H Q => ∃ k, TruV X.K x H k ∧ Q k H) := by
  intro pins s σ H x v Q I rx h
  obtain ⟨k, e, q⟩ := h
  have hl := line63
  have hs : sizeLine = 16777216 := sizeLine_eq
  cases x with
  | non =>
    cases rx
    have e' : k = false := e
    subst e'
    exact truthy_none ⟨H, I, q⟩
  | bl b =>
    cases rx
    have e' : k = b := e
    subst e'
    exact wpAny_truthy_bool ⟨H, I, q⟩
  | int i =>
    obtain ⟨t, rfl⟩ := rx
    have e' : k = (i != 0) := e
    subst e'
    exact PySem.P.truthy_int ⟨H, I, q⟩
  | str y =>
    obtain ⟨t, rfl⟩ := rx
    obtain ⟨hy, e'⟩ : y.length ≤ sizeLine ∧ k = ((y.length : Int) != 0) := e
    subst e'
    exact PySem.P.truthy_str (by omega) ⟨H, I.tok _, q⟩
  | byt y =>
    obtain ⟨t, rfl⟩ := rx
    obtain ⟨hy, e'⟩ : y.size ≤ sizeLine ∧ k = ((y.size : Int) != 0) := e
    subst e'
    exact PySem.W.truthy_bytes (by omega) ⟨H, I.tok _, q⟩
  | ref p =>
    cases rx
    have e' : (∃ xs, SqL X.K H p xs ∧ k = !xs.isEmpty) ∨ (∃ xs, SqT X.K H p xs ∧ k = !xs.isEmpty) ∨ ∃ kvs, H p = some (.dK kvs) ∧ k = !kvs.isEmpty := e
    rcases e' with ⟨xs, hx, e'⟩ | ⟨xs, hx, e'⟩ | ⟨kvs, hx, e'⟩
    · subst e'
      obtain ⟨its, r, pl, hz⟩ := I.list hx
      have hlen := r.length
      exact wpAny_truthy_list pl.isList (by simp only [List.size_toArray]; omega) ⟨H, I.tok _, by rw [isEmpty_of r]; exact q⟩
    · subst e'
      obtain ⟨its, r, pl, hz⟩ := I.tuple hx
      have hlen := r.length
      exact truthy_tuple pl (by simp only [List.size_toArray]; omega) ⟨H, I.tok _, by rw [isEmpty_of r]; exact q⟩
    · subst e'
      obtain ⟨hz, hS, vs, r, m⟩ : kvs.length ≤ sizeLine ∧ (p == sysModules) = false ∧ ∃ vs, KV kvs vs ∧ s.heap.DictOf (mixKind X.prog X.w) p vs := I.hok p _ hx
      have hlen : kvs.length = vs.length := Paired.length r
      exact wpAny_truthy_dict hS m (by omega) ⟨H, I.tok _, by rw [isEmpty_kv r]; exact q⟩
  | _ => exact (show False from e).elim
/-- any expression whose test is its value's truth (a name, a call, a subscript, a field ..: he by fun _ => rfl) -/
theorem pt_truth (ha : PE X a ta) (he : ∀ whole, isTrue a X.env whole = (do let v ← whole; standAt a.pos; holding [v] (truthy v))) :
    PT X a (fun σ H Q => ta σ H fun x H' => ∃ k, TruV X.K x H' k ∧ Q k H') := by
  intro pins s σ H Q I h
  exact isTrue_plain (thn (ha pins s σ H _ I h) fun v s1 ⟨x, H1, I1, r1, q1⟩ => tru_ok pins s1 σ H1 x v Q I1 r1 q1) (he _)

/-! ### strs and bytes -/
theorem pe_byt {x : List UInt8} {k : Nat} : PE X (.Constant (.bytes x) k pos) (fun _ H Q => Q (.byt x.toArray) H) := fun _ _ _ H _ I h => PySem.W.Constant_bytes ⟨.byt x.toArray, H, I.tok _, ⟨_, rfl⟩, h⟩
theorem op_add_str : OpR X (binaryOp .Add) (fun x y H Q => ∃ i j, x = .str i ∧ y = .str j ∧ i.length + j.length ≤ sizeLine ∧ Q (.str (i ++ j)) H) := by
  intro pins s σ H x y v u Q I rx ry h
  obtain ⟨i, j, rfl, rfl, hz, q⟩ := h
  obtain ⟨t, rfl⟩ := rx
  obtain ⟨t', rfl⟩ := ry
  exact add_str (fun t' tk => ⟨.str (i ++ j), H, I.tok _, ⟨_, rfl⟩, q⟩) hz
theorem iop_add_str : OpR X (inplaceOp .Add) (fun x y H Q => ∃ i j, x = .str i ∧ y = .str j ∧ i.length + j.length ≤ sizeLine ∧ Q (.str (i ++ j)) H) := by
  intro pins s σ H x y v u Q I rx ry h
  obtain ⟨i, j, rfl, rfl, hz, q⟩ := h
  obtain ⟨t, rfl⟩ := rx
  obtain ⟨t', rfl⟩ := ry
  exact iadd_str (fun t' tk => ⟨.str (i ++ j), H, I.tok _, ⟨_, rfl⟩, q⟩) hz
theorem op_add_byt : OpR X (binaryOp .Add) (fun x y H Q => ∃ i j, x = .byt i ∧ y = .byt j ∧ i.size + j.size ≤ 16777216 ∧ Q (.byt (i ++ j)) H) := by
  intro pins s σ H x y v u Q I rx ry h
  obtain ⟨i, j, rfl, rfl, hz, q⟩ := h
  obtain ⟨t, rfl⟩ := rx
  obtain ⟨t', rfl⟩ := ry
  exact PySem.W.KBy.add_bytes hz (fun t' tk => ⟨.byt (i ++ j), H, I.tok _, ⟨_, rfl⟩, q⟩)

def PlainIxT (b : Expr) : Prop := ∀ o i, subscripted b false o i = operate [o, i] (getItem o i)
/-- s[i], 0 ≤ i < len -/
theorem pe_item_str (ha : PE X a ta) (hb : PE X b tb) (hs : PlainIxT b) :
    PE X (.Subscript a b pos) (tOp (fun x y H Q => ∃ z i c, x = .str z ∧ y = .int i ∧ 0 ≤ i ∧ i < 2 ^ 63 ∧ i < z.length ∧ z.cps[i.toNat]? = some c ∧ Q (.str ⟨#[c]⟩) H) ta tb) := by
  intro pins s σ H Q I h
  refine Subscript_ (binT ha hb I h fun v u s2 x y H2 I2 rx ry q => ?_)
  obtain ⟨z, i, c, rfl, rfl, h0, h63, h1, hc, q⟩ := q
  obtain ⟨t, rfl⟩ := rx
  obtain ⟨t', rfl⟩ := ry
  have e : seqIndex? i z.length = some i.toNat := PySem.StrLaws.seqIndex_nonneg h0 h1
  exact tail_any (typeIs_str s2 z t) slot_str_getitem.lookup (getItem_str (c := c) (by
    have e1 : decide (i < -(2 ^ 63 : Int)) = false := decide_eq_false (by omega)
    have e2 : decide (i ≥ 2 ^ 63) = false := decide_eq_false (by omega)
    rw [e1, e2] <;> rfl) (by rw [e]; exact hc) ⟨.str ⟨#[c]⟩, H2, I2.tok _, ⟨_, rfl⟩, q⟩) (hs _ _)
/-- b[i], 0 ≤ i < len -/
theorem pe_item_byt (ha : PE X a ta) (hb : PE X b tb) (hs : PlainIxT b) :
    PE X (.Subscript a b pos) (tOp (fun x y H Q => ∃ (z : List UInt8) (i : Int), x = .byt z.toArray ∧ y = .int i ∧ z.length ≤ sizeLine ∧ 0 ≤ i ∧ i < z.length ∧ Q (.int ((z.getD i.toNat 0).toNat : Nat)) H) ta tb) := by
  intro pins s σ H Q I h
  refine Subscript_ (binT ha hb I h fun v u s2 x y H2 I2 rx ry q => ?_)
  obtain ⟨z, i, rfl, rfl, hz, h0, h1, q⟩ := q
  obtain ⟨t, rfl⟩ := rx
  obtain ⟨t', rfl⟩ := ry
  have hl : sizeLine = 16777216 := sizeLine_eq
  exact tail_any (PySem.W.typeIs_bytes s2 z.toArray t) PySem.W.FB.slot_bytes_getitem.lookup (PySem.W.getItem_bytes (by omega) h0 h1 ⟨.int ((z.getD i.toNat 0).toNat : Nat), H2, I2.tok _, ⟨_, rfl⟩, q⟩) (hs _ _)

/-! ### scalar builtins, by CallR -/
theorem vals1 {x : V} {us : List Value} (r : Vals [x] us) : ∃ u, us = [u] ∧ RelV x u := by
  cases r with
  | cons r1 r2 => cases r2; exact ⟨_, rfl, r1⟩
theorem vals2 {x y : V} {us : List Value} (r : Vals [x, y] us) : ∃ u w', us = [u, w'] ∧ RelV x u ∧ RelV y w' := by
  cases r with
  | cons r1 r2 =>
    cases r2 with
    | cons r3 r4 => cases r4; exact ⟨_, _, rfl, r1, r3⟩
theorem call_abs : CallR X (.builtin "abs") (fun xs H Q => ∃ i, xs = [.int i] ∧ Q (.int (if i < 0 then -i else i)) H) := by
  intro pins s σ H xs us Q I r h
  obtain ⟨i, rfl, q⟩ := h
  obtain ⟨u, rfl, t, rfl⟩ := vals1 r
  exact call_abs_int fun u tk => ⟨.int (if i < 0 then -i else i), H, I.tok _, ⟨_, rfl⟩, q⟩
theorem call_max2 (hc : X.calm = true) : CallR X (.builtin "max") (fun xs H Q => ∃ i j, xs = [.int i, .int j] ∧ Q (.int (if j > i then j else i)) H) := by
  intro pins s σ H xs us Q I r h
  obtain ⟨i, j, rfl, q⟩ := h
  obtain ⟨u, w', rfl, ⟨t, rfl⟩, ⟨t', rfl⟩⟩ := vals2 r
  refine max_two_ints (I.ok.hd hc) fun h' tk k => ⟨_, H, I.kept k, ?_, q⟩
  by_cases hj : j > i
  · rw [if_pos hj, if_pos hj]; exact ⟨_, rfl⟩
  · rw [if_neg hj, if_neg hj]; exact ⟨_, rfl⟩
theorem call_min2 (hc : X.calm = true) : CallR X (.builtin "min") (fun xs H Q => ∃ i j, xs = [.int i, .int j] ∧ Q (.int (if j < i then j else i)) H) := by
  intro pins s σ H xs us Q I r h
  obtain ⟨i, j, rfl, q⟩ := h
  obtain ⟨u, w', rfl, ⟨t, rfl⟩, ⟨t', rfl⟩⟩ := vals2 r
  refine min_two_ints (I.ok.hd hc) fun h' tk k => ⟨_, H, I.kept k, ?_, q⟩
  by_cases hj : j < i
  · rw [if_pos hj, if_pos hj]; exact ⟨_, rfl⟩
  · rw [if_neg hj, if_neg hj]; exact ⟨_, rfl⟩
theorem call_int1 : CallR X (.type "int") (fun xs H Q => (∃ i, xs = [.int i] ∧ Q (.int i) H) ∨ ∃ k, xs = [.bl k] ∧ Q (.int (if k then 1 else 0)) H) := by
  intro pins s σ H xs us Q I r h
  rcases h with ⟨i, rfl, q⟩ | ⟨k, rfl, q⟩
  · obtain ⟨u, rfl, t, rfl⟩ := vals1 r
    exact call_int_int ⟨.int i, H, I, ⟨_, rfl⟩, q⟩
  · obtain ⟨u, rfl, r1⟩ := vals1 r
    cases r1
    exact call_int_bool ⟨.int (if k then 1 else 0), H, I.tok _, ⟨_, rfl⟩, q⟩
theorem call_bool1 : CallR X (.type "bool") (fun xs H Q => (∃ i, xs = [.int i] ∧ Q (.bl (i != 0)) H) ∨ ∃ k, xs = [.bl k] ∧ Q (.bl k) H) := by
  intro pins s σ H xs us Q I r h
  rcases h with ⟨i, rfl, q⟩ | ⟨k, rfl, q⟩
  · obtain ⟨u, rfl, t, rfl⟩ := vals1 r
    exact call_bool_int ⟨.bl (i != 0), H, I, rfl, q⟩
  · obtain ⟨u, rfl, r1⟩ := vals1 r
    cases r1
    exact call_bool_bool ⟨.bl k, H, I, rfl, q⟩
theorem call_str_int : CallR X (.type "str") (fun xs H Q => ∃ i, xs = [.int i] ∧ i.natAbs.log2 < 1920 ∧ Q (.str (toString i)) H) := by
  intro pins s σ H xs us Q I r h
  obtain ⟨i, rfl, hz, q⟩ := h
  obtain ⟨u, rfl, t, rfl⟩ := vals1 r
  exact PySem.P.str_of_int hz ⟨.str _, H, I.tok _, ⟨_, rfl⟩, q⟩
theorem call_ord : CallR X (.builtin "ord") (fun xs H Q => ∃ x, xs = [.str x] ∧ x.length = 1 ∧ Q (.int (x.cps.getD 0 0 : Nat)) H) := by
  intro pins s σ H xs us Q I r h
  obtain ⟨x, rfl, hz, q⟩ := h
  obtain ⟨u, rfl, t, rfl⟩ := vals1 r
  exact ord_of_one hz ⟨.int _, H, I.tok _, ⟨_, rfl⟩, q⟩
theorem call_chr : CallR X (.builtin "chr") (fun xs H Q => ∃ i, xs = [.int i] ∧ 0 ≤ i ∧ i ≤ 1114111 ∧ Q (.str ⟨#[i.toNat]⟩) H) := by
  intro pins s σ H xs us Q I r h
  obtain ⟨i, rfl, h0, h1, q⟩ := h
  obtain ⟨u, rfl, t, rfl⟩ := vals1 r
  exact chr_of_range h0 h1 ⟨.str _, H, I.tok _, ⟨_, rfl⟩, q⟩
/-- len of a str, a bytes, a list, a tuple -/
def LenV (K : PySem.W.Frag) (x : V) (H : Hp) (n : Nat) : Prop :=
  match x with
  | .str y => y.length ≤ sizeLine ∧ n = y.length
  | .byt y => y.size ≤ sizeLine ∧ n = y.size
  | .ref p => (∃ xs, SqL K H p xs ∧ n = xs.length) ∨ ∃ xs, SqT K H p xs ∧ n = xs.length
  | _ => False
theorem call_len : CallR X (.builtin "len") (fun xs H Q => ∃ x n, xs = [x] ∧ LenV X.K x H n ∧ Q (.int n) H) := by
  intro pins s σ H xs us Q I r h
  obtain ⟨x, n, rfl, e, q⟩ := h
  obtain ⟨u, rfl, rx⟩ := vals1 r
  have hl := line63
  have hs : sizeLine = 16777216 := sizeLine_eq
  cases x with
  | str y =>
    obtain ⟨t, rfl⟩ := rx
    obtain ⟨hy, e'⟩ : y.length ≤ sizeLine ∧ n = y.length := e
    subst e'
    exact len_str (by omega) ⟨.int _, H, I.tok _, ⟨_, rfl⟩, q⟩
  | byt y =>
    obtain ⟨t, rfl⟩ := rx
    obtain ⟨hy, e'⟩ : y.size ≤ sizeLine ∧ n = y.size := e
    subst e'
    exact PySem.W.len_bytes (by omega) ⟨.int _, H, I.tok _, ⟨_, rfl⟩, q⟩
  | ref p =>
    cases rx
    have e' : (∃ xs, SqL X.K H p xs ∧ n = xs.length) ∨ ∃ xs, SqT X.K H p xs ∧ n = xs.length := e
    rcases e' with ⟨xs, hx, e'⟩ | ⟨xs, hx, e'⟩
    · subst e'
      obtain ⟨its, r', pl, hz⟩ := I.list hx
      have hlen := r'.length
      exact Calls.call_len_list pl.isList (by simp only [List.size_toArray]; omega) ⟨.int xs.length, H, I.tok _, ⟨_, by simp only [List.size_toArray]; rw [hlen]⟩, q⟩
    · subst e'
      obtain ⟨its, r', pl, hz⟩ := I.tuple hx
      have hlen := r'.length
      exact len_tuple pl (by simp only [List.size_toArray]; omega) ⟨.int xs.length, H, I.tok _, ⟨_, by simp only [List.size_toArray]; rw [hlen]⟩, q⟩
  | _ => exact (show False from e).elim
/-- divmod: a new tuple -/
theorem call_divmod : CallR X (.builtin "divmod") (fun xs H Q => ∃ i j, xs = [.int i, .int j] ∧ CDiv i j ∧ ∀ p, H p = none → Q (.ref p) (upd H p (.tup [.int (i / j), .int (i % j)]))) := by
  intro pins s σ H xs us Q I r h
  obtain ⟨i, j, rfl, ⟨h1, h2⟩, q⟩ := h
  obtain ⟨u, w', rfl, ⟨t, rfl⟩, ⟨t', rfl⟩⟩ := vals2 r
  refine divmod_int (by omega) ?_ (.inl (PyProof.noPylong_small (by omega)))
  rw [Int.fdiv_eq_ediv_of_nonneg i (by omega), Int.fmod_eq_emod_of_nonneg i (by omega)]
  have hn : H s.heap.objs.size = none := I.hok.fresh (Nat.le_refl _)
  refine ⟨.ref s.heap.objs.size, _, ?_, rfl, q _ hn⟩
  refine I.laid (fun b o e => Heap.get?_push_of_some _ e) (Nat.le_refl _) ⟨by simp only [List.length_cons, List.length_nil]; rw [sizeLine_eq]; decide, [.int (i / j) s.toks, .int (i % j) (s.toks + 1)], .cons ⟨_, rfl⟩ (.cons ⟨_, rfl⟩ .nil), ?_⟩
  exact ⟨⟨_, Heap.get?_push_size s.heap rfl, rfl, 0, rfl⟩, _, Heap.get?_push_size s.heap rfl, rfl⟩
end
end L2

namespace L2
open PySem PySem.Spec PyProof.Rows

/-! ### an instance, its attributes a map -/
structure ObjM (h : Heap) (x dx C : Addr) (mA : Str → Option Value) : Prop where
  obj : h.get? x = some (PySem.W.instObj C dx)
  ns : h.Ns1 dx mA
  ne : dx ≠ x

theorem lookIn_ns {h : Heap} {dx : Addr} {mA : Str → Option Value} (n : h.Ns1 dx mA) : ∃ od, h.get? dx = some od ∧ ∀ name, PySem.W.lookIn name od = some (mA name) := by
  obtain ⟨o, es, ep, ho, hd, hk, _, hm⟩ := n
  refine ⟨o, ho, fun name => ?_⟩
  have e := hm name
  unfold nsFind findBy at e
  rw [← Array.find?_toList] at e
  unfold PySem.W.lookIn
  rw [hd]
  dsimp only
  split
  · rename_i y q
    rw [q] at e
    exact congrArg some e
  · rename_i q
    rw [q] at e
    have a : es.toList.any (·.refKey) = false := by
      rw [List.any_eq_false]
      intro y hy
      obtain ⟨z, t, hkey⟩ := hk y (Array.mem_toList_iff.mp hy)
      simp [DictEntry.refKey, hkey]
    have a' : ¬ es.toList.any (·.refKey) = true := by rw [a]; exact Bool.false_ne_true
    rw [if_neg a']
    exact congrArg some e

theorem ObjM.look {h : Heap} {x dx C : Addr} {mA : Str → Option Value} (I : ObjM h x dx C mA) : ∃ od, PySem.W.InstAt h x (PySem.W.instObj C dx) C (some od) ∧ ∀ name, PySem.W.lookIn name od = some (mA name) :=
  let ⟨od, ho, hl⟩ := lookIn_ns I.ns
  ⟨od, ⟨I.obj, rfl, rfl, ho⟩, hl⟩

section
variable {prog : Program} {w : World} {A : Around} {E : Value → Shared → Prop} {s : Shared} {K : PySem.W.Frag} {x dx C f : Addr} {mA : Str → Option Value} {name : Str} {v : Value}

theorem get_map {expr : Bool} {Q : Value → Shared → Prop} (X : K.In s.heap) (I : ObjM s.heap x dx C mA) (hg : PySem.W.plainGet K C name = true) (hh : PySem.W.hasDictIn K C = true)
    (ha : PySem.W.findIn K (.ref C) name = some none) (hv : mA name = some v) (hv' : PySem.W.handedIn v = true) (h : Q v { s with toks := s.toks + 1 }) :
    wpAny (model prog w) A (getAttr (.ref x) name expr) Q E s := by
  obtain ⟨od, J, hl⟩ := I.look
  exact PySem.W.get_value X J (PySem.W.plainGet_of hg).1 (PySem.W.findObj_own hh ha rfl (by rw [hl, hv])) hv' h

theorem get_const {expr : Bool} {a : Value} {Q : Value → Shared → Prop} (X : K.In s.heap) (I : ObjM s.heap x dx C mA) (hg : PySem.W.plainGet K C name = true) (hh : PySem.W.hasDictIn K C = true)
    (ha : PySem.W.findIn K (.ref C) name = some (some a)) (hn : PySem.W.specialIn K a "__get__" = some none) (hc : PySem.W.copiedNames.contains name = false) (hv : mA name = none) (hv' : PySem.W.handedIn a = true)
    (h : Q a { s with toks := s.toks + 1 }) : wpAny (model prog w) A (getAttr (.ref x) name expr) Q E s := by
  obtain ⟨od, J, hl⟩ := I.look
  exact PySem.W.get_value X J (PySem.W.plainGet_of hg).1 (PySem.W.findObj_cls hh ha hn hv' hc (by rw [hl, hv])) hv' h

theorem get_meth {pl : Sem Bool} {Q : Value × List Value → Shared → Prop} (X : K.In s.heap) (I : ObjM s.heap x dx C mA) (hg : PySem.W.plainGet K C name = true)
    (hf : PySem.W.findIn K (.ref C) name = some (some (.ref f))) (ht : PySem.W.isFn K (.ref f) = true) (hv : mA name = none) (h : Q (.ref f, [.ref x]) s) :
    wpAny (model prog w) A (getMethod (.ref x) name pl) Q E s := by
  obtain ⟨od, J, hl⟩ := I.look
  exact PySem.W.method_fn X J (PySem.W.plainGet_of hg).1 (PySem.W.plainGet_of hg).2 hf (beq_iff_eq.mp ht) (by show (PySem.W.lookIn name od).map (·.isSome) = some false; rw [hl, hv]; rfl) h

theorem set_map {ns : List Str} {Q : Unit → Shared → Prop} (X : K.In s.heap) (I : ObjM s.heap x dx C mA)
    (hs : PySem.W.findIn K (.ref C) "__setattr__" = some (some (.builtin "object.__setattr__"))) (hp : PySem.W.plainOver K C = true) (ht : PySem.W.takerIn K C name = some none) (hh : PySem.W.hasDictIn K C = true)
    (hw : PySem.Within mA ns) (hsz : ns.length ≤ sizeLine)
    (h : ∀ h', ObjM h' x dx C (fun y => if y = name then some v else mA y) → Heap.SameBut dx s.heap h' → Q () { s with heap := h', toks := s.toks + 2 }) :
    wpAny (model prog w) A (setAttr (.ref x) name v) Q E s := by
  obtain ⟨od, J, hl⟩ := I.look
  refine PySem.W.set_plain X J hs (PySem.W.osa_open (s := { s with toks := s.toks + 1 }) (r := none) X J hp ht fun b => ?_)
  obtain ⟨cd, hc, hd'⟩ := PySem.W.any_some hh
  have hx : s.heap.get? x = some ⟨.ref C, some dx, .plain, #[]⟩ := I.obj
  refine wpAny_bind (wpAny_pure (wpAny_bind (wpAny_bind (wpAny_loadPart hx (wpAny_bind (PySem.W.Looks.here (s := { s with toks := s.toks + 1 }) (PySem.W.looks_clsIn X hc) ?_))))))
  rw [hd']
  refine wpAny_pure (a := some dx) (wpAny_bind (wpAny_pure (wpAny_bind ?_)))
  refine wpAny_nsSet1 (s := { s with toks := s.toks + 1 }) I.ns fun h' hn2 hs2 => ?_
  obtain ⟨oD, esD, epD, hoD, hdD, hcD⟩ := hn2.count (PySem.Within.cons name v hw)
  refine wpAny_bind (wpAny_lookBehind hoD (by rw [hdD]; exact pastItsLine_dict (Nat.le_trans hcD (by rw [List.length_cons]; omega))) ?_)
  exact wpAny_pure (h _ ⟨(hs2.2 _ (Ne.symm I.ne)).trans I.obj, hn2, I.ne⟩ hs2)

/-- C(..): the dict at the heap's end, the instance behind it; then its __init__ -/
theorem make_map {R : Result → Shared → Prop} {vs : List Value} {kw : List (Str × Value)} (X : K.In s.heap) (hm : PySem.W.makesIn K C = true)
    (hi : PySem.W.findIn K (.ref C) "__init__" = some (some (.ref f))) (hf : PySem.W.typeIn K (.ref f) = some (.type "function"))
    (h : codeAny (model prog w) (A.under (.builtin "type.__call__" ⟨.ref C :: vs, kw⟩)) (.call (.ref f) ⟨.ref (s.heap.objs.size + 1) :: vs, kw⟩) (PySem.W.InitBack (s.heap.objs.size + 1) R)
      { s with heap := (s.heap.push PySem.W.emptyDict).push (PySem.W.instObj C s.heap.objs.size) }) :
    codeAny (model prog w) A (.call (.ref C) ⟨vs, kw⟩) R s := by
  obtain ⟨hh, g, d, t, os⟩ := s
  exact PySem.W.make_core (PySem.W.makes_of X hm) (PySem.W.looks_findIn X hi) (fun self => PySem.W.bind_fn X self hf) (.inl rfl) h
/-- C() where there is no __init__ but object's -/
theorem make_map0 {R : Result → Shared → Prop} (X : K.In s.heap) (hm : PySem.W.makesIn K C = true)
    (hi : PySem.W.findIn K (.ref C) "__init__" = some (some (.builtin "object.__init__")))
    (hb : ∀ self, PySem.W.Looks (model prog w) s.heap (bindSpecial (.builtin "object.__init__") self) (.builtin "object.__init__", [self]))
    (h : codeAny (model prog w) (A.under (.builtin "type.__call__" ⟨[.ref C], []⟩)) (.call (.builtin "object.__init__") ⟨[.ref (s.heap.objs.size + 1)], []⟩) (PySem.W.InitBack (s.heap.objs.size + 1) R)
      { s with heap := (s.heap.push PySem.W.emptyDict).push (PySem.W.instObj C s.heap.objs.size) }) :
    codeAny (model prog w) A (.call (.ref C) ⟨[], []⟩) R s := by
  obtain ⟨hh, g, d, t, os⟩ := s
  exact PySem.W.make_core (PySem.W.makes_of X hm) (PySem.W.looks_findIn X hi) hb (.inr ⟨rfl, rfl⟩) h
end

/-! ### the attributes as a list of pairs -/
def putF (f : Str) (v : V) : List (Str × V) → List (Str × V)
  | [] => [(f, v)]
  | (g, x) :: r => if g = f then (g, v) :: r else (g, x) :: putF f v r
theorem lookup_putF (f g : Str) (v : V) : ∀ fs : List (Str × V), (putF f v fs).lookup g = if g = f then some v else fs.lookup g
  | [] => by
    show List.lookup g [(f, v)] = _
    by_cases h : g = f
    · have hb : (g == f) = true := beq_iff_eq.mpr h
      simp only [List.lookup, hb, if_pos h]
    · have hb : (g == f) = false := beq_eq_false_iff_ne.mpr h
      simp only [List.lookup, hb, if_neg h]
  | (k, x) :: r => by
    have ih := lookup_putF f g v r
    rw [show putF f v ((k, x) :: r) = (if k = f then (k, v) :: r else (k, x) :: putF f v r) from rfl]
    by_cases hk : k = f
    · rw [if_pos hk]
      by_cases h : g = k
      · have hb : (g == k) = true := beq_iff_eq.mpr h
        simp only [List.lookup, hb, if_pos (h.trans hk)]
      · have hb : (g == k) = false := beq_eq_false_iff_ne.mpr h
        simp only [List.lookup, hb, if_neg (fun e : g = f => h (e.trans hk.symm))]
    · rw [if_neg hk]
      by_cases h : g = k
      · have hb : (g == k) = true := beq_iff_eq.mpr h
        simp only [List.lookup, hb, if_neg (fun e : g = f => hk (h.symm.trans e))]
      · have hb : (g == k) = false := beq_eq_false_iff_ne.mpr h
        simp only [List.lookup, hb]
        exact ih
theorem keys_putF (f : Str) (v : V) : ∀ fs : List (Str × V), f ∈ (putF f v fs).map (·.1) ∧ ∀ g, g ∈ fs.map (·.1) → g ∈ (putF f v fs).map (·.1)
  | [] => ⟨by simp [putF], fun g h => by simp at h⟩
  | (k, x) :: r => by
    obtain ⟨i1, i2⟩ := keys_putF f v r
    rw [show putF f v ((k, x) :: r) = (if k = f then (k, v) :: r else (k, x) :: putF f v r) from rfl]
    by_cases hk : k = f
    · rw [if_pos hk]
      subst hk
      exact ⟨by simp, fun g h => by simpa using h⟩
    · rw [if_neg hk]
      refine ⟨?_, fun g h => ?_⟩
      · rw [List.map_cons]
        exact List.mem_cons_of_mem _ i1
      · rw [List.map_cons] at h ⊢
        rcases List.mem_cons.mp h with e | e
        · exact List.mem_cons.mpr (.inl e)
        · exact List.mem_cons_of_mem _ (i2 g e)
theorem length_putF (f : Str) (v : V) : ∀ fs : List (Str × V), (putF f v fs).length ≤ fs.length + 1
  | [] => by simp [putF]
  | (k, x) :: r => by
    have ih := length_putF f v r
    rw [show putF f v ((k, x) :: r) = (if k = f then (k, v) :: r else (k, x) :: putF f v r) from rfl]
    by_cases hk : k = f
    · rw [if_pos hk, List.length_cons, List.length_cons]; omega
    · rw [if_neg hk, List.length_cons, List.length_cons]; omega

theorem RelO.some_of {v : V} {o : Option Value} (r : RelO (some v) o) : ∃ u, o = some u ∧ RelV v u := by
  cases o with
  | none => exact (show False from r).elim
  | some u => exact ⟨u, rfl, r⟩
theorem RelO.none_of {o : Option Value} (r : RelO none o) : o = none := by
  cases o with
  | none => rfl
  | some u => exact (show False from r).elim
theorem handed_of {v : V} {u : Value} (r : RelV v u) : PySem.W.handedIn u = true := by
  cases v with
  | non => cases (show u = Value.none from r); rfl
  | bl b => cases (show u = Value.bool b from r); rfl
  | int i => obtain ⟨t, e⟩ := (show ∃ t, u = Value.int i t from r); cases e; rfl
  | str x => obtain ⟨t, e⟩ := (show ∃ t, u = Value.str x t from r); cases e; rfl
  | byt b => obtain ⟨t, e⟩ := (show ∃ t, u = Value.bytes b t from r); cases e; rfl
  | flt b => obtain ⟨t, e⟩ := (show ∃ t, u = Value.float b t from r); cases e; rfl
  | ref a => cases (show u = Value.ref a from r); rfl
  | ty n => cases (show u = Value.type n from r); rfl

section
variable {P : Program} {w : World} {H H' : Hp} {h h' : Heap} {a C dx : Addr} {fs fs' : List (Str × V)}
theorem ins_get (hok : HOk P w H h) (e : H a = some (.ins C dx fs)) : ∃ mA, ObjM h a dx C mA ∧ (∀ f, RelO (fs.lookup f) (mA f)) ∧ PySem.Within mA (fs.map (·.1)) ∧ fs.length ≤ 1000 ∧ H dx = some (.own a) := by
  obtain ⟨d, z, ne, ob, mA, n, r, q⟩ := (show ObjOk P w H h a (.ins C dx fs) from hok a _ e)
  exact ⟨mA, ⟨ob, n, ne⟩, r, q, z, d⟩
end

/-! ### what of the text a class must have -/
structure Cls (K : PySem.W.Frag) (C : Addr) : Prop where
  pg : PySem.W.plainGet K C Str.empty = true
  hd : PySem.W.hasDictIn K C = true
  po : PySem.W.plainOver K C = true
  sa : PySem.W.findIn K (.ref C) "__setattr__" = some (some (.builtin "object.__setattr__"))
theorem Cls.get {K : PySem.W.Frag} {C : Addr} (c : Cls K C) (f : Str) : PySem.W.plainGet K C f = true := c.pg
/-- no class of it has the name -/
def NoAttr (K : PySem.W.Frag) (C : Addr) (f : Str) : Prop := PySem.W.findIn K (.ref C) f = some none
theorem NoAttr.taker {K : PySem.W.Frag} {C : Addr} {f : Str} (n : NoAttr K C f) : PySem.W.takerIn K C f = some none := by
  unfold PySem.W.takerIn
  rw [show PySem.W.findIn K (.ref C) f = some none from n]
  rfl
/-- a constant of the class -/
structure Con (K : PySem.W.Frag) (C : Addr) (f : Str) (v : V) (u : Value) : Prop where
  at_ : PySem.W.findIn K (.ref C) f = some (some u)
  rel : RelV v u
  get : PySem.W.specialIn K u "__get__" = some none
  cp : PySem.W.copiedNames.contains f = false
/-- a method: a plain def of the class or of one above it -/
structure Meth (K : PySem.W.Frag) (C : Addr) (m : Str) (f : Addr) : Prop where
  at_ : PySem.W.findIn K (.ref C) m = some (some (.ref f))
  fn : PySem.W.isFn K (.ref f) = true
  kp : PySem.W.keepIn K (.ref f) = true

section
variable {X : Cx} {pins : List (Addr × Obj)} {σ : St} {H : Hp} {s : Shared} {a C dx : Addr} {fs : List (Str × V)} {f : Str} {v : V} {A : Around} {E : Value → Shared → Prop}

theorem getattr_ok {b : Bool} {Q : Value → Shared → Prop} (I : Inv X pins σ H s) (e : H a = some (.ins C dx fs)) (c : Cls X.K C) (n : NoAttr X.K C f) (l : fs.lookup f = some v)
    (h : ∀ u s', Inv X pins σ H s' → RelV v u → Q u s') : wpAny (model X.prog X.w) A (getAttr (.ref a) f b) Q E s := by
  obtain ⟨mA, O, r, _, _, _⟩ := ins_get I.hok e
  obtain ⟨u, hu, ru⟩ := RelO.some_of (v := v) (o := mA f) (by rw [← l]; exact r f)
  exact get_map I.kIn O (c.get f) c.hd n hu (handed_of ru) (h u _ (I.tok _) ru)

theorem getcon_ok {b : Bool} {u : Value} {Q : Value → Shared → Prop} (I : Inv X pins σ H s) (e : H a = some (.ins C dx fs)) (c : Cls X.K C) (k : Con X.K C f v u) (l : fs.lookup f = none)
    (h : ∀ s', Inv X pins σ H s' → Q u s') : wpAny (model X.prog X.w) A (getAttr (.ref a) f b) Q E s := by
  obtain ⟨mA, O, r, _, _, _⟩ := ins_get I.hok e
  have hn : mA f = none := RelO.none_of (by rw [← l]; exact r f)
  exact get_const I.kIn O (c.get f) c.hd k.at_ k.get k.cp hn (handed_of k.rel) (h _ (I.tok _))

theorem getmeth_ok {m : Str} {g : Addr} {pl : Sem Bool} {Q : Value × List Value → Shared → Prop} (I : Inv X pins σ H s) (e : H a = some (.ins C dx fs)) (c : Cls X.K C) (k : Meth X.K C m g) (l : fs.lookup m = none)
    (h : Q (.ref g, [.ref a]) s) : wpAny (model X.prog X.w) A (getMethod (.ref a) m pl) Q E s := by
  obtain ⟨mA, O, r, _, _, _⟩ := ins_get I.hok e
  have hn : mA m = none := RelO.none_of (by rw [← l]; exact r m)
  exact get_meth I.kIn O (c.get m) k.at_ k.fn hn h

theorem setattr_ok {y : V} {u : Value} {Q : Unit → Shared → Prop} (I : Inv X pins σ H s) (e : H a = some (.ins C dx fs)) (c : Cls X.K C) (n : NoAttr X.K C f) (hl : fs.length < 1000) (ry : RelV y u)
    (h : ∀ s', Inv X pins σ (upd H a (.ins C dx (putF f y fs))) s' → Q () s') : wpAny (model X.prog X.w) A (setAttr (.ref a) f u) Q E s := by
  obtain ⟨mA, O, r, wi, _, ho⟩ := ins_get I.hok e
  have hz : (fs.map (·.1)).length ≤ sizeLine := by rw [List.length_map, sizeLine_eq]; omega
  refine set_map I.kIn O c.sa c.po n.taker c.hd wi hz fun h' O' sb => h _ ?_
  have hd : ∃ o, h'.get? dx = some o := let ⟨o, _, _, e', _⟩ := O'.ns; ⟨o, e'⟩
  refine I.write (x := a) (e := dx) (by rw [e]; exact True.intro) (.inr ho) (fun b q hb z => (sb.2 b hb).trans z) hd ?_
  refine ⟨by rw [upd_ne O.ne]; exact ho, ?_, O.ne, O'.obj, _, O'.ns, fun g => ?_, fun g hg => ?_⟩
  · have := length_putF f y fs; omega
  · show RelO ((putF f y fs).lookup g) (if g = f then some u else mA g)
    rw [lookup_putF]
    by_cases q : g = f
    · rw [if_pos q, if_pos q]; exact ry
    · rw [if_neg q, if_neg q]; exact r g
  · by_cases q : g = f
    · rw [q]; exact (keys_putF f y fs).1
    · refine (keys_putF f y fs).2 g (wi g fun z => hg ?_)
      show (if g = f then some u else mA g) = none
      rw [if_neg q]; exact z

/-- a new instance, tracked, without attributes -/
theorem Inv.made (I : Inv X pins σ H s) : Inv X pins σ (upd (upd H s.heap.objs.size (.own (s.heap.objs.size + 1))) (s.heap.objs.size + 1) (.ins C s.heap.objs.size []))
    { s with heap := (s.heap.push PySem.W.emptyDict).push (PySem.W.instObj C s.heap.objs.size) } := by
  have e1 : (s.heap.push PySem.W.emptyDict).get? s.heap.objs.size = some PySem.W.emptyDict := Heap.get?_push_size s.heap rfl
  have e2 : ((s.heap.push PySem.W.emptyDict).push (PySem.W.instObj C s.heap.objs.size)).get? (s.heap.objs.size + 1) = some (PySem.W.instObj C s.heap.objs.size) := by
    have := Heap.get?_push_size (s.heap.push PySem.W.emptyDict) (o := PySem.W.instObj C s.heap.objs.size) rfl
    rwa [Heap.size_push] at this
  have e3 : (s.heap.push PySem.W.emptyDict).Ns s.heap.objs.size (fun _ => none) := ⟨PySem.W.emptyDict, #[], _, e1, rfl, (fun e he => absurd he (by simp)), fun _ => rfl⟩
  have I1 := I.laid (a := s.heap.objs.size) (o := .own (s.heap.objs.size + 1)) (h' := s.heap.push PySem.W.emptyDict) (t' := s.toks) (fun b u q => Heap.get?_push_of_some _ q) (Nat.le_refl _) ⟨_, e1⟩
  refine I1.laid (a := s.heap.objs.size + 1) (o := .ins C s.heap.objs.size []) (t' := s.toks) (fun b u q => Heap.get?_push_of_some _ q) (Nat.le_of_eq (Heap.size_push _ _)) ?_
  have ne : s.heap.objs.size ≠ s.heap.objs.size + 1 := Nat.ne_of_lt (Nat.lt_succ_self _)
  refine ⟨by rw [upd_ne ne, upd_same], Nat.zero_le _, ne, e2, fun _ => none, (Heap.Ns1.of_empty e3).at fun o q => Heap.get?_push_of_some _ q, fun _ => True.intro, fun y hy => absurd rfl hy⟩

/-- e.f where nothing but the object is asked: through attributeBase (super) and the last hold -/
theorem attr_of {prog : Program} {w : World} {env : Env} {e : Expr} {f : Str} {pos : Pos} {s : Shared} {Q : Value → Shared → Prop} (hb : attributeBase e f env (eval e env) = eval e env)
    (h : wpAny (model prog w) A (eval e env) (fun o s₁ => wpAny (model prog w) A (getAttr o f true) Q E s₁) E s) : wpAny (model prog w) A (eval (.Attribute e f pos) env) Q E s :=
  Attribute_any_ h (by rw [arm_eval_Attribute, hb])
end

/-! ### readings and rules -/
/-- e.f, an attribute of the instance -/
def tFld (K : PySem.W.Frag) (ta : TE) (f : Str) : TE := fun σ H Q => ta σ H fun x H1 => ∃ a C dx fs v, x = .ref a ∧ H1 a = some (.ins C dx fs) ∧ Cls K C ∧ NoAttr K C f ∧ fs.lookup f = some v ∧ Q v H1
/-- e.f, a constant of the class -/
def tCon (K : PySem.W.Frag) (ta : TE) (f : Str) : TE := fun σ H Q => ta σ H fun x H1 => ∃ a C dx fs v u, x = .ref a ∧ H1 a = some (.ins C dx fs) ∧ Cls K C ∧ Con K C f v u ∧ fs.lookup f = none ∧ Q v H1
/-- e.f = value -/
def sFld (K : PySem.W.Frag) (ta tv : TE) (f : Str) : TS := fun D σ H => tv σ H fun y H1 => ta σ H1 fun x H2 => ∃ a C dx fs, x = .ref a ∧ H2 a = some (.ins C dx fs) ∧ Cls K C ∧ NoAttr K C f ∧ fs.length < 1000 ∧
  D.nx σ (upd H2 a (.ins C dx (putF f y fs)))
/-- an augmented operator on two values -/
def InOp (X : Cx) (op : Operator) (rd : V → V → Hp → VK → Prop) : Prop :=
  ∀ (pins : List (Addr × Obj)) (s : Shared) (σ : St) (H : Hp) (x y : V) (u v : Value) (Q : VK), Inv X pins σ H s → RelV x u → RelV y v → rd x y H Q → wpAny (model X.prog X.w) X.A (inplaceOp op u v) (EP X pins σ Q) X.xe s
/-- e.f op= value -/
def sFldAug (K : PySem.W.Frag) (ta tv : TE) (rd : V → V → Hp → VK → Prop) (f : Str) : TS := fun D σ H => ta σ H fun x H1 => ∃ a C dx fs v, x = .ref a ∧ H1 a = some (.ins C dx fs) ∧ Cls K C ∧ NoAttr K C f ∧ fs.lookup f = some v ∧
  tv σ H1 fun y H2 => rd v y H2 fun z H3 => ∃ dx' fs', H3 a = some (.ins C dx' fs') ∧ fs'.length < 1000 ∧ D.nx σ (upd H3 a (.ins C dx' (putF f z fs')))

section
variable {X : Cx} {o e value : Expr} {f : Str} {pos pos' tpos : Pos} {ta tv : TE}
theorem pe_fld (he : PE X e ta) (hb : attributeBase e f X.env (eval e X.env) = eval e X.env) : PE X (.Attribute e f pos) (tFld X.K ta f) := by
  intro pins s σ H Q I h
  refine attr_of hb (thn (he pins s σ H _ I h) fun u s1 ⟨x, H1, I1, rx, a, C, dx, fs, v, ex, ea, c, n, l, q⟩ => ?_)
  subst ex
  obtain rfl : u = Value.ref a := rx
  exact getattr_ok I1 ea c n l fun u' s2 I2 ru => ⟨v, H1, I2, ru, q⟩
theorem pe_con (he : PE X e ta) (hb : attributeBase e f X.env (eval e X.env) = eval e X.env) : PE X (.Attribute e f pos) (tCon X.K ta f) := by
  intro pins s σ H Q I h
  refine attr_of hb (thn (he pins s σ H _ I h) fun u s1 ⟨x, H1, I1, rx, a, C, dx, fs, v, u0, ex, ea, c, k, l, q⟩ => ?_)
  subst ex
  obtain rfl : u = Value.ref a := rx
  exact getcon_ok I1 ea c k l fun s2 I2 => ⟨v, H1, I2, k.rel, q⟩
theorem ps_fld (ha : PE X o ta) (hv : PE X value tv) (hs : swapsWith value (some (.Attribute o f pos')) pos.line X.env = pure false) : PS X (.Assign [.Attribute o f pos'] value pos) (sFld X.K ta tv f) := by
  intro pins s σ H D I h
  refine plainObj_wpAny_Assign_Attribute (thn (hv pins s σ H _ I h) fun u s1 ⟨y, H1, I1, ry, q⟩ => thn (ha pins s1 σ H1 _ I1 q) fun ov s2 ⟨x, H2, I2, rx, a, C, dx, fs, ex, ea, c, n, l, q2⟩ => ?_) hs
  subst ex
  obtain rfl : ov = Value.ref a := rx
  exact setattr_ok I2 ea c n l ry fun s3 I3 => ⟨σ, _, I3, q2⟩
theorem ps_fldaug {op : Operator} {rd : V → V → Hp → VK → Prop} (ha : PE X o ta) (hv : PE X value tv) (hop : InOp X op rd) : PS X (.AugAssign (.Attribute o f tpos) op value pos) (sFldAug X.K ta tv rd f) := by
  intro pins s σ H D I h
  refine wpAny_AugAssign_AttributeAny (thn (ha pins s σ H _ I h) fun ov s1 ⟨x, H1, I1, rx, a, C, dx, fs, v, ex, ea, c, n, l, q⟩ => ?_)
  subst ex
  obtain rfl : ov = Value.ref a := rx
  refine getattr_ok I1 ea c n l fun u s2 I2 ru => thn (hv pins s2 σ H1 _ I2 q) fun w3 s3 ⟨y, H2, I3, ry, q3⟩ => thn (hop pins s3 σ H2 v y u w3 _ I3 ru ry q3) fun w4 s4 ⟨z, H3, I4, rz, dx', fs', ea', l', q4⟩ => ?_
  exact setattr_ok I4 ea' c n l' rz fun s5 I5 => ⟨σ, _, I5, q4⟩
def rAdd : V → V → Hp → VK → Prop := fun x y H Q => ∃ i j, x = .int i ∧ y = .int j ∧ Q (.int (i + j)) H
def rSub : V → V → Hp → VK → Prop := fun x y H Q => ∃ i j, x = .int i ∧ y = .int j ∧ Q (.int (i - j)) H
theorem in_add : InOp X .Add rAdd := by
  rintro pins s σ H x y u v Q I rx ry ⟨i, j, rfl, rfl, q⟩
  obtain ⟨t, rfl⟩ := (show ∃ t, u = Value.int i t from rx)
  obtain ⟨t', rfl⟩ := (show ∃ t', v = Value.int j t' from ry)
  exact PyProof.Rows.iadd_int ⟨.int (i + j), H, I.tok _, ⟨_, rfl⟩, q⟩
theorem in_sub : InOp X .Sub rSub := by
  rintro pins s σ H x y u v Q I rx ry ⟨i, j, rfl, rfl, q⟩
  obtain ⟨t, rfl⟩ := (show ∃ t, u = Value.int i t from rx)
  obtain ⟨t', rfl⟩ := (show ∃ t', v = Value.int j t' from ry)
  exact PyProof.Rows.isub_int ⟨.int (i - j), H, I.tok _, ⟨_, rfl⟩, q⟩

/-- what is between an instance and its method: the tree of a method call -/
theorem methcall_of {pl : Sem Bool} {m : Str} {apos : Pos} {args : List Expr} {pins : List (Addr × Obj)} {s : Shared} {σ : St} {H : Hp} {Q : Value → Shared → Prop} {te : TE} (he : PE X e te) (I : Inv X pins σ H s)
    (h : te σ H fun x H1 => ∃ a C dx fs g, x = .ref a ∧ H1 a = some (.ins C dx fs) ∧ Cls X.K C ∧ Meth X.K C m g ∧ fs.lookup m = none ∧
      ∀ s1, Inv X pins σ H1 s1 → wpAny (model X.prog X.w) X.A (callWith pos (.ref g) [.ref a] (backTo pos (starEach args X.env)) (backToKw pos (keywordEach [] X.env))) Q X.xe s1)
    (ht : eval (.Call (.Attribute e m apos) args [] pos) X.env = (do
      let ov ← eval e X.env
      standAt apos.atName
      let (f, first) ← holding [ov] (getMethod ov m pl)
      callWith pos f first (backTo pos (starEach args X.env)) (backToKw pos (keywordEach [] X.env)))) :
    wpAny (model X.prog X.w) X.A (eval (.Call (.Attribute e m apos) args [] pos) X.env) Q X.xe s := by
  refine PySem.W.methodCall_KW (pl := pl) (thn (he pins s σ H _ I h) fun u s1 ⟨x, H1, I1, rx, a, C, dx, fs, g, ex, ea, c, k, l, q⟩ => ?_) ht
  subst ex
  obtain rfl : u = Value.ref a := rx
  exact getmeth_ok I1 ea c k l (q s1 I1)
end

/-! ### isinstance -/
section
variable {X : Cx} {pins : List (Addr × Obj)} {σ : St} {H : Hp} {s : Shared} {A : Around} {E : Value → Shared → Prop} {Q : Value → Shared → Prop} {c : Value} {b : Bool}
/-- the type of a value, as the fragment's deciders take it; for an instance its class -/
inductive TyOf (K : PySem.W.Frag) (H : Hp) : V → Value → Prop where
  | non : TyOf K H .non (.type "NoneType")
  | bl (x : Bool) : TyOf K H (.bl x) (.type "bool")
  | int (i : Int) : TyOf K H (.int i) (.type "int")
  | str (x : Str) : TyOf K H (.str x) (.type "str")
  | flt (x : UInt64) : TyOf K H (.flt x) (.type "float")
  | lst {a : Addr} {xs : List V} (e : H a = some (.lst xs)) : TyOf K H (.ref a) (.type "list")
  | frz {a : Addr} {o : Obj} {xs : List V} (e : H a = some (.frz o (.lst xs))) : TyOf K H (.ref a) (.type "list")
  | tup {a : Addr} {xs : List V} (e : H a = some (.tup xs)) : TyOf K H (.ref a) (.type "tuple")
  | dK {a : Addr} {kvs : List (Key × V)} (e : H a = some (.dK kvs)) : TyOf K H (.ref a) (.type "dict")
  | dT {a : Addr} {kvs : List (List Key × V)} (e : H a = some (.dT kvs)) : TyOf K H (.ref a) (.type "dict")
  | ins {a C dx : Addr} {fs : List (Str × V)} (e : H a = some (.ins C dx fs)) (cl : Cls K C) (ha : PySem.W.findIn K (.ref C) "__class__" = some (some (.builtin "object.__class__")))
      (hn : PySem.W.specialIn K (.builtin "object.__class__") "__get__" = some (some (.builtin "getset_descriptor.__get__"))) (htk : PySem.W.takesIn K (.builtin "object.__class__") = some true)
      (hm : PySem.W.mroIn K C (.type "object") = some true) : TyOf K H (.ref a) (.ref C)
/-- isinstance(x, c) for one class c, a built-in or an own one: kitOne's answer -/
theorem isinst_ok {x : V} {u t : Value} (I : Inv X pins σ H s) (rx : RelV x u) (ty : TyOf X.K H x t) (e : PySem.W.kitOne X.K t c = some b) (h : ∀ tk, Q (.bool b) { s with toks := tk }) :
    wpAny (model X.prog X.w) A (call (.builtin "isinstance") [u, c]) Q E s := by
  cases ty with
  | non => cases (show u = Value.none from rx); exact PySem.W.kia_one PySem.W.kitx_none I.kIn True.intro e (fun z => nomatch z) h
  | bl y => cases (show u = Value.bool y from rx); exact PySem.W.kia_one PySem.W.kitx_bool I.kIn True.intro e (fun z => nomatch z) h
  | int i => obtain ⟨t, q⟩ := (show ∃ t, u = Value.int i t from rx); cases q; exact PySem.W.kia_one PySem.W.kitx_int I.kIn True.intro e (fun z => nomatch z) h
  | str y => obtain ⟨t, q⟩ := (show ∃ t, u = Value.str y t from rx); cases q; exact PySem.W.kia_one PySem.W.kitx_str I.kIn True.intro e (fun z => nomatch z) h
  | flt y => obtain ⟨t, q⟩ := (show ∃ t, u = Value.float y t from rx); cases q; exact PySem.W.kia_one PySem.W.kitx_float I.kIn True.intro e (fun z => nomatch z) h
  | @lst a xs ea =>
    cases (show u = Value.ref a from rx)
    obtain ⟨_, _, n, _, h1⟩ := (show ObjOk X.prog X.w H s.heap a (.lst xs) from I.hok a _ ea)
    exact PySem.W.kia_one PySem.W.kitx_list I.kIn ⟨_, h1, rfl⟩ e (fun z => nomatch z) h
  | @frz a ob xs ea =>
    cases (show u = Value.ref a from rx)
    obtain ⟨_, _, _, n, _, h1⟩ := (show ObjOk X.prog X.w H s.heap a (.frz ob (.lst xs)) from I.hok a _ ea)
    exact PySem.W.kia_one PySem.W.kitx_list I.kIn ⟨_, h1, rfl⟩ e (fun z => nomatch z) h
  | @tup a xs ea =>
    cases (show u = Value.ref a from rx)
    obtain ⟨_, _, _, p, _⟩ := (show ObjOk X.prog X.w H s.heap a (.tup xs) from I.hok a _ ea)
    obtain ⟨o, h1, h2, _⟩ := p
    exact PySem.W.kia_one PySem.W.kitx_tuple I.kIn ⟨o, h1, h2⟩ e (fun z => nomatch z) h
  | @dK a kvs ea =>
    cases (show u = Value.ref a from rx)
    obtain ⟨_, _, vs, _, p⟩ := (show ObjOk X.prog X.w H s.heap a (.dK kvs) from I.hok a _ ea)
    obtain ⟨o, es, ep, h1, h2, _⟩ := p
    exact PySem.W.kia_one PySem.W.kitx_dict I.kIn ⟨o, h1, h2.1⟩ e (fun z => nomatch z) h
  | @dT a kvs ea =>
    cases (show u = Value.ref a from rx)
    obtain ⟨_, _, xs, _, o, es, ep, h1, h2, _⟩ := (show ObjOk X.prog X.w H s.heap a (.dT kvs) from I.hok a _ ea)
    exact PySem.W.kia_one PySem.W.kitx_dict I.kIn ⟨o, h1, h2.1⟩ e (fun z => nomatch z) h
  | @ins a C dx fs ea cl ha hn htk hm =>
    cases (show u = Value.ref a from rx)
    obtain ⟨mA, O, _⟩ := ins_get I.hok ea
    obtain ⟨od, J, _⟩ := O.look
    exact PySem.W.kia_one (PySem.W.kitx_own (cl.get _) cl.hd ha hn htk hm) I.kIn J e (fun z => nomatch z) h
end
end L2

namespace L2
open PySem PySem.Spec PyProof.Rows

/-! ### room -/
structure Room (k : Nat) (A : Around) : Prop where
  hd : A.handled = none
  dp : A.depth + 3 * k + 5 < recursionLimit
  un : A.units + 16 * k + 200 < cLine
theorem Room.mono {j k : Nat} {A : Around} (r : Room k A) (h : j ≤ k) : Room j A := ⟨r.hd, by have := r.dp; omega, by have := r.un; omega⟩
theorem Room.deeper {k : Nat} {A : Around} (r : Room (k + 1) A) (env : Env) : Room k (A.deeper env) :=
  ⟨r.hd, by have := r.dp; show A.depth + 1 + 3 * k + 5 < _; omega, by have := r.un; show A.units + 3 + 16 * k + 200 < _; omega⟩
theorem Room.in1 {k : Nat} {A : Around} (r : Room (k + 1) A) : Room k A.in1 :=
  ⟨r.hd, by have := r.dp; show A.depth + 3 * k + 5 < _; omega, by have := r.un; show A.units + 1 + 16 * k + 200 < _; omega⟩
theorem make_depth {A : Around} {C : Addr} {us : List Value} {kw : List (Str × Value)} : (A.under (.builtin "type.__call__" ⟨.ref C :: us, kw⟩)).depth = A.depth + 1 := by
  first | rfl | simp [Around.under, Code.weight, Code.isCreation, Code.isGuard, Code.isCaller, Code.frames, Code.isFrame, guardIds]
theorem make_units {A : Around} {C : Addr} {us : List Value} {kw : List (Str × Value)} : (A.under (.builtin "type.__call__" ⟨.ref C :: us, kw⟩)).units = A.units + 1 := by
  first | rfl | simp [Around.under, Code.cUnits, Code.frames, Code.isFrame]
theorem Room.make {k : Nat} {A : Around} (r : Room (k + 1) A) (C : Addr) (us : List Value) (kw : List (Str × Value)) : Room k (A.under (.builtin "type.__call__" ⟨.ref C :: us, kw⟩)) :=
  ⟨r.hd, by have := r.dp; rw [make_depth]; omega, by have := r.un; rw [make_units]; omega⟩
theorem Room.depth {k : Nat} {A : Around} (r : Room k A) : A.depth < recursionLimit := by have := r.dp; omega
theorem Room.units {k : Nat} {A : Around} (r : Room k A) : A.units + 64 < cLine := by have := r.un; omega
theorem Room.units0 {k : Nat} {A : Around} (r : Room k A) : A.units < cLine := by have := r.un; omega

/-! ### argument lists and displays -/
def tNil : TA := fun _ H Q => Q [] H
def tCons (ta : TE) (tr : TA) : TA := fun σ H Q => ta σ H fun x H1 => tr σ H1 fun xs H2 => Q (x :: xs) H2
section
variable {X : Cx} {e : Expr} {es : List Expr} {te : TE} {t : TA} {pos : Pos}
theorem pa_nil : PA X [] tNil := fun _ _ _ _ H Q I h => Calls.spliced_nil ⟨[], H, I, .nil, h⟩
theorem pa_cons (ha : PE X e te) (hr : PA X es t) (hs : starEach (e :: es) X.env = (false, eval e X.env) :: starEach es X.env := by rfl) : PA X (e :: es) (tCons te t) := by
  intro pos pins s σ H Q I h
  rw [hs]
  show wpAny _ _ (spliced ((false, eval e X.env) :: backTo pos (starEach es X.env))) _ _ s
  refine Calls.spliced_cons (thn (ha pins s σ H _ I h) fun u s1 ⟨x, H1, I1, r1, q1⟩ => ?_)
  exact thn (hr pos pins s1 σ H1 _ I1 q1) fun us s2 ⟨xs, H2, I2, r2, q2⟩ => ⟨x :: xs, H2, I2, .cons r1 r2, q2⟩

/-- a tuple, a list of written items -/
def tTup (t : TA) : TE := fun σ H Q => t σ H fun xs H1 => xs.length ≤ sizeLine ∧ ∀ p, H1 p = none → Q (.ref p) (upd H1 p (.tup xs))
def tLst (t : TA) : TE := fun σ H Q => t σ H fun xs H1 => xs.length ≤ sizeLine ∧ ∀ p, H1 p = none → Q (.ref p) (upd H1 p (.lst xs))
theorem pe_tup {x1} (h : PA X es t) : PE X (.Tuple es x1 pos) (tTup t) := by
  intro pins s σ H Q I hq
  refine wpAny_Tuple_spliced (thn (h pos pins s σ H _ I hq) fun us s1 ⟨xs, H1, I1, r, z, q⟩ => ⟨by rw [← r.length]; exact z, ?_⟩)
  have hf : H1 s1.heap.objs.size = none := I1.hok.fresh (Nat.le_refl _)
  refine ⟨.ref s1.heap.objs.size, upd H1 s1.heap.objs.size (.tup xs), I1.laid (t' := s1.toks) (fun b u e => Heap.get?_push_of_some _ e) (Nat.le_refl _) ?_, rfl, q _ hf⟩
  exact ⟨z, us, r, ⟨_, Heap.get?_push_size _ rfl, rfl, _, rfl⟩, _, Heap.get?_push_size _ rfl, rfl⟩
theorem pe_lst (h : PA X es t) : PE X (.List es pos) (tLst t) := by
  intro pins s σ H Q I hq
  refine wpAny_List_spliced (thn (h pos pins s σ H _ I hq) fun us s1 ⟨xs, H1, I1, r, z, q⟩ => ⟨by rw [← r.length]; exact z, ?_⟩)
  have hf : H1 s1.heap.objs.size = none := I1.hok.fresh (Nat.le_refl _)
  refine ⟨.ref s1.heap.objs.size, upd H1 s1.heap.objs.size (.lst xs), I1.laid (t' := s1.toks) (fun b u e => Heap.get?_push_of_some _ e) (Nat.le_refl _) ?_, rfl, q _ hf⟩
  exact ⟨z, us, 0, r, Heap.get?_push_size _ rfl⟩
end

/-! ### what a def promises -/
/-- a def's promise: the bound arguments in the parameters' order, the heap, the wanted end, the wanted exception -/
abbrev Sp := List V → Hp → VK → XK → Prop
/-- how an exception lies behind a call (file 08 gives it): the callers' frames, abstract heap and state ahead of the call, the wish, the exception, the state -/
abbrev CXT := List Env → Hp → Shared → XK → Value → Shared → Prop

/-- the state at a call -/
structure Env0 (P : Program) (w : World) (K : PySem.W.Frag) (mg : Str → Option Value) (base : Heap) (A : Around) (outer : List Env) (s : Shared) (H : Hp) : Prop where
  frames : A.frames = some outer
  mod : Mod K mg base
  bs : ∀ b o, base.get? b = some o → s.heap.get? b = some o ∧ H b = none
  bsz : base.objs.size ≤ s.heap.objs.size
  funs : s.heap.FunFrames base outer
  frf : ∀ b ∈ frs outer, H b = none
  hok : HOk P w H s.heap
  bare : AllBare s.gens
/-- a call's end -/
def CE (outer : List Env) (P : Program) (w : World) (H : Hp) (s : Shared) (Q : VK) (u : Value) (s' : Shared) : Prop :=
  ∃ v H', s'.os = s.os ∧ AllBare s'.gens ∧ Un (frs outer) [] H H' s.heap s'.heap ∧ HOk P w H' s'.heap ∧ RelV v u ∧ Q v H'
def CR (CX : CXT) (outer : List Env) (P : Program) (w : World) (H : Hp) (s : Shared) (Q : VK) (E : XK) (r : Result) (s' : Shared) : Prop :=
  match r with
  | .ok (.ret u) => CE outer P w H s Q u s'
  | .ok _ => False
  | .error e => CX outer H s E e s'
structure FnOk (P : Program) (w : World) (K : PySem.W.Frag) (mg : Str → Option Value) (base : Heap) (CX : CXT) (k : Nat) (f : Addr) (fd : FuncData) (ps : List Str) (sp : Sp) : Prop where
  len : ∀ vs H Q E, sp vs H Q E → vs.length = ps.length
  run : ∀ (A : Around) (outer : List Env) (s : Shared) (H : Hp) (args : Args) (us : List Value) (vs : List V) (Q : VK) (E : XK), Room k A → Env0 P w K mg base A outer s H → BindsTo s fd args (ps.zip us) → Vals vs us → sp vs H Q E →
    codeAny (model P w) A (.call (.ref f) args) (CR CX outer P w H s Q E) s
theorem FnOk.mono {P : Program} {w : World} {K : PySem.W.Frag} {mg : Str → Option Value} {base : Heap} {CX : CXT} {j k : Nat} {f : Addr} {fd : FuncData} {ps : List Str} {sp : Sp} (F : FnOk P w K mg base CX j f fd ps sp) (h : j ≤ k) :
    FnOk P w K mg base CX k f fd ps sp := ⟨F.len, fun A outer s H args us vs Q E hr => F.run A outer s H args us vs Q E (hr.mono h)⟩
/-- a weaker promise -/
theorem FnOk.imp {P : Program} {w : World} {K : PySem.W.Frag} {mg : Str → Option Value} {base : Heap} {CX : CXT} {k : Nat} {f : Addr} {fd : FuncData} {ps : List Str} {sp sp' : Sp} (F : FnOk P w K mg base CX k f fd ps sp)
    (h : ∀ vs H Q E, sp' vs H Q E → sp vs H Q E) : FnOk P w K mg base CX k f fd ps sp' :=
  ⟨fun vs H Q E q => F.len vs H Q E (h _ _ _ _ q), fun A outer s H args us vs Q E hr he hb hv hs => F.run A outer s H args us vs Q E hr he hb hv (h _ _ _ _ hs)⟩

theorem Env0.make {P : Program} {w : World} {K : PySem.W.Frag} {mg : Str → Option Value} {base : Heap} {A : Around} {outer : List Env} {s : Shared} {H : Hp} (e : Env0 P w K mg base A outer s H) (C : Addr) (us : List Value) (kw : List (Str × Value)) :
    Env0 P w K mg base (A.under (.builtin "type.__call__" ⟨.ref C :: us, kw⟩)) outer s H := ⟨by first | exact e.frames | (simpa [Around.under, Code.envs, Code.isFrame, pushEnvs] using e.frames), e.mod, e.bs, e.bsz, e.funs, e.frf, e.hok, e.bare⟩
theorem Env0.in1 {P : Program} {w : World} {K : PySem.W.Frag} {mg : Str → Option Value} {base : Heap} {A : Around} {outer : List Env} {s : Shared} {H : Hp} (e : Env0 P w K mg base A outer s H) :
    Env0 P w K mg base A.in1 outer s H := ⟨e.frames, e.mod, e.bs, e.bsz, e.funs, e.frf, e.hok, e.bare⟩

section
variable {X : Cx} {pins : List (Addr × Obj)} {σ : St} {H : Hp} {s s' : Shared}
/-- from a body: what a callee wants -/
theorem Inv.env0 (I : Inv X pins σ H s) : Env0 X.prog X.w X.K X.mg X.base X.A X.stack s H :=
  ⟨I.ok.frames, I.ok.mod, I.bs, Nat.le_trans I.ok.bsz I.sz, I.stack, I.stkFree, I.hok, I.bare⟩
/-- behind a call -/
theorem Inv.after {Q : VK} {u : Value} (I : Inv X pins σ H s) (h : CE X.stack X.prog X.w H s Q u s') : EP X pins σ Q u s' := by
  obtain ⟨v, H', os, bare, un, hok, r, q⟩ := h
  obtain ⟨hh, g, d, t, os'⟩ := s'
  obtain rfl : os' = s.os := os
  exact ⟨v, H', I.call (h' := hh) (g' := g) (d' := d) (t' := t) (ch := []) un hok bare (fun b z => absurd z (by simp)), r, q⟩
end

/-! ### calls -/
/-- f(..): the written arguments, then the defaults dvs; E: what is wanted of an exception -/
def tCall (sp : Sp) (dvs : List V) (E : XK) (t : TA) : TE := fun σ H Q => t σ H fun vs H1 => sp (vs ++ dvs) H1 Q E
/-- o.m(..) of an instance of the class at C -/
def tMeth (C : Addr) (m : Str) (sp : Sp) (dvs : List V) (E : XK) (ta : TE) (t : TA) : TE := fun σ H Q => ta σ H fun x H1 => ∃ a dx fs, x = .ref a ∧ H1 a = some (.ins C dx fs) ∧ fs.lookup m = none ∧
  t σ H1 fun vs H2 => sp (x :: (vs ++ dvs)) H2 Q E
/-- C(..): a new instance and its dict, then __init__ -/
def tMake (C : Addr) (sp : Sp) (dvs : List V) (E : XK) (t : TA) : TE := fun σ H Q => t σ H fun vs H1 => ∀ x dx, H1 x = none → H1 dx = none → dx ≠ x →
  sp (.ref x :: (vs ++ dvs)) (upd (upd H1 dx (.own x)) x (.ins C dx [])) (fun v H2 => v = .non ∧ Q (.ref x) H2) E

/-- how the parameters are bound: us the positional arguments, kw the keywords' values by name, ds the defaults that fill up -/
def Binds (K : PySem.W.Frag) (fd : FuncData) (ps : List Str) (ds : List Value) : Prop :=
  ∀ (s : Shared) (us : List Value), K.In s.heap → (us ++ ds).length = ps.length → BindsTo s fd ⟨us, []⟩ (ps.zip (us ++ ds))
/-- every parameter is given -/
theorem Binds.all {K : PySem.W.Frag} {fd : FuncData} {ps : List Str} (h : ∀ us : List Value, us.length = ps.length → bindArgs fd ⟨us, []⟩ = pure (ps.zip us)) : Binds K fd ps [] := fun s us _ hl => by
  rw [List.append_nil] at hl ⊢
  exact .of_eq (h us hl)

/-- an exception of a callee reaches what this body wants of exceptions -/
def Passes (CX : CXT) (X : Cx) (E : XK) : Prop := ∀ (pins : List (Addr × Obj)) (σ : St) (H : Hp) (s : Shared) (e : Value) (s' : Shared), Inv X pins σ H s → CX X.stack H s E e s' → X.xe e s'

section
variable {X : Cx} {CX : CXT} {k : Nat} {f C : Addr} {fd : FuncData} {ps : List Str} {sp : Sp} {dvs : List V} {ds : List Value} {E : XK} {x m : Str} {p pos apos : Pos} {e o : Expr} {es : List Expr} {ta : TE} {t : TA}

/-- the callee runs -/
theorem run_fn {pins : List (Addr × Obj)} {σ : St} {H : Hp} {s : Shared} {Q : VK} {us : List Value} {vs : List V} (F : FnOk X.prog X.w X.K X.mg X.base CX k f fd ps sp) (hr : Room k X.A) (hb : Binds X.K fd ps ds) (hd : Vals dvs ds) (hx : Passes CX X E)
    (I : Inv X pins σ H s) (r : Vals vs us) (h : sp (vs ++ dvs) H Q E) : wpAny (model X.prog X.w) X.A (call (.ref f) us) (EP X pins σ Q) X.xe s := by
  have r2 : Vals (vs ++ dvs) (us ++ ds) := r.append hd
  have hl : (us ++ ds).length = ps.length := by rw [← r2.length]; exact F.len _ _ _ _ h
  refine wpAny_call (codeAny_mono (F.run X.A X.stack s H ⟨us, []⟩ (us ++ ds) (vs ++ dvs) Q E hr I.env0 (hb s us I.kIn hl) r2 h) fun r s' hq => ?_)
  cases r with
  | error e => exact hx pins σ H s e s' I hq
  | ok fl =>
    cases fl with
    | ret u => exact I.after hq
    | next => exact False.elim hq
    | brk => exact False.elim hq
    | cont => exact False.elim hq

theorem pe_call (F : FnOk X.prog X.w X.K X.mg X.base CX k f fd ps sp) (hr : Room k X.A) (hg : Gl X x) (hm : X.mg x = some (.ref f)) (hk : PySem.W.keepIn X.K (.ref f) = true) (hb : Binds X.K fd ps ds) (hd : Vals dvs ds) (hx : Passes CX X E)
    (ha : PA X (e :: es) t) (hdb : (x == ("__debug__" : Str)) = false := by decide) (he : starEach (e :: es) X.env = (false, eval e X.env) :: starEach es X.env := by rfl) (hpl : (backTo pos (starEach es X.env)).any (·.1) = false := by rfl) :
    PE X (.Call (.Name x p) (e :: es) [] pos) (tCall sp dvs E t) := by
  intro pins s σ H Q I h
  refine wpAny_Call_Name_kw (ld_glob I hg hm ?_ hdb)
  refine PySem.W.callWith_K (h₀ := X.base) I.ok.mod.kin hk (thn (ha pos pins s σ H _ I h) fun us s1 ⟨vs, H1, I1, r, q⟩ => ⟨I1.kIn, ?_⟩) he hpl
  exact run_fn F hr hb hd hx I1 r q
theorem pe_call0 (F : FnOk X.prog X.w X.K X.mg X.base CX k f fd ps sp) (hr : Room k X.A) (hg : Gl X x) (hm : X.mg x = some (.ref f)) (hk : PySem.W.keepIn X.K (.ref f) = true) (hb : Binds X.K fd ps ds) (hd : Vals dvs ds) (hx : Passes CX X E)
    (hdb : (x == ("__debug__" : Str)) = false := by decide) : PE X (.Call (.Name x p) [] [] pos) (tCall sp dvs E tNil) := by
  intro pins s σ H Q I h
  refine wpAny_Call_Name_kw (ld_glob I hg hm ?_ hdb)
  exact PySem.W.callWith_K0 I.kIn hk (run_fn (us := []) F hr hb hd hx I .nil h)

/-- o.m(e, ..) -/
theorem pe_meth {pl : Sem Bool} (he : PE X o ta) (c : Cls X.K C) (hm : Meth X.K C m f) (F : FnOk X.prog X.w X.K X.mg X.base CX k f fd ps sp) (hr : Room k X.A) (hb : Binds X.K fd ps ds) (hd : Vals dvs ds) (hx : Passes CX X E) (ha : PA X (e :: es) t)
    (hst : starEach (e :: es) X.env = (false, eval e X.env) :: starEach es X.env := by rfl) (hpl : (backTo pos (starEach es X.env)).any (·.1) = false := by rfl)
    (ht : eval (.Call (.Attribute o m apos) (e :: es) [] pos) X.env = (do
      let ov ← eval o X.env
      standAt apos.atName
      let (f, first) ← holding [ov] (getMethod ov m pl)
      callWith pos f first (backTo pos (starEach (e :: es) X.env)) (backToKw pos (keywordEach [] X.env))) := by rfl) :
    PE X (.Call (.Attribute o m apos) (e :: es) [] pos) (tMeth C m sp dvs E ta t) := by
  intro pins s σ H Q I h
  refine PySem.W.methodCall_KW (pl := pl) (thn (he pins s σ H _ I h) fun u s1 ⟨x, H1, I1, rx, a, dx, fs, ex, ea, l, q⟩ => ?_) ht
  subst ex
  obtain rfl : u = Value.ref a := rx
  refine getmeth_ok I1 ea c hm l ?_
  refine PySem.W.callWith_K (first := [.ref a]) (h₀ := X.base) I.ok.mod.kin hm.kp (thn (ha pos pins s1 σ H1 _ I1 q) fun us s2 ⟨vs, H2, I2, r, q2⟩ => ⟨I2.kIn, ?_⟩) hst hpl
  exact run_fn (us := .ref a :: us) (vs := .ref a :: vs) F hr hb hd hx I2 (.cons rfl r) q2
/-- o.m() -/
theorem pe_meth0 {pl : Sem Bool} (he : PE X o ta) (c : Cls X.K C) (hm : Meth X.K C m f) (F : FnOk X.prog X.w X.K X.mg X.base CX k f fd ps sp) (hr : Room k X.A) (hb : Binds X.K fd ps ds) (hd : Vals dvs ds) (hx : Passes CX X E)
    (ht : eval (.Call (.Attribute o m apos) [] [] pos) X.env = (do
      let ov ← eval o X.env
      standAt apos.atName
      let (f, first) ← holding [ov] (getMethod ov m pl)
      callWith pos f first (backTo pos (starEach [] X.env)) (backToKw pos (keywordEach [] X.env))) := by rfl) :
    PE X (.Call (.Attribute o m apos) [] [] pos) (tMeth C m sp dvs E ta tNil) := by
  intro pins s σ H Q I h
  refine PySem.W.methodCall_KW (pl := pl) (thn (he pins s σ H _ I h) fun u s1 ⟨x, H1, I1, rx, a, dx, fs, ex, ea, l, q⟩ => ?_) ht
  subst ex
  obtain rfl : u = Value.ref a := rx
  refine getmeth_ok I1 ea c hm l ?_
  exact PySem.W.callWith_K0 (first := [.ref a]) I1.kIn hm.kp (run_fn (us := [.ref a]) (vs := [.ref a]) F hr hb hd hx I1 (.cons rfl .nil) q)

/-- what a class must have to be made -/
structure Mk (K : PySem.W.Frag) (C f : Addr) : Prop where
  makes : PySem.W.makesIn K C = true
  init : PySem.W.findIn K (.ref C) "__init__" = some (some (.ref f))
  fn : PySem.W.isFn K (.ref f) = true
  kp : PySem.W.keepIn K (.ref C) = true

theorem run_make {pins : List (Addr × Obj)} {σ : St} {H : Hp} {s : Shared} {Q : VK} {us : List Value} {vs : List V} (M : Mk X.K C f) (F : FnOk X.prog X.w X.K X.mg X.base CX k f fd ps sp) (hr : Room (k + 1) X.A) (hb : Binds X.K fd ps ds) (hd : Vals dvs ds)
    (hx : Passes CX X E) (I : Inv X pins σ H s) (r : Vals vs us)
    (h : ∀ x dx, H x = none → H dx = none → dx ≠ x → sp (.ref x :: (vs ++ dvs)) (upd (upd H dx (.own x)) x (.ins C dx [])) (fun v H2 => v = .non ∧ Q (.ref x) H2) E) :
    wpAny (model X.prog X.w) X.A (call (.ref C) us) (EP X pins σ Q) X.xe s := by
  have hq := h (s.heap.objs.size + 1) s.heap.objs.size (I.hok.fresh (Nat.le_succ _)) (I.hok.fresh (Nat.le_refl _)) (Nat.ne_of_lt (Nat.lt_succ_self _))
  have I2 := Inv.made (C := C) I
  have r2 : Vals (V.ref (s.heap.objs.size + 1) :: (vs ++ dvs)) (Value.ref (s.heap.objs.size + 1) :: (us ++ ds)) := .cons rfl (r.append hd)
  have hl : (Value.ref (s.heap.objs.size + 1) :: us ++ ds).length = ps.length := by
    have e := r2.length
    rw [F.len _ _ _ _ hq] at e
    exact e.symm
  refine wpAny_call (make_map (f := f) I.kIn M.makes M.init (beq_iff_eq.mp M.fn) (codeAny_mono (F.run _ X.stack _ _ ⟨Value.ref (s.heap.objs.size + 1) :: us, []⟩ (Value.ref (s.heap.objs.size + 1) :: (us ++ ds)) _ _ E (hr.make C us [])
    (I2.env0.make C us []) (hb _ (Value.ref (s.heap.objs.size + 1) :: us) I2.kIn hl) r2 hq) fun r s' hq' => ?_))
  cases r with
  | error e => exact hx pins σ _ _ e s' I2 hq'
  | ok fl =>
    cases fl with
    | ret u =>
      obtain ⟨v, H', I3, rv, ev, q3⟩ := I2.after hq'
      subst ev
      exact ⟨rv, ⟨V.ref (s.heap.objs.size + 1), H', I3, rfl, q3⟩⟩
    | next => exact False.elim hq'
    | brk => exact False.elim hq'
    | cont => exact False.elim hq'
theorem pe_make (M : Mk X.K C f) (F : FnOk X.prog X.w X.K X.mg X.base CX k f fd ps sp) (hr : Room (k + 1) X.A) (hg : Gl X x) (hm : X.mg x = some (.ref C)) (hb : Binds X.K fd ps ds) (hd : Vals dvs ds) (hx : Passes CX X E)
    (ha : PA X (e :: es) t) (hdb : (x == ("__debug__" : Str)) = false := by decide) (he : starEach (e :: es) X.env = (false, eval e X.env) :: starEach es X.env := by rfl) (hpl : (backTo pos (starEach es X.env)).any (·.1) = false := by rfl) :
    PE X (.Call (.Name x p) (e :: es) [] pos) (tMake C sp dvs E t) := by
  intro pins s σ H Q I h
  refine wpAny_Call_Name_kw (ld_glob I hg hm ?_ hdb)
  refine PySem.W.callWith_K (h₀ := X.base) I.ok.mod.kin M.kp (thn (ha pos pins s σ H _ I h) fun us s1 ⟨vs, H1, I1, r, q⟩ => ⟨I1.kIn, ?_⟩) he hpl
  exact run_make M F hr hb hd hx I1 r q
theorem pe_make0 (M : Mk X.K C f) (F : FnOk X.prog X.w X.K X.mg X.base CX k f fd ps sp) (hr : Room (k + 1) X.A) (hg : Gl X x) (hm : X.mg x = some (.ref C)) (hb : Binds X.K fd ps ds) (hd : Vals dvs ds) (hx : Passes CX X E)
    (hdb : (x == ("__debug__" : Str)) = false := by decide) : PE X (.Call (.Name x p) [] [] pos) (tMake C sp dvs E tNil) := by
  intro pins s σ H Q I h
  refine wpAny_Call_Name_kw (ld_glob I hg hm ?_ hdb)
  exact PySem.W.callWith_K0 I.kIn M.kp (run_make (us := []) M F hr hb hd hx I .nil h)
end

/-! ### keywords -/
/-- the values of the keywords, from the left -/
def PK (X : Cx) (kws : List Keyword) (t : TA) : Prop :=
  ∀ (pos : Pos) (pins : List (Addr × Obj)) (s : Shared) (σ : St) (H : Hp) (Q : List V → Hp → Prop), Inv X pins σ H s → t σ H Q → wpAny (model X.prog X.w) X.A (evalAll ((backToKw pos (keywordEach kws X.env)).map (·.2))) (AP X pins σ Q) X.xe s
section
variable {X : Cx} {CX : CXT} {k : Nat} {f C : Addr} {fd : FuncData} {ps ks : List Str} {sp : Sp} {E : XK} {x m : Str} {p pos apos kpos : Pos} {e o : Expr} {es : List Expr} {kws : List Keyword} {te ta : TE} {t tk : TA} {nm : Option Str}
theorem pk_nil : PK X [] tNil := fun _ _ _ _ H Q I h => wpAny_evalAll_nil ⟨[], H, I, .nil, h⟩
theorem pk_cons (ha : PE X e te) (hr : PK X kws t) : PK X (⟨nm, e, kpos⟩ :: kws) (tCons te t) := by
  intro pos pins s σ H Q I h
  show wpAny _ _ (evalAll ((do let v ← eval e X.env; standAt pos; pure v) :: (backToKw pos (keywordEach kws X.env)).map (·.2))) _ _ s
  refine wpAny_evalAll_cons (wpAny_bind (thn (ha pins s σ H _ I h) fun u s1 ⟨x, H1, I1, r1, q1⟩ => wpAny_bind (wpAny_standAt (wpAny_pure ?_))))
  exact thn (hr pos pins s1 σ H1 _ I1 q1) fun us s2 ⟨xs, H2, I2, r2, q2⟩ => ⟨x :: xs, H2, I2, .cons r1 r2, q2⟩

/-- how a call with keywords binds: g puts the positional values us and the keywords' values ws (names ks) in the parameters' order, defaults among them -/
structure KBinds (K : PySem.W.Frag) (fd : FuncData) (ps ks : List Str) (g : List Value → List Value → List Value) (gV : List V → List V → List V) : Prop where
  to : ∀ (s : Shared) (us ws : List Value), K.In s.heap → (g us ws).length = ps.length → BindsTo s fd ⟨us, ks.zip ws⟩ (ps.zip (g us ws))
  rel : ∀ {vs : List V} {us : List Value} {zs : List V} {ws : List Value}, Vals vs us → Vals zs ws → Vals (gV vs zs) (g us ws)
def tCallK (sp : Sp) (gV : List V → List V → List V) (E : XK) (t tk : TA) : TE := fun σ H Q => t σ H fun vs H1 => tk σ H1 fun zs H2 => sp (gV vs zs) H2 Q E
variable {g : List Value → List Value → List Value} {gV : List V → List V → List V}
theorem run_fnk {pins : List (Addr × Obj)} {σ : St} {H : Hp} {s : Shared} {Q : VK} {us ws : List Value} {vs zs : List V} (F : FnOk X.prog X.w X.K X.mg X.base CX k f fd ps sp) (hr : Room k X.A) (hb : KBinds X.K fd ps ks g gV) (hx : Passes CX X E)
    (I : Inv X pins σ H s) (r : Vals vs us) (rz : Vals zs ws) (h : sp (gV vs zs) H Q E) : wpAny (model X.prog X.w) X.A (call (.ref f) us (ks.zip ws)) (EP X pins σ Q) X.xe s := by
  have r2 := hb.rel r rz
  have hl : (g us ws).length = ps.length := by rw [← r2.length]; exact F.len _ _ _ _ h
  refine wpAny_call (codeAny_mono (F.run X.A X.stack s H ⟨us, ks.zip ws⟩ (g us ws) (gV vs zs) Q E hr I.env0 (hb.to s us ws I.kIn hl) r2 h) fun r s' hq => ?_)
  cases r with
  | error e => exact hx pins σ H s e s' I hq
  | ok fl =>
    cases fl with
    | ret u => exact I.after hq
    | next => exact False.elim hq
    | brk => exact False.elim hq
    | cont => exact False.elim hq
/-- f(e, .., k = v, ..) -/
theorem pe_callK (F : FnOk X.prog X.w X.K X.mg X.base CX k f fd ps sp) (hr : Room k X.A) (hg : Gl X x) (hm : X.mg x = some (.ref f)) (hk : PySem.W.keepIn X.K (.ref f) = true) (hb : KBinds X.K fd ps ks g gV) (hx : Passes CX X E)
    (ha : PA X (e :: es) t) (hkw : PK X kws tk) (hall : (backToKw pos (keywordEach kws X.env)).all (·.1.isSome) = true := by rfl) (hks : (backToKw pos (keywordEach kws X.env)).filterMap (·.1) = ks := by rfl)
    (hdb : (x == ("__debug__" : Str)) = false := by decide) (he : starEach (e :: es) X.env = (false, eval e X.env) :: starEach es X.env := by rfl)
    (hpl : ((backTo pos (starEach (e :: es) X.env)).any (·.1) || (backToKw pos (keywordEach kws X.env)).any (·.1.isNone)) = false := by rfl) :
    PE X (.Call (.Name x p) (e :: es) kws pos) (tCallK sp gV E t tk) := by
  intro pins s σ H Q I h
  refine wpAny_Call_Name_kw (ld_glob I hg hm ?_ hdb)
  refine PySem.W.callWith_KW (h₀ := X.base) I.ok.mod.kin hk hall (thn (ha pos pins s σ H _ I h) fun us s1 ⟨vs, H1, I1, r, q⟩ => ?_) hpl he
  refine thn (hkw pos pins s1 σ H1 _ I1 q) fun ws s2 ⟨zs, H2, I2, rz, q2⟩ => ⟨I2.kIn, ?_⟩
  rw [hks]
  exact run_fnk F hr hb hx I2 r rz q2
end

/-! ### a def's body keeps its promise -/
/-- names: the parameters first -/
structure FnScope (N P : List Str) (sc : Scope) : Prop where
  kind : sc.kind = .function
  co : sc.isCoroutine = false
  gen : sc.isGenerator = false
  nd : N.Nodup
  pre : N.take P.length = P
  par : ∀ x ∈ P, sc.names.lookup x = some .local ∨ sc.names.lookup x = some .cell
  nofree : ∀ y ∈ sc.names, y.2 ≠ .free

theorem bindL_out {kindOf : Str → Option NameKind} {x : Str} : ∀ {binds : List (Str × Value)} {m : Str → Option Value}, (∀ v, (x, v) ∉ binds) → bindL kindOf binds m x = m x
  | [], _, _ => rfl
  | (n, v) :: r, m, h => by
    unfold bindL
    rw [bindL_out fun w hw => h w (List.mem_cons_of_mem _ hw)]
    split
    · have : x ≠ n := by rintro rfl; exact h v List.mem_cons_self
      simp [this]
    · rfl
theorem bindC_out {kindOf : Str → Option NameKind} {x : Str} : ∀ {binds : List (Str × Value)} {m : Str → Option Value}, (∀ v, (x, v) ∉ binds) → bindC kindOf binds m x = m x
  | [], _, _ => rfl
  | (n, v) :: r, m, h => by
    unfold bindC
    rw [bindC_out fun w hw => h w (List.mem_cons_of_mem _ hw)]
    split
    · rfl
    · have : x ≠ n := by rintro rfl; exact h v List.mem_cons_self
      simp [this]
theorem bindL_get {kindOf : Str → Option NameKind} {x : Str} {v : Value} : ∀ {P : List Str} {vs : List Value} {i : Nat} {m : Str → Option Value}, P.Nodup → P[i]? = some x → vs[i]? = some v → kindOf x = some .local →
    bindL kindOf (P.zip vs) m x = some v
  | [], _, _, _, _, h, _, _ => by simp at h
  | _ :: _, [], _, _, _, _, h, _ => by simp at h
  | p :: P, w :: vs, 0, m, nd, h1, h2, hk => by
    simp at h1 h2; subst h1; subst h2
    show bindL kindOf ((p, w) :: P.zip vs) m p = _
    unfold bindL
    rw [bindL_out fun v hv => (List.nodup_cons.mp nd).1 (List.of_mem_zip hv).1, if_pos hk]
    simp
  | p :: P, w :: vs, i + 1, m, nd, h1, h2, hk => by
    show bindL kindOf ((p, w) :: P.zip vs) m x = _
    unfold bindL
    exact bindL_get (i := i) (List.nodup_cons.mp nd).2 (by simpa using h1) (by simpa using h2) hk
theorem bindC_get {kindOf : Str → Option NameKind} {x : Str} {v : Value} : ∀ {P : List Str} {vs : List Value} {i : Nat} {m : Str → Option Value}, P.Nodup → P[i]? = some x → vs[i]? = some v → kindOf x ≠ some .local →
    bindC kindOf (P.zip vs) m x = some v
  | [], _, _, _, _, h, _, _ => by simp at h
  | _ :: _, [], _, _, _, _, h, _ => by simp at h
  | p :: P, w :: vs, 0, m, nd, h1, h2, hk => by
    simp at h1 h2; subst h1; subst h2
    show bindC kindOf ((p, w) :: P.zip vs) m p = _
    unfold bindC
    rw [bindC_out fun v hv => (List.nodup_cons.mp nd).1 (List.of_mem_zip hv).1, if_neg hk]
    simp
  | p :: P, w :: vs, i + 1, m, nd, h1, h2, hk => by
    show bindC kindOf ((p, w) :: P.zip vs) m x = _
    unfold bindC
    exact bindC_get (i := i) (List.nodup_cons.mp nd).2 (by simpa using h1) (by simpa using h2) hk

/-- the names' values at the entry -/
def start (N : List Str) (vs : List V) : St := vs.map some ++ List.replicate (N.length - vs.length) none

/-- the context of a def's body, at its entry; an exception leaves the frame, then lies as CX says -/
def cxOf (CX : CXT) (P : Program) (w : World) (K : PySem.W.Frag) (mg : Str → Option Value) (base : Heap) (N : List Str) (qual : Str) (scope : Scope) (f : Addr) (cd : Value) (A : Around) (outer : List Env) (s : Shared) (H : Hp) (E : XK) : Cx where
  prog := P
  w := w
  K := K
  mg := mg
  base := base
  A := A.deeper (envOfC qual scope s.heap.objs.size f cd)
  N := N
  s₀ := s
  H₀ := H
  env := envOfC qual scope s.heap.objs.size f cd
  outer := outer
  stack := envOfC qual scope s.heap.objs.size f cd :: outer
  ex := []
  calm := true
  fn := fun _ => true
  pn := []
  xe := fun e s' => wpAny (model P w) (A.deeper (envOfC qual scope s.heap.objs.size f cd)) (leaving (envOfC qual scope s.heap.objs.size f cd) e) (fun _ s'' => CX outer H s E e s'') (fun e' s'' => CX outer H s E e' s'') s'

theorem cell_has {sc : Scope} {n : Nat} {x : Str} (h : sc.names.lookup x = some .cell) : ∃ c, (cellsFrom n sc.names []).lookup x = some c := by
  have q := PySem.W.cellsFrom_some sc.names n [] (.inl h)
  exact Option.isSome_iff_exists.mp q

theorem inv_start {CX : CXT} {P : Program} {w : World} {K : PySem.W.Frag} {mg : Str → Option Value} {base : Heap} {N ps : List Str} {qual : Str} {scope : Scope} {f : Addr} {cd : Value} {A : Around} {outer : List Env} {s s1 : Shared} {H : Hp} {E : XK} {us : List Value} {vs : List V}
    (S : FnScope N ps scope) (hd : A.handled = none) (e0 : Env0 P w K mg base A outer s H) (hl : vs.length = ps.length) (r : Vals vs us)
    (x : InCallC s s.heap.objs.size (bindL (envOfC qual scope s.heap.objs.size f cd).kindOf (ps.zip us) fun _ => none) (cellsFrom (s.heap.objs.size + 1) scope.names []) (bindC (envOfC qual scope s.heap.objs.size f cd).kindOf (ps.zip us) fun _ => none) s1) :
    Inv (cxOf CX P w K mg base N qual scope f cd A outer s H E) [] (start N vs) H s1 := by
  have hpl : ps.length ≤ N.length := by have := congrArg List.length S.pre; rw [List.length_take] at this; omega
  obtain ⟨h1, tk, rfl, hk⟩ := x.done
  have noA : ∀ b : Addr, b ∉ (cxOf CX P w K mg base N qual scope f cd A outer s H E).ex := fun b z => absurd (show b ∈ ([] : List Addr) from z) (by simp)
  refine ⟨⟨e0.mod, S.kind, rfl, rfl, Nat.le_refl _, fun y z c h1 h2 => ?_, fun y hy => ?_, fun y c _ h => ?_, fun _ => hd, Around.frames_deeper e0.frames, .inr ⟨rfl, rfl⟩, fun b z => absurd z (noA b), e0.bs, e0.bsz, fun b _ _ => noA b, fun b z => absurd z (noA b), e0.funs, e0.frf⟩,
    rfl, e0.bare, Un.kept hk, ⟨_, x.toInCall.ns, fun i y v h1 h2 h3 => ?_⟩, fun y c h => ⟨_, x.cell y c h⟩, e0.hok.fresh (Nat.le_refl _), fun y c h => ?_, fun p hp => absurd (show p ∈ ([] : List (Addr × Obj)) from hp) (by simp), e0.hok.kept hk, ?_⟩
  · exact name_of_addr x.apart (PySem.mem_of_lookup h1) (PySem.mem_of_lookup h2)
  · have hy : scope.names.lookup y = some .cell ∨ scope.names.lookup y = some .free := hy
    rcases hy with hy | hy
    · exact cell_has hy
    · exact absurd rfl (S.nofree _ (PySem.mem_of_lookup hy))
  · exact Nat.le_of_lt (x.above y c (PySem.mem_of_lookup h))
  · have hi : i < vs.length := by
      unfold start at h2
      by_cases hi : i < vs.length
      · exact hi
      · rw [List.getElem?_append_right (by simpa using hi)] at h2
        rw [List.getElem?_replicate] at h2
        split at h2 <;> cases h2
    have ha : vs[i]? = some v := by
      unfold start at h2
      rw [List.getElem?_append_left (by simpa using hi), List.getElem?_map] at h2
      cases e : vs[i]? with
      | none => rw [e] at h2; cases h2
      | some a => rw [e] at h2; cases h2; rfl
    obtain ⟨u, hu, rv⟩ := r.get ha
    have hp : ps[i]? = some y := by
      rw [← S.pre, List.getElem?_take_of_lt (by omega)]; exact h1
    have ndP : ps.Nodup := by rw [← S.pre]; exact S.nd.sublist (List.take_sublist _ _)
    refine ⟨u, rv, ?_⟩
    rcases S.par y (List.mem_of_getElem? hp) with k | k
    · exact .inl ⟨k, bindL_get ndP hp hu k⟩
    · obtain ⟨c, e⟩ := cell_has (n := s.heap.objs.size + 1) k
      refine .inr ⟨.inl k, c, e, ?_⟩
      have q := x.cell y c e
      rw [bindC_get ndP hp hu (by show scope.names.lookup y ≠ _; rw [k]; decide)] at q
      exact q
  · exact e0.hok.fresh (Nat.le_of_lt (x.above y c (PySem.mem_of_lookup h)))
  · unfold start
    show _ = N.length
    rw [List.length_append, List.length_map, List.length_replicate]
    omega

/-- THE RULE: a def (or a method) of the text, by its body. The body's reading t is chosen for each entry; it is run at the parameters' values -/
theorem fn_of {CX : CXT} {P : Program} {w : World} {K : PySem.W.Frag} {mg : Str → Option Value} {base : Heap} {k : Nat} {f : Addr} {name qual : Str} {params : Arguments} {body : List Stmt} {scope : Scope} {dV kV doc pm cdv ct oc : Value} {an od : Option Addr}
    {osl : Array (Option Value)} {N ps : List Str} {sp : Sp} (lk : K.lookup f = some ⟨oc, od, .func (PySem.W.fnOf name qual params body scope dV kV doc pm an cdv ct), osl⟩) (hcd : PySem.W.codeIn K cdv qual = true) (S : FnScope N ps scope)
    (len : ∀ vs H Q E, sp vs H Q E → vs.length = ps.length)
    (hbody : ∀ (A : Around) (outer : List Env) (s : Shared) (H : Hp) (vs : List V) (Q : VK) (E : XK), Room k (A.deeper (envOfC qual scope s.heap.objs.size f cdv)) → sp vs H Q E →
      ∃ t, PSs (cxOf CX P w K mg base N qual scope f cdv A outer s H E) body t ∧ t { nx := fun _ H' => Q .non H', rt := Q } (start N vs) H) :
    FnOk P w K mg base CX (k + 1) f (PySem.W.fnOf name qual params body scope dV kV doc pm an cdv ct) ps sp := by
  refine ⟨len, fun A outer s H args us vs Q E hr e0 hb r hsp => ?_⟩
  have hl := len _ _ _ _ hsp
  have KX : K.In s.heap := e0.mod.kin.keeps fun b o e => (e0.bs b o e).1
  have lim : s.heap.NoLimit := e0.mod.nolimit.keeps fun b o e => (e0.bs b o e).1
  have hkind : ∀ y ∈ ps.zip us, scope.names.lookup y.1 = some .local ∨ (scope.names.lookup y.1 = some .cell ∧ ((cellsFrom (s.heap.objs.size + 1) scope.names []).lookup y.1).isSome = true) := fun ⟨n, v⟩ hy => by
    rcases S.par n (List.of_mem_zip hy).1 with q | q
    · exact .inl q
    · exact .inr ⟨q, PySem.W.cellsFrom_some _ _ _ (.inl q)⟩
  refine codeAny_call_function hr.depth (KX _ _ lk) rfl S.co S.gen rfl (PySem.W.codeRec_of KX hcd) (hb _ _ _ _ ?_)
  refine wpAny_newFunctionEnv_cells S.kind hkind fun env he s1 x => ?_
  subst he
  refine ⟨lim.keeps x.toInCall.keep, codeAny_func ?_⟩
  obtain ⟨t, ht, hq⟩ := hbody A outer s H vs Q E (hr.deeper _) hsp
  have I : Inv (cxOf CX P w K mg base N qual scope f cdv A outer s H E) [] (start N vs) H s1 := inv_start S hr.hd e0 hl r x
  refine wpAny_mono (ht [] s1 (start N vs) H _ I hq) (fun fl s' hs => ?_) fun e s' hs => hs
  have fin : ∀ {σ' : St} {H' : Hp} {v : V} {u : Value}, Inv (cxOf CX P w K mg base N qual scope f cdv A outer s H E) [] σ' H' s' → RelV v u → Q v H' → CE outer P w H s Q u s' :=
    fun {σ' H' v u} J rv q => ⟨v, H', J.os, J.bare, J.base, J.hok, rv, q⟩
  cases fl with
  | ret u =>
    obtain ⟨v, σ', H', J, rv, q⟩ := hs
    exact fin J rv q
  | next =>
    obtain ⟨σ', H', J, q⟩ := hs
    exact fin (v := V.non) (u := Value.none) J rfl q
  | brk =>
    obtain ⟨_, _, _, q⟩ := hs
    exact False.elim q
  | cont =>
    obtain ⟨_, _, _, q⟩ := hs
    exact False.elim q
end L2

namespace L2
open PySem PySem.Spec PyProof.Rows
section
variable {X : Cx} {x : Str} {p pos : Pos} {e : Expr} {es : List Expr} {t : TA} {id T : String} {r : List V → Hp → VK → Prop}

def tCB (r : List V → Hp → VK → Prop) (t : TA) : TE := fun σ H Q => t σ H fun vs H1 => r vs H1 Q
/-- f(e, ..), f a built-in function -/
theorem pe_callB (hc : CallR X (.builtin id) r) (hg : Gl X x) (hm : X.mg x = none) (hv : bootBuiltins x = some (.builtin id)) (ha : PA X (e :: es) t) (hn : x ≠ "__name__" := by decide) (hdb : (x == ("__debug__" : Str)) = false := by decide)
    (he : starEach (e :: es) X.env = (false, eval e X.env) :: starEach es X.env := by rfl) (hpl : (backTo pos (starEach es X.env)).any (·.1) = false := by rfl) : PE X (.Call (.Name x p) (e :: es) [] pos) (tCB r t) := by
  intro pins s σ H Q I h
  refine wpAny_Call_Name_kw (ld_blt I hg hm hv ?_ hn hdb)
  exact PyProof.Rows.callWith_builtin1 (thn (ha pos pins s σ H _ I h) fun us s1 ⟨vs, H1, I1, r1, q1⟩ => hc pins s1 σ H1 vs us Q I1 r1 q1) he hpl
/-- T(e, ..), T a built-in type -/
theorem pe_callTy (hc : CallR X (.type T) r) (hg : Gl X x) (hm : X.mg x = none) (hv : bootBuiltins x = some (.type T)) (ha : PA X (e :: es) t) (hn : x ≠ "__name__" := by decide) (hdb : (x == ("__debug__" : Str)) = false := by decide)
    (he : starEach (e :: es) X.env = (false, eval e X.env) :: starEach es X.env := by rfl) (hpl : (backTo pos (starEach es X.env)).any (·.1) = false := by rfl) : PE X (.Call (.Name x p) (e :: es) [] pos) (tCB r t) := by
  intro pins s σ H Q I h
  refine wpAny_Call_Name_kw (ld_blt I hg hm hv ?_ hn hdb)
  exact PyProof.Rows.callWith_type1 (thn (ha pos pins s σ H _ I h) fun us s1 ⟨vs, H1, I1, r1, q1⟩ => hc pins s1 σ H1 vs us Q I1 r1 q1) he hpl
/-- T() -/
theorem pe_callTy0 (hc : CallR X (.type T) r) (hg : Gl X x) (hm : X.mg x = none) (hv : bootBuiltins x = some (.type T)) (hn : x ≠ "__name__" := by decide) (hdb : (x == ("__debug__" : Str)) = false := by decide) :
    PE X (.Call (.Name x p) [] [] pos) (tCB r tNil) := by
  intro pins s σ H Q I h
  refine wpAny_Call_Name_kw (ld_blt I hg hm hv ?_ hn hdb)
  exact PyProof.Rows.callWith_type0 (hc pins s σ H [] [] Q I .nil h)
end
end L2

namespace HT
open PySem PyProof.Rows

/-- t < u of tuples of ints -/
def lexLt : List Int → List Int → Bool
  | [], [] => false
  | [], _ :: _ => true
  | _ :: _, [] => false
  | x :: xs, y :: ys => if x = y then lexLt xs ys else decide (x < y)
theorem lexLt_cons (x y : Int) (xs ys : List Int) : lexLt (x :: xs) (y :: ys) = if x = y then lexLt xs ys else decide (x < y) := rfl
theorem lexLt_nil_nil : lexLt [] [] = false := rfl
theorem lexLt_nil_cons (y : Int) (ys : List Int) : lexLt [] (y :: ys) = true := rfl
theorem lexLt_cons_nil (x : Int) (xs : List Int) : lexLt (x :: xs) [] = false := rfl

theorem eqAt_int (A : Around) (s : Shared) (a : Int) (t : Tok) (c : Int) (u : Tok) : ∃ e, SeqAt.EqAt A s (.int a t) (.int c u) e ∧ (e = true ↔ a = c) :=
  ⟨(a == c), SeqAt.EqAt.int_int a t c u, by simp⟩
theorem rcLt_int (A : Around) (s : Shared) (a : Int) (t : Tok) (c : Int) (u : Tok) (prog : Program) (w : World) (E : Value → Shared → Prop) (Q : Value → Shared → Prop) (h : Q (.bool (decide (a < c))) s) :
    wpAny (model prog w) A (richCompare .Lt (.int a t) (.int c u)) Q E s :=
  (PyProof.Rows.lt_int h : wpAny (model prog w) A (compareOp .Lt (.int a t) (.int c u)) Q E s)

section
open PySem.SeqAt
open PySem.AutoSeq1 (wpAny_loadPart')
open PySem.MeetsSeq PySem.MeetsSeq2 PySem.MeetsSeq3

theorem tuple_lt_ints (l b : Addr) (items items2 : Array Value) (n n2 : Nat) (dd dd2 : Option Addr) (sl sl2 : Array (Option Value)) (ns ms : List Int) (hi : IntsAre items.toList ns) (hj : IntsAre items2.toList ms) :
    Meets (Builtin.«tuple.__lt__» ⟨[.ref l, .ref b], []⟩)
      (fun _ R s => s.heap.get? l = some { cls := .type "tuple", dict := dd, data := .seq items n, slots := sl } ∧ s.heap.get? b = some { cls := .type "tuple", dict := dd2, data := .seq items2 n2, slots := sl2 } ∧
        R (.ok (.ret (.bool (lexLt ns ms)))) s) :=
  .of_wp fun prog w A R s h => by
    obtain ⟨hp, g, d, tk, os⟩ := s; obtain ⟨hl, hb, h⟩ := h
    have f2 := AutoSeq1.sub_tuple_tuple
    have z1 : items.size = ns.length := by rw [← hi.length]; simp
    have z2 : items2.size = ms.length := by rw [← hj.length]; simp
    wp_walk using wpAny_loadPart' hl, wpAny_loadPart' hb, wpAny_forIn_list _ (fun rest b s' => b.1 = none ∧ s' = ⟨hp, g, d, tk, os⟩ ∧ ∃ (vs ws : List Value) (ns' ms' : List Int), rest = vs.zip ws ∧
      IntsAre vs ns' ∧ IntsAre ws ms' ∧ ns'.length + items2.size = ms'.length + items.size ∧ R (.ok (.ret (.bool (lexLt ns' ms')))) ⟨hp, g, d, tk, os⟩) _
    case turn =>
      rintro ⟨y, x⟩ rest b s' ⟨hb', rfl, vs, ws, ns', ms', hz, hvi, hwi, hlen, hR⟩
      cases hvi with
      | nil => rw [List.zip_nil_left] at hz; cases hz
      | cons a t hvi' =>
        cases hwi with
        | nil => rw [List.zip_nil_right] at hz; cases hz
        | cons c u hwi' =>
          rw [List.zip_cons_cons] at hz
          injection hz with hyx hrest
          injection hyx with hy hx
          subst hy hx
          rw [lexLt_cons] at hR
          simp only [List.length_cons] at hlen
          obtain ⟨e, he, hiff⟩ := eqAt_int A.in1 ⟨hp, g, d, tk, os⟩ a t c u
          refine wpAny_bind (he prog w _ _ ?_)
          cases e with
          | true =>
            rw [if_pos (hiff.mp rfl)] at hR
            wp_walk
            exact ⟨rfl, rfl, _, _, _, _, hrest, hvi', hwi', by omega, hR⟩
          | false =>
            rw [if_neg (fun q => absurd (hiff.mpr q) Bool.false_ne_true)] at hR
            have hri := rcLt_int A.in1 ⟨hp, g, d, tk, os⟩ a t c u prog w
            wp_walk using hri
            exact ⟨_, rfl, by simpa using hR⟩
    case fin =>
      rintro ⟨b1, b2⟩ s' ⟨hb', rfl, vs, ws, ns', ms', hz, hvi, hwi, hlen, hR⟩
      simp only at hb'
      subst hb'
      have hv : lexLt ns' ms' = decide (items.size < items2.size) := by
        cases hvi with
        | nil =>
          cases hwi with
          | nil =>
            simp only [List.length_nil] at hlen
            rw [lexLt_nil_nil]
            exact (decide_eq_false (by omega)).symm
          | cons c u hw =>
            simp only [List.length_nil, List.length_cons] at hlen
            rw [lexLt_nil_cons]
            exact (decide_eq_true (by omega)).symm
        | cons a t hv =>
          cases hwi with
          | nil =>
            simp only [List.length_nil, List.length_cons] at hlen
            rw [lexLt_cons_nil]
            exact (decide_eq_false (by omega)).symm
          | cons c u hw =>
            rw [List.zip_cons_cons] at hz
            cases hz
      rw [hv] at hR
      wp_walk
      exact ⟨_, rfl, by simpa [Builtin.Tuple.tupleCompareSizes] using hR⟩
    case h =>
      exact ⟨rfl, rfl, items.toList, items2.toList, ns, ms, rfl, hi, hj, by omega, h⟩
end

section
variable {prog : Program} {w : World} {A : Around} {E : Value → Shared → Prop} {s : Shared}

theorem lt_tupInts {l b : Addr} {items items2 : Array Value} {ns ms : List Int} {Q : Value → Shared → Prop} (hl : IsTup s.heap l items) (hb : IsTup s.heap b items2) (hi : IntsAre items.toList ns) (hj : IntsAre items2.toList ms)
    (hu : A.units < cLine) (h : Q (.bool (lexLt ns ms)) s) : wpAny (model prog w) A (compareOp .Lt (.ref l) (.ref b)) Q E s := by
  obtain ⟨⟨cls, dd, data, sl⟩, ho, hc, n, hd⟩ := id hl
  obtain ⟨⟨cls2, dd2, data2, sl2⟩, ho2, hc2, n2, hd2⟩ := id hb
  simp only at hc hd hc2 hd2
  subst hc hd hc2 hd2
  exact richCompare_meets_room (op := .Lt) ⟨_, ho, rfl⟩ ⟨_, ho2, rfl⟩ PySem.F.slot_tuple_lt PySem.F.entry_tuple_lt (PySem.F.args_tuple_lt_2 _ _) (tuple_lt_ints l b items items2 n n2 dd dd2 sl sl2 ns ms hi hj)
    ⟨ho, ho2, show Value.bool (lexLt ns ms) ≠ Value.notImplemented ∧ Q (.bool (lexLt ns ms)) s from ⟨(fun x => nomatch x), h⟩⟩ hu

/-- t + u, t not empty -/
theorem cat_tup {t b : Addr} {vs ws : List Value} {Q : Value → Shared → Prop} (ht : IsTup s.heap t vs.toArray) (hb : IsTup s.heap b ws.toArray) (hv : vs ≠ [])
    (h1 : ws = [] → Q (.ref t) s) (h2 : ws ≠ [] → Q (.ref s.heap.objs.size) { s with heap := s.heap.push { cls := .type "tuple", data := .seq (vs ++ ws).toArray } })
    (hsz : vs.length + ws.length ≤ sizeLine) : wpAny (model prog w) A (binaryOp .Add (.ref t) (.ref b)) Q E s := by
  obtain ⟨⟨cls, dd, data, sl⟩, ho, hc, n, hd⟩ := id ht
  obtain ⟨⟨cls2, dd2, data2, sl2⟩, ho2, hc2, n2, hd2⟩ := id hb
  simp only at hc hd hc2 hd2
  subst hc hd hc2 hd2
  have e : vs.toArray ++ ws.toArray = (vs ++ ws).toArray := by simp
  by_cases hw : ws = []
  · exact concat_meets ⟨_, ho, rfl⟩ ⟨_, ho2, rfl⟩ noFill_tuple_add seq_tuple_add PySem.F.slot_tuple_add PySem.F.entry_tuple_add (PySem.F.args_tuple_add_2 _ _)
      (tuple_addW1 t b vs.toArray ws.toArray n n2 dd dd2 sl sl2 (by simpa using hv) (by simp [hw])) ⟨ho, ho2, h1 hw⟩
  · refine concat_meets ⟨_, ho, rfl⟩ ⟨_, ho2, rfl⟩ noFill_tuple_add seq_tuple_add PySem.F.slot_tuple_add PySem.F.entry_tuple_add (PySem.F.args_tuple_add_2 _ _)
      (tuple_addW2 t b vs.toArray ws.toArray n n2 dd dd2 sl sl2 (by simpa using hv) (by simpa using hw) (by rw [List.size_toArray, List.size_toArray]; exact hsz)) ⟨ho, ho2, ?_⟩
    rw [e]
    exact h2 hw

/-! ### t[a:b], not the whole -/
/-- a slice's bound as a place among n (d where it is left out) -/
def sIx (n d : Nat) : Option Int → Nat
  | none => d
  | some v => if v < 0 then (v + (n : Int)).toNat else min v.toNat n
theorem sIx_none (n d : Nat) : sIx n d none = d := rfl
theorem sIx_nat (n d k : Nat) : sIx n d (some (k : Int)) = min k n := by
  show (if (k : Int) < 0 then ((k : Int) + (n : Int)).toNat else min (k : Int).toNat n) = min k n
  rw [if_neg (by omega), Int.toNat_natCast]
theorem sIx_le (n d : Nat) (hd : d ≤ n) (o : Option Int) : sIx n d o ≤ n := by
  cases o with
  | none => exact hd
  | some v =>
    show (if v < 0 then (v + (n : Int)).toNat else min v.toNat n) ≤ n
    by_cases hv : v < 0
    · rw [if_pos hv]; omega
    · rw [if_neg hv]; exact Nat.min_le_right _ _
theorem clip_eq (v : Int) (n d : Nat) : (if v < 0 then max (v + (n : Int)) 0 else min v (n : Int)) = ((sIx n d (some v) : Nat) : Int) := by
  show (if v < 0 then max (v + (n : Int)) 0 else min v (n : Int)) = (((if v < 0 then (v + (n : Int)).toNat else min v.toNat n) : Nat) : Int)
  by_cases hv : v < 0
  · simp only [if_pos hv]; omega
  · simp only [if_neg hv]; omega
theorem adjust_gen (lo hi : Option Int) (n : Nat) : Builtin.Slice.sliceAdjust lo hi 1 (n : Int) = (((sIx n 0 lo : Nat) : Int), ((sIx n n hi : Nat) : Int)) := by
  have h1 : ¬ ((1 : Int) < 0) := by omega
  unfold Builtin.Slice.sliceAdjust
  simp only [h1, if_false]
  refine Prod.ext ?_ ?_
  · cases lo with
    | none => rfl
    | some v => exact clip_eq v n 0
  · cases hi with
    | none => rfl
    | some v => exact clip_eq v n n
theorem places_gen (i j : Nat) : Builtin.Slice.slicePlaces (i : Int) (j : Int) 1 = j - i := by
  unfold Builtin.Slice.slicePlaces
  have h1 : (1 : Int) > 0 := by omega
  simp only [h1, if_true, Int.ediv_one]
  split <;> omega
theorem slicePart_ {v : Value} {o : Option Int} {Q : Option Int → Shared → Prop} (p : IsPart v o) (h : Q o s) : wpAny (model prog w) A (Builtin.Slice.slicePartIndex v) Q E s := by
  cases p with
  | none => exact slicePart_none h
  | int i t => exact slicePart_int h
theorem sliceApplied_gen {sl : Addr} {vl vu : Value} {lo hi : Option Int} {n : Nat} {Q : Int × Int × Nat → Shared → Prop} (hs : s.heap.IsSliceOf sl vl vu .none) (pl : IsPart vl lo) (pu : IsPart vu hi)
    (h : Q (((sIx n 0 lo : Nat) : Int), 1, sIx n n hi - sIx n 0 lo) s) : wpAny (model prog w) A (Builtin.Slice.sliceApplied (.ref sl) (pure (n : Int))) Q E s := by
  obtain ⟨os, hos, hcs, hds⟩ := id hs
  unfold Builtin.Slice.sliceApplied Builtin.Slice.sliceFields
  refine wpAny_bind (wpAny_bind (wpAny_field hos hds (x := vl) rfl (wpAny_bind (wpAny_field hos hds (x := vu) rfl (wpAny_bind (wpAny_field hos hds (x := .none) rfl (wpAny_pure ?_)))))))
  refine wpAny_bind (slicePart_none ?_)
  show wpAny _ _ (if ((1 : Int) == 0) = true then _ else _) _ _ s
  rw [if_neg (by decide)]
  refine wpAny_bind (slicePart_ pl (wpAny_bind (slicePart_ pu (wpAny_bind (wpAny_pure ?_)))))
  show wpAny _ _ (match Builtin.Slice.sliceAdjust lo hi 1 (n : Int) with | (lo, hi) => pure (lo, (1 : Int), Builtin.Slice.slicePlaces lo hi 1)) _ _ s
  rw [adjust_gen lo hi n]
  show wpAny _ _ (pure (((sIx n 0 lo : Nat) : Int), (1 : Int), Builtin.Slice.slicePlaces ((sIx n 0 lo : Nat) : Int) ((sIx n n hi : Nat) : Int) 1)) _ _ s
  rw [places_gen]
  exact wpAny_pure h
theorem pick_gen (xs : Array Value) (i k : Nat) : ((List.range k).filterMap fun (m : Nat) => xs[((i : Int) + (m : Int) * 1).toNat]?).toArray = ((xs.toList.drop i).take k).toArray := by
  have e : (fun (m : Nat) => xs[((i : Int) + (m : Int) * 1).toNat]?) = fun m => xs[i + m]? := by
    funext m
    have : ((i : Int) + (m : Int) * 1).toNat = i + m := by omega
    rw [this]
  rw [e]
  have := pick_run xs i k
  rw [List.filterMap_map] at this
  have e2 : ((fun x => xs[x]?) ∘ fun x => i + x) = fun m => xs[i + m]? := rfl
  rw [e2] at this
  rw [this]

theorem getItem_tuple_cut {t sl : Addr} {items : Array Value} {vl vu : Value} {lo hi : Option Int} {Q : Value → Shared → Prop} (ht : IsTup s.heap t items) (hs : s.heap.IsSliceOf sl vl vu .none) (pl : IsPart vl lo) (pu : IsPart vu hi)
    (hw : ¬ (sIx items.size 0 lo = 0 ∧ sIx items.size items.size hi = items.size))
    (h : Q (.ref s.heap.objs.size) { s with heap := s.heap.push { cls := .type "tuple", data := .seq ((items.toList.drop (sIx items.size 0 lo)).take (sIx items.size items.size hi - sIx items.size 0 lo)).toArray } })
    (hsz : items.size ≤ sizeLine) : wpAny (model prog w) A (getItem (.ref t) (.ref sl)) Q E s := by
  have htake : sizeOk (.seq ((items.toList.drop (sIx items.size 0 lo)).take (sIx items.size items.size hi - sIx items.size 0 lo)).toArray) := by
    show ((items.toList.drop (sIx items.size 0 lo)).take (sIx items.size items.size hi - sIx items.size 0 lo)).toArray.size ≤ sizeLine
    rw [List.size_toArray, List.length_take, List.length_drop, Array.length_toList]
    omega
  have hj : sIx items.size items.size hi ≤ items.size := sIx_le _ _ (Nat.le_refl _) hi
  obtain ⟨os, hos, hcs, hds⟩ := id hs
  have hTs : s.TypeIs (.ref sl) "slice" := ⟨os, hos, hcs⟩
  unfold getItem
  try with_reducible refine wpAny_holding ?_
  first | refine wpAny_bind (wpAny_pure ?_) | skip
  refine wpAny_bind (wpAny_sequenceKey ht.typeIs (by decide) ?_)
  refine wpAny_bind (wpAny_callSpecial?_slot (name := Str.ofString "__getitem__") ht.typeIs PyProof.Rows.slot_tuple_getitem
    (wpAny_call_entry PyProof.Rows.slot_tuple_getitem ht.typeIs entry_tuple_getitem ?_ (args_tuple_getitem _ _)))
  show wpAny _ _ (Builtin.Tuple.tupleItemsOf (.ref t) >>= _) _ _ s
  refine wpAny_bind (tupleItemsOf_ ht ?_)
  refine wpAny_bind (wpAny_typeOf hTs ?_)
  rw [if_pos (by decide)]
  refine wpAny_bind (sliceApplied_gen hs pl pu ?_)
  have hno : ¬ ((((sIx items.size 0 lo : Nat) : Int) == 0 && (1 : Int) == 1 && (sIx items.size items.size hi - sIx items.size 0 lo) == items.size) = true) := by
    intro q
    rw [Bool.and_eq_true, Bool.and_eq_true] at q
    have q1 : ((sIx items.size 0 lo : Nat) : Int) = 0 := eq_of_beq q.1.1
    have q2 : sIx items.size items.size hi - sIx items.size 0 lo = items.size := eq_of_beq q.2
    exact hw ⟨by omega, by omega⟩
  show wpAny _ _ (if (((sIx items.size 0 lo : Nat) : Int) == 0 && (1 : Int) == 1 && (sIx items.size items.size hi - sIx items.size 0 lo) == items.size) = true then _ else _) _ _ s
  rw [if_neg hno, pick_gen]
  first
    | exact wpAny_bind (m := Builtin.Tuple.tupleExact _) (wpAny_newObj_type (wpAny_pure ⟨_, rfl, wpAny_pure h⟩) htake)
    | exact wpAny_bind (m := Builtin.Tuple.tupleExact _) (wpAny_newObj_type (wpAny_bind (wpAny_pure (wpAny_pure ⟨_, rfl, wpAny_pure h⟩))) htake)
    | exact wpAny_bind (wpAny_bind (m := Builtin.Tuple.tupleExact _) (wpAny_newObj_type (wpAny_pure (wpAny_pure ⟨_, rfl, wpAny_pure h⟩)) htake))
    | exact wpAny_bind (wpAny_bind (m := Builtin.Tuple.tupleExact _) (wpAny_newObj_type (wpAny_pure ⟨_, rfl, wpAny_pure h⟩) htake))
end
end HT

namespace L2
open PySem PySem.Spec PyProof.Rows

/-! ### the parts of a slice -/
abbrev TO := St → Hp → (Option Int → Hp → Prop) → Prop
/-- a slice's part (left out, or an int) -/
def PO (X : Cx) (e : Option Expr) (t : TO) : Prop :=
  ∀ (pins : List (Addr × Obj)) (s : Shared) (σ : St) (H : Hp) (Q : Option Int → Hp → Prop), Inv X pins σ H s → t σ H Q →
    wpAny (model X.prog X.w) X.A (evalPart e X.env) (fun u s' => ∃ o H', Inv X pins σ H' s' ∧ IsPart u o ∧ Q o H') X.xe s
def tNoPart : TO := fun _ H Q => Q none H
def tPart (t : TE) : TO := fun σ H Q => t σ H fun x H1 => ∃ i, x = .int i ∧ Q (some i) H1

theorem intsAre_of {ns : List Int} : ∀ {us : List Value}, Vals (ns.map V.int) us → IntsAre us ns := by
  induction ns with
  | nil => intro us r; rw [List.map_nil] at r; cases r; exact .nil
  | cons n ns ih =>
    intro us r
    rw [List.map_cons] at r
    cases r with
    | cons r1 r2 =>
      obtain ⟨t, e⟩ := r1
      subst e
      exact .cons n t (ih r2)

section
variable {X : Cx} {e : Expr} {te : TE} {lo hi : Option Expr} {tl th : TO} {pos p2 : Pos}

theorem po_none : PO X none tNoPart := by
  intro pins s σ H Q I h
  rw [evalPart_none]
  exact wpAny_pure ⟨none, H, I, .none, h⟩
theorem po_some (h : PE X e te) : PO X (some e) (tPart te) := by
  intro pins s σ H Q I hw
  rw [evalPart_some]
  refine thn (h pins s σ H _ I hw) fun u s1 ⟨x, H1, I1, r1, q1⟩ => ?_
  obtain ⟨i, rfl, q⟩ := q1
  obtain ⟨t, rfl⟩ := r1
  exact ⟨some i, H1, I1, .int i t, q⟩

/-- what a slice of a value is, by values: the slice object stands at sl -/
def SlR (X : Cx) (r : V → Option Int → Option Int → Hp → VK → Prop) : Prop :=
  ∀ (pins : List (Addr × Obj)) (s : Shared) (σ : St) (H : Hp) (x : V) (v vl vu : Value) (lo hi : Option Int) (sl : Addr) (Q : VK), Inv X pins σ H s → RelV x v → s.heap.IsSliceOf sl vl vu .none → IsPart vl lo → IsPart vu hi → r x lo hi H Q →
    ∃ T id, typeLookup (.type T) "__getitem__" = pure (some (.builtin id)) ∧ s.TypeIs v T ∧ wpAny (model X.prog X.w) X.A (getItem v (.ref sl)) (EP X pins σ Q) X.xe s
theorem SlR.or {r r' : V → Option Int → Option Int → Hp → VK → Prop} (h : SlR X r) (h' : SlR X r') : SlR X (fun x lo hi H Q => r x lo hi H Q ∨ r' x lo hi H Q) := by
  intro pins s σ H x v vl vu lo hi sl Q I rx hs pl pu q
  rcases q with q | q
  · exact h pins s σ H x v vl vu lo hi sl Q I rx hs pl pu q
  · exact h' pins s σ H x v vl vu lo hi sl Q I rx hs pl pu q
def tSl (r : V → Option Int → Option Int → Hp → VK → Prop) (te : TE) (tl th : TO) : TE := fun σ H Q => te σ H fun x H1 => tl σ H1 fun l H2 => th σ H2 fun u H3 => r x l u H3 Q
/-- a[lo:hi], any a -/
theorem pe_slice {r : V → Option Int → Option Int → Hp → VK → Prop} (hr : SlR X r) (he : PE X e te) (hl : PO X lo tl) (hu : PO X hi th) : PE X (.Subscript e (.Slice lo hi none p2) pos) (tSl r te tl th) := by
  intro pins s σ H Q I h
  refine Subscript_ (thn (he pins s σ H _ I h) fun v s1 ⟨x, H1, I1, r1, q1⟩ => ?_)
  refine wpAny_Slice (thn (hl pins s1 σ H1 _ I1 q1) fun vl s2 ⟨l, H2, I2, pl, q2⟩ => thn (hu pins s2 σ H2 _ I2 q2) fun vu s3 ⟨u, H3, I3, pu, q3⟩ => ?_)
  rw [evalPart_none]
  refine wpAny_pure ?_
  have I4 : Inv X pins σ H3 { s3 with heap := s3.heap.push { cls := .type "slice", data := .fields #[vl, vu, .none] } } := I3.kept (t' := s3.toks) fun b ob q => Heap.get?_push_of_some _ q
  obtain ⟨T, id, hT, ht, hg⟩ := hr pins { s3 with heap := s3.heap.push { cls := .type "slice", data := .fields #[vl, vu, .none] } } σ H3 x v vl vu l u s3.heap.objs.size Q I4 r1 (Heap.IsSliceOf.new ..) pl pu q3
  show wpAny (model X.prog X.w) X.A (subscriptTail e (.Slice lo hi none p2) v (.ref s3.heap.objs.size)) (EP X pins σ Q) X.xe { s3 with heap := s3.heap.push { cls := .type "slice", data := .fields #[vl, vu, .none] } }
  exact tail_any (ops := [.ref s3.heap.objs.size, v]) ht hT hg (by with_unfolding_all rfl)

/-- the items of xs[lo:hi] -/
def cutV (xs : List V) (lo hi : Option Int) : List V := (xs.drop (HT.sIx xs.length 0 lo)).take (HT.sIx xs.length xs.length hi - HT.sIx xs.length 0 lo)
theorem cutV_length (xs : List V) (lo hi : Option Int) : (cutV xs lo hi).length ≤ xs.length := by
  unfold cutV
  rw [List.length_take, List.length_drop]
  omega
/-- t[lo:hi], not the whole of it (the whole would be t itself) -/
def rSlT (K : PySem.W.Frag) : V → Option Int → Option Int → Hp → VK → Prop := fun x lo hi H Q => ∃ a xs, x = .ref a ∧ SqT K H a xs ∧
  ¬ (HT.sIx xs.length 0 lo = 0 ∧ HT.sIx xs.length xs.length hi = xs.length) ∧ ∀ p, H p = none → Q (.ref p) (upd H p (.tup (cutV xs lo hi)))
theorem sl_tup : SlR X (rSlT X.K) := by
  intro pins s σ H x v vl vu lo hi sl Q I rx hs pl pu h
  obtain ⟨a, xs, rfl, hx, hw, q⟩ := h
  cases rx
  obtain ⟨its, r, ht, hz⟩ := I.tuple hx
  have hlen : its.toArray.size = xs.length := by rw [List.size_toArray]; exact r.length.symm
  refine ⟨"tuple", _, PyProof.Rows.slot_tuple_getitem.lookup, ht.typeIs, ?_⟩
  refine HT.getItem_tuple_cut ht hs pl pu (by rw [hlen]; exact hw) ?_ (by rw [hlen]; exact hz)
  rw [hlen]
  refine ⟨.ref s.heap.objs.size, _, I.laid (t' := s.toks) (o := .tup (cutV xs lo hi)) (fun b ob q => Heap.get?_push_of_some _ q) (Nat.le_refl _) ?_, rfl, q _ (I.hok.fresh (Nat.le_refl _))⟩
  exact ⟨Nat.le_trans (cutV_length xs lo hi) hz, _, (r.drop (HT.sIx xs.length 0 lo)).take (HT.sIx xs.length xs.length hi - HT.sIx xs.length 0 lo), IsTup.new _ _, _, Heap.get?_push_size _ rfl, rfl⟩

/-! ### t < u, t + u -/
def rLtT (K : PySem.W.Frag) : R2 := fun x y H Q => ∃ a b ns ms, x = .ref a ∧ y = .ref b ∧ SqT K H a (ns.map V.int) ∧ SqT K H b (ms.map V.int) ∧ Q (.bl (HT.lexLt ns ms)) H
theorem op_ltT (hu : X.A.units < cLine) : OpR X (compareOp .Lt) (rLtT X.K) := by
  intro pins s σ H x y v u Q I rx ry h
  obtain ⟨a, b, ns, ms, rfl, rfl, ha, hb, q⟩ := h
  cases rx
  cases ry
  obtain ⟨its, r1, p1, _⟩ := I.tuple ha
  obtain ⟨its2, r2, p2, _⟩ := I.tuple hb
  have i1 : IntsAre its.toArray.toList ns := intsAre_of r1
  have i2 : IntsAre its2.toArray.toList ms := intsAre_of r2
  exact HT.lt_tupInts p1 p2 i1 i2 hu ⟨.bl (HT.lexLt ns ms), H, I, rfl, q⟩
/-- t + u, t not empty: u empty gives t itself -/
def rCatT (K : PySem.W.Frag) : R2 := fun x y H Q => ∃ a b xs ys, x = .ref a ∧ y = .ref b ∧ SqT K H a xs ∧ SqT K H b ys ∧ xs ≠ [] ∧ xs.length + ys.length ≤ sizeLine ∧
  (ys = [] → Q (.ref a) H) ∧ (ys ≠ [] → ∀ p, H p = none → Q (.ref p) (upd H p (.tup (xs ++ ys))))
theorem Vals.nil_iff {xs : List V} {us : List Value} (r : Vals xs us) : us = [] ↔ xs = [] := by
  cases r with
  | nil => simp
  | cons _ _ => simp
theorem op_catT : OpR X (binaryOp .Add) (rCatT X.K) := by
  intro pins s σ H x y v u Q I rx ry h
  obtain ⟨a, b, xs, ys, rfl, rfl, ha, hb, hx, hz, q1, q2⟩ := h
  cases rx
  cases ry
  obtain ⟨its, r1, p1, _⟩ := I.tuple ha
  obtain ⟨its2, r2, p2, _⟩ := I.tuple hb
  refine HT.cat_tup p1 p2 (fun z => hx (r1.nil_iff.mp z)) (fun z => ⟨.ref a, H, I, rfl, q1 (r2.nil_iff.mp z)⟩) (fun z => ?_) (by rw [← r1.length, ← r2.length]; exact hz)
  refine ⟨.ref s.heap.objs.size, _, I.laid (t' := s.toks) (o := .tup (xs ++ ys)) (fun b ob q => Heap.get?_push_of_some _ q) (Nat.le_refl _) ?_, rfl, q2 (fun w => z (r2.nil_iff.mpr w)) _ (I.hok.fresh (Nat.le_refl _))⟩
  exact ⟨by rw [List.length_append]; exact hz, _, r1.append r2, IsTup.new _ _, _, Heap.get?_push_size _ rfl, rfl⟩
/-- tuple(t) -/
theorem call_tupleT : CallR X (.type "tuple") (fun xs H Q => ∃ a ys, xs = [.ref a] ∧ SqT X.K H a ys ∧ Q (.ref a) H) := by
  intro pins s σ H xs us Q I r h
  obtain ⟨a, ys, rfl, ha, q⟩ := h
  obtain ⟨u, rfl, ru⟩ := vals1 r
  cases ru
  obtain ⟨its, _, p1, _⟩ := I.tuple ha
  exact call_tuple_same (items := its.toArray) p1 ⟨.ref a, H, I, rfl, q⟩
end
end L2

namespace L2
open PySem PySem.Spec PyProof.Rows

/-! ### places -/
/-- the place that an index of any sign means -/
def ixN (n : Nat) (i : Int) : Option Nat := if 0 ≤ i then (if i < n then some i.toNat else none) else if -(n : Int) ≤ i then some (i + n).toNat else none
def atI {α : Type} (xs : List α) (i : Int) : Option α := (ixN xs.length i).bind fun j => xs[j]?
theorem ixN_seq {n : Nat} {i : Int} {j : Nat} (h : ixN n i = some j) : seqIndex? i n = some j ∧ j < n ∧ -(n : Int) ≤ i ∧ i < n := by
  unfold ixN at h
  by_cases h0 : 0 ≤ i
  · rw [if_pos h0] at h
    by_cases h1 : i < n
    · rw [if_pos h1] at h
      have e : i.toNat = j := Option.some.inj h
      exact ⟨by rw [seqIndex_of h0 h1, e], by omega, by omega, h1⟩
    · rw [if_neg h1] at h; cases h
  · rw [if_neg h0] at h
    by_cases h1 : -(n : Int) ≤ i
    · rw [if_pos h1] at h
      have e : (i + n).toNat = j := Option.some.inj h
      exact ⟨by rw [seqIndex_neg (by omega) h1, e], by omega, h1, by omega⟩
    · rw [if_neg h1] at h; cases h
theorem atI_get {α : Type} {xs : List α} {i : Int} {v : α} (h : atI xs i = some v) : ∃ j, seqIndex? i xs.length = some j ∧ xs[j]? = some v ∧ j < xs.length ∧ -(xs.length : Int) ≤ i ∧ i < xs.length := by
  unfold atI at h
  cases e : ixN xs.length i with
  | none => rw [e] at h; cases h
  | some j =>
    rw [e] at h
    obtain ⟨h1, h2, h3, h4⟩ := ixN_seq e
    exact ⟨j, h1, h, h2, h3, h4⟩
theorem atI_nat {α : Type} {xs : List α} {j : Nat} {v : α} (h : xs[j]? = some v) : atI xs (j : Int) = some v := by
  have hj : j < xs.length := (List.getElem?_eq_some_iff.mp h).1
  have e : ixN xs.length (j : Int) = some j := by
    unfold ixN
    rw [if_pos (by omega), if_pos (by omega)]; simp
  unfold atI; rw [e]; exact h
theorem atI_last {α : Type} (xs : List α) (v : α) : atI (xs ++ [v]) (-1) = some v := by
  have hl : (xs ++ [v]).length = xs.length + 1 := by simp
  have e : ixN (xs ++ [v]).length (-1) = some xs.length := by
    unfold ixN
    rw [hl, if_neg (by decide), if_pos (by omega)]
    congr 1
    omega
  unfold atI
  rw [e]
  show (xs ++ [v])[xs.length]? = some v
  simp

/-! ### what may be subscripted -/
/-- what stands as an index of a plain subscript -/
def PlainIx (b : Expr) : Prop := ∀ o i, subscripted b false o i = operate [o, i] (getItem o i)
/-- a subscript by values -/
def IxR (X : Cx) (r : R2) : Prop :=
  ∀ (value slice : Expr) (pins : List (Addr × Obj)) (s : Shared) (σ : St) (H : Hp) (x y : V) (v u : Value) (Q : VK), Inv X pins σ H s → RelV x v → RelV y u → r x y H Q →
    subscripted slice false v u = operate [v, u] (getItem v u) → wpAny (model X.prog X.w) X.A (subscriptTail value slice v u) (EP X pins σ Q) X.xe s
/-- a call of a builtin's method by values: the receiver, the arguments -/
def MtR (X : Cx) (id : String) (r : V → List V → Hp → VK → Prop) : Prop :=
  ∀ (pins : List (Addr × Obj)) (s : Shared) (σ : St) (H : Hp) (x : V) (xs : List V) (v : Value) (us : List Value) (Q : VK), Inv X pins σ H s → RelV x v → Vals xs us → r x xs H Q →
    wpAny (model X.prog X.w) X.A (call (.builtin id) (v :: us)) (EP X pins σ Q) X.xe s
section
variable {X : Cx} {a b : Expr} {ta tb : TE} {pos : Pos}
theorem IxR.or {r r' : R2} (h : IxR X r) (h' : IxR X r') : IxR X (fun x y H Q => r x y H Q ∨ r' x y H Q) := by
  intro value slice pins s σ H x y v u Q I rx ry q hs
  rcases q with q | q
  · exact h value slice pins s σ H x y v u Q I rx ry q hs
  · exact h' value slice pins s σ H x y v u Q I rx ry q hs
theorem MtR.or {id : String} {r r' : V → List V → Hp → VK → Prop} (h : MtR X id r) (h' : MtR X id r') : MtR X id (fun x xs H Q => r x xs H Q ∨ r' x xs H Q) := by
  intro pins s σ H x xs v us Q I rx rs q
  rcases q with q | q
  · exact h pins s σ H x xs v us Q I rx rs q
  · exact h' pins s σ H x xs v us Q I rx rs q
/-- a[b] -/
theorem pe_ix {r : R2} (hr : IxR X r) (ha : PE X a ta) (hb : PE X b tb) (hs : PlainIx b) : PE X (.Subscript a b pos) (tOp r ta tb) := by
  intro pins s σ H Q I h
  exact Subscript_ (binT ha hb I h fun v u s2 x y H2 I2 rx ry q => hr a b pins s2 σ H2 x y v u Q I2 rx ry q (hs _ _))

def rIxL (K : PySem.W.Frag) : R2 := fun x y H Q => ∃ p xs i v, x = .ref p ∧ y = .int i ∧ SqL K H p xs ∧ atI xs i = some v ∧ Q v H
def rIxT (K : PySem.W.Frag) : R2 := fun x y H Q => ∃ p xs i v, x = .ref p ∧ y = .int i ∧ SqT K H p xs ∧ atI xs i = some v ∧ Q v H
def rIxS : R2 := fun x y H Q => ∃ z i c, x = .str z ∧ y = .int i ∧ z.length ≤ sizeLine ∧ atI z.cps.toList i = some c ∧ Q (.str ⟨#[c]⟩) H
theorem ix_list : IxR X (rIxL X.K) := by
  intro value slice pins s σ H x y v u Q I rx ry h hs
  obtain ⟨p, xs, i, z, rfl, rfl, hq, he, q⟩ := h
  cases rx
  obtain ⟨t, rfl⟩ := ry
  obtain ⟨its, r, pl, hz⟩ := I.list hq
  obtain ⟨j, h1, h2, h3, h4, h5⟩ := atI_get he
  obtain ⟨w, ew, rw'⟩ := r.get h2
  have hl := r.length
  have hn := line63
  have fin : EP X pins σ Q w s := ⟨z, H, I, rw', q⟩
  by_cases h0 : 0 ≤ i
  · have hj : i.toNat = j := by
      rw [seqIndex_of h0 h5] at h1
      exact Option.some.inj h1
    exact item_listR pl.isList h0 (by omega) (by rw [hj]; simpa using ew) fin hs
  · have hj : (i + (its.toArray.size : Int)).toNat = j := by
      rw [seqIndex_neg (by omega) h4] at h1
      rw [List.size_toArray, ← hl]
      exact Option.some.inj h1
    exact subscriptTail_builtinR (x := w) pl.isList.typeIs slot_list_getitem.lookup
      (wpAny_getItem_list_neg (Q := fun r s' => r = w ∧ EP X pins σ Q r s') pl.isList (by omega) (by rw [List.size_toArray] <;> omega) (by omega) (by rw [hj]; simpa using ew) ⟨rfl, fin⟩) hs
theorem ix_tup : IxR X (rIxT X.K) := by
  intro value slice pins s σ H x y v u Q I rx ry h hs
  obtain ⟨p, xs, i, z, rfl, rfl, hq, he, q⟩ := h
  cases rx
  obtain ⟨t, rfl⟩ := ry
  obtain ⟨its, r, pl, hz⟩ := I.tuple hq
  obtain ⟨j, h1, h2, h3, h4, h5⟩ := atI_get he
  obtain ⟨w, ew, rw'⟩ := r.get h2
  have hl := r.length
  have hn := line63
  have fin : EP X pins σ Q w s := ⟨z, H, I, rw', q⟩
  exact subscriptTail_builtinR (x := w) pl.typeIs slot_tuple_getitem.lookup
    (getItem_tuple (j := j) (Q := fun r s' => r = w ∧ EP X pins σ Q r s') pl (by omega) (by omega) (by rw [List.size_toArray, ← hl]; exact h1) (by simpa using ew) ⟨rfl, fin⟩) hs
theorem ix_str : IxR X rIxS := by
  intro value slice pins s σ H x y v u Q I rx ry h hs
  obtain ⟨z, i, c, rfl, rfl, hz, he, q⟩ := h
  obtain ⟨t, rfl⟩ := rx
  obtain ⟨t', rfl⟩ := ry
  obtain ⟨j, h1, h2, h3, h4, h5⟩ := atI_get he
  have hl : z.cps.toList.length = z.length := by simp [Str.length]
  rw [hl] at h1 h4 h5
  have hn := line63
  exact tail_any (typeIs_str s z t) slot_str_getitem.lookup (getItem_str (c := c) (by
    have e1 : decide (i < -(2 ^ 63 : Int)) = false := decide_eq_false (by omega)
    have e2 : decide (i ≥ 2 ^ 63) = false := decide_eq_false (by omega)
    rw [e1, e2, Bool.or_false]) (by rw [h1]; simpa using h2) ⟨.str ⟨#[c]⟩, H, I.tok _, ⟨_, rfl⟩, q⟩) hs
/-- list, tuple or str -/
def rIx (K : PySem.W.Frag) : R2 := fun x y H Q => rIxL K x y H Q ∨ rIxT K x y H Q ∨ rIxS x y H Q
theorem ix_seq : IxR X (rIx X.K) := ix_list.or (ix_tup.or ix_str)

/-! ### xs[i] = v, any sign -/
/-- the list's object behind a store -/
theorem mapSeq_set (its : List Value) (n j : Nat) (u : Value) : Obj.mapSeq (·.setIfInBounds j u) { cls := .type "list", data := .seq its.toArray n } = { cls := .type "list", data := .seq (its.set j u).toArray n } := by
  simp [Obj.mapSeq]
theorem Inv.lst {pins : List (Addr × Obj)} {σ : St} {H : Hp} {s : Shared} {p : Addr} {xs : List V} (I : Inv X pins σ H s) (h : H p = some (.lst xs)) :
    ∃ (its : List Value) (n : Nat), Vals xs its ∧ s.heap.get? p = some { cls := .type "list", data := .seq its.toArray n } ∧ xs.length ≤ sizeLine := by
  obtain ⟨z, its, n, r, e⟩ := I.hok p _ h
  exact ⟨its, n, r, e, z⟩
/-- the list at p is written by an update of its object -/
theorem Inv.lstUpd {pins : List (Addr × Obj)} {σ : St} {H : Hp} {s : Shared} {p : Addr} {xs ys : List V} {its its' : List Value} {n n' : Nat} {f : Obj → Obj} (I : Inv X pins σ H s) (h : H p = some (.lst xs))
    (ho : s.heap.get? p = some { cls := .type "list", data := .seq its.toArray n }) (hf : f { cls := .type "list", data := .seq its.toArray n } = { cls := .type "list", data := .seq its'.toArray n' }) (r : Vals ys its') (hz : ys.length ≤ sizeLine) (t : Nat) :
    Inv X pins σ (upd H p (.lst ys)) { s with heap := s.heap.update p f, toks := t } := by
  have e : (s.heap.update p f).get? p = some { cls := .type "list", data := .seq its'.toArray n' } := by
    rw [Heap.get?_update_self f ho (by rw [hf] <;> rfl), hf]
  refine I.write (x := p) (e := p) (by rw [h]; trivial) (.inl rfl) (fun b u hb q => (Heap.get?_update_other _ _ (Ne.symm hb)).trans q) ⟨_, e⟩ ?_
  exact ⟨hz, its', n', r, e⟩
def rSetL : V → V → V → Hp → (Hp → Prop) → Prop := fun o i v H Q => ∃ p xs k j, o = .ref p ∧ i = .int k ∧ H p = some (.lst xs) ∧ ixN xs.length k = some j ∧ Q (upd H p (.lst (xs.set j v)))
theorem set_list : PSet X rSetL := by
  intro pins s σ H o i v ov iv u Q I ro ri rv h
  obtain ⟨p, xs, k, j, rfl, rfl, hp, hj, q⟩ := h
  cases ro
  obtain ⟨t, rfl⟩ := ri
  obtain ⟨its, n, r, ho, hz⟩ := I.lst hp
  obtain ⟨h1, h2, h3, h4⟩ := ixN_seq hj
  have hl := r.length
  have hn := line63
  have I' : Inv X pins σ (upd H p (.lst (xs.set j v))) { s with heap := s.heap.update p (Obj.mapSeq (·.setIfInBounds j u)) } :=
    I.lstUpd hp ho (mapSeq_set its n j u) (r.set rv j) (by rw [List.length_set]; exact hz) s.toks
  by_cases h0 : 0 ≤ k
  · have hk : k.toNat = j := by
      rw [seqIndex_of h0 h4] at h1
      exact Option.some.inj h1
    exact PySem.W.ki_setAt ho h0 (by omega) (by rw [List.size_toArray, ← hl]; exact h4) (by rw [hk]; exact ⟨_, I', q⟩)
  · have hk : (k + (its.toArray.size : Int)).toNat = j := by
      rw [seqIndex_neg (by omega) h3] at h1
      rw [List.size_toArray, ← hl]
      exact Option.some.inj h1
    exact PySem.W.ki_setBack ho (by omega) (by rw [List.size_toArray, ← hl]; exact h3) (by omega) (by rw [hk]; exact ⟨_, I', q⟩)

/-! ### slices -/
theorem slice_bounds (lo hi : Option Int) (n : Nat) : (sliceBounds lo hi none n).1 = ((HT.sIx n 0 lo : Nat) : Int) ∧ (sliceBounds lo hi none n).2.1 = ((HT.sIx n n hi : Nat) : Int) ∧ (sliceBounds lo hi none n).2.2 = 1 := by
  refine ⟨?_, ?_, rfl⟩
  · cases lo with
    | none => simp [sliceBounds, HT.sIx]
    | some i =>
      simp only [sliceBounds, HT.sIx, Option.getD_none, show (1 : Int) > 0 by decide, if_true]
      by_cases h : i < 0
      · simp only [h, if_true] <;> omega
      · simp only [h, if_false] <;> omega
  · cases hi with
    | none => simp [sliceBounds, HT.sIx]
    | some i =>
      simp only [sliceBounds, HT.sIx, Option.getD_none, show (1 : Int) > 0 by decide, if_true]
      by_cases h : i < 0
      · simp only [h, if_true] <;> omega
      · simp only [h, if_false] <;> omega
theorem slicePick_cut (its : List Value) (lo hi : Option Int) : slicePick its.toArray lo hi none = ((its.drop (HT.sIx its.length 0 lo)).take (HT.sIx its.length its.length hi - HT.sIx its.length 0 lo)).toArray := by
  obtain ⟨h1, h2, h3⟩ := slice_bounds lo hi its.toArray.size
  unfold slicePick
  rw [h1, h2, h3]
  simp only [sliceRange_one, pick_run, List.size_toArray] <;> rfl
/-- xs[lo:hi] of a list: a new list -/
def rSlL (K : PySem.W.Frag) : V → Option Int → Option Int → Hp → VK → Prop := fun x lo hi H Q => ∃ a xs, x = .ref a ∧ SqL K H a xs ∧ ∀ p, H p = none → Q (.ref p) (upd H p (.lst (cutV xs lo hi)))
theorem sl_list : SlR X (rSlL X.K) := by
  intro pins s σ H x v vl vu lo hi sl Q I rx hs pl pu h
  obtain ⟨a, xs, rfl, hx, q⟩ := h
  cases rx
  obtain ⟨its, r, ht, hz⟩ := I.list hx
  have hlen := r.length
  refine ⟨"list", _, slot_list_getitem.lookup, ht.isList.typeIs, ?_⟩
  refine wpAny_getItem_list_slice ht.isList hs pl pu .none (by simp) ?_ (by rw [List.size_toArray] <;> omega)
  rw [slicePick_cut, ← hlen]
  refine ⟨.ref s.heap.objs.size, _, I.laid (t' := s.toks) (o := .lst (cutV xs lo hi)) (fun b ob q => Heap.get?_push_of_some _ q) (Nat.le_refl _) ?_, rfl, q _ (I.hok.fresh (Nat.le_refl _))⟩
  exact ⟨Nat.le_trans (cutV_length xs lo hi) hz, _, 0, (r.drop (HT.sIx xs.length 0 lo)).take (HT.sIx xs.length xs.length hi - HT.sIx xs.length 0 lo), Heap.get?_push_size _ rfl⟩

/-! ### in, not in: flat items -/
def flatV : V → Bool
  | .non => true
  | .bl _ => true
  | .int _ => true
  | .str _ => true
  | _ => false
/-- == of flat values -/
def eqV : V → V → Bool
  | .non, .non => true
  | .bl a, .bl b => a == b
  | .bl a, .int b => (if a then 1 else 0) == b
  | .int a, .bl b => a == (if b then 1 else 0)
  | .int a, .int b => a == b
  | .str a, .str b => a == b
  | _, _ => false
theorem eqAt_V {A : Around} {s : Shared} {y x : V} {u v : Value} (ry : RelV y u) (rx : RelV x v) (fy : flatV y = true) (fx : flatV x = true) : SeqAt.EqAt A s u v (eqV y x) := by
  cases y with
  | non =>
    cases ry
    cases x with
    | non => cases rx; exact SeqAt.EqAt.same _
    | bl b => cases rx; exact SeqAt.EqAt.none_bool b
    | int b => obtain ⟨t, rfl⟩ := rx; exact SeqAt.EqAt.none_int b t
    | str b => obtain ⟨t, rfl⟩ := rx; exact SeqAt.EqAt.none_str b t
    | _ => exact absurd (show false = true from fx) Bool.false_ne_true
  | bl a =>
    cases ry
    cases x with
    | non => cases rx; exact SeqAt.EqAt.bool_none a
    | bl b => cases rx; exact SeqAt.EqAt.bool_bool a b
    | int b => obtain ⟨t, rfl⟩ := rx; exact SeqAt.EqAt.bool_int a b t
    | str b => obtain ⟨t, rfl⟩ := rx; exact SeqAt.EqAt.bool_str a b t
    | _ => exact absurd (show false = true from fx) Bool.false_ne_true
  | int a =>
    obtain ⟨t', rfl⟩ := ry
    cases x with
    | non => cases rx; exact SeqAt.EqAt.int_none a t'
    | bl b => cases rx; exact SeqAt.EqAt.int_bool a t' b
    | int b => obtain ⟨t, rfl⟩ := rx; exact SeqAt.EqAt.int_int a t' b t
    | str b => obtain ⟨t, rfl⟩ := rx; exact SeqAt.EqAt.int_str a t' b t
    | _ => exact absurd (show false = true from fx) Bool.false_ne_true
  | str a =>
    obtain ⟨t', rfl⟩ := ry
    cases x with
    | non => cases rx; exact SeqAt.EqAt.str_none a t'
    | bl b => cases rx; exact SeqAt.EqAt.str_bool a t' b
    | int b => obtain ⟨t, rfl⟩ := rx; exact SeqAt.EqAt.str_int a t' b t
    | str b => obtain ⟨t, rfl⟩ := rx; exact SeqAt.EqAt.str_str a t' b t
    | _ => exact absurd (show false = true from fx) Bool.false_ne_true
  | _ => exact absurd (show false = true from fy) Bool.false_ne_true
/-- the items' answers, read off the values (a value's own answer does not lean on its token) -/
def eqU (x : V) (u : Value) : Bool := match u with
  | .none => eqV .non x
  | .bool b => eqV (.bl b) x
  | .int i _ => eqV (.int i) x
  | .str z _ => eqV (.str z) x
  | _ => false
theorem eqU_of {x y : V} {u : Value} (r : RelV y u) (f : flatV y = true) : eqU x u = eqV y x := by
  cases y with
  | non => cases r; rfl
  | bl b => cases r; rfl
  | int i => obtain ⟨t, rfl⟩ := r; rfl
  | str z => obtain ⟨t, rfl⟩ := r; rfl
  | _ => exact absurd (show false = true from f) Bool.false_ne_true
theorem any_eqU {x : V} : ∀ {xs : List V} {us : List Value}, Vals xs us → xs.all flatV = true → us.any (eqU x) = xs.any fun y => eqV y x
  | _, _, .nil, _ => rfl
  | y :: xs, u :: us, .cons r t, f => by
    rw [List.all_cons, Bool.and_eq_true] at f
    rw [List.any_cons, List.any_cons, eqU_of r f.1, any_eqU t f.2]
theorem mem_eqAt {A : Around} {s : Shared} {x : V} {v : Value} (rx : RelV x v) (fx : flatV x = true) : ∀ {xs : List V} {us : List Value}, Vals xs us → xs.all flatV = true → ∀ u ∈ us, SeqAt.EqAt A s u v (eqU x u)
  | _, _, .nil, _ => fun u hu => by cases hu
  | y :: xs, u :: us, .cons r t, f => fun u' hu => by
    rw [List.all_cons, Bool.and_eq_true] at f
    rcases List.mem_cons.mp hu with rfl | hu
    · rw [eqU_of r f.1]; exact eqAt_V r rx f.1 fx
    · exact mem_eqAt rx fx t f.2 u' hu
def inV (x : V) (xs : List V) : Bool := xs.any fun y => eqV y x
/-- x in a list or tuple of flat items -/
def rIn (K : PySem.W.Frag) (neg : Bool) : R2 := fun x y H Q => ∃ p xs, y = .ref p ∧ (SqL K H p xs ∨ SqT K H p xs) ∧ flatV x = true ∧ xs.all flatV = true ∧ Q (.bl (if neg then !inV x xs else inV x xs)) H
theorem op_in_seq : OpR X (compareOp .In) (rIn X.K false) := by
  intro pins s σ H x y v u Q I rx ry h
  obtain ⟨p, xs, rfl, hq, fx, fs, q⟩ := h
  cases ry
  rcases hq with hq | hq
  · obtain ⟨its, r, pl, hz⟩ := I.list hq
    refine SeqAt.in_listAt (eqU x) pl.isList (fun w hw => mem_eqAt rx fx r fs w (by simpa using hw)) ⟨.bl _, H, I, rfl, ?_⟩
    rw [show its.toArray.any (eqU x) = its.any (eqU x) by simp, any_eqU r fs]
    exact q
  · obtain ⟨its, r, pl, hz⟩ := I.tuple hq
    refine SeqAt.in_tupleAt (eqU x) pl (fun w hw => mem_eqAt rx fx r fs w (by simpa using hw)) ⟨.bl _, H, I, rfl, ?_⟩
    rw [show its.toArray.any (eqU x) = its.any (eqU x) by simp, any_eqU r fs]
    exact q
theorem op_notIn_seq : OpR X (compareOp .NotIn) (rIn X.K true) := by
  intro pins s σ H x y v u Q I rx ry h
  obtain ⟨p, xs, rfl, hq, fx, fs, q⟩ := h
  cases ry
  rcases hq with hq | hq
  · obtain ⟨its, r, pl, hz⟩ := I.list hq
    refine SeqAt.notIn_listAt (eqU x) pl.isList (fun w hw => mem_eqAt rx fx r fs w (by simpa using hw)) ⟨.bl _, H, I, rfl, ?_⟩
    rw [show its.toArray.any (eqU x) = its.any (eqU x) by simp, any_eqU r fs]
    exact q
  · obtain ⟨its, r, pl, hz⟩ := I.tuple hq
    refine SeqAt.notIn_tupleAt (eqU x) pl (fun w hw => mem_eqAt rx fx r fs w (by simpa using hw)) ⟨.bl _, H, I, rfl, ?_⟩
    rw [show its.toArray.any (eqU x) = its.any (eqU x) by simp, any_eqU r fs]
    exact q
theorem op_notIn_str : OpR X (compareOp .NotIn) (fun x y H Q => ∃ i j, x = .str i ∧ y = .str j ∧ Q (.bl (!(!(Builtin.Str.occurrences j i 0 j.length 1).isEmpty))) H) := by
  intro pins s σ H x y v u Q I rx ry h
  obtain ⟨i, j, rfl, rfl, q⟩ := h
  obtain ⟨t, rfl⟩ := rx
  obtain ⟨t', rfl⟩ := ry
  exact notIn_str ⟨.bl _, H, I, rfl, q⟩

/-! ### len, list(x), tuple(x) of any list or tuple that is read -/
theorem call_len_seq : CallR X (.builtin "len") (fun xs H Q => ∃ p ys, xs = [.ref p] ∧ (SqL X.K H p ys ∨ SqT X.K H p ys) ∧ Q (.int ys.length) H) := by
  intro pins s σ H xs us Q I r h
  obtain ⟨p, ys, rfl, hq, q⟩ := h
  obtain ⟨u, rfl, rx⟩ := vals1 r
  cases rx
  have hn := line63
  rcases hq with hq | hq
  · obtain ⟨its, r', pl, hz⟩ := I.list hq
    have hlen := r'.length
    exact Calls.call_len_list pl.isList (by simp only [List.size_toArray] <;> omega) ⟨.int ys.length, H, I.tok _, ⟨s.toks + 1, by rw [List.size_toArray, hlen]⟩, q⟩
  · obtain ⟨its, r', pl, hz⟩ := I.tuple hq
    have hlen := r'.length
    exact len_tuple pl (by simp only [List.size_toArray] <;> omega) ⟨.int ys.length, H, I.tok _, ⟨s.toks + 1, by rw [List.size_toArray, hlen]⟩, q⟩
theorem call_len_str : CallR X (.builtin "len") (fun xs H Q => ∃ z, xs = [.str z] ∧ z.length ≤ sizeLine ∧ Q (.int z.length) H) := by
  intro pins s σ H xs us Q I r h
  obtain ⟨z, rfl, hz, q⟩ := h
  obtain ⟨u, rfl, t, rfl⟩ := vals1 r
  have hn := line63
  exact len_str (by omega) ⟨.int z.length, H, I.tok _, ⟨_, rfl⟩, q⟩
theorem CallR.or {f : Value} {r r' : List V → Hp → VK → Prop} (h : CallR X f r) (h' : CallR X f r') : CallR X f (fun xs H Q => r xs H Q ∨ r' xs H Q) := by
  intro pins s σ H xs us Q I rs q
  rcases q with q | q
  · exact h pins s σ H xs us Q I rs q
  · exact h' pins s σ H xs us Q I rs q
theorem call_list_of : CallR X (.type "list") (fun xs H Q => ∃ p ys, xs = [.ref p] ∧ (SqL X.K H p ys ∨ SqT X.K H p ys) ∧ ∀ l, H l = none → Q (.ref l) (upd H l (.lst ys))) := by
  intro pins s σ H xs us Q I r h
  obtain ⟨p, ys, rfl, hq, q⟩ := h
  obtain ⟨u, rfl, rx⟩ := vals1 r
  cases rx
  have fin : ∀ (its : List Value), Vals ys its → ys.length ≤ sizeLine → ∀ (h' : Heap) (c' : Nat), (∀ b o', s.heap.get? b = some o' → h'.get? b = some o') →
      h'.get? s.heap.objs.size = some { cls := .type "list", dict := none, data := .seq its.toArray c', slots := #[] } → EP X pins σ Q (.ref s.heap.objs.size) { s with heap := h' } := fun its r' hz h' c' kp e =>
    ⟨.ref s.heap.objs.size, _, I.laid (t' := s.toks) kp (Nat.le_refl _) (show ObjOk X.prog X.w _ h' _ (.lst ys) from ⟨hz, its, c', r', e⟩), rfl, q _ (I.hok.fresh (Nat.le_refl _))⟩
  rcases hq with hq | hq
  · obtain ⟨its, r', pl, hz⟩ := I.list hq
    have hlen := r'.length
    obtain ⟨o, ho, hc, n, hd⟩ := pl.isList
    exact call_list_seq p (.inl rfl) ho hc hd (fun h' c' kp e => fin its r' hz h' c' kp e) (by simp only [List.size_toArray] <;> omega)
  · obtain ⟨its, r', pl, hz⟩ := I.tuple hq
    have hlen := r'.length
    obtain ⟨o, ho, hc, n, hd⟩ := pl
    exact call_list_seq p (.inr rfl) ho hc hd (fun h' c' kp e => fin its r' hz h' c' kp e) (by simp only [List.size_toArray] <;> omega)
theorem call_tuple_of : CallR X (.type "tuple") (fun xs H Q => ∃ p ys, xs = [.ref p] ∧ ((SqL X.K H p ys ∧ ∀ l, H l = none → Q (.ref l) (upd H l (.tup ys))) ∨ (SqT X.K H p ys ∧ Q (.ref p) H))) := by
  intro pins s σ H xs us Q I r h
  obtain ⟨p, ys, rfl, h⟩ := h
  obtain ⟨u, rfl, rx⟩ := vals1 r
  cases rx
  rcases h with ⟨hq, q⟩ | ⟨hq, q⟩
  · obtain ⟨its, r', pl, hz⟩ := I.list hq
    have hlen := r'.length
    refine call_tuple_list pl.isList (fun h' kp => ?_) (by simp only [List.size_toArray] <;> omega)
    have I1 : Inv X pins σ H { s with heap := h' } := I.kept (t' := s.toks) kp
    have I2 : Inv X pins σ (upd H h'.objs.size (.tup ys)) { s with heap := h'.push { cls := .type "tuple", data := .seq its.toArray } } :=
      I1.laid (t' := s.toks) (fun b o e => Heap.get?_push_of_some _ e) (Nat.le_refl _) (show ObjOk X.prog X.w _ _ _ (.tup ys) from ⟨hz, its, r', IsTup.new _ _, _, Heap.get?_push_size _ rfl, rfl⟩)
    exact ⟨.ref h'.objs.size, _, I2, rfl, q _ (I1.hok.fresh (Nat.le_refl _))⟩
  · obtain ⟨its, r', pl, hz⟩ := I.tuple hq
    exact call_tuple_same pl ⟨.ref p, H, I, rfl, q⟩

/-! ### the call of a builtin's method: o.m(..) -/
/-- the value is of that builtin type -/
def tyV (K : PySem.W.Frag) (T : String) (x : V) (H : Hp) : Prop := match x with
  | .str _ => T = "str"
  | .int _ => T = "int"
  | .ref p => (T = "list" ∧ ∃ xs, SqL K H p xs) ∨ (T = "tuple" ∧ ∃ o, K.lookup p = some o ∧ o.cls = .type "tuple" ∧ o.dict = none) ∨
      (T = "dict" ∧ ((∃ kvs, H p = some (.dK kvs)) ∨ ∃ kvs, H p = some (.dT kvs))) ∨ (T = "set" ∧ ∃ S n, H p = some (.set S n))
  | _ => False
theorem tyV_is {pins : List (Addr × Obj)} {σ : St} {H : Hp} {s : Shared} {T : String} {x : V} {v : Value} (I : Inv X pins σ H s) (r : RelV x v) (ty : tyV X.K T x H) :
    s.TypeIs v T ∧ ∀ a, v = .ref a → ∃ ob, s.heap.get? a = some ob ∧ ob.dict = none := by
  cases x with
  | str z =>
    obtain ⟨t, rfl⟩ := r
    cases (show T = "str" from ty)
    exact ⟨typeIs_str s z t, fun _ e => nomatch e⟩
  | int i =>
    obtain ⟨t, rfl⟩ := r
    cases (show T = "int" from ty)
    exact ⟨typeIs_int s i t, fun _ e => nomatch e⟩
  | ref p =>
    cases r
    rcases ty with ⟨rfl, xs, hq⟩ | ⟨rfl, o, hk, hc, hd⟩ | ⟨rfl, hk⟩ | ⟨rfl, S, n, hk⟩
    · obtain ⟨its, _, pl, _⟩ := I.list hq
      refine ⟨pl.isList.typeIs, fun a e => ?_⟩
      cases e
      obtain ⟨o, n, e, c, hd, _⟩ := pl
      exact ⟨o, e, hd⟩
    · refine ⟨⟨o, I.kIn p o hk, hc⟩, fun a e => ?_⟩
      cases e
      exact ⟨o, I.kIn _ o hk, hd⟩
    · have z : ∃ o, s.heap.get? p = some o ∧ o.ExactDict := by
        rcases hk with ⟨kvs, hk⟩ | ⟨kvs, hk⟩
        · obtain ⟨_, _, _, _, o, _, _, e, ex, _⟩ := I.hok p _ hk
          exact ⟨o, e, ex⟩
        · obtain ⟨_, _, _, _, o, _, _, e, ex, _⟩ := I.hok p _ hk
          exact ⟨o, e, ex⟩
      obtain ⟨o, e, ex⟩ := z
      refine ⟨⟨o, e, ex.1⟩, fun a e2 => ?_⟩
      cases e2
      exact ⟨o, e, ex.2.1⟩
    · obtain ⟨o, _, _, _, e, ex, _⟩ := I.hok p _ hk
      refine ⟨⟨o, e, ex.1⟩, fun a e2 => ?_⟩
      cases e2
      exact ⟨o, e, ex.2.1⟩
  | _ => exact False.elim ty
def tBM0 (K : PySem.W.Frag) (T : String) (r : V → List V → Hp → VK → Prop) (to : TE) : TE := fun σ H Q => to σ H fun x H1 => tyV K T x H1 ∧ r x [] H1 Q
def tBM (K : PySem.W.Frag) (T : String) (r : V → List V → Hp → VK → Prop) (to : TE) (t : TA) : TE := fun σ H Q => to σ H fun x H1 => tyV K T x H1 ∧ t σ H1 fun xs H2 => r x xs H2 Q
variable {o e : Expr} {es : List Expr} {to : TE} {t : TA} {name : Str} {apos cpos : Pos} {T id : String} {r : V → List V → Hp → VK → Prop}
theorem pe_bm0 (pa : PlainAttrs T) (slot : Slot T name id) (hty : typeOf (.builtin id) = pure (.type "method_descriptor")) (hm : MtR X id r) (ho : PE X o to)
    (hbase : attributeBase o name X.env (eval o X.env) = eval o X.env := by rfl) (hline : (apos.endLine == cpos.line) = true := by rfl) : PE X (.Call (.Attribute o name apos) [] [] cpos) (tBM0 X.K T r to) := by
  intro pins s σ H Q I h
  refine wpAny_Call_method0_late hbase hline (thn (ho pins s σ H _ I h) fun v s1 ⟨x, H1, I1, r1, ty, q1⟩ => ?_)
  obtain ⟨h1, h2⟩ := tyV_is I1 r1 ty
  exact ⟨T, id, pa, slot, hty, h1, h2, Calls.callWith_builtin rfl (PySem.evalArgs_none (hm pins s1 σ H1 x [] v [] Q I1 r1 .nil q1))⟩
theorem pe_bm (pa : PlainAttrs T) (slot : Slot T name id) (hty : typeOf (.builtin id) = pure (.type "method_descriptor")) (hm : MtR X id r) (ho : PE X o to) (ha : PA X (e :: es) t)
    (hbase : attributeBase o name X.env (eval o X.env) = eval o X.env := by rfl)
    (hfew : ((backTo cpos (starEach (e :: es) X.env)).all (fun x => !x.1) && (backToKw cpos (keywordEach [] X.env)).all (fun x => x.1.isSome)
      && decide ((e :: es).length + ([] : List Keyword).length + (if ([] : List Keyword).isEmpty then 0 else 1) < 30)) = true := by rfl)
    (hline : (apos.endLine == cpos.line) = true := by rfl) (hs : starEach (e :: es) X.env = (false, eval e X.env) :: starEach es X.env := by rfl) (hplain : (backTo cpos (starEach es X.env)).any (·.1) = false := by rfl) :
    PE X (.Call (.Attribute o name apos) (e :: es) [] cpos) (tBM X.K T r to t) := by
  intro pins s σ H Q I h
  refine wpAny_Call_method_late hbase hfew hline rfl (thn (ho pins s σ H _ I h) fun v s1 ⟨x, H1, I1, r1, ty, q1⟩ => ?_)
  obtain ⟨h1, h2⟩ := tyV_is I1 r1 ty
  refine ⟨T, id, pa, slot, hty, h1, h2, ?_⟩
  have hA := ha cpos pins s1 σ H1 _ I1 q1
  rw [hs] at hA ⊢
  refine Calls.callWith_builtin (by show (false || (backTo cpos (starEach es X.env)).any (·.1)) = false; rw [hplain] <;> rfl) (Calls.evalArgs_plain ?_)
  exact thn hA fun us s2 ⟨vs, H2, I2, r2, q2⟩ => hm pins s2 σ H2 x vs v us Q I2 r1 r2 q2
/- xs.append(e), list.index on a module's tuple .. are MtR facts of 06m -/
end
end L2

namespace L2
open PySem PySem.Spec PyProof.Rows

def MtM (X : Cx) (id : String) (r : V → List V → Hp → VK → Prop) : Prop :=
  ∀ (pins : List (Addr × Obj)) (s : Shared) (σ : St) (H : Hp) (x : V) (xs : List V) (v : Value) (us : List Value) (Q : VK), Inv X pins σ H s → RelV x v → Vals xs us → r x xs H Q →
    wpAny (model X.prog X.w) X.A (call (.builtin id) (v :: us)) (EP X pins σ Q) X.xe s

/-! ### lists of values -/
theorem Vals.one : ∀ {x : V} {us : List Value}, Vals [x] us → ∃ u, us = [u] ∧ RelV x u
  | _, _, .cons r .nil => ⟨_, rfl, r⟩
theorem Vals.two : ∀ {x y : V} {us : List Value}, Vals [x, y] us → ∃ u v, us = [u, v] ∧ RelV x u ∧ RelV y v
  | _, _, _, .cons r (.cons q .nil) => ⟨_, _, rfl, r, q⟩
theorem Vals.zero : ∀ {us : List Value}, Vals [] us → us = []
  | _, .nil => rfl
theorem Vals.dropLast {xs : List V} {us : List Value} (h : Vals xs us) : Vals xs.dropLast us.dropLast := by
  induction h with
  | nil => exact .nil
  | cons r t ih =>
    cases t with
    | nil => exact .nil
    | cons q t' => exact .cons r ih
theorem Vals.eraseIdx : ∀ {xs : List V} {us : List Value} (i : Nat), Vals xs us → Vals (xs.eraseIdx i) (us.eraseIdx i)
  | _, _, _, .nil => .nil
  | _, _, 0, .cons _ t => t
  | _, _, i + 1, .cons r t => .cons r (Vals.eraseIdx i t)
theorem Vals.reverse {xs : List V} {us : List Value} (h : Vals xs us) : Vals xs.reverse us.reverse := by
  induction h with
  | nil => exact .nil
  | cons r t ih => rw [List.reverse_cons, List.reverse_cons]; exact Vals.append ih (.cons r .nil)
theorem Vals.rep {xs : List V} {us : List Value} (h : Vals xs us) : ∀ k : Nat, Vals (List.replicate k xs).flatten (List.replicate k us).flatten
  | 0 => .nil
  | k + 1 => by
    rw [List.replicate_succ, List.replicate_succ, List.flatten_cons, List.flatten_cons]
    exact Vals.append h (Vals.rep h k)
theorem erase_last {α : Type} (l : List α) : l.eraseIdx (l.length - 1) = l.dropLast := by
  induction l with
  | nil => rfl
  | cons a r ih =>
    cases r with
    | nil => rfl
    | cons b r =>
      have e : (a :: b :: r).length - 1 = ((b :: r).length - 1) + 1 := by
        have h1 : (a :: b :: r).length = r.length + 2 := rfl
        have h2 : (b :: r).length = r.length + 1 := rfl
        omega
      rw [e, List.eraseIdx_cons_succ, ih]
      all_goals rfl
theorem len_erase {α : Type} : ∀ (l : List α) (i : Nat), (l.eraseIdx i).length ≤ l.length
  | [], _ => Nat.le_refl _
  | _ :: _, 0 => Nat.le_succ _
  | _ :: r, i + 1 => Nat.succ_le_succ (len_erase r i)
theorem foldl_rep (its : List Value) : ∀ (k : Nat) (acc : List Value),
    List.foldl (fun x1 x2 => x1 ++ x2) acc.toArray (List.replicate k its.toArray) = (acc ++ (List.replicate k its).flatten).toArray
  | 0, acc => by simp
  | k + 1, acc => by
    have e : acc.toArray ++ its.toArray = (acc ++ its).toArray := by simp
    have e2 : (acc ++ its) ++ (List.replicate k its).flatten = acc ++ (List.replicate (k + 1) its).flatten := by
      rw [List.replicate_succ, List.flatten_cons, List.append_assoc]
    rw [← e2, ← foldl_rep its k (acc ++ its), ← e, List.replicate_succ, List.foldl_cons]

section
variable {X : Cx} {pins : List (Addr × Obj)} {σ : St} {H : Hp} {s : Shared} {l b : Addr} {xs ys zs : List V}

/-! ### the two steps: a tracked list is rewritten, a new list is laid -/
theorem Inv.lset {its its' : List Value} {n : Nat} {f : Array Value → Array Value} {t' : Nat} (I : Inv X pins σ H s) (hH : H l = some (.lst xs))
    (e : s.heap.get? l = some { cls := .type "list", data := .seq its.toArray n }) (hf : f its.toArray = its'.toArray) (hv : Vals ys its') (hz : ys.length ≤ sizeLine) :
    Inv X pins σ (upd H l (.lst ys)) { s with heap := s.heap.update l (Obj.mapSeq f), toks := t' } := by
  have q := PySem.IsL.update e f
  rw [hf] at q
  refine I.write (x := l) (e := l) (by rw [hH]; exact trivial) (.inl rfl) (fun b' u hb hu => (Heap.get?_update_other s.heap (Obj.mapSeq f) (Ne.symm hb)).trans hu) ⟨_, q⟩ ?_
  exact ⟨hz, its', _, hv, q⟩
theorem Inv.lnew {its : List Value} {t' : Nat} (I : Inv X pins σ H s) (hv : Vals ys its) (hz : ys.length ≤ sizeLine) :
    Inv X pins σ (upd H s.heap.objs.size (.lst ys)) { s with heap := s.heap.push { cls := .type "list", data := .seq its.toArray }, toks := t' } :=
  I.laid (fun _ _ q => Heap.get?_push_of_some _ q) (Nat.le_refl _) ⟨hz, its, 0, hv, Heap.get?_push_size _ rfl⟩
theorem Inv.fresh (I : Inv X pins σ H s) : H s.heap.objs.size = none := I.hok.fresh (Nat.le_refl _)
theorem Inv.lstM (I : Inv X pins σ H s) (hH : H l = some (.lst xs)) : xs.length ≤ sizeLine ∧ ∃ (its : List Value) (n : Nat), Vals xs its ∧ xs.length = its.length ∧ s.heap.get? l = some { cls := .type "list", data := .seq its.toArray n } := by
  obtain ⟨z, its, n, r, e⟩ := I.hok l _ hH
  exact ⟨z, its, n, r, r.length, e⟩

theorem notLongL {n : Nat} (h : n ≤ sizeLine) : Builtin.List.listTooLong n = false := by
  unfold Builtin.List.listTooLong
  exact decide_eq_false (by omega)
end

section
variable {X : Cx}

/-! ### methods -/
def rAppend : V → List V → Hp → VK → Prop := fun x vs H Q => ∃ l xs y, x = .ref l ∧ vs = [y] ∧ H l = some (.lst xs) ∧ xs.length < sizeLine ∧ Q .non (upd H l (.lst (xs ++ [y])))
theorem mt_append : MtM X "list.append" rAppend := by
  intro pins s σ H x vs v us Q I rx rv h
  obtain ⟨l, xs, y, rfl, rfl, hH, hz, q⟩ := h
  cases rx
  obtain ⟨u, rfl, ru⟩ := rv.one
  obtain ⟨z, its, n, r, hl, e⟩ := I.lstM hH
  refine call_meets F.slot_list_append ⟨_, e, rfl⟩ F.entry_list_append (F.args_list_append_2 _ _) (PySem.list_append l its.toArray n u (by rw [List.size_toArray]; omega)) ⟨e, ?_⟩
  refine ⟨.non, _, I.lset (its' := its ++ [u]) hH e (by simp) (r.append (.cons ru .nil)) ?_, rfl, q⟩
  rw [List.length_append, List.length_singleton]
  omega

def rExtend : V → List V → Hp → VK → Prop := fun x vs H Q => ∃ l b xs zs, x = .ref l ∧ vs = [.ref b] ∧ H l = some (.lst xs) ∧ H b = some (.lst zs) ∧ xs.length + zs.length ≤ sizeLine ∧ Q .non (upd H l (.lst (xs ++ zs)))
theorem mt_extend : MtM X "list.extend" rExtend := by
  intro pins s σ H x vs v us Q I rx rv h
  obtain ⟨l, b, xs, zs, rfl, rfl, hH, hB, hz, q⟩ := h
  cases rx
  obtain ⟨u, rfl, ru⟩ := rv.one
  cases ru
  obtain ⟨z, its, n, r, hl, e⟩ := I.lstM hH
  obtain ⟨z2, its2, n2, r2, hl2, e2⟩ := I.lstM hB
  have hsz : its.toArray.size + its2.toArray.size ≤ sizeLine := by rw [List.size_toArray, List.size_toArray]; omega
  have hlong : ¬ (!its.toArray.isEmpty && Builtin.List.listTooLong (its.toArray.size + its2.toArray.size)) = true := by
    rw [notLongL hsz, Bool.and_false]
    exact Bool.false_ne_true
  refine call_meets F.slot_list_extend ⟨_, e, rfl⟩ F.entry_list_extend (F.args_list_extend_2 _ _)
    (AutoSeq1.list_extend_list_list_0 l its.toArray n b its2.toArray n2 hlong (by rw [List.size_toArray]; omega) (by omega)) ⟨e, e2, ?_⟩
  refine ⟨.non, _, I.lset (its' := its ++ its2) hH e (by simp) (r.append r2) ?_, rfl, q⟩
  rw [List.length_append]
  omega

def rPop : V → List V → Hp → VK → Prop := fun x vs H Q => ∃ l xs y, x = .ref l ∧ vs = [] ∧ H l = some (.lst xs) ∧ xs[xs.length - 1]? = some y ∧ Q y (upd H l (.lst xs.dropLast))
theorem mt_pop : MtM X "list.pop" rPop := by
  intro pins s σ H x vs v us Q I rx rv h
  obtain ⟨l, xs, y, rfl, rfl, hH, hy, q⟩ := h
  cases rx
  have hus := rv.zero
  subst hus
  obtain ⟨z, its, n, r, hl, e⟩ := I.lstM hH
  obtain ⟨u, hu, ru⟩ := r.get hy
  have hy' : its.toArray[its.toArray.size - 1]? = some u := by
    show its.toArray[its.length - 1]? = some u
    rw [← Array.getElem?_toList, ← hl]
    exact hu
  refine call_meets F.slot_list_pop ⟨_, e, rfl⟩ F.entry_list_pop (F.args_list_pop_1 _) (MeetsSeq.list_pop_last l its.toArray n u hy' (by rw [List.size_toArray]; omega)) ⟨e, ?_⟩
  refine ⟨y, _, I.lset (its' := its.dropLast) hH e ?_ r.dropLast ?_, ru, q⟩
  · show its.toArray.eraseIdxIfInBounds (its.toArray.size - 1) = its.dropLast.toArray
    rw [List.size_toArray, List.eraseIdxIfInBounds_toArray, erase_last]
  · rw [List.length_dropLast]
    omega

def rPopAt : V → List V → Hp → VK → Prop := fun x vs H Q => ∃ l xs i k y, x = .ref l ∧ vs = [.int i] ∧ H l = some (.lst xs) ∧ -(2 ^ 63) ≤ i ∧ i < 2 ^ 63 ∧ seqIndex? i xs.length = some k ∧ xs[k]? = some y ∧ Q y (upd H l (.lst (xs.eraseIdx k)))
theorem mt_popAt : MtM X "list.pop" rPopAt := by
  intro pins s σ H x vs v us Q I rx rv h
  obtain ⟨l, xs, i, k, y, rfl, rfl, hH, h1, h2, hk, hy, q⟩ := h
  cases rx
  obtain ⟨u, rfl, ru⟩ := rv.one
  obtain ⟨t, rfl⟩ := ru
  obtain ⟨z, its, n, r, hl, e⟩ := I.lstM hH
  obtain ⟨w, hw, rw'⟩ := r.get hy
  refine call_meets F.slot_list_pop ⟨_, e, rfl⟩ F.entry_list_pop (F.args_list_pop_2 _ _)
    (MeetsSeq.list_pop_at l its.toArray n i t k w (fitsIndex_both h1 h2) (by rw [List.size_toArray, ← hl]; exact hk) (by rw [← Array.getElem?_toList]; exact hw) (by rw [List.size_toArray]; omega)) ⟨e, ?_⟩
  refine ⟨y, _, I.lset (its' := its.eraseIdx k) hH e ?_ (r.eraseIdx k) ?_, rw', q⟩
  · show its.toArray.eraseIdxIfInBounds k = (its.eraseIdx k).toArray
    rw [List.eraseIdxIfInBounds_toArray]
  · have := len_erase xs k
    omega

def rReverse : V → List V → Hp → VK → Prop := fun x vs H Q => ∃ l xs, x = .ref l ∧ vs = [] ∧ H l = some (.lst xs) ∧ Q .non (upd H l (.lst xs.reverse))
theorem mt_reverse : MtM X "list.reverse" rReverse := by
  intro pins s σ H x vs v us Q I rx rv h
  obtain ⟨l, xs, rfl, rfl, hH, q⟩ := h
  cases rx
  have hus := rv.zero
  subst hus
  obtain ⟨z, its, n, r, hl, e⟩ := I.lstM hH
  refine call_meets F.slot_list_reverse ⟨_, e, rfl⟩ F.entry_list_reverse (F.args_list_reverse_1 _) (AutoSeq1.list_reverse_list_0 l its.toArray n (by rw [List.size_toArray]; omega)) ⟨e, ?_⟩
  refine ⟨.non, _, I.lset (its' := its.reverse) hH e (by simp) r.reverse ?_, rfl, q⟩
  rw [List.length_reverse]
  omega

def rClear : V → List V → Hp → VK → Prop := fun x vs H Q => ∃ l xs, x = .ref l ∧ vs = [] ∧ H l = some (.lst xs) ∧ Q .non (upd H l (.lst []))
theorem mt_clear : MtM X "list.clear" rClear := by
  intro pins s σ H x vs v us Q I rx rv h
  obtain ⟨l, xs, rfl, rfl, hH, q⟩ := h
  cases rx
  have hus := rv.zero
  subst hus
  obtain ⟨z, its, n, r, hl, e⟩ := I.lstM hH
  refine call_meets F.slot_list_clear ⟨_, e, rfl⟩ F.entry_list_clear (F.args_list_clear_1 _) (AutoSeq1.list_clear_list_0 l its.toArray n (by rw [List.size_toArray]; omega)) ⟨e, ?_⟩
  exact ⟨.non, _, I.lset (its' := []) (ys := []) hH e rfl .nil (Nat.zero_le _), rfl, q⟩

/-! ### list + list, list += list, list * int -/
def rCat : R2 := fun x y H Q => ∃ l b xs zs, x = .ref l ∧ y = .ref b ∧ H l = some (.lst xs) ∧ H b = some (.lst zs) ∧ xs.length + zs.length ≤ sizeLine ∧ ∀ p, H p = none → Q (.ref p) (upd H p (.lst (xs ++ zs)))
theorem op_cat : OpR X (binaryOp .Add) rCat := by
  intro pins s σ H x y v u Q I rx ry h
  obtain ⟨l, b, xs, zs, rfl, rfl, hH, hB, hz, q⟩ := h
  cases rx
  cases ry
  obtain ⟨z, its, n, r, hl, e⟩ := I.lstM hH
  obtain ⟨z2, its2, n2, r2, hl2, e2⟩ := I.lstM hB
  refine PySem.P.add_list e e2 ?_ (by rw [List.size_toArray, List.size_toArray]; omega)
  have ea : its.toArray ++ its2.toArray = (its ++ its2).toArray := by simp
  rw [ea]
  exact ⟨.ref _, _, I.lnew (t' := s.toks) (r.append r2) (by rw [List.length_append]; omega), rfl, q _ I.fresh⟩
/-- a list times an int (a negative one is nothing) -/
def rRep : R2 := fun x y H Q => ∃ l k xs, x = .ref l ∧ y = .int k ∧ H l = some (.lst xs) ∧ -(2 ^ 63) ≤ k ∧ k < 2 ^ 63 ∧ xs.length * k.toNat ≤ sizeLine ∧
  ∀ p, H p = none → Q (.ref p) (upd H p (.lst (List.replicate k.toNat xs).flatten))
theorem len_rep {α : Type} (xs : List α) (k : Nat) : (List.replicate k xs).flatten.length = k * xs.length := by
  induction k with
  | zero => simp
  | succ k ih => rw [List.replicate_succ, List.flatten_cons, List.length_append, ih, Nat.succ_mul, Nat.add_comm]
theorem op_rep : OpR X (binaryOp .Mult) rRep := by
  intro pins s σ H x y v u Q I rx ry h
  obtain ⟨l, k, xs, rfl, rfl, hH, h1, h2, hz, q⟩ := h
  cases rx
  obtain ⟨t, rfl⟩ := ry
  obtain ⟨z, its, n, r, hl, e⟩ := I.lstM hH
  have hlen : its.toArray.size * k.toNat ≤ sizeLine := by rw [List.size_toArray, ← hl]; exact hz
  have hcap : ¬ its.toArray.size * k.toNat > (2 ^ 63 - 1) / 8 := by
    have : (sizeLine : Nat) ≤ (2 ^ 63 - 1) / 8 := by decide
    omega
  have hfit : ¬ (!Builtin.List.listFitsIndex k) = true := by
    rw [fitsIndex_both h1 h2]
    exact Bool.false_ne_true
  have hlong : ¬ Builtin.List.listTooLong (its.toArray.size * k.toNat) = true := by
    rw [notLongL hlen]
    exact Bool.false_ne_true
  have hnew : List.foldl (fun x1 x2 => x1 ++ x2) #[] (List.replicate (if its.toArray.isEmpty = true then 0 else k.toNat) its.toArray) = (List.replicate k.toNat its).flatten.toArray := by
    have f0 : ∀ m : Nat, List.foldl (fun x1 x2 => x1 ++ x2) #[] (List.replicate m its.toArray) = (List.replicate m its).flatten.toArray := fun m => by
      have := foldl_rep its m []
      rw [List.nil_append] at this
      exact this
    rw [f0]
    cases its with
    | nil => simp
    | cons a r' => rw [if_neg (by simp)]
  refine wpAny_binaryOp_repeat_ref (T := "list") (U := "int") (by decide) ⟨_, e, rfl⟩ (fun s' => typeIs_int s' k t) noFill_list_mul F.fills_int_mul F.slot_int_rmul repeat_list F.slot_int_index.lookup
    (call_meets F.slot_int_rmul (typeIs_int s k t) F.entry_int_rmul (F.args_int_rmul_2 _ _) (int___rmul___int_list k t l its.toArray n)
      ⟨e, rfl, ⟨_, e, rfl⟩, call_meets F.slot_list_mul ⟨_, e, rfl⟩ F.entry_list_mul (F.args_list_mul_2 _ _) (AutoListH.list___mul___list_int_3 l its.toArray n k t hfit hcap hlong) ⟨e, ?_⟩⟩)
  rw [hnew]
  exact ⟨.ref _, _, I.lnew (t' := s.toks) (r.rep k.toNat) (by rw [len_rep, Nat.mul_comm]; exact hz), rfl, q _ I.fresh⟩

/-! ### del xs[i] -/
theorem del_list {pins : List (Addr × Obj)} {s : Shared} {σ : St} {H : Hp} {l : Addr} {xs : List V} {i : Int} {t : Tok} {k : Nat} {Q : Unit → Shared → Prop} (I : Inv X pins σ H s) (hH : H l = some (.lst xs))
    (h1 : -(2 ^ 63) ≤ i) (h2 : i < 2 ^ 63) (hk : seqIndex? i xs.length = some k) (h : ∀ s', Inv X pins σ (upd H l (.lst (xs.eraseIdx k))) s' → Q () s') :
    wpAny (model X.prog X.w) X.A (delItem (.ref l) (.int i t)) Q X.xe s := by
  obtain ⟨z, its, n, r, hl, e⟩ := I.lstM hH
  refine PySem.P.delItem_list (k := k) e (fitsIndex_both h1 h2) (by rw [List.size_toArray, ← hl]; exact hk) (h _ ?_) (by rw [List.size_toArray]; omega)
  refine I.lset (its' := its.eraseIdx k) (t' := s.toks) hH e ?_ (r.eraseIdx k) ?_
  · show its.toArray.eraseIdxIfInBounds k = (its.eraseIdx k).toArray
    rw [List.eraseIdxIfInBounds_toArray]
  · have := len_erase xs k
    omega
end

/-! ### xs[a:b] = ys -/
section
variable {prog : Program} {w : World} {A : Around} {E : Value → Shared → Prop} {s : Shared}
theorem splice_eq (its its2 : List Value) (a c : Nat) : its.toArray.extract 0 a ++ its2.toArray ++ its.toArray.extract c its.toArray.size = (its.take a ++ its2 ++ its.drop c).toArray := by
  apply Array.toList_inj.mp
  first
    | (simp
       exact List.take_of_length_le (by simp))
    | simp [List.take_of_length_le]
    | simp
theorem bounds_run {a c n : Nat} (hac : a ≤ c) (hc : c ≤ n) : sliceBounds (some (a : Int)) (some (c : Int)) none n = ((a : Int), (c : Int), 1) := by
  simp only [sliceBounds, Option.getD_none]
  have h1 : ¬ ((a : Int) < 0) := by omega
  have h2 : ¬ ((c : Int) < 0) := by omega
  simp only [h1, h2, if_false, show (1 : Int) > 0 by decide, if_true]
  congr 1
  · omega
  · congr 1; omega
set_option maxRecDepth 100000 in
/-- list.__setitem__ with a slice of step one and another list -/
theorem setItem_slice {l b sl : Addr} {items new : Array Value} {n n2 : Nat} {vl vu : Value} {a c : Nat} {Q : Unit → Shared → Prop}
    (e : s.heap.get? l = some { cls := .type "list", data := .seq items n }) (e2 : s.heap.get? b = some { cls := .type "list", data := .seq new n2 }) (hne : l ≠ b)
    (hs : s.heap.IsSliceOf sl vl vu .none) (pl : IsPart vl (some (a : Int))) (pu : IsPart vu (some (c : Int))) (hac : a ≤ c) (hc : c ≤ items.size)
    (hsz : items.size + new.size ≤ sizeLine) (h : Q () { s with heap := s.heap.update l (Obj.mapSeq fun xs => xs.extract 0 a ++ new ++ xs.extract c xs.size) }) :
    wpAny (model prog w) A (setItem (.ref l) (.ref sl) (.ref b)) Q E s := by
  have hl : s.heap.IsList l items := PySem.IsL.isList e
  have hb : s.heap.IsList b new := PySem.IsL.isList e2
  obtain ⟨os, hos, hcs, hds⟩ := id hs
  have hTs : s.TypeIs (.ref sl) "slice" := ⟨os, hos, hcs⟩
  have hstep : ¬ ((rawPart none == rawInt 0) = true) := Bool.false_ne_true
  have hsame : Builtin.List.listSameRef (.ref l) (.ref b) = false := by
    unfold Builtin.List.listSameRef
    exact beq_eq_false_iff_ne.mpr hne
  have hmax : (max (a : Int) (c : Int)).toNat = c := by omega
  have hz' : ((fun xs : Array Value => xs.extract 0 a ++ new ++ xs.extract c xs.size) items).size ≤ sizeLine + 1 := by
    simp only [Array.size_append, Array.size_extract]
    omega
  unfold setItem
  try with_reducible refine wpAny_holding ?_
  first | refine wpAny_bind (wpAny_pure ?_) | skip
  refine wpAny_bind (wpAny_sequenceKey hl.typeIs (by decide) ?_)
  refine wpAny_bind (wpAny_callSpecial?_slot (name := Str.ofString "__setitem__") hl.typeIs slot_list_setitem
    (wpAny_call_entry slot_list_setitem hl.typeIs entry_list_setitem ?_ (args_list_setitem _ _ _)))
  show wpAny _ _ (Builtin.List.listSubscript? (.ref sl) >>= _) _ _ s
  refine wpAny_bind ?_
  unfold Builtin.List.listSubscript?
  refine wpAny_bind (wpAny_specialOf hTs slice_no_index ?_)
  simp only [Option.isNone_none, if_true]
  refine wpAny_pure ?_
  show wpAny _ _ (typeOf (.ref sl) >>= _) _ _ s
  refine wpAny_bind (wpAny_typeOf hTs ?_)
  first
    | rw [if_neg (by decide)]
    | refine PySem.W.KFB.if_not (by decide) ?_
  rw [listSliceParts_eq]
  refine wpAny_bind (wpAny_bind (wpAny_field hos hds (x := .none) rfl (wpAny_bind (wpAny_listPart .none ?_))))
  rw [if_neg hstep]
  refine wpAny_bind (wpAny_field hos hds (x := vl) rfl (wpAny_bind (wpAny_listPart pl ?_)))
  refine wpAny_bind (wpAny_field hos hds (x := vu) rfl (wpAny_bind (wpAny_listPart pu (wpAny_pure ?_))))
  first
    | simp only [hsame, Bool.false_eq_true, if_false]
    | refine PySem.W.KFB.if_not hsame ?_
    | (dsimp only
       rw [if_neg (by rw [hsame]; exact Bool.false_ne_true)])
  refine wpAny_bind (m := Builtin.List.listAllItems (.ref b) "must assign iterable to extended slice") ?_
  unfold Builtin.List.listAllItems
  refine wpAny_bind (wpAny_typeOf hb.typeIs ?_)
  first
    | refine PySem.W.KFB.if_so (by decide) ?_
    | rw [if_pos (by decide)]
    | simp only [beq_self_eq_true, Bool.true_or, if_true]
  unfold Builtin.List.listItems
  refine wpAny_bind (wpAny_seqItems e2 rfl (wpAny_pure ?_))
  refine wpAny_bind (wpAny_bind (wpAny_seqItems e rfl (wpAny_pure ?_)))
  refine wpAny_bind (wpAny_of_eq ((sliceIndices_raw (some (a : Int)) (some (c : Int)) none items.size (by simp)).trans (congrArg (pure : Int × Int × Int → Sem (Int × Int × Int)) (bounds_run hac hc))) ?_)
  show wpAny _ _ (if ((1 : Int) == 1) = true then _ else _) _ _ s
  rw [if_pos (by decide)]
  refine wpAny_bind (wpAny_rule ?_)
  first
    | simp only [notLongL hsz, Bool.false_eq_true, if_false]
    | refine PySem.W.KFB.if_not (notLongL hsz) ?_
  first | refine wpAny_bind (wpAny_pure ?_) | skip
  show wpAny _ _ (updateSeq l (fun xs => xs.extract 0 ((a : Int)).toNat ++ new ++ xs.extract (max (a : Int) (c : Int)).toNat xs.size) >>= _) _ _ s
  rw [hmax, Int.toNat_natCast]
  refine wpAny_bind (wpAny_updateSeq (hz := Nat.le_trans (Nat.le_add_right _ _) hsz) (_hz' := hz') e rfl ?_)
  refine wpAny_bind (wpAny_letGo ?_)
  first
    | exact wpAny_bind (wpAny_pure (wpAny_pure ⟨.none, rfl, wpAny_pure h⟩))
    | exact wpAny_pure ⟨.none, rfl, wpAny_pure h⟩
end

section
variable {X : Cx}
/-- xs[a:c] = ys of another list, at the value level: sl is the slice object that was just made -/
theorem set_slice {pins : List (Addr × Obj)} {s : Shared} {σ : St} {H : Hp} {l b sl : Addr} {xs ys : List V} {a c : Int} {vl vu : Value} {Q : Unit → Shared → Prop} (I : Inv X pins σ H s)
    (hH : H l = some (.lst xs)) (hB : H b = some (.lst ys)) (hne : l ≠ b) (hs : s.heap.IsSliceOf sl vl vu .none) (ra : RelV (.int a) vl) (rc : RelV (.int c) vu) (h0 : 0 ≤ a) (hac : a ≤ c) (hc : c ≤ xs.length)
    (hz : xs.length + ys.length ≤ sizeLine) (h : ∀ s', Inv X pins σ (upd H l (.lst (xs.take a.toNat ++ ys ++ xs.drop c.toNat))) s' → Q () s') :
    wpAny (model X.prog X.w) X.A (setItem (.ref l) (.ref sl) (.ref b)) Q X.xe s := by
  obtain ⟨ta, rfl⟩ := ra
  obtain ⟨tc, rfl⟩ := rc
  obtain ⟨z, its, n, r, hl, e⟩ := I.lstM hH
  obtain ⟨z2, its2, n2, r2, hl2, e2⟩ := I.lstM hB
  obtain ⟨a', rfl⟩ := Int.eq_ofNat_of_zero_le h0
  obtain ⟨c', rfl⟩ := Int.eq_ofNat_of_zero_le (Int.le_trans h0 hac)
  simp only [Int.toNat_natCast] at h
  refine setItem_slice (a := a') (c := c') e e2 hne hs (.int _ _) (.int _ _) (by omega) (by rw [List.size_toArray]; omega) (by rw [List.size_toArray, List.size_toArray]; omega) (h _ ?_)
  refine I.lset (its' := its.take a' ++ its2 ++ its.drop c') (t' := s.toks) hH e ?_ (Vals.append (Vals.append (r.take _) r2) (r.drop _)) ?_
  · exact splice_eq its its2 a' c'
  · rw [List.length_append, List.length_append, List.length_take, List.length_drop]
    omega
end
end L2

namespace Att
open PySem PySem.W PySem.Calls PyProof.Rows

/-! ### the script -/
theorem ints_of_wellAll {P : Params} {h : Heap} : ∀ (ns : List Int) (vs : List Value), WellAll P h vs (ns.map WData.int) → IntsAre vs ns := by
  intro ns
  induction ns with
  | nil =>
    intro vs w
    rw [List.map_nil] at w
    cases w
    exact .nil
  | cons n ns ih =>
    intro vs w
    rw [List.map_cons] at w
    cases w with
    | cons a b =>
      cases a
      exact .cons _ _ (ih _ b)

theorem script_of {l : OpenLaw} {n : Nat} (hn : l.most = some n) {P : Params} {h : Heap} {args : List WData} {vals : List Value}
    (hpre : l.row.toRowW.claim.pre args = true) (hwl : WellAll P h vals args) :
    ∃ a vs ns, vals = [Value.ref a] ∧ args = [WData.list (ns.map WData.int)] ∧ h.get? a = some { cls := .type "list", data := .seq vs.toArray } ∧ IntsAre vs ns ∧ ns.length ≤ n := by
  have hsh : WShape.hasAll [] args [.list .int] = true := (pre_splitW hpre).1
  have hc : l.pre.holds [] { args := args } = true := (pre_splitW hpre).2
  obtain ⟨d, r, rfl, h1, h2⟩ := hasAllW_cons hsh
  obtain rfl := hasAllW_nil h2
  obtain ⟨xs, rfl, h3⟩ := hasW_list h1
  obtain ⟨ns, rfl⟩ := items_int h3
  have hlen : ns.length ≤ n := by
    unfold OpenLaw.pre at hc
    have h4 : (WTm.not (.lt (.lit (.int (n : Int))) (.len (.arg 0)))).holds [] { args := [.list (ns.map .int)] } = true := by
      have h4 := (holds_andW hc).1
      rw [hn] at h4
      exact h4
    have h5 := condW_of h4 (w_not (w_lt w_lit (w_len_list (w_arg rfl))))
    rw [List.length_map] at h5
    refine Nat.le_of_not_lt fun q => ?_
    have q' : (n : Int) < ((ns.length : Nat) : Int) := by omega
    first
      | (rw [decide_eq_true q'] at h5; exact absurd h5 (by decide))
      | (simp at h5; omega)
  cases hwl with
  | cons w1 w2 =>
    cases w2
    cases w1 with
    | list ho hall => exact ⟨_, _, ns, rfl, rfl, ho, ints_of_wellAll ns _ hall, hlen⟩

theorem post_true (l : OpenLaw) (args : List WData) : l.row.toRowW.claim.post args (.bool true) args = true :=
  postW_of (r := l.row.toRowW) (X := (true == true))
    (show WShape.has [] (.bool true) .bool = true by first | rfl | decide | simp [WShape.has, WShape.arms, WShape.armsAll])
    (show (WTm.eq .res (.lit (.bool true))).value [] { args := args, res := some (.bool true), after := args } = some (.bool (true == true)) from w_eq_bool (w_res rfl) w_lit) rfl

/-! ### the attachment: holds_open's last premise (the goal 'hc' behind k_head) from a wpAny of the law's body -/
theorem attach {l : OpenLaw} {n : Nat} {q : Program} {loose : List Str} {XP : (Str → Option Value) → Heap → Prop} {YP : World → Heap → Prop} {d : DefRec} {x : Str}
    (hn : l.most = some n) (hdf : d.params.defaults = [])
    (hbind : ∀ pm cd doc v : Value, bindArgs (docDef d.name d.params d.body d.scope pm cd doc) ⟨[v], []⟩ = pure [(x, v)])
    (hx : d.scope.names.lookup x = some .local ∨ d.scope.names.lookup x = some .cell)
    (hk : d.scope.kind = .function) (hco : d.scope.isCoroutine = false) (hgen : d.scope.isGenerator = false)
    (body : ∀ (w : World) (s₀ s₁ s : Shared) (mg mb : Str → Option Value) (fa : Addr) (o : Obj) (pm cd doc : Value) (a : Addr) (vs : List Value) (ns : List Int),
      Ground q loose [] XP w s₀ mg mb s₁.heap → YP w s₁.heap →
      s₁.heap.get? fa = some o → o.data = .func (docDef d.name d.params d.body d.scope pm cd doc) → s₁.heap.CodeRec cd d.name → mg d.name = some (.ref fa) →
      s₁.heap.get? a = some { cls := .type "list", data := .seq vs.toArray } → IntsAre vs ns → ns.length ≤ n →
      s.gens = #[] → s.os = s₁.os →
      Fr s₁.heap s₁.heap.objs.size s.heap (bindL (envOfC d.name d.scope s₁.heap.objs.size fa cd).kindOf [(x, .ref a)] fun _ => none) →
      Cl s₁.heap.objs.size (cellsFrom (s₁.heap.objs.size + 1) d.scope.names []) s.heap (bindC (envOfC d.name d.scope s₁.heap.objs.size fa cd).kindOf [(x, .ref a)] fun _ => none) →
      wpAny (model l.prog w) (callerA.deeper (envOfC d.name d.scope s₁.heap.objs.size fa cd)) (execs d.body (envOfC d.name d.scope s₁.heap.objs.size fa cd))
        (fun f s' => f = .ret (.bool true) ∧ OldK s₁.heap s'.heap ∧ s'.os = s₁.os ∧ AllBare s'.gens) (fun _ _ => False) s) :
    WalkO q loose XP YP l.row.toRowW d [] (fun f vs => PySem.call f vs) := by
  intro w s₀ s₁ mg mb G Y fa o pm cd doc dV kV ho hd hcd hD hmg hg args vals as hpre hlay hrd hwl hlo
  obtain rfl : dV = .none := Dflts.none hD hdf
  obtain rfl : kV = .none := Dflts.noKw hD
  obtain ⟨a, vs, ns, rfl, rfl, hobj, hints, hlen⟩ := script_of hn hpre hwl
  refine enter_call ?_
  refine call_cells_ret (o := o) (by rw [depth_caller]; decide) ho (fd_plain hd) G.T.nolimit hcd (hbind pm cd doc (.ref a)) (fun y hy => ?_) (fun h₁ tk F X => ?_) hco hgen hk
  · obtain rfl : y = (x, Value.ref a) := List.mem_singleton.mp hy
    rcases hx with e | e
    · exact .inl e
    · exact .inr ⟨e, cellsFrom_some _ _ _ (.inl e)⟩
  · refine wpAny_mono (body w s₀ s₁ { s₁ with heap := h₁, toks := tk } mg mb fa o pm cd doc a vs ns G Y ho (fd_plain hd) hcd hmg hobj hints hlen hg rfl F X) (fun f s' hq => ?_) (fun _ _ hq => hq)
    obtain ⟨rfl, h2, h3, h4⟩ := hq
    exact ⟨.inl ⟨.bool true, .bool true, [], rfl, fun _ => rfl, .bool true, post_true l _, fun _ => ⟨List.Pairwise.nil, fun _ hm => (nomatch hm)⟩⟩, h2, h3, h4⟩

/-- the same from a codeAny of the CALL (for a layer whose function contracts speak of calls) -/
theorem attach_call {l : OpenLaw} {n : Nat} {q : Program} {loose : List Str} {XP : (Str → Option Value) → Heap → Prop} {YP : World → Heap → Prop} {d : DefRec}
    (hn : l.most = some n) (hdf : d.params.defaults = [])
    (call : ∀ (w : World) (s₀ s₁ : Shared) (mg mb : Str → Option Value) (fa : Addr) (o : Obj) (pm cd doc : Value) (a : Addr) (vs : List Value) (ns : List Int),
      Ground q loose [] XP w s₀ mg mb s₁.heap → YP w s₁.heap →
      s₁.heap.get? fa = some o → o.data = .func (docDef d.name d.params d.body d.scope pm cd doc) → s₁.heap.CodeRec cd d.name → mg d.name = some (.ref fa) →
      s₁.heap.get? a = some { cls := .type "list", data := .seq vs.toArray } → IntsAre vs ns → ns.length ≤ n → s₁.gens = #[] →
      codeAny (model l.prog w) callerA (.call (.ref fa) ⟨[.ref a], []⟩) (fun r s' => r = .ok (.ret (.bool true)) ∧ OldK s₁.heap s'.heap ∧ s'.os = s₁.os ∧ AllBare s'.gens) s₁) :
    WalkO q loose XP YP l.row.toRowW d [] (fun f vs => PySem.call f vs) := by
  intro w s₀ s₁ mg mb G Y fa o pm cd doc dV kV ho hd hcd hD hmg hg args vals as hpre hlay hrd hwl hlo
  obtain rfl : dV = .none := Dflts.none hD hdf
  obtain rfl : kV = .none := Dflts.noKw hD
  obtain ⟨a, vs, ns, rfl, rfl, hobj, hints, hlen⟩ := script_of hn hpre hwl
  refine enter_call (codeAny_mono (call w s₀ s₁ mg mb fa o pm cd doc a vs ns G Y ho (fd_plain hd) hcd hmg hobj hints hlen hg) fun r s' hq => ?_)
  obtain ⟨rfl, h2, h3, h4⟩ := hq
  exact ⟨.inl ⟨.bool true, .bool true, [], rfl, fun _ => rfl, .bool true, post_true l _, fun _ => ⟨List.Pairwise.nil, fun _ hm => (nomatch hm)⟩⟩, h2, h3, h4⟩

/-- the same where the top left finished generators (o_head chose holds_openN): nothing may have changed at all and no generator may be left -/
theorem attachN {l : OpenLaw} {n : Nat} {q : Program} {loose : List Str} {XP : (Str → Option Value) → Heap → Prop} {YP : World → Heap → Prop} {d : DefRec} {x : Str}
    (hn : l.most = some n) (hdf : d.params.defaults = [])
    (hbind : ∀ pm cd doc v : Value, bindArgs (docDef d.name d.params d.body d.scope pm cd doc) ⟨[v], []⟩ = pure [(x, v)])
    (hx : d.scope.names.lookup x = some .local ∨ d.scope.names.lookup x = some .cell)
    (hk : d.scope.kind = .function) (hco : d.scope.isCoroutine = false) (hgen : d.scope.isGenerator = false)
    (body : ∀ (w : World) (s₀ s₁ s : Shared) (mg mb : Str → Option Value) (fa : Addr) (o : Obj) (pm cd doc : Value) (a : Addr) (vs : List Value) (ns : List Int),
      Ground q loose [] XP w s₀ mg mb s₁.heap → YP w s₁.heap →
      s₁.heap.get? fa = some o → o.data = .func (docDef d.name d.params d.body d.scope pm cd doc) → s₁.heap.CodeRec cd d.name → mg d.name = some (.ref fa) →
      s₁.heap.get? a = some { cls := .type "list", data := .seq vs.toArray } → IntsAre vs ns → ns.length ≤ n →
      s.gens = #[] → s.os = s₁.os →
      Fr s₁.heap s₁.heap.objs.size s.heap (bindL (envOfC d.name d.scope s₁.heap.objs.size fa cd).kindOf [(x, .ref a)] fun _ => none) →
      Cl s₁.heap.objs.size (cellsFrom (s₁.heap.objs.size + 1) d.scope.names []) s.heap (bindC (envOfC d.name d.scope s₁.heap.objs.size fa cd).kindOf [(x, .ref a)] fun _ => none) →
      wpAny (model l.prog w) (callerA.deeper (envOfC d.name d.scope s₁.heap.objs.size fa cd)) (execs d.body (envOfC d.name d.scope s₁.heap.objs.size fa cd))
        (fun f s' => f = .ret (.bool true) ∧ (∀ b o, s₁.heap.get? b = some o → s'.heap.get? b = some o) ∧ s'.os = s₁.os ∧ s'.gens = #[]) (fun _ _ => False) s) :
    WalkN q loose XP YP l.row.toRowW d [] (fun f vs => PySem.call f vs) := by
  intro w s₀ s₁ mg mb G Y fa o pm cd doc dV kV ho hd hcd hD hmg hg args vals as hpre hlay hrd hwl hlo
  obtain rfl : dV = .none := Dflts.none hD hdf
  obtain rfl : kV = .none := Dflts.noKw hD
  obtain ⟨a, vs, ns, rfl, rfl, hobj, hints, hlen⟩ := script_of hn hpre hwl
  refine enter_callW ?_
  refine call_cells_ret (o := o) (by rw [depth_caller]; decide) ho (fd_plain hd) G.T.nolimit hcd (hbind pm cd doc (.ref a)) (fun y hy => ?_) (fun h₁ tk F X => ?_) hco hgen hk
  · obtain rfl : y = (x, Value.ref a) := List.mem_singleton.mp hy
    rcases hx with e | e
    · exact .inl e
    · exact .inr ⟨e, cellsFrom_some _ _ _ (.inl e)⟩
  · refine wpAny_mono (body w s₀ s₁ { s₁ with heap := h₁, toks := tk } mg mb fa o pm cd doc a vs ns G Y ho (fd_plain hd) hcd hmg hobj hints hlen hg rfl F X) (fun f s' hq => ?_) (fun _ _ hq => hq)
    obtain ⟨rfl, h2, h3, h4⟩ := hq
    exact ⟨.inl ⟨.bool true, .bool true, [], rfl, fun _ => rfl, .bool true, post_true l _, fun _ => ⟨List.Pairwise.nil, fun _ hm => (nomatch hm)⟩⟩, h2, h3, h4⟩

/-! ### rules over ANY heap (no ledger) from facts about the written part K: the library's own take a ledger (News) for what they write -/
section
variable {prog : Program} {w : World} {A : Around} {E : Value → Shared → Prop} {s : Shared} {K : Frag}

/-- a def of the module, or a method (qual 'C.m'), entered: the frame is the next address; cells behind it -/
theorem call_fn {R : Result → Shared → Prop} {name qual : Str} {params : Arguments} {body : List Stmt} {scope : Scope} {dV kV doc pm cdv ct oc : Value} {an od : Option Addr} {osl : Array (Option Value)} {f : Addr} {args : Args} {binds : List (Str × Value)}
    (X : K.In s.heap) (hlim : s.heap.NoLimit) (ho : K.lookup f = some ⟨oc, od, .func (fnOf name qual params body scope dV kV doc pm an cdv ct), osl⟩) (hcd : codeIn K cdv qual = true) (hroom : A.depth < recursionLimit)
    (hbind : BindsTo s (fnOf name qual params body scope dV kV doc pm an cdv ct) args binds)
    (hkind : (binds.all fun y => scope.names.lookup y.1 == some .local || scope.names.lookup y.1 == some .cell) = true)
    (h : ∀ s₁, InCallC s s.heap.objs.size (bindL (envOfC qual scope s.heap.objs.size f cdv).kindOf binds fun _ => none) (cellsFrom (s.heap.objs.size + 1) scope.names [])
        (bindC (envOfC qual scope s.heap.objs.size f cdv).kindOf binds fun _ => none) s₁ →
      wpAny (model prog w) (A.deeper (envOfC qual scope s.heap.objs.size f cdv)) (execs body (envOfC qual scope s.heap.objs.size f cdv))
        (fun fl s' => R (.ok (.ret (match fl with | .ret v => v | _ => .none))) s')
        (fun e s' => wpAny (model prog w) (A.deeper (envOfC qual scope s.heap.objs.size f cdv)) (leaving (envOfC qual scope s.heap.objs.size f cdv) e) (fun _ s'' => R (.error e) s'') (fun e' s'' => R (.error e') s'') s') s₁)
    (hco : scope.isCoroutine = false) (hgen : scope.isGenerator = false) (hk : scope.kind = .function) : codeAny (model prog w) A (.call (.ref f) args) R s := by
  refine codeAny_call_function hroom (X _ _ ho) rfl hco hgen rfl (codeRec_of X hcd) (hbind _ _ _ _ ?_)
  refine wpAny_newFunctionEnv_cells hk (kindsX hkind _) fun env he s₁ x => ?_
  subst he
  exact ⟨hlim.keeps x.toInCall.keep, codeAny_func (h s₁ x)⟩

/-- C(..): dict at size, instance at size + 1, then __init__ -/
theorem make_obj {R : Result → Shared → Prop} {C fI : Addr} {rest : List Value} {kw : List (Str × Value)}
    (X : K.In s.heap) (hm : makesIn K C = true) (hi : findIn K (.ref C) "__init__" = some (some (.ref fI))) (hf : isFn K (.ref fI) = true)
    (h : codeAny (model prog w) (A.under (.builtin "type.__call__" ⟨.ref C :: rest, kw⟩)) (.call (.ref fI) ⟨.ref (s.heap.objs.size + 1) :: rest, kw⟩) (InitBack (s.heap.objs.size + 1) R)
      { s with heap := (s.heap.push emptyDict).push (instObj C s.heap.objs.size) }) : codeAny (model prog w) A (.call (.ref C) ⟨rest, kw⟩) R s := by
  obtain ⟨hh, g, d, t, os⟩ := s
  exact make_core (makes_of X hm) (looks_findIn X hi) (fun self => bind_fn X self (beq_iff_eq.mp hf)) (.inl rfl) h

/-- x.name where the instance's dict holds the name and the class does not -/
theorem get_field {x C : Addr} {ox : Obj} {es : List DictEntry} {n : Nat} {name : Str} {expr : Bool} {v : Value} {Q : Value → Shared → Prop}
    (X : K.In s.heap) (I : PySem.W.InstAt s.heap x ox C (some (dictOf es n))) (hg : plainGet K C name = true) (hh : hasDictIn K C = true) (ha : findIn K (.ref C) name = some none)
    (hl : getL name es = some (some v)) (hv : handedIn v = true) (h : Q v { s with toks := s.toks + 1 }) : wpAny (model prog w) A (getAttr (.ref x) name expr) Q E s :=
  get_value X I (plainGet_of hg).1 (findObj_own hh ha rfl hl) hv h

/-- x.m(..): the method found in the class -/
theorem get_method {x C f : Addr} {ox : Obj} {es : List DictEntry} {n : Nat} {name : Str} {pl : Sem Bool} {Q : Value × List Value → Shared → Prop}
    (X : K.In s.heap) (I : PySem.W.InstAt s.heap x ox C (some (dictOf es n))) (hg : plainGet K C name = true) (hf : findIn K (.ref C) name = some (some (.ref f))) (ht : isFn K (.ref f) = true)
    (hl : getL name es = some none) (h : Q (.ref f, [.ref x]) s) : wpAny (model prog w) A (getMethod (.ref x) name pl) Q E s :=
  method_fn X I (plainGet_of hg).1 (plainGet_of hg).2 hf (beq_iff_eq.mp ht) (by show (lookIn name (dictOf es n)).map _ = _; rw [lookIn_dict, hl]; rfl) h

/-! the whole heap as the ledger: makes every rule that writes through a ledger a rule over any heap -/
def noObjs (h : Heap) : Heap := { h with objs := #[] }
theorem noObjs_get (h : Heap) (b : Addr) : (noObjs h).get? b = none := by
  cases e : (noObjs h).get? b with
  | none => rfl
  | some o => exact absurd (Heap.lt_size e) (Nat.not_lt_zero _)
def ledger (h : Heap) (L d : Addr) : List (Addr × Obj) := (List.range h.objs.size).filterMap fun a => if a = L ∨ a = d then none else (h.get? a).map fun o => (a, o)
theorem mem_ledger {h : Heap} {L d a : Addr} {o : Obj} : (a, o) ∈ ledger h L d ↔ a ≠ L ∧ a ≠ d ∧ h.get? a = some o := by
  unfold ledger
  rw [List.mem_filterMap]
  constructor
  · rintro ⟨b, _, e⟩
    split at e
    · cases e
    · rename_i hb
      obtain ⟨o', ho, e'⟩ := Option.map_eq_some_iff.mp e
      cases e'
      exact ⟨fun q => hb (.inl q), fun q => hb (.inr q), ho⟩
  · rintro ⟨n1, n2, ho⟩
    refine ⟨a, List.mem_range.mpr (Heap.lt_size ho), ?_⟩
    rw [if_neg (show ¬ (a = L ∨ a = d) from fun q => q.elim n1 n2), ho] <;> rfl
theorem news_ledger {h : Heap} {L d : Addr} {od : Obj} (hne : d ≠ L) (ho : h.get? d = some od) : News (noObjs h) L h ([] ++ (d, od) :: ledger h L d) := by
  rintro ⟨a, o⟩ hp
  rcases List.mem_cons.mp hp with e | hp
  · cases e
    exact ⟨ho, hne, noObjs_get _ _⟩
  · obtain ⟨n1, n2, e⟩ := mem_ledger.mp hp
    exact ⟨e, n1, noObjs_get _ _⟩
theorem fr_all {h : Heap} {L : Addr} {m : Str → Option Value} (n : h.Ns L m) : Fr (noObjs h) L h m :=
  ⟨n, fun b o e => (by rw [noObjs_get] at e; cases e), Nat.zero_le _⟩
/-- Upd of the head entry (for append_K, setItem_K ..) -/
theorem upd_ledger {h : Heap} {L d : Addr} {o o' : Obj} : Upd d o o' ((d, o) :: ledger h L d) ((d, o') :: ledger h L d) :=
  .head fun ⟨_, _⟩ hp => (mem_ledger.mp hp).2.1

/-- x.name = v over any heap: L is any namespace of the heap (the frame's, say): its map stays, its object is not told; all else but the dict stays -/
theorem set_field {x C dx L : Addr} {ox : Obj} {m : Str → Option Value} {es es' : List DictEntry} {n n' : Nat} {name : Str} {v : Value} {Q : Unit → Shared → Prop}
    (X : K.In s.heap) (I : PySem.W.InstAt s.heap x ox C (some (dictOf es n))) (hd : ox.dict = some dx) (hL : s.heap.Ns L m) (hne : dx ≠ L)
    (hs : findIn K (.ref C) "__setattr__" = some (some (.builtin "object.__setattr__"))) (hp : plainOver K C = true) (ht : takerIn K C name = some none) (hh : hasDictIn K C = true) (hl : (getL name es).isSome = true)
    (e : (putL name (PyData.keyHash w.params name) (.str name (s.toks + 1)) v es, putN name es n) = (es', n')) (hz : es'.length ≤ 1000)
    (h : ∀ h' : Heap, h'.Ns L m → h'.get? dx = some (dictOf es' n') → (∀ b o, b ≠ dx → b ≠ L → s.heap.get? b = some o → h'.get? b = some o) → Q () { s with heap := h', toks := s.toks + 2 }) :
    wpAny (model prog w) A (setAttr (.ref x) name v) Q E s := by
  obtain ⟨e1, e2⟩ := Prod.mk.inj e
  have hdx : s.heap.get? dx = some (dictOf es n) := by
    have := I.dict
    rw [hd] at this
    exact this
  refine set_plain X I hs (osa_dict (s := { s with toks := s.toks + 1 }) (h₀ := noObjs s.heap) (L := L) (m := m) (od := dictOf es n) (od' := dictOf es' n') (es := es') (n := n') (pre := []) (post := ledger s.heap L dx)
    (fr_all hL) (news_ledger hne hdx) X I hd hp ht hh hl (fun _ q => nomatch q) (fun ⟨_, _⟩ q => (mem_ledger.mp q).2.1) (by rw [putName_dict, e1, e2]) rfl hz fun h' F' N' => ?_)
  exact h h' F'.ns (N'.get (List.Mem.head _)) fun b o n1 n2 ho => N'.get (List.Mem.tail _ (mem_ledger.mpr ⟨n2, n1, ho⟩))
end
end Att

namespace L2
open PySem PySem.Spec PyProof.Rows

theorem vals_ints : ∀ {vs : List Value} {ns : List Int}, IntsAre vs ns → Vals (ns.map V.int) vs
  | _, _, .nil => .nil
  | _, _, .cons n t h => .cons ⟨t, rfl⟩ (vals_ints h)

/-- nothing is tracked but the script, known to the object (or it is an object of the module) -/
def Only (H : Hp) : Prop := ∀ b, H b = none ∨ ∃ o xs, H b = some (.frz o (.lst xs))

/-- THE HEAD: the law's promise, at the heap behind the top. F, the promise of the law's def, may use that base is part of the heap (so K.In base, base.Ns mainGlobals mg stand in Mod) -/
theorem law_call {P : Program} {w : World} {K : PySem.W.Frag} {mg mb : Str → Option Value} {CX : CXT} {k : Nat} {fa a : Addr} {fd : FuncData} {x : Str} {sp : Sp} {s₁ : Shared} {vs : List Value} {ns : List Int}
    (KX : K.In s₁.heap) (hns : s₁.heap.Ns mainGlobals mg) (hb : s₁.heap.Ns builtinsNs mb) (hbb : ∀ x : Str, x ≠ "__name__" → mb x = bootBuiltins x) (hlim : s₁.heap.NoLimit) (hg : s₁.gens = #[])
    (ha : s₁.heap.get? a = some { cls := .type "list", data := .seq vs.toArray }) (hi : IntsAre vs ns) (hl : ns.length ≤ sizeLine) (hr : Room k callerA)
    (F : ∀ base : Heap, K.In base → base.Ns mainGlobals mg → FnOk P w K mg base CX k fa fd [x] sp) (hbind : ∀ (s : Shared) (u : Value), BindsTo s fd ⟨[u], []⟩ [(x, u)])
    (hsp : ∀ H : Hp, Only H → SqL K H a (ns.map V.int) → sp [.ref a] H (fun v _ => v = .bl true) fun _ _ _ => False)
    (hCX : ∀ H e s', CX [] H s₁ (fun _ _ _ => False) e s' → False) :
    codeAny (model P w) callerA (.call (.ref fa) ⟨[.ref a], []⟩) (fun r s' => r = .ok (.ret (.bool true)) ∧ OldK s₁.heap s'.heap ∧ s'.os = s₁.os ∧ AllBare s'.gens) s₁ := by
  have rv := vals_ints hi
  have lenV := hi.length
  -- from an abstract heap in which nothing but the script may be tracked
  have core : ∀ H : Hp, Only H → SqL K H a (ns.map V.int) → HOk P w H s₁.heap → (∀ b, H b ≠ none → b = a) → (H a ≠ none → K.lookup a = none) →
      codeAny (model P w) callerA (.call (.ref fa) ⟨[.ref a], []⟩) (fun r s' => r = .ok (.ret (.bool true)) ∧ OldK s₁.heap s'.heap ∧ s'.os = s₁.os ∧ AllBare s'.gens) s₁ := by
    intro H hO hS hok hA hK
    have base_of : ∀ {b : Addr} {o : Obj}, s₁.heap.get? b = some o → H b = none → (hidT s₁.heap H).get? b = some o := fun e n => hidT_get e n
    have noA : ∀ {b : Addr} {o : Obj} {es : Array DictEntry} {ep : Nat}, s₁.heap.get? b = some o → o.data = .dict es ep → H b = none := fun {b o es ep} e d => by
      cases q : H b with
      | none => rfl
      | some u =>
        have e' : b = a := hA b (by rw [q]; simp)
        subst e'
        rw [ha] at e; cases e
        have d' : Data.seq vs.toArray _ = Data.dict es ep := d
        cases d'
    have nsK : ∀ {b : Addr} {m : Str → Option Value}, s₁.heap.Ns b m → (hidT s₁.heap H).Ns b m := fun {b m} ⟨o, es, ep, e, d, r⟩ => ⟨o, es, ep, base_of e (noA e d), d, r⟩
    have hKb : K.In (hidT s₁.heap H) := fun b o e => base_of (KX b o e) (by
      cases q : H b with
      | none => rfl
      | some u =>
        have e' : b = a := hA b (by rw [q]; simp)
        subst e'
        rw [hK (by rw [q]; simp)] at e; cases e)
    have hM : Mod K mg (hidT s₁.heap H) := ⟨hKb, nsK hns, ⟨mb, nsK hb, hbb⟩, let ⟨mc, h1, h2⟩ := hlim; ⟨mc, nsK h1, h2⟩⟩
    have e0 : Env0 P w K mg (hidT s₁.heap H) callerA [] s₁ H := ⟨rfl, hM, fun b o e => of_hidT e, Nat.le_of_eq (hidT_size _ _), trivial, fun b hb => absurd (show b ∈ ([] : List Addr) from hb) (by simp), hok, .of_eq hg⟩
    refine codeAny_mono ((F _ hKb (nsK hns)).run callerA [] s₁ H ⟨[.ref a], []⟩ [.ref a] [.ref a] _ _ hr e0 (hbind s₁ (.ref a)) (.cons rfl .nil) (hsp H hO hS)) fun r s' h => ?_
    cases r with
    | error e => exact (hCX H e s' h).elim
    | ok fl =>
      cases fl with
      | next => exact False.elim h
      | brk => exact False.elim h
      | cont => exact False.elim h
      | ret u =>
        obtain ⟨v, H', os, bare, un, hok', r', q⟩ := h
        have q' : v = .bl true := q
        subst q'
        obtain rfl : u = Value.bool true := r'
        refine ⟨rfl, OldK.of_keep fun b o e => ?_, os, bare⟩
        cases q : H b with
        | none => exact un.keep b o e q (by intro z; exact absurd (show b ∈ ([] : List Addr) from z) (by simp)) (by simp)
        | some u =>
          rcases hO b with z | ⟨ob, xs, z⟩
          · rw [q] at z; cases z
          · have z2 := un.frzs b ob _ z
            obtain ⟨e1, _⟩ := hok b _ z
            obtain ⟨e2, _⟩ := hok' b _ z2
            rw [e] at e1; cases e1
            exact e2
  cases hk : K.lookup a with
  | some o =>
    -- the script is one of the module's own objects
    have e := KX a o hk
    rw [ha] at e
    cases e
    refine core (fun _ => none) (fun _ => .inl rfl) (.inr ⟨_, vs.toArray, _, hk, rfl, rfl, rfl, by rw [List.size_toArray, lenV]; exact hl, by simpa using rv⟩) (fun b u z => by have z' : (none : Option HO) = some u := z; cases z') (fun b z => absurd rfl z) fun z => absurd rfl z
  | none =>
    refine core (fun b => if b = a then some (.frz { cls := .type "list", data := .seq vs.toArray } (.lst (ns.map V.int))) else none) (fun b => ?_) (.inl (.inr ⟨{ cls := .type "list", data := .seq vs.toArray }, if_pos rfl⟩)) (fun b u z => ?_) (fun b z => ?_) fun _ => hk
    · by_cases hb : b = a
      · exact .inr ⟨_, _, if_pos hb⟩
      · exact .inl (if_neg hb)
    · by_cases hb : b = a
      · have z' := (if_pos hb).symm.trans z
        cases z'
        subst hb
        exact ⟨ha, by rw [List.length_map]; exact hl, vs, _, rv, ha⟩
      · have z' := (if_neg hb).symm.trans z
        cases z'
    · by_cases hb : b = a
      · exact hb
      · exact absurd (if_neg hb) z
end L2

namespace L2
open PySem PySem.Spec PyProof.Rows

abbrev KOf {K : PySem.W.Frag} {h : Heap} (_ : K.In h) : PySem.W.Frag := K

/-- the goal that k_head leaves (case hc), from the law's promise. F gives the function object fd (K's own) once, then the promise over every base -/
theorem walk_of {l : PySem.W.OpenLaw} {n k : Nat} {q : Program} {loose : List Str} {XP : (Str → Option Value) → Heap → Prop} {YP : World → Heap → Prop} {d : DefRec} {K : Params → PySem.W.Frag} {CX : World → CXT} {sp : World → Sp} {x : Str}
    (hn : l.most = some n) (hn2 : n ≤ sizeLine) (hdf : d.params.defaults = []) (hr : Room k callerA)
    (hY : ∀ (w : World) (h : Heap), YP w h → (K w.params).In h)
    (F : ∀ (w : World) (mg : Str → Option Value) (fa : Addr) (h : Heap), (K w.params).In h → h.Ns mainGlobals mg → mg d.name = some (.ref fa) →
      ∃ fd : FuncData, (∀ (s : Shared) (u : Value), BindsTo s fd ⟨[u], []⟩ [(x, u)]) ∧
        ∀ base : Heap, (K w.params).In base → base.Ns mainGlobals mg → FnOk l.prog w (K w.params) mg base (CX w) k fa fd [x] (sp w))
    (hsp : ∀ (w : World) (H : Hp) (a : Addr) (ns : List Int), ns.length ≤ n → Only H → SqL (K w.params) H a (ns.map V.int) → sp w [.ref a] H (fun v _ => v = .bl true) fun _ _ _ => False)
    (hCX : ∀ (w : World) (H : Hp) (s : Shared) (e : Value) (s' : Shared), CX w [] H s (fun _ _ _ => False) e s' → False) :
    PySem.W.WalkO q loose XP YP l.row.toRowW d [] (fun f vs => PySem.call f vs) := by
  refine Att.attach_call hn hdf fun w s₀ s₁ mg mb fa o pm cd doc a vs ns G Y ho hd hcd hmg hobj hints hlen hg => ?_
  have KX := hY w _ Y
  obtain ⟨fd, hb, hF⟩ := F w mg fa _ KX G.T.g hmg
  exact law_call KX G.T.g G.T.b G.T.builtins G.T.nolimit hg hobj hints (Nat.le_trans hlen hn2) hr hF hb (fun H hO hS => hsp w H a ns hlen hO hS) fun H e s' => hCX w H s₁ e s'
/-- the same where the promise hangs on the written part alone: (sp := My.sp_law), no hole under a binder -/
theorem walk_ofK {l : PySem.W.OpenLaw} {n k : Nat} {q : Program} {loose : List Str} {XP : (Str → Option Value) → Heap → Prop} {YP : World → Heap → Prop} {d : DefRec} {K : Params → PySem.W.Frag} {CX : CXT} {sp : PySem.W.Frag → Sp} {x : Str}
    (hn : l.most = some n) (hn2 : n ≤ sizeLine) (hdf : d.params.defaults = []) (hr : Room k callerA)
    (hY : ∀ (w : World) (h : Heap), YP w h → (K w.params).In h)
    (F : ∀ (w : World) (mg : Str → Option Value) (fa : Addr) (h : Heap), (K w.params).In h → h.Ns mainGlobals mg → mg d.name = some (.ref fa) →
      ∃ fd : FuncData, (∀ (s : Shared) (u : Value), BindsTo s fd ⟨[u], []⟩ [(x, u)]) ∧
        ∀ base : Heap, (K w.params).In base → base.Ns mainGlobals mg → FnOk l.prog w (K w.params) mg base CX k fa fd [x] (sp (K w.params)))
    (hsp : ∀ (K : PySem.W.Frag) (H : Hp) (a : Addr) (ns : List Int), ns.length ≤ n → Only H → SqL K H a (ns.map V.int) → sp K [.ref a] H (fun v _ => v = .bl true) fun _ _ _ => False)
    (hCX : ∀ (H : Hp) (s : Shared) (e : Value) (s' : Shared), CX [] H s (fun _ _ _ => False) e s' → False) :
    PySem.W.WalkO q loose XP YP l.row.toRowW d [] (fun f vs => PySem.call f vs) :=
  walk_of (K := K) (CX := fun _ => CX) (sp := fun w => sp (K w.params)) hn hn2 hdf hr hY F (fun w H a ns h1 h2 h3 => hsp (K w.params) H a ns h1 h2 h3) fun _ H s e s' => hCX H s e s'
end L2

/- THE LAST THEOREM (shape; LID, My.* are yours):
   My.Adr: a structure of the addresses that your layer names (classes, functions); My.Txt K t: a structure (Prop) of the equations over K;
   My.txt_mk : {K} {implicit addresses ..} (e1 : nsIn K mainGlobals "law" = some (some (.ref f))) (e2 : K.lookup f = some ⟨oc, od, .func (fnOf "law" "law" params body scope dV kV doc pm an cdv ct), sl⟩) (e3 : codeIn K cdv "law" = true) .. : ∃ t, My.Txt K t

set_option maxRecDepth 100000 in
set_option maxHeartbeats 0 in
theorem PySem.Challenge.cw_LID_holds : PySem.Challenge.rw_LID.Holds := by
  w_on; o_law; k_head; (case hw => w_witness2)
  k_fill
  refine L2.walk_of (l := PySem.Challenge.rw_LID) (n := 63) (k := 40) (x := "script") (CX := fun w => ..) (sp := fun _ => My.sp_law) rfl (by decide) rfl ⟨rfl, by decide, by decide⟩ (fun w h Y => PySem.W.kIn_of Y) ?F ?S ?C
  case F =>
    intro w mg fa h KX G hmg
    have T : ∃ t, My.Txt (L2.KOf KX) t := by
      dsimp only [L2.KOf]                          -- K must stand as «<heap const> w.params» for k_is
      refine' My.txt_mk ?e1 ?e2 ?e3 ..
      (case e1 => PySem.W.k_is)                    -- in the order: a name -> its address -> its object -> its parts
      (case e2 => PySem.W.k_is)
      ..
    obtain ⟨t, T⟩ := T
    have e0 := hmg.symm.trans (PySem.W.mg_of KX G T.law)
    cases e0                                       -- fa is the law's own address
    exact ⟨_, fun s u => .of_eq rfl, fun base kb nb => My.law_fn T kb nb⟩     -- if «.of_eq rfl» comes too early: refine' ⟨_, ?b, fun base kb nb => My.law_fn T kb nb⟩; exact fun s u => .of_eq rfl
  case S => exact fun w H a ns hl hO hS => ..
  case C => exact ..
(the tactic k_is has no namespace: write k_is) -/

/-! SHORT WORDS over the layer: a def of the text, its body, what a loop and a test want. -/
namespace L2
open PySem PySem.Spec PyProof.Rows

/-! ### the text by places -/
/-- the j-th statement of a class's body -/
def inClass (s : Stmt) (j : Nat) : Stmt := match s with
  | .ClassDef _ _ _ body _ _ _ _ _ _ _ => body.getD j (.Pass ⟨0, 0, 0, 0⟩)
  | _ => .Pass ⟨0, 0, 0, 0⟩
def defArgs (s : Stmt) : Arguments := match s with
  | .FunctionDef _ a _ _ _ _ _ _ _ _ => a
  | _ => { posonlyargs := [], args := [], vararg := none, kwonlyargs := [], kw_defaults := [], kwarg := none, defaults := [] }
def defBody (s : Stmt) : List Stmt := match s with
  | .FunctionDef _ _ b _ _ _ _ _ _ _ => b
  | _ => []
def defScope (s : Stmt) : Scope := match s with
  | .FunctionDef _ _ _ _ _ _ sc _ _ _ => sc
  | _ => { kind := .function, names := [], isGenerator := false, isCoroutine := false }

/-! ### no exception leaves a def -/
abbrev CX0 : CXT := fun _ _ _ _ _ _ => False
abbrev E0 : XK := fun _ _ _ => False
theorem pass0 {X : Cx} : Passes CX0 X E0 := fun _ _ _ _ _ _ _ h => h.elim

/-! ### a def (or method) of the text as it stands behind the top -/
structure Fun (K : PySem.W.Frag) (x qual : Str) (st : Stmt) (f : Addr) (fd : FuncData) : Prop where
  ex : ∃ (oc : Value) (od : Option Addr) (kV doc pm : Value) (an : Option Addr) (cdv ct : Value) (osl : Array (Option Value)),
    fd = PySem.W.fnOf x qual (defArgs st) (defBody st) (defScope st) .none kV doc pm an cdv ct ∧ K.lookup f = some ⟨oc, od, .func fd, osl⟩ ∧ PySem.W.codeIn K cdv qual = true
  kp : PySem.W.keepIn K (.ref f) = true
section
variable {P : Program} {w : World} {K : PySem.W.Frag} {mg : Str → Option Value} {base : Heap}
/-- THE RULE for a def: its body as a term of rules, and the reading of that term -/
theorem Fun.ok {x qual : Str} {st : Stmt} {f : Addr} {fd : FuncData} {N ps : List Str} {k : Nat} {sp : Sp} (F : Fun K x qual st f fd) (S : FnScope N ps (defScope st)) (len : ∀ vs H Q E, sp vs H Q E → vs.length = ps.length)
    (hbody : ∀ (cdv : Value) (A : Around) (outer : List Env) (s : Shared) (H : Hp) (vs : List V) (Q : VK) (E : XK), Room k (A.deeper (envOfC qual (defScope st) s.heap.objs.size f cdv)) → sp vs H Q E →
      ∃ t, PSs (cxOf CX0 P w K mg base N qual (defScope st) f cdv A outer s H E).nox (defBody st) t ∧ t { nx := fun _ H' => Q .non H', rt := Q } (start N vs) H) : FnOk P w K mg base CX0 (k + 1) f fd ps sp := by
  obtain ⟨oc, od, kV, doc, pm, an, cdv, ct, osl, rfl, lk, hcd⟩ := F.ex
  refine fn_of lk hcd S len fun A outer s H vs Q E hr hsp => ?_
  obtain ⟨t, h, q⟩ := hbody cdv A outer s H vs Q E hr hsp
  exact ⟨t, h.nox, q⟩
/-- how its arguments bind (no defaults): h is «fun _ _ _ _ _ _ us hl => match us, hl with | [_, _], _ => rfl», one _ a parameter -/
theorem Fun.binds {x qual : Str} {st : Stmt} {f : Addr} {fd : FuncData} {ps : List Str} (F : Fun K x qual st f fd)
    (h : ∀ (kV doc pm : Value) (an : Option Addr) (cdv ct : Value) (us : List Value), us.length = ps.length → bindArgs (PySem.W.fnOf x qual (defArgs st) (defBody st) (defScope st) .none kV doc pm an cdv ct) ⟨us, []⟩ = pure (ps.zip us)) : Binds K fd ps [] := by
  obtain ⟨oc, od, kV, doc, pm, an, cdv, ct, osl, rfl, lk, hcd⟩ := F.ex
  exact .all (h kV doc pm an cdv ct)
theorem fun_mk {x qual : Str} {st : Stmt} {f : Addr} {oc : Value} {od an : Option Addr} {osl : Array (Option Value)} {kV doc pm cdv ct : Value} (l : K.lookup f = some ⟨oc, od, .func (PySem.W.fnOf x qual (defArgs st) (defBody st) (defScope st) .none kV doc pm an cdv ct), osl⟩)
    (c : PySem.W.codeIn K cdv qual = true) (k : PySem.W.keepIn K (.ref f) = true) : Fun K x qual st f (PySem.W.fnOf x qual (defArgs st) (defBody st) (defScope st) .none kV doc pm an cdv ct) := ⟨⟨oc, od, kV, doc, pm, an, cdv, ct, osl, rfl, l, c⟩, k⟩
end
theorem hu_of {A : Around} {k : Nat} (hr : Room k A) : A.units + 1 < cLine := Nat.lt_of_le_of_lt (Nat.add_le_add_left (by decide : 1 ≤ 64) _) hr.units
theorem small1000 {n : Nat} (h : n ≤ 1000) : n < sizeLine := Nat.lt_of_le_of_lt h (by decide)

/-! ### expressions in short: the name that stands in the i-th slot -/
section
variable {X : Cx}
theorem pv (i : Nat) {x : Str} {pos : Pos} (hN : X.N[i]? = some x := by rfl) (hv : Vis X.env.scope x := by first | exact Or.inl rfl | exact Or.inr (Or.inl rfl) | exact Or.inr (Or.inr rfl)) (hd : (x == ("__debug__" : Str)) = false := by decide)
    (hcd : (x == ("__classdict__" : Str)) = false := by decide) : PE X (.Name x pos) (tVar i) := pe_var hN hv hd hcd
end

/-! ### tests -/
theorem iteF {A B : Prop} (h : B) : if false = true then A else B := by
  rw [if_neg Bool.false_ne_true]
  exact h
theorem iteT {A B : Prop} (h : A) : if true = true then A else B := by
  rw [if_pos rfl]
  exact h
theorem ite2 {c A B : Prop} [Decidable c] (h1 : c → A) (h2 : ¬ c → B) : if c then A else B := by
  by_cases h : c
  · rw [if_pos h]
    exact h1 h
  · rw [if_neg h]
    exact h2 h
theorem iteNS {c A B : Prop} [Decidable c] (hc : c) (h : B) : if (!decide c) = true then A else B := by
  rw [decide_eq_true hc]
  exact iteF h

/-! ### heaps -/
/-- all that was tracked is as it was -/
def Same (H H' : Hp) : Prop := ∀ b o, H b = some o → H' b = some o
theorem Same.refl (H : Hp) : Same H H := fun _ _ h => h
theorem Same.trans {H H1 H2 : Hp} (a : Same H H1) (b : Same H1 H2) : Same H H2 := fun c o h => b c o (a c o h)
theorem Same.free {H H' : Hp} (e : Same H H') {l : Addr} (h : H' l = Option.none) : H l = Option.none := by
  cases q : H l with
  | none => rfl
  | some o =>
    rw [e l o q] at h
    cases h
theorem Same.seq {K : PySem.W.Frag} {H H' : Hp} {a : Addr} {xs : List V} (e : Same H H') (h : SqL K H a xs) : SqL K H' a xs := by
  rcases h with (h | ⟨o, h⟩) | h
  · exact .inl (.inl (e _ _ h))
  · exact .inl (.inr ⟨o, e _ _ h⟩)
  · exact .inr h

end L2
namespace L2
open PySem PySem.Spec PyProof.Rows
section
variable {X : Cx}
/-- a text so many times -/
theorem op_mul_str : OpR X (binaryOp .Mult) (fun x y H Q => ∃ z n, x = .str z ∧ y = .int n ∧ MulOk z n ∧ Q (.str (Txt.mul z n)) H) := by
  intro pins s σ H x y v u Q I rx ry h
  obtain ⟨z, n, rfl, rfl, hz, q⟩ := h
  obtain ⟨t, rfl⟩ := rx
  obtain ⟨t', rfl⟩ := ry
  exact SB.mul hz fun t' tk => ⟨.str _, H, I.tok _, ⟨_, rfl⟩, q⟩
/-- the number that a text writes -/
theorem call_int_txt : CallR X (.type "int") (fun xs H Q => ∃ z n, xs = [.str z] ∧ PySem.intText? z = some n ∧ z.length ≤ 640 ∧ Q (.int n) H) := by
  intro pins s σ H xs us Q I r h
  obtain ⟨z, n, rfl, hn, hl, q⟩ := h
  obtain ⟨u, rfl, t, rfl⟩ := vals1 r
  exact PySem.W.KIN.call_text hn hl ⟨.int n, H, I.tok _, ⟨_, rfl⟩, q⟩
/-- // by a positive divisor below 2^64 -/
theorem op_fdivL : OpR X (binaryOp .FloorDiv) (rI (fun _ j => 0 < j ∧ j < 2 ^ 64) fun i j => .int (i / j)) := opI fun i j _ _ _ _ _ hc q => by
  have h1 : (0 : Int) < j := hc.1
  have h2 : j < 2 ^ 64 := hc.2
  refine floordiv_int (by omega) (by rw [Int.fdiv_eq_ediv_of_nonneg i (by omega)]; exact q) (.inl (PyProof.noPylong_of_log2 ?_))
  have h3 : j.natAbs < 2 ^ 64 := by omega
  have h4 : j.natAbs.log2 < 64 := (Nat.log2_lt (by omega)).mpr h3
  omega
/-- isinstance(x, a built-in type) -/
theorem call_isi : CallR X (.builtin "isinstance") (fun xs H Q => ∃ x t n b, xs = [x, .ty n] ∧ TyOf X.K H x t ∧ PySem.W.kitOne X.K t (.type n) = some b ∧ Q (.bl b) H) := by
  intro pins s σ H xs us Q I r h
  obtain ⟨x, t, n, b, rfl, ty, e, q⟩ := h
  obtain ⟨u, w', rfl, r1, r2⟩ := vals2 r
  obtain rfl : w' = Value.type n := r2
  exact isinst_ok I r1 ty e fun tk => ⟨.bl b, H, I.tok _, rfl, q⟩
end
theorem kit_ii {K : PySem.W.Frag} : PySem.W.kitOne K (.type "int") (.type "int") = some true := by rfl
theorem kit_ib {K : PySem.W.Frag} : PySem.W.kitOne K (.type "int") (.type "bool") = some false := by rfl
theorem huge_txt : PySem.intText? (("1" : Str) ++ Txt.mul "0" 300) = some (10 ^ 300) := by decide +kernel
theorem huge : ∃ N : Int, 0 < N ∧ PySem.intText? (("1" : Str) ++ Txt.mul "0" 300) = some N := ⟨_, by decide +kernel, huge_txt⟩
theorem huge_len : (("1" : Str) ++ Txt.mul "0" 300).length ≤ 640 := by decide +kernel
theorem huge_ok : MulOk ("0" : Str) 300 := by
  refine ⟨by decide, fun _ _ => ?_, fun _ _ => ?_⟩
  · decide +kernel
  · decide +kernel
end L2
/-! List comprehensions over the hand layer: one clause, a target, at most one test; no exception leaves. -/
namespace L2
open PySem PySem.Spec PyProof.Rows
/-- the closure's cells are the frame's -/
def clSub : List (Str × Addr) → List (Str × Addr) → Prop
  | [], _ => True
  | (n, a) :: r, cells => cells.lookup n = some a ∧ clSub r cells
theorem clSub.at : ∀ {cl cells : List (Str × Addr)} {x : Str} {c : Addr}, clSub cl cells → cl.lookup x = some c → cells.lookup x = some c
  | [], _, _, _, _, e => by simp at e
  | (n, a) :: r, cells, x, c, h, e => by
    rw [List.lookup_cons] at e
    cases hx : x == n with
    | true =>
      rw [hx] at e
      cases e
      have q : x = n := by simpa using hx
      rw [q]
      exact h.1
    | false =>
      rw [hx] at e
      exact clSub.at h.2 e
/-- what is asked of the block's names -/
structure CompOk (X : Cx) (scope : Scope) (xs : List Str) (cl : List (Str × Addr)) : Prop where
  clos : closureFor scope X.env = pure cl
  kind : scope.kind = .function
  nocell : (scope.names.all fun y => decide (y.2 ≠ .cell)) = true
  locs : (scope.names.all fun y => decide (y.2 ≠ .local) || (decide (scope.names.lookup y.1 = some .local) && decide (y.1 ∉ X.N))) = true
  sub : clSub cl X.env.cells
  has : (scope.names.all fun y => decide (y.2 ≠ .free) || ((cl.lookup y.1).isSome && (decide (X.env.kindOf y.1 = some .cell) || decide (X.env.kindOf y.1 = some .free)))) = true
/-- the block's context -/
def Cx.comp (X : Cx) (scope : Scope) (xs : List Str) (cl : List (Str × Addr)) (C : Addr) (s : Shared) (H : Hp) (fp : List Addr) : Cx :=
  { X with N := X.N ++ xs, s₀ := s, H₀ := H, env := compEnvC scope cl C X.env, outer := X.stack, stack := X.stack, ex := fp, fn := fun _ => false, pn := [] }
theorem relabel_at {env : Env} : ∀ {names : List (Str × NameKind)} {x : Str} {k : NameKind},
    (names.map fun (n, k) => if (k == NameKind.free && env.scope.kind == .function && env.kindOf n == some .cell) then (n, NameKind.cell) else (n, k)).lookup x = some k →
    ∃ k', names.lookup x = some k' ∧ (x, k') ∈ names ∧ (k' = k ∨ (k' = .free ∧ k = .cell))
  | [], _, _, h => by simp at h
  | (n, q) :: r, x, k, h => by
    rw [List.map_cons] at h
    cases hx : x == n with
    | true =>
      have e : x = n := by simpa using hx
      subst e
      refine ⟨q, by simp [List.lookup_cons], List.mem_cons_self, ?_⟩
      dsimp only at h
      split at h
      · rename_i hc
        simp [List.lookup_cons] at h
        have : q = .free := by
          simp at hc
          exact hc.1.1
        exact .inr ⟨this, h.symm⟩
      · simp [List.lookup_cons] at h
        exact .inl h
    | false =>
      have h' : (r.map fun (n, k) => if (k == NameKind.free && env.scope.kind == .function && env.kindOf n == some .cell) then (n, NameKind.cell) else (n, k)).lookup x = some k := by
        dsimp only at h
        split at h <;> (simp only [List.lookup_cons, hx] at h; exact h)
      obtain ⟨k', e1, e2, e3⟩ := relabel_at h'
      exact ⟨k', by simp only [List.lookup_cons, hx]; exact e1, List.mem_cons_of_mem _ e2, e3⟩
section
variable {X : Cx} {scope : Scope} {xs : List Str} {cl : List (Str × Addr)}
theorem CompOk.nc (S : CompOk X scope xs cl) : ∀ y ∈ scope.names, y.2 ≠ .cell := fun y hy => of_decide_eq_true (List.all_eq_true.mp S.nocell y hy)
theorem CompOk.lo (S : CompOk X scope xs cl) {y : Str × NameKind} (hy : y ∈ scope.names) (h : y.2 = .local) : scope.names.lookup y.1 = some .local ∧ y.1 ∉ X.N := by
  have q := List.all_eq_true.mp S.locs y hy
  rw [Bool.or_eq_true, Bool.and_eq_true, decide_eq_true_eq, decide_eq_true_eq, decide_eq_true_eq] at q
  rcases q with q | q
  · exact absurd h q
  · exact q
theorem CompOk.fr (S : CompOk X scope xs cl) {y : Str × NameKind} (hy : y ∈ scope.names) (h : y.2 = .free) : (∃ c, cl.lookup y.1 = some c) ∧ (X.env.kindOf y.1 = some .cell ∨ X.env.kindOf y.1 = some .free) := by
  have q := List.all_eq_true.mp S.has y hy
  rw [Bool.or_eq_true, Bool.and_eq_true, Bool.or_eq_true, decide_eq_true_eq, decide_eq_true_eq, decide_eq_true_eq] at q
  rcases q with q | q
  · exact absurd h q
  · exact ⟨Option.isSome_iff_exists.mp q.1, q.2⟩
/-- a name of the block that isn't its own -/
theorem CompOk.vis (S : CompOk X scope xs cl) {x : Str} (h : Vis (relabel scope X.env) x) (hx : x ∈ X.N) : ∃ c, cl.lookup x = some c ∧ (X.env.kindOf x = some .cell ∨ X.env.kindOf x = some .free) := by
  have go : ∀ k, (relabel scope X.env).names.lookup x = some k → (k = .local ∨ k = .cell ∨ k = .free) → ∃ c, cl.lookup x = some c ∧ (X.env.kindOf x = some .cell ∨ X.env.kindOf x = some .free) := fun k e hk => by
    obtain ⟨k', _, e2, e3⟩ := relabel_at e
    have hf : k' = .free := by
      rcases e3 with e3 | e3
      · subst e3
        rcases hk with rfl | rfl | rfl
        · exact absurd hx (S.lo e2 rfl).2
        · exact absurd rfl (S.nc _ e2)
        · rfl
      · exact e3.1
    obtain ⟨⟨c, q⟩, r⟩ := S.fr e2 hf
    exact ⟨c, q, r⟩
  rcases h with h | h | h
  · exact go _ h (.inl rfl)
  · exact go _ h (.inr (.inl rfl))
  · exact go _ h (.inr (.inr rfl))
theorem CompOk.hasC (S : CompOk X scope xs cl) {x : Str} (h : (relabel scope X.env).names.lookup x = some .cell ∨ (relabel scope X.env).names.lookup x = some .free) : ∃ c, cl.lookup x = some c := by
  have go : ∀ k, (relabel scope X.env).names.lookup x = some k → (k = .cell ∨ k = .free) → ∃ c, cl.lookup x = some c := fun k e hk => by
    obtain ⟨k', _, e2, e3⟩ := relabel_at e
    have hf : k' = .free := by
      rcases e3 with e3 | e3
      · subst e3
        rcases hk with rfl | rfl
        · exact absurd rfl (S.nc _ e2)
        · rfl
      · exact e3.1
    exact (S.fr e2 hf).1
  rcases h with h | h
  · exact go _ h (.inl rfl)
  · exact go _ h (.inr rfl)
end
section
variable {X : Cx} {scope : Scope} {xs : List Str} {cl : List (Str × Addr)} {pins : List (Addr × Obj)} {σ : St} {H2 : Hp} {s2 : Shared} {fp : List Addr} {C : Addr}
theorem comp_ok (I2 : Inv X pins σ H2 s2) (S : CompOk X scope xs cl) (f2 : ∀ b ∈ fp, FpOk X pins H2 b) (hfp : ∀ b ∈ fp, b < s2.heap.objs.size) (hC : s2.heap.objs.size ≤ C) : (X.comp scope xs cl C s2 H2 fp).Ok where
  mod := I2.ok.mod
  kind := S.kind
  glob := I2.ok.glob
  blt := I2.ok.blt
  above := hC
  inj := fun x y c h1 h2 => I2.ok.inj x y c (S.sub.at h1) (S.sub.at h2)
  has := fun x h => S.hasC h
  cab := fun _ _ h => nomatch h
  hd := I2.ok.hd
  frames := I2.ok.frames
  stk := .inl rfl
  exf := fun b hb => ⟨Nat.ne_of_lt (Nat.lt_of_lt_of_le (hfp b hb) hC), fun x c e => (f2 b hb).2.2.2.2.1 x c (S.sub.at e)⟩
  bs := I2.bs
  bsz := Nat.le_trans I2.ok.bsz I2.sz
  noex := fun b o e hb => by
    rcases (f2 b hb).2.2.2.1 with z | z
    · exact I2.ok.noex b o e z
    · exact absurd (Nat.lt_of_lt_of_le (Heap.lt_size e) (Nat.le_trans I2.ok.bsz z)) (Nat.lt_irrefl _)
  exfs := fun b hb z => by
    rcases List.mem_cons.mp (I2.stkSub b z) with q | q
    · exact (f2 b hb).2.1 q
    · exact (f2 b hb).2.2.1 q
  funs := I2.stack
  frf := I2.stkFree
/-- a cell of the frame, behind steps of the block -/
theorem comp_cell {H' : Hp} {h' : Heap} (I2 : Inv X pins σ H2 s2) (f2 : ∀ b ∈ fp, FpOk X pins H2 b) (u : Un (frs X.stack) fp H2 H' s2.heap h') {x : Str} {c : Addr} {v : Option Value} (e : X.env.cells.lookup x = some c) (z : s2.heap.IsCell c v) : h'.IsCell c v := by
  obtain ⟨o, ho, hd⟩ := z
  obtain ⟨sl, q⟩ := u.any ho (I2.freeC x c e) fun hb => (f2 c hb).2.2.2.2.1 x c e rfl
  exact ⟨_, q, hd⟩
theorem comp_loc {H' : Hp} {h' : Heap} {m' : Str → Option Value} (I2 : Inv X pins σ H2 s2) (S : CompOk X scope xs cl) (f2 : ∀ b ∈ fp, FpOk X pins H2 b) (u : Un (frs X.stack) fp H2 H' s2.heap h')
    (i : Nat) (x : Str) (v : V) (e1 : (X.N ++ xs)[i]? = some x) (e2 : (σ ++ List.replicate xs.length none)[i]? = some (some v)) (e3 : Vis (relabel scope X.env) x) :
    ∃ w, RelV v w ∧ Look (compEnvC scope cl C X.env) h' m' x w := by
  have hl := I2.len
  by_cases hi : i < σ.length
  · rw [List.getElem?_append_left (by omega)] at e1
    rw [List.getElem?_append_left hi] at e2
    obtain ⟨c, hc, hk⟩ := S.vis e3 (List.mem_of_getElem? e1)
    obtain ⟨m, _, hloc⟩ := I2.loc
    have hv : Vis X.env.scope x := .inr hk
    obtain ⟨w, r, l⟩ := hloc i x v e1 e2 hv
    have hcx := S.sub.at hc
    refine ⟨w, r, .inr ⟨?_, c, hc, ?_⟩⟩
    · rcases e3 with e3 | e3 | e3
      · obtain ⟨k', _, m2, m3⟩ := relabel_at e3
        rcases m3 with m3 | m3
        · exact absurd (List.mem_of_getElem? e1) (S.lo m2 m3).2
        · exact nomatch m3.2
      · exact .inl e3
      · exact .inr e3
    · rcases l with ⟨q, _⟩ | ⟨_, c', q, z⟩
      · rcases hk with hk | hk
        · rw [q] at hk; cases hk
        · rw [q] at hk; cases hk
      · rw [hcx] at q
        cases q
        exact comp_cell I2 f2 u hcx z
  · rw [List.getElem?_append_right (by omega), List.getElem?_replicate] at e2
    split at e2 <;> cases e2
/-- the block's names let go of their values -/
theorem comp_reset {pins' : List (Addr × Obj)} {σ' : St} {H' : Hp} {s' : Shared} (I2 : Inv X pins σ H2 s2) (S : CompOk X scope xs cl) (f2 : ∀ b ∈ fp, FpOk X pins H2 b) (J : Inv (X.comp scope xs cl C s2 H2 fp) pins' σ' H' s') :
    Inv (X.comp scope xs cl C s2 H2 fp) pins' (σ ++ List.replicate xs.length none) H' s' :=
  ⟨J.ok, J.os, J.bare, J.base, let ⟨m, hn, _⟩ := J.loc; ⟨m, hn, fun i x v e1 e2 e3 => comp_loc I2 S f2 J.base i x v e1 e2 e3⟩, J.cell, J.free, J.freeC, J.pin, J.hok, by
    rw [List.length_append, List.length_replicate]
    show σ.length + xs.length = (X.N ++ xs).length
    rw [List.length_append, I2.len]⟩
theorem comp_start {D : Addr} {oD : Obj} {s3 : Shared} {m' : Str → Option Value} (I2 : Inv X pins σ H2 s2) (S : CompOk X scope xs cl) (f2 : ∀ b ∈ fp, FpOk X pins H2 b) (hfp : ∀ b ∈ fp, b < s2.heap.objs.size) (hC : s2.heap.objs.size ≤ C) (hD : s2.heap.objs.size ≤ D) (hDC : D ≠ C)
    (k : ∀ b o, s2.heap.get? b = some o → s3.heap.get? b = some o) (ho : s3.os = s2.os) (hb : AllBare s3.gens) (hn : s3.heap.Ns C m') (hd : s3.heap.get? D = some oD) (hcell : ∀ v, oD.data ≠ .cell v) :
    Inv (X.comp scope xs cl C s2 H2 fp) [(D, oD)] (σ ++ List.replicate xs.length none) H2 s3 :=
  have u : Un (frs X.stack) fp H2 H2 s2.heap s3.heap := Un.kept k
  ⟨comp_ok I2 S f2 hfp hC, ho, hb, u, ⟨m', hn, fun i x v e1 e2 e3 => comp_loc I2 S f2 u i x v e1 e2 e3⟩,
    fun x c e => by
      obtain ⟨v, z⟩ := I2.cell x c (S.sub.at e)
      exact ⟨v, comp_cell I2 f2 u (S.sub.at e) z⟩,
    I2.hok.fresh hC, fun x c e => I2.freeC x c (S.sub.at e),
    fun p hp => by
      have e : p = (D, oD) := List.mem_singleton.mp (show p ∈ [(D, oD)] from hp)
      subst e
      refine ⟨hd, I2.hok.fresh hD, hDC, fun z => ?_, hcell⟩
      obtain ⟨_, o, q, _⟩ := I2.stack.mem z
      exact absurd (Nat.lt_of_lt_of_le (Heap.lt_size q) hD) (Nat.lt_irrefl _),
    I2.hok.kept k, by
      rw [List.length_append, List.length_replicate]
      show σ.length + xs.length = (X.N ++ xs).length
      rw [List.length_append, I2.len]⟩
/-- an untracked object comes to be tracked -/
theorem hok_track {P : Program} {w : World} {H : Hp} {h : Heap} {a : Addr} {o : HO} (x : HOk P w H h) (hn : H a = none) (new : ObjOk P w (upd H a o) h a o) : HOk P w (upd H a o) h := fun b u e => by
  by_cases hb : b = a
  · subst hb
    rw [upd_same] at e
    cases e
    exact new
  · rw [upd_ne hb] at e
    exact (x b u e).stay (fun _ _ _ q => q) (fun c q => by rw [upd_ne (ne_of_none q hn)]; exact q) fun c ys q => by rw [upd_ne (ne_of_none q hn)]; exact q
/-- behind the block: the frame's own state, the list tracked -/
theorem comp_end {pins' : List (Addr × Obj)} {σ' : St} {H' : Hp} {s' : Shared} {D : Addr} {ys : List V} {its : List Value} {n : Nat} (I2 : Inv X pins σ H2 s2) (f2 : ∀ b ∈ fp, FpOk X pins H2 b) (hD : s2.heap.objs.size ≤ D)
    (J : Inv (X.comp scope xs cl C s2 H2 fp) pins' σ' H' s') (hn : H' D = none) (e : s'.heap.get? D = some { cls := .type "list", data := .seq its.toArray n }) (r : Vals ys its) (hz : ys.length ≤ sizeLine) :
    Inv X pins σ (upd H' D (.lst ys)) s' := by
  have u : Un (frs X.stack) fp H2 H' s2.heap s'.heap := J.base
  have neD : ∀ b o, s2.heap.get? b = some o → b ≠ D := fun b o q => Nat.ne_of_lt (Nat.lt_of_lt_of_le (Heap.lt_size q) hD)
  have neT : ∀ b o, H2 b = some o → b ≠ D := fun b o q => Nat.ne_of_lt (Nat.lt_of_lt_of_le (I2.hok.lt q) hD)
  refine I2.call' (ch := fp) J.os ⟨u.keep, u.slot, fun b o q m hx => ?_, u.there, fun b zs q => ?_, fun b o zs q => ?_, fun b ps q => ?_⟩ (hok_track J.hok hn ⟨hz, its, n, r, e⟩) J.bare fun b hb => ?_
  · rw [upd_ne (neD b o q)]
    exact u.free b o q m hx
  · rw [upd_ne (neT b _ q)]
    exact u.tups b zs q
  · rw [upd_ne (neT b _ q)]
    exact u.frzs b o zs q
  · rw [upd_ne (neT b _ q)]
    exact u.tbls b ps q
  · obtain ⟨_, z1, _, z2, z3, z4⟩ := f2 b hb
    exact ⟨z2, z1, z3, z4⟩
end
end L2
namespace L2
open PySem PySem.Spec PyProof.Rows
/-- the tests of a clause -/
def PIf (X : Cx) (ifs : List Expr) (t : TT) : Prop :=
  ∀ (pins : List (Addr × Obj)) (s : Shared) (σ : St) (H : Hp) (Q : Bool → Hp → Prop), Inv X pins σ H s → t σ H Q →
    wpAny (model X.prog X.w) X.A (forIn ifs true fun c r => if r = true then do let ok ← isTrue c X.env (eval c X.env); pure (ForInStep.yield ok) else pure (ForInStep.yield r)) (TP X pins σ Q) X.xe s
def tYes : TT := fun _ H Q => Q true H
theorem pif_nil {X : Cx} : PIf X [] tYes := fun _ _ _ H _ I h => wpAny_tests_nil ⟨H, I, h⟩
theorem pif_one {X : Cx} {c : Expr} {t : TT} (h : PT X c t) : PIf X [c] t := fun pins s σ H Q I hq => wpAny_tests_one (h pins s σ H Q I hq)
/-- the reading: W by the turn, a measure, the items so far, the heap -/
def tComp (n : Nat) (wi : TI) (g : TG) (tf : TT) (te : TE) (fin : List V → Hp → Prop) : St → Hp → Prop := fun σ H => wi σ H fun J H1 => ∃ W : Nat → Nat → List V → Hp → Prop, (∃ m, W 0 m [] H1) ∧ ∀ i m ys H, W i m ys H →
  ys.length ≤ sizeLine ∧ ((J.stop i H ∧ fin ys H) ∨ (J.go i H ∧ ∃ (Y : V → Hp → Prop) (Z : Hp → Prop), (∀ y H4, Y y H4 → ys.length < sizeLine ∧ ∃ m', m' < m ∧ W (i + 1) m' (ys ++ [y]) H4) ∧ (∀ H3, Z H3 → ∃ m', m' < m ∧ W (i + 1) m' ys H3) ∧
    ∀ x H', J.yld i H x H' → g x (σ ++ List.replicate n none) H' fun σ2 H2 => tf σ2 H2 fun b H3 => if b = true then te σ2 H3 Y else Z H3))
theorem comp_turns {prog : Program} {w : World} {A : Around} {R : Result → Shared → Prop} {s : Shared} {elt target iter : Expr} {ifs : List Expr} {scope : Scope} {pos : Pos} {it acc : Value} {env : Env} (I : Nat → Shared → Prop)
    (turn : ∀ n s, I n s → wpAny (model prog w) A (pyNext it) (fun r s₁ => match r with
      | none => R (.ok .next) s₁
      | some v => wpAny (model prog w) A (letOwnedTupleGo target it v) (fun _ t₁ => wpAny (model prog w) A (assign target env v) (fun _ s₂ =>
          wpAny (model prog w) A (forIn ifs true fun c r => if r = true then do let ok ← isTrue c env (eval c env); pure (ForInStep.yield ok) else pure (ForInStep.yield r)) (fun ok s₃ =>
            if ok = true then wpAny (model prog w) A (eval elt env) (fun x s₄ => wpAny (model prog w) A (call (.builtin "list.append") [acc, x]) (fun _ s₅ => ∃ m, m < n ∧ I m s₅) (fun _ _ => False) s₄) (fun _ _ => False) s₃
            else ∃ m, m < n ∧ I m s₃) (fun _ _ => False) s₂) (fun _ _ => False) t₁) (fun _ _ => False) s₁) (fun _ _ => False) s)
    (n : Nat) (h : I n s) : codeAny (model prog w) A (.compLoop (.ListComp elt [⟨target, iter, ifs, 0⟩] scope pos) 0 it acc env) R s := by
  refine codeAny_loop rfl I (fun n s hI => ?_) n h
  show wpAny _ A (Sem.onRaise (compTurn _ 0 it acc env) fun x => do noteFrame x env; theTreesLotGoes x) _ _ s
  refine wpAny_noted ?_
  rw [compTurn_list]
  refine wpAny_bind (wpAny_standAt (wpAny_bind (wpAny_mono (turn n s hI) (fun r s₁ h₁ => ?_) fun _ _ z => z.elim)))
  cases r with
  | none => exact wpAny_pure h₁
  | some v =>
    refine wpAny_bind (wpAny_mono h₁ (fun _ t₁ k₁ => ?_) fun _ _ z => z.elim)
    refine wpAny_bind (wpAny_mono k₁ (fun _ s₂ h₂ => wpAny_bind (wpAny_mono h₂ (fun ok s₃ h₃ => ?_) fun _ _ z => z.elim)) fun _ _ z => z.elim)
    cases ok with
    | false => exact wpAny_pure ⟨rfl, h₃⟩
    | true =>
      refine wpAny_bind (wpAny_bind (wpAny_mono h₃ (fun x s₄ h₄ => ?_) fun _ _ z => z.elim))
      exact wpAny_bind (wpAny_mono h₄ (fun _ s₅ h₅ => wpAny_pure (wpAny_pure ⟨rfl, h₅⟩)) fun _ _ z => z.elim)
section
variable {X : Cx} {tg elt iter : Expr} {ifs : List Expr} {scope : Scope} {xs : List Str} {cl : List (Str × Addr)} {pos : Pos} {wi : TI} {g : TG} {tf : TT} {te : TE}
/-- the block -/
theorem comp_block {pins : List (Addr × Obj)} {σ : St} {H2 : Hp} {s2 : Shared} {it : Addr} {fp : List Addr} {tn : Nat → Heap → Prop} {J : It} {W : Nat → Nat → List V → Hp → Prop} {m0 : Nat} {fin : List V → Hp → Prop} {RR : Value → Addr → Result → Shared → Prop}
    (hc : X.calm = true) (hx : X.xe = fun _ _ => False) (S : CompOk X scope xs cl)
    (hg : ∀ C s H fp, PG (X.comp scope xs cl C s H fp) tg g) (hf : ∀ C s H fp, PIf (X.comp scope xs cl C s H fp) ifs tf) (he : ∀ C s H fp, PE (X.comp scope xs cl C s H fp) elt te)
    (I2 : Inv X pins σ H2 s2) (T : Turn X.prog X.w X.K tg J fp it tn) (st2 : tn 0 s2.heap) (f2 : ∀ b ∈ fp, FpOk X pins H2 b) (w0 : W 0 m0 [] H2)
    (turn : ∀ i m ys H, W i m ys H → ys.length ≤ sizeLine ∧ ((J.stop i H ∧ fin ys H) ∨ (J.go i H ∧ ∃ (Y : V → Hp → Prop) (Z : Hp → Prop), (∀ y H4, Y y H4 → ys.length < sizeLine ∧ ∃ m', m' < m ∧ W (i + 1) m' (ys ++ [y]) H4) ∧ (∀ H3, Z H3 → ∃ m', m' < m ∧ W (i + 1) m' ys H3) ∧
      ∀ x H', J.yld i H x H' → g x (σ ++ List.replicate xs.length none) H' fun σ2 H2 => tf σ2 H2 fun b H3 => if b = true then te σ2 H3 Y else Z H3)))
    (hRR : ∀ (D C : Addr) (s' : Shared) (ys : List V) (H' : Hp) (m' : Str → Option Value), Inv X pins σ (upd H' D (.lst ys)) s' → H' D = none → s'.heap.Ns C m' → FpOk X pins (upd H' D (.lst ys)) C → fin ys H' → RR (.ref D) C (.ok .next) s') :
    wpAny (model X.prog X.w) X.A (newList []) (fun acc s₃ => wpAny (model X.prog X.w) X.A (newFunctionEnv scope X.env.globals cl [] X.env.qual none .none (some X.env)) (fun cenv s₄ =>
      codeAny (model X.prog X.w) X.A (.compStart (.ListComp elt [⟨tg, iter, ifs, 0⟩] scope pos) 0 (.ref it) acc { cenv with scope := relabel scope X.env }) (RR acc cenv.locals) s₄) X.xe s₃) X.xe s2 := by
  refine wpAny_newObj_type (wpAny_newFunctionEnv S.nc (by intro y hy; simp at hy) (fun h₁ hns₁ hsb₁ => ?_) S.kind)
  dsimp only at hns₁ hsb₁ ⊢
  generalize hG : s2.heap.push { cls := .type "list", dict := none, data := .seq ([] : List Value).toArray } = G at hns₁ hsb₁ ⊢
  have szG : G.objs.size = s2.heap.objs.size + 1 := by rw [← hG, Heap.size_push]
  have hDC : s2.heap.objs.size ≠ G.objs.size := by rw [szG]; exact Nat.ne_of_lt (Nat.lt_succ_self _)
  have hC : s2.heap.objs.size ≤ G.objs.size := by rw [szG]; exact Nat.le_succ _
  have hfp : ∀ b ∈ fp, b < s2.heap.objs.size := fun b hb => let ⟨_, e, _⟩ := T.obj 0 _ st2 b hb; Heap.lt_size e
  have old : ∀ b o, s2.heap.get? b = some o → h₁.get? b = some o := fun b o e =>
    hsb₁.extBut b o (Nat.ne_of_lt (Nat.lt_of_lt_of_le (Heap.lt_size e) hC)) (Heap.get?_push_of_some _ (hG ▸ Heap.get?_push_of_some _ e))
  have hacc : h₁.get? s2.heap.objs.size = some { cls := .type "list", data := .seq ([] : List Value).toArray 0 } := hsb₁.extBut _ _ hDC (Heap.get?_push_of_some _ (hG ▸ Heap.get?_push_size _ rfl))
  have hst₁ : tn 0 h₁ := T.keep 0 _ _ st2 fun b _ o e => old b o e
  have I3 : ∀ tk, Inv (X.comp scope xs cl G.objs.size s2 H2 fp) [(s2.heap.objs.size, { cls := .type "list", data := .seq ([] : List Value).toArray 0 })] (σ ++ List.replicate xs.length none) H2 { s2 with heap := h₁, toks := tk } := fun tk =>
    comp_start I2 S f2 hfp hC (Nat.le_refl _) hDC old rfl I2.bare hns₁ hacc fun _ z => nomatch z
  -- what stays true of the iterator
  have stat : ∀ {H' : Hp} {o : Obj}, (∀ b ∈ fp, H' b = none) → ∀ b ∈ fp, FpOk (X.comp scope xs cl G.objs.size s2 H2 fp) [(s2.heap.objs.size, o)] H' b := fun {H' o} hn b hb => by
    refine ⟨hn b hb, Nat.ne_of_lt (Nat.lt_of_lt_of_le (hfp b hb) hC), fun z => ?_, .inl hb, fun x c e => (f2 b hb).2.2.2.2.1 x c (S.sub.at e), fun p hp => ?_⟩
    · rcases List.mem_cons.mp (I2.stkSub b z) with q | q
      · exact (f2 b hb).2.1 q
      · exact (f2 b hb).2.2.1 q
    · have e : p = (s2.heap.objs.size, o) := List.mem_singleton.mp (show p ∈ [(s2.heap.objs.size, o)] from hp)
      subst e
      exact Nat.ne_of_gt (hfp b hb)
  have loop : ∀ tk, codeAny (model X.prog X.w) X.A (.compLoop (.ListComp elt [⟨tg, iter, ifs, 0⟩] scope pos) 0 (.ref it) (.ref s2.heap.objs.size) (compEnvC scope cl G.objs.size X.env)) (RR (.ref s2.heap.objs.size) G.objs.size) { s2 with heap := h₁, toks := tk } := by
    intro tk
    refine comp_turns (fun n s' => ∃ i ys its k H', Inv (X.comp scope xs cl G.objs.size s2 H2 fp) [(s2.heap.objs.size, { cls := .type "list", data := .seq (its : List Value).toArray k })] (σ ++ List.replicate xs.length none) H' s' ∧ tn i s'.heap ∧ (∀ b ∈ fp, H' b = none) ∧ Vals ys its ∧ W i n ys H')
      ?_ m0 ⟨0, [], [], 0, H2, I3 tk, hst₁, fun b hb => (f2 b hb).1, .nil, w0⟩
    rintro n s' ⟨i, ys, its, k, H', I', st', fr', rv, w'⟩
    obtain ⟨hlen, way⟩ := turn i n ys H' w'
    rcases way with ⟨stop, qf⟩ | ⟨go, Y, Z, hY, hZ, step⟩
    · refine thn (T.done (X.comp scope xs cl G.objs.size s2 H2 fp) rfl rfl rfl hc i _ s' _ H' (fun _ _ => False) I' (stat fr') st' stop) fun r s1 ⟨hr, I1⟩ => ?_
      subst hr
      obtain ⟨e, n1, _⟩ := I1.pin _ (List.mem_singleton.mpr rfl)
      obtain ⟨m1, hn1, _⟩ := I1.loc
      refine hRR _ _ s1 ys H' m1 (comp_end I2 f2 (Nat.le_refl _) I1 n1 e rv hlen) n1 hn1 ?_ qf
      refine I2.fpOk hC ?_
      rw [upd_ne hDC.symm]
      exact I1.free
    · refine thn (T.item (X.comp scope xs cl G.objs.size s2 H2 fp) rfl rfl rfl hc i _ s' _ H' (fun _ _ => False) I' (stat fr') st' go) fun r s1 ⟨u, hr, h1⟩ => ?_
      subst hr
      refine thn h1 fun _ s5 ⟨x, H5, I5, r5, y5, st5, fr5⟩ => ?_
      have I5' := I5.pinned (stat fr5) (T.obj _ _ st5)
      have hxe : (X.comp scope xs cl G.objs.size s2 H2 fp).xe = fun _ _ => False := hx
      have q6 := hg _ s2 H2 fp _ s5 _ H5 x u _ I5' r5 (step x H5 y5)
      rw [hxe] at q6
      refine thn q6 fun _ s6 ⟨σ6, H6, I6, q6⟩ => ?_
      have q7 := hf _ s2 H2 fp _ s6 σ6 H6 _ I6 q6
      rw [hxe] at q7
      refine thn q7 fun b s7 ⟨H7, I7, q7⟩ => ?_
      have kept : ∀ {σ' : St} {H' : Hp} {s' : Shared}, Inv (X.comp scope xs cl G.objs.size s2 H2 fp) ([(s2.heap.objs.size, { cls := .type "list", data := .seq its.toArray k })] ++ pinsAt fp s5.heap) σ' H' s' → tn (i + 1) s'.heap ∧ ∀ b ∈ fp, H' b = none := fun {σ' H' s'} Z => by
        refine ⟨T.keep _ _ _ st5 fun b hb o e => (Z.pin (b, o) (List.mem_append_right _ (List.mem_append_right _ (mem_pinsAt hb e)))).1, fun b hb => ?_⟩
        obtain ⟨o, e, d⟩ := T.obj _ _ st5 b hb
        exact (Z.pin (b, o) (List.mem_append_right _ (List.mem_append_right _ (mem_pinsAt hb e)))).2.1
      cases b with
      | false =>
        rw [if_neg Bool.false_ne_true]
        rw [if_neg Bool.false_ne_true] at q7
        obtain ⟨m', hm, w7⟩ := hZ _ q7
        exact ⟨m', hm, i + 1, ys, its, k, H7, comp_reset I2 S f2 I7.unpinned, (kept I7).1, (kept I7).2, rv, w7⟩
      | true =>
        rw [if_pos rfl]
        rw [if_pos rfl] at q7
        have q8 := he _ s2 H2 fp _ s7 σ6 H7 _ I7 q7
        rw [hxe] at q8
        refine thn q8 fun y s8 ⟨yv, H8, I8, r8, qY⟩ => ?_
        obtain ⟨hz, m', hm, w8⟩ := hY _ _ qY
        obtain ⟨eD, nD, neC, nfD, _⟩ := I8.pin (s2.heap.objs.size, { cls := .type "list", data := .seq its.toArray k }) (List.mem_append_right _ (List.mem_append_left _ (List.mem_singleton.mpr rfl)))
        have hl := rv.length
        refine call_meets F.slot_list_append ⟨_, eD, rfl⟩ F.entry_list_append (F.args_list_append_2 _ _) (PySem.list_append s2.heap.objs.size its.toArray k y (by rw [List.size_toArray]; omega)) ⟨eD, ?_⟩
        have eN := PySem.IsL.update eD (fun (a : Array Value) => a.push y)
        have eA : its.toArray.push y = (its ++ [y]).toArray := by simp
        rw [eA] at eN
        have drop : Inv (X.comp scope xs cl G.objs.size s2 H2 fp) (pinsAt fp s5.heap) σ6 H8 s8 := I8.pins_of fun p hp => I8.pin p (List.mem_append_right _ (List.mem_append_right _ hp))
        have I9 : Inv (X.comp scope xs cl G.objs.size s2 H2 fp) (pinsAt fp s5.heap) σ6 H8 { s8 with heap := s8.heap.update s2.heap.objs.size (Obj.mapSeq fun (a : Array Value) => a.push y) } := by
          refine drop.turned (it := s2.heap.objs.size) (t' := s8.toks) (fun b o hb q => (Heap.get?_update_other s8.heap _ (Ne.symm hb)).trans q) nD neC (.inr (Nat.le_refl _)) (fun x c e z => ?_) fun p hp z => ?_
          · obtain ⟨v, q⟩ := I2.cell x c (S.sub.at e)
            exact absurd (q.lt) (by rw [z]; exact Nat.lt_irrefl _)
          · have hp' : p ∈ pinsAt fp s5.heap := hp
            exact absurd (hfp _ (of_pinsAt hp').1) (by rw [z]; exact Nat.lt_irrefl _)
        have I10 : Inv (X.comp scope xs cl G.objs.size s2 H2 fp) ([(s2.heap.objs.size, { cls := .type "list", data := .seq (its ++ [y]).toArray _ })] ++ pinsAt fp s5.heap) σ6 H8 { s8 with heap := s8.heap.update s2.heap.objs.size (Obj.mapSeq fun (a : Array Value) => a.push y) } := I9.pins_of fun p hp => by
          rcases List.mem_append.mp hp with z | z
          · have e := List.mem_singleton.mp z
            subst e
            exact ⟨eN, nD, neC, nfD, fun _ z => nomatch z⟩
          · exact I9.pin p (List.mem_append_right _ z)
        have kp : tn (i + 1) (s8.heap.update s2.heap.objs.size (Obj.mapSeq fun (a : Array Value) => a.push y)) ∧ ∀ b ∈ fp, H8 b = none := by
          refine ⟨T.keep _ _ _ (kept I8).1 fun b hb o e => (Heap.get?_update_other s8.heap _ (Nat.ne_of_gt (hfp b hb))).trans e, (kept I8).2⟩
        exact ⟨m', hm, i + 1, ys ++ [yv], its ++ [y], _, H8, comp_reset I2 S f2 I10.unpinned, kp.1, kp.2, rv.append (.cons r8 .nil), w8⟩
  exact codeAny_compStart_list (loop _) (T.self _ 0 _ _ _ hst₁ (loop _))
/-- the block's own dict lets its names go -/
theorem comp_gone {pins : List (Addr × Obj)} {σ : St} {H : Hp} {s : Shared} {h' : Heap} {C : Addr} (I : Inv X pins σ H s) (f : FpOk X pins H C) (k : Heap.SameBut C s.heap h') : Inv X pins σ H { s with heap := h' } := by
  obtain ⟨n, nl, nf, ab, nc, np⟩ := f
  exact I.turned (it := C) (t' := s.toks) (fun b o hb e => k.extBut b o hb e) n nl ab nc np
theorem pe_comp (hc : X.calm = true) (hx : X.xe = fun _ _ => False) (S : CompOk X scope xs cl) (hi : PI X tg iter wi)
    (hg : ∀ C s H fp, PG (X.comp scope xs cl C s H fp) tg g) (hf : ∀ C s H fp, PIf (X.comp scope xs cl C s H fp) ifs tf) (he : ∀ C s H fp, PE (X.comp scope xs cl C s H fp) elt te)
    (hs : ∀ x, foldedSetIterable iter X.env x = pure x := by intro _; rfl) :
    PE X (.ListComp elt [⟨tg, iter, ifs, 0⟩] scope pos) (fun σ H Q => tComp xs.length wi g tf te (fun ys H' => ∀ p, H' p = none → Q (.ref p) (upd H' p (.lst ys))) σ H) := by
  intro pins s σ H Q I h
  rw [eval_ListComp]
  refine wpAny_comprehension_free (use := none) rfl hs S.clos S.kind (fun y hy hl => (S.lo hy hl).1) ?_
  refine thn (hi pins s σ H _ I h) fun xv s1 h1 => thn h1 fun itv s2 h2 => ?_
  obtain ⟨it, fp, tn, J, H2, rfl, I2, T, st2, f2, W, ⟨m0, w0⟩, turn⟩ := h2
  refine comp_block (RR := fun acc C => compPost (model X.prog X.w) X.A X.xe none (EP X pins σ Q) acc C) hc hx S hg hf he I2 T st2 f2 w0 turn ?_
  intro D C s' ys H' m' I' nD hn fC fin
  exact ⟨m', hn, fun h' k => ⟨.ref D, _, comp_gone I' fC k, rfl, fin D nD⟩⟩
/-- name = [.. for ..], the name a local one -/
theorem ps_setC {i : Nat} {y : Str} {py spos : Pos} (hc : X.calm = true) (hx : X.xe = fun _ _ => False) (hN : X.N.Nodup) (hy : X.N[i]? = some y) (hl : X.env.scope.names.lookup y = some .local) (S : CompOk X scope xs cl) (hi : PI X tg iter wi)
    (hg : ∀ C s H fp, PG (X.comp scope xs cl C s H fp) tg g) (hf : ∀ C s H fp, PIf (X.comp scope xs cl C s H fp) ifs tf) (he : ∀ C s H fp, PE (X.comp scope xs cl C s H fp) elt te)
    (hsw : swapsWith (.ListComp elt [⟨tg, iter, ifs, 0⟩] scope pos) (some (.Name y py)) spos.line X.env = pure true := by with_unfolding_all rfl)
    (hs : ∀ x, foldedSetIterable iter X.env x = pure x := by intro _; rfl) :
    PS X (.Assign [.Name y py] (.ListComp elt [⟨tg, iter, ifs, 0⟩] scope pos) spos) (fun D σ H => tComp xs.length wi g tf te (fun ys H' => ∀ p, H' p = none → D.nx (σ.set i (some (.ref p))) (upd H' p (.lst ys))) σ H) := by
  intro pins s σ H D I h
  rw [exec_Assign_Name_used _ _ _ _ hsw]
  refine wpAny_bind (wpAny_standAt (wpAny_bind ?_))
  show wpAny _ X.A (comprehension (.ListComp elt [⟨tg, iter, ifs, 0⟩] scope pos) scope X.env _ (newList []) false (eval iter X.env) (some (assign (.Name y py) X.env)) >>= fun _ => _) _ _ s
  refine wpAny_bind (wpAny_mono (wpAny_comprehension_free (use := some (assign (.Name y py) X.env)) (Q := fun _ s' => SP X pins D .next s') rfl hs S.clos S.kind (fun y hy hl => (S.lo hy hl).1) ?_) (fun _ s' hq => wpAny_pure (wpAny_pure hq)) fun _ _ e => e)
  refine thn (hi pins s σ H _ I h) fun xv s1 h1 => thn h1 fun itv s2 h2 => ?_
  obtain ⟨it, fp, tn, J, H2, rfl, I2, T, st2, f2, W, ⟨m0, w0⟩, turn⟩ := h2
  refine comp_block (RR := fun acc C => compPost (model X.prog X.w) X.A X.xe (some (assign (.Name y py) X.env)) (fun _ s' => SP X pins D .next s') acc C) hc hx S hg hf he I2 T st2 f2 w0 turn ?_
  intro d C s' ys H' m' I' nD hn fC fin
  obtain ⟨oC, es, ep, ho, hd, hr⟩ := hn
  have IC : Inv X (pins ++ [(C, oC)]) σ (upd H' d (.lst ys)) s' := I'.pins_of fun p hp => by
    rcases List.mem_append.mp hp with z | z
    · exact I'.pin p (List.mem_append_right _ z)
    · have e := List.mem_singleton.mp z
      subst e
      exact ⟨ho, fC.1, fC.2.1, fC.2.2.1, fun v z => by rw [hd] at z; cases z⟩
  show wpAny (model X.prog X.w) X.A (assign (.Name y py) X.env (.ref d)) _ _ s'
  refine thn (pg_name (pos := py) hN hy (.inl hl) (.inr hl) _ s' σ _ (.ref d) (.ref d) _ IC rfl (fin d nD)) fun _ s'' ⟨σ'', H'', I'', q''⟩ => ?_
  have pC := I''.pin (C, oC) (List.mem_append_right _ (List.mem_append_right _ (List.mem_singleton.mpr rfl)))
  refine ⟨_, ⟨oC, es, ep, pC.1, hd, hr⟩, fun h' k => ⟨σ'', H'', comp_gone I''.unpinned ⟨pC.2.1, fC.2⟩ k, q''⟩⟩
end
/-! ### the forms one uses -/
section
variable {g : TG} {tf : TT} {te : TE} {fin : List V → Hp → Prop} {n : Nat} {σ : St} {H : Hp}
theorem comp_by {J : It} {k : Nat} (Pv : Nat → List V → Hp → Prop) (hk : k ≤ 1000000) (h0 : Pv 0 [] H) (hz : ∀ i ys H, Pv i ys H → ys.length ≤ i)
    (hgo : ∀ i ys H, i < k → Pv i ys H → J.go i H ∧ ∀ x H', J.yld i H x H' → g x (σ ++ List.replicate n none) H' fun σ2 H2 => tf σ2 H2 fun b H3 => if b = true then te σ2 H3 (fun y H4 => Pv (i + 1) (ys ++ [y]) H4) else Pv (i + 1) ys H3)
    (hst : ∀ ys H, Pv k ys H → J.stop k H ∧ fin ys H) :
    ∃ W : Nat → Nat → List V → Hp → Prop, (∃ m, W 0 m [] H) ∧ ∀ i m ys H, W i m ys H → ys.length ≤ sizeLine ∧ ((J.stop i H ∧ fin ys H) ∨ (J.go i H ∧ ∃ (Y : V → Hp → Prop) (Z : Hp → Prop), (∀ y H4, Y y H4 → ys.length < sizeLine ∧ ∃ m', m' < m ∧ W (i + 1) m' (ys ++ [y]) H4) ∧
      (∀ H3, Z H3 → ∃ m', m' < m ∧ W (i + 1) m' ys H3) ∧ ∀ x H', J.yld i H x H' → g x (σ ++ List.replicate n none) H' fun σ2 H2 => tf σ2 H2 fun b H3 => if b = true then te σ2 H3 Y else Z H3)) := by
  have hl : sizeLine = 16777216 := sizeLine_eq
  refine ⟨fun i m ys H => m = k - i ∧ i ≤ k ∧ Pv i ys H, ⟨k, by simp, Nat.zero_le _, h0⟩, ?_⟩
  rintro i m ys H ⟨rfl, hi, p⟩
  have z := hz i ys H p
  refine ⟨by omega, ?_⟩
  by_cases hlt : i < k
  · obtain ⟨g1, g2⟩ := hgo i ys H hlt p
    exact .inr ⟨g1, fun y H4 => Pv (i + 1) (ys ++ [y]) H4, fun H3 => Pv (i + 1) ys H3, fun y H4 q => ⟨by omega, k - (i + 1), by omega, rfl, hlt, q⟩, fun H3 q => ⟨k - (i + 1), by omega, rfl, hlt, q⟩, g2⟩
  · have e : i = k := by omega
    subst e
    exact .inl (hst ys H p)
theorem comp_list {K : PySem.W.Frag} {a : Addr} {xs : List V} (Pv : Nat → List V → Hp → Prop) (hk : xs.length ≤ 1000000) (h0 : Pv 0 [] H) (hl : ∀ i ys H, Pv i ys H → SqL K H a xs) (hz : ∀ i ys H, Pv i ys H → ys.length ≤ i)
    (hgo : ∀ i x ys H, xs[i]? = some x → Pv i ys H → g x (σ ++ List.replicate n none) H fun σ2 H2 => tf σ2 H2 fun b H3 => if b = true then te σ2 H3 (fun y H4 => Pv (i + 1) (ys ++ [y]) H4) else Pv (i + 1) ys H3)
    (hst : ∀ ys H, Pv xs.length ys H → fin ys H) :
    ∃ W : Nat → Nat → List V → Hp → Prop, (∃ m, W 0 m [] H) ∧ ∀ i m ys H, W i m ys H → ys.length ≤ sizeLine ∧ (((Itl K a).stop i H ∧ fin ys H) ∨ ((Itl K a).go i H ∧ ∃ (Y : V → Hp → Prop) (Z : Hp → Prop), (∀ y H4, Y y H4 → ys.length < sizeLine ∧ ∃ m', m' < m ∧ W (i + 1) m' (ys ++ [y]) H4) ∧
      (∀ H3, Z H3 → ∃ m', m' < m ∧ W (i + 1) m' ys H3) ∧ ∀ x H', (Itl K a).yld i H x H' → g x (σ ++ List.replicate n none) H' fun σ2 H2 => tf σ2 H2 fun b H3 => if b = true then te σ2 H3 Y else Z H3)) :=
  comp_by Pv hk h0 hz (fun i ys H hi p => by
    have q := hl i ys H p
    refine ⟨⟨xs, xs[i], q, by simp [hi]⟩, fun x H' y => ?_⟩
    obtain ⟨e, y⟩ := y
    subst e
    exact hgo i x ys _ (y xs q) p) fun ys H p => ⟨⟨xs, hl _ ys H p, Nat.le_refl _⟩, hst ys H p⟩
theorem comp_tup {K : PySem.W.Frag} {a : Addr} {xs : List V} (Pv : Nat → List V → Hp → Prop) (hk : xs.length ≤ 1000000) (h0 : Pv 0 [] H) (hl : ∀ i ys H, Pv i ys H → SqT K H a xs) (hz : ∀ i ys H, Pv i ys H → ys.length ≤ i)
    (hgo : ∀ i x ys H, xs[i]? = some x → Pv i ys H → g x (σ ++ List.replicate n none) H fun σ2 H2 => tf σ2 H2 fun b H3 => if b = true then te σ2 H3 (fun y H4 => Pv (i + 1) (ys ++ [y]) H4) else Pv (i + 1) ys H3)
    (hst : ∀ ys H, Pv xs.length ys H → fin ys H) :
    ∃ W : Nat → Nat → List V → Hp → Prop, (∃ m, W 0 m [] H) ∧ ∀ i m ys H, W i m ys H → ys.length ≤ sizeLine ∧ (((Itt K a).stop i H ∧ fin ys H) ∨ ((Itt K a).go i H ∧ ∃ (Y : V → Hp → Prop) (Z : Hp → Prop), (∀ y H4, Y y H4 → ys.length < sizeLine ∧ ∃ m', m' < m ∧ W (i + 1) m' (ys ++ [y]) H4) ∧
      (∀ H3, Z H3 → ∃ m', m' < m ∧ W (i + 1) m' ys H3) ∧ ∀ x H', (Itt K a).yld i H x H' → g x (σ ++ List.replicate n none) H' fun σ2 H2 => tf σ2 H2 fun b H3 => if b = true then te σ2 H3 Y else Z H3)) :=
  comp_by Pv hk h0 hz (fun i ys H hi p => by
    have q := hl i ys H p
    refine ⟨⟨xs, xs[i], q, by simp [hi]⟩, fun x H' y => ?_⟩
    obtain ⟨e, y⟩ := y
    subst e
    exact hgo i x ys _ (y xs q) p) fun ys H p => ⟨⟨xs, hl _ ys H p, Nat.le_refl _⟩, hst ys H p⟩
theorem comp_range {lo : Int} {k : Nat} (Pv : Nat → List V → Hp → Prop) (hk : k ≤ 1000000) (h0 : Pv 0 [] H) (hz : ∀ i ys H, Pv i ys H → ys.length ≤ i)
    (hgo : ∀ i ys H, i < k → Pv i ys H → g (.int (lo + i)) (σ ++ List.replicate n none) H fun σ2 H2 => tf σ2 H2 fun b H3 => if b = true then te σ2 H3 (fun y H4 => Pv (i + 1) (ys ++ [y]) H4) else Pv (i + 1) ys H3)
    (hst : ∀ ys H, Pv k ys H → fin ys H) :
    ∃ W : Nat → Nat → List V → Hp → Prop, (∃ m, W 0 m [] H) ∧ ∀ i m ys H, W i m ys H → ys.length ≤ sizeLine ∧ (((Itr lo k).stop i H ∧ fin ys H) ∨ ((Itr lo k).go i H ∧ ∃ (Y : V → Hp → Prop) (Z : Hp → Prop), (∀ y H4, Y y H4 → ys.length < sizeLine ∧ ∃ m', m' < m ∧ W (i + 1) m' (ys ++ [y]) H4) ∧
      (∀ H3, Z H3 → ∃ m', m' < m ∧ W (i + 1) m' ys H3) ∧ ∀ x H', (Itr lo k).yld i H x H' → g x (σ ++ List.replicate n none) H' fun σ2 H2 => tf σ2 H2 fun b H3 => if b = true then te σ2 H3 Y else Z H3)) :=
  comp_by Pv hk h0 hz (fun i ys H hi p => ⟨hi, fun x H' y => by
    obtain ⟨e, y⟩ := y
    subst e y
    exact hgo i ys _ hi p⟩) fun ys H p => ⟨Nat.le_refl _, hst ys H p⟩
end
end L2
/-! all, max of lists, over the hand layer -/
namespace L2
open PySem PySem.Spec PyProof.Rows
theorem vals_at {ns : List Int} {its : List Value} (r : Vals (ns.map V.int) its) {i : Nat} {v : Value} (e : its.toArray[i]? = some v) : ∃ t, v = .int (ns.getD i 0) t := by
  have e' : its[i]? = some v := by simpa using e
  have hi : i < ns.length := by
    have h1 := r.length
    have h2 := (List.getElem?_eq_some_iff.mp e').1
    rw [List.length_map] at h1
    omega
  obtain ⟨u, q, t, z⟩ := r.get (i := i) (x := .int (ns[i])) (by simp [hi])
  rw [e'] at q
  cases q
  exact ⟨t, by rw [z]; simp [hi]⟩
theorem getD_lt {ns : List Int} {i : Nat} (h : i < ns.length) : ns.getD i 0 = ns[i] := by simp [h]
theorem bools_at {bs : List Bool} {its : List Value} (r : Vals (bs.map V.bl) its) {i : Nat} {v : Value} (e : its.toArray[i]? = some v) : v = .bool (bs.getD i true) := by
  have e' : its[i]? = some v := by simpa using e
  have hi : i < bs.length := by
    have h1 := r.length
    have h2 := (List.getElem?_eq_some_iff.mp e').1
    rw [List.length_map] at h1
    omega
  obtain ⟨u, q, z⟩ := r.get (i := i) (x := .bl (bs[i])) (by simp [hi])
  rw [e'] at q
  cases q
  rw [show v = Value.bool bs[i] from z]
  simp [hi]
theorem range_allB : ∀ (bs : List Bool), ((List.range bs.length).all fun i => bs.getD i true) = bs.all id
  | [] => rfl
  | b :: r => by
    rw [List.length_cons, List.range_succ_eq_map, List.all_cons, List.all_map, List.all_cons]
    have e : ((fun i => (b :: r).getD i true) ∘ Nat.succ) = fun i => r.getD i true := by
      funext i
      simp
    rw [e, range_allB r]
    simp
section
variable {prog : Program} {w : World} {A : Around} {R : Result → Shared → Prop} {I : Addr} {fp wr : List Addr} {n : Nat} {P : Nat → Value → Prop} {St : Nat → Heap → Prop} {kw : List (Str × Value)}
theorem max_nm : (toString "max" ++ toString ".loop" : String) = "max.loop" := by decide
theorem maxd_loop (W : Walks prog w A.in1 I fp wr n P St) (bt : Nat → Nat → Bool) (hcmp : CmpOf prog w A.in1 .Gt P bt) (S : Addr) (hSf : S ∉ fp) (k : Nat) :
    ∀ (j : Nat) (s : Shared) (vb : Value) (c : Nat) (_ : n - (j + 1) = k) (_ : j + 1 ≤ n) (_ : St (j + 1) s.heap) (_ : P (argBest bt j) vb) (_ : s.heap.get? S = some { cls := .type "list", dict := none, data := .seq #[vb, vb] c, slots := #[] })
      (_ : ∀ v h' tk, P (argBest bt (n - 1)) v → (∀ b o, b ∉ wr → b ≠ S → s.heap.get? b = some o → h'.get? b = some o) → R (.ok (.ret v)) { s with heap := h', toks := tk }),
      codeAny (model prog w) A (.builtin "max.loop" ⟨[.ref I, .none, .ref S], kw⟩) R s := by
  have hSw : S ∉ wr := fun h => hSf (W.sub _ h)
  induction k with
  | zero =>
    intro j s vb c hk hj hst hPb hS hR
    have hin : j + 1 = n := by omega
    refine codeAny_builtin (F.entry_max_loop) ?_
    rw [Around.under_plainId (F.plain_max_loop) _]
    refine wpAny_bind (m := seqItems? (.ref S)) (wpAny_seqItems hS rfl ?_)
    refine wpAny_bind (m := tryCatch (pyNext (.ref I)) _) (wpAny_tryCatch (W.done s _ _ (hin ▸ hst) fun h' tk hk' => ?_))
    have hS' := hk' S _ hSw hS
    refine wpAny_bind (m := updateSeq S (fun _ => #[])) ?_
    refine wpAny_updateSeq hS' rfl (wpAny_bind ((wpAny_letGo (wpAny_pure ?_))))
    exact hR vb _ tk (by rw [← hin]; exact hPb) fun b o hbw hbS e => ((Heap.get?_update_other _ _ (Ne.symm hbS)).trans (hk' b o hbw e))
  | succ k ih =>
    intro j s vb c hk hj hst hPb hS hR
    have hlt : j + 1 < n := by omega
    refine codeAny_builtin (F.entry_max_loop) ?_
    rw [Around.under_plainId (F.plain_max_loop) _]
    refine wpAny_bind (m := seqItems? (.ref S)) (wpAny_seqItems hS rfl ?_)
    refine wpAny_bind (m := tryCatch (pyNext (.ref I)) _) (wpAny_tryCatch (W.item (j + 1) s _ _ hlt hst fun v h' tk hP hst' hk' => ?_))
    have hS' := hk' S _ hSw hS
    refine wpAny_bind (m := tryCatch (holding [v, v] (richCompare .Gt v vb >>= _)) _) (wpAny_tryCatch (wpAny_holding (wpAny_bind (hcmp (j + 1) (argBest bt j) v vb _ _ _ hP hPb ?_))))
    refine wpAny_bind ((wpAny_holding (wpAny_truthy_bool ?_)))
    refine wpAny_bind ((wpAny_letGo (wpAny_pure ?_)))
    cases hb : bt (j + 1) (argBest bt j) with
    | true =>
      simp only [if_true]
      refine wpAny_bind ?_
      refine wpAny_updateSeq hS' rfl (wpAny_bind ((wpAny_letGo ?_)))
      rw [max_nm]
      refine wpAny_pure ⟨plainId_quiet (F.plain_max_loop) _, ih (j + 1) _ v _ (by omega) hlt (W.frame _ _ _ hst' fun b hbf o e => ?_) (by simp only [argBest, hb, if_true]; exact hP) (Heap.get?_update_self _ hS' rfl) fun v' h'' tk'' hP' hk'' => ?_⟩
      · exact ((Heap.get?_update_other _ _ (fun h : S = b => hSf (by rw [h]; exact hbf))).trans e)
      · exact hR v' h'' tk'' hP' fun b o hbw hbS e => (hk'' b o hbw hbS ((Heap.get?_update_other _ _ (Ne.symm hbS)).trans (hk' b o hbw e)))
    | false =>
      simp only [Bool.false_eq_true, if_false]
      refine wpAny_bind ((wpAny_letGo ?_))
      rw [max_nm]
      refine wpAny_pure ⟨plainId_quiet (F.plain_max_loop) _, ih (j + 1) _ vb c (by omega) hlt hst' (by simp only [argBest, hb, Bool.false_eq_true, if_false]; exact hPb) hS' fun v' h'' tk'' hP' hk'' => ?_⟩
      exact hR v' h'' tk'' hP' fun b o hbw hbS e => (hk'' b o hbw hbS (hk' b o hbw e))
end
section
variable {prog : Program} {w : World} {A : Around} {E : Value → Shared → Prop} {s : Shared}
theorem max_dflt (a v : Value) : argsOk "max" ⟨[a], [(Str.ofString "default", v)]⟩ := by unfold argsOk; kernel_rfl
theorem call_maxd {l : Addr} {its : List Value} {ns : List Int} {d : Int} {td : Tok} {Q : Value → Shared → Prop} (hh : A.handled = none) (hl : s.heap.IsList l its.toArray) (r : Vals (ns.map V.int) its)
    (hQ : ∀ M t h' tk, ((ns = [] ∧ M = d) ∨ (M ∈ ns ∧ ∀ a, a ∈ ns → a ≤ M)) → (∀ b o, s.heap.get? b = some o → h'.get? b = some o) → Q (.int M t) { s with heap := h', toks := tk }) :
    wpAny (model prog w) A (call (.builtin "max") [.ref l] [(Str.ofString "default", .int d td)]) Q E s := by
  have hlt : l < s.heap.objs.size := by obtain ⟨_, e, _⟩ := hl; exact Heap.lt_size e
  have hlen : ns.length = its.length := by rw [← r.length, List.length_map]
  refine kmk_tree PySem.F.kind_max PySem.F.plain_max PySem.F.entry_max (max_dflt _ _) ?_
  refine wpAny_bind (m := Builtin.Builtins.bindParams "max" ["key", "default"] 0 ⟨[], [(Str.ofString "default", .int d td)]⟩) (wpAny_of_eq (show _ = pure [none, some (.int d td)] from rfl) ?_)
  refine wpAny_bind (wpAny_pure ?_)
  refine wpAny_bind (wpAny_pyIter_list hl ?_)
  refine wpAny_bind (wpAny_newObj_type ?_)
  rw [max_nm]
  refine wpAny_pure ⟨plainId_quiet (F.plain_max_loop) _, ?_⟩
  generalize hG : s.heap.push { cls := .type "list_iterator", data := .fields #[.ref l, .int 0 0] } = G
  have szG : G.objs.size = s.heap.objs.size + 1 := by rw [← hG, Heap.size_push]
  have W := Walks.list (prog := prog) (w := w) (A := A.in1) hh s.heap.objs.size l (Nat.ne_of_lt hlt) its.toArray
  have hSf : G.objs.size ∉ [s.heap.objs.size, l] := fun h => by
    have q : G.objs.size < G.objs.size := by
      rcases List.mem_cons.mp h with h | h
      · exact absurd h (by rw [szG]; exact Nat.ne_of_gt (Nat.lt_succ_self _))
      · exact absurd (List.mem_singleton.mp h) (by rw [szG]; exact Nat.ne_of_gt (Nat.lt_succ_of_lt hlt))
    exact Nat.lt_irrefl _ q
  have up : ∀ (o' : Obj) b o, s.heap.get? b = some o → (G.push o').get? b = some o := fun o' b o e => Heap.get?_push_of_some _ (by rw [← hG]; exact Heap.get?_push_of_some _ e)
  have gI : ∀ o' : Obj, (G.push o').get? s.heap.objs.size = some { cls := .type "list_iterator", data := .fields #[.ref l, .int 0 0] } := fun o' => Heap.get?_push_of_some _ (by rw [← hG]; exact Heap.get?_push_size _ rfl)
  have gS : (G.push { cls := .type "list", dict := none, data := .seq ([] : List Value).toArray }).get? G.objs.size = some { cls := .type "list", dict := none, data := .seq #[] 0, slots := #[] } := Heap.get?_push_size _ rfl
  have hst : ∀ o' : Obj, (G.push o').IsListIter s.heap.objs.size l 0 ∧ (G.push o').IsList l its.toArray := fun o' => by
    obtain ⟨ol, e, rr⟩ := hl
    exact ⟨⟨_, gI o', rfl, rfl⟩, ⟨ol, up o' _ _ e, rr⟩⟩
  refine codeAny_builtin (F.entry_max_loop) ?_
  rw [Around.under_plainId (F.plain_max_loop) _]
  refine wpAny_bind (m := seqItems? (.ref G.objs.size)) (wpAny_seqItems gS rfl ?_)
  have hSw : G.objs.size ∉ [s.heap.objs.size] := fun h => hSf (by rcases List.mem_cons.mp h with h | h; exact h ▸ List.mem_cons_self; cases h)
  by_cases hn : its = []
  · subst hn
    refine wpAny_bind (m := tryCatch (pyNext (.ref s.heap.objs.size)) _) (wpAny_tryCatch (W.done _ _ _ (hst _) fun h' tk hk' => ?_))
    refine wpAny_bind (wpAny_rule (wpAny_pure ?_))
    refine hQ d td h' tk (.inl ⟨List.length_eq_zero_iff.mp hlen, rfl⟩) fun b o e => hk' b o (fun z => Nat.ne_of_lt (Heap.lt_size e) (List.mem_singleton.mp z)) (up _ b o e)
  · have hpos : 0 < its.toArray.size := by rw [List.size_toArray]; exact List.length_pos_iff.mpr hn
    refine wpAny_bind (m := tryCatch (pyNext (.ref s.heap.objs.size)) _) (wpAny_tryCatch (W.item 0 _ _ _ hpos (hst _) fun v h' tk hP hst' hk' => ?_))
    have hS' := hk' _ _ hSw gS
    refine wpAny_bind (m := updateSeq G.objs.size (fun _ => #[v, v])) ?_
    refine wpAny_updateSeq hS' rfl ?_
    rw [max_nm]
    refine wpAny_pure ⟨plainId_quiet (F.plain_max_loop) _, maxd_loop W _ (CmpOf.ints_gt (fun i => ns.getD i 0) fun i v e => vals_at r e) G.objs.size hSf _ 0 _ v _ rfl hpos (W.frame _ _ _ hst' fun b hbf o e => ?_) hP (Heap.get?_update_self _ hS' rfl) fun v' h'' tk'' hP' hk'' => ?_⟩
    · exact ((Heap.get?_update_other _ _ (fun h : G.objs.size = b => hSf (by rw [h]; exact hbf))).trans e)
    · obtain ⟨t, rfl⟩ := vals_at r hP'
      have hsz : its.toArray.size = ns.length := by rw [List.size_toArray, hlen]
      rw [hsz] at hpos
      obtain ⟨h1, h2⟩ := argBest_gt (fun i => ns.getD i 0) (its.toArray.size - 1)
      rw [hsz] at h1 h2 hP' ⊢
      refine hQ _ t h'' tk'' (.inr ⟨?_, fun a ha => ?_⟩) fun b o e => ?_
      · have hb : argBest (fun i j => decide (ns.getD i 0 > ns.getD j 0)) (ns.length - 1) < ns.length := by omega
        rw [getD_lt hb]
        exact List.getElem_mem hb
      · obtain ⟨i, hi, rfl⟩ := List.getElem_of_mem ha
        have := h2 i (by omega)
        rw [getD_lt hi] at this
        exact this
      · have hb := Heap.lt_size e
        have hbI : b ∉ [s.heap.objs.size] := fun z => Nat.ne_of_lt hb (List.mem_singleton.mp z)
        have hbG : b ≠ G.objs.size := by rw [szG]; exact Nat.ne_of_lt (Nat.lt_succ_of_lt hb)
        exact hk'' b o hbI hbG ((Heap.get?_update_other _ _ hbG.symm).trans (hk' b o hbI (up _ b o e)))
end
section
variable {X : Cx}
/-- all of a list of truths -/
theorem call_allB (hc : X.calm = true) : CallR X (.builtin "all") (fun xs H Q => ∃ (l : Addr) (bs : List Bool), xs = [.ref l] ∧ SqL X.K H l (bs.map V.bl) ∧ Q (.bl (bs.all id)) H) := by
  intro pins s σ H xs us Q I r h
  obtain ⟨l, bs, rfl, hq, q⟩ := h
  obtain ⟨u, rfl, rx⟩ := vals1 r
  cases rx
  obtain ⟨its, r', pl, hz⟩ := I.list hq
  have hl := pl.isList
  have hlt : l < s.heap.objs.size := by obtain ⟨_, e, _⟩ := hl; exact Heap.lt_size e
  have hlen : bs.length = its.length := by rw [← r'.length, List.length_map]
  refine call_all_walk (wpAny_pyIter_list hl ?_)
  refine ⟨s.heap.objs.size, _, _, its.toArray.size, _, _, fun i => bs.getD i true, rfl, Walks.list (A := X.A.in1) (I.ok.hd hc) _ l (Nat.ne_of_lt hlt) its.toArray, ⟨⟨_, Heap.get?_push_size _ rfl, rfl, rfl⟩, hl.push _⟩, fun i v s' Q' E' hP hQ => ?_, fun h' tk hk => ?_⟩
  · rw [bools_at r' hP]
    exact wpAny_truthy_bool hQ
  · rw [List.size_toArray, ← hlen, range_allB]
    exact ⟨.bl (bs.all id), H, I.kept fun b o e => hk b o (fun z => Nat.ne_of_lt (Heap.lt_size e) (List.mem_singleton.mp z)) (Heap.get?_push_of_some _ e), rfl, q⟩
/-- max(xs, default=d) of ints -/
def tMaxd (K : PySem.W.Frag) (ta : TA) (td : TE) : TE := fun σ H Q => ta σ H fun vs H1 => td σ H1 fun y H2 => ∃ (l : Addr) (ns : List Int) (d : Int), vs = [.ref l] ∧ y = .int d ∧ SqL K H2 l (ns.map V.int) ∧ ∀ M, ((ns = [] ∧ M = d) ∨ (M ∈ ns ∧ ∀ a, a ∈ ns → a ≤ M)) → Q (.int M) H2
theorem pe_maxd {e d : Expr} {ta : TA} {td : TE} {p pos kp : Pos} (hc : X.calm = true) (hg : Gl X "max") (hm : X.mg "max" = none) (ha : PA X [e] ta) (hd : PE X d td) (he : starEach [e] X.env = [(false, eval e X.env)] := by rfl) (hpl : (backTo pos (starEach [e] X.env)).any (·.1) = false := by rfl) :
    PE X (.Call (.Name "max" p) [e] [⟨some "default", d, kp⟩] pos) (tMaxd X.K ta td) := by
  intro pins s σ H Q I h
  refine wpAny_Call_Name_kw (ld_blt I hg hm boot_max ?_)
  refine callWith_kw (thn (ha pos pins s σ H _ I h) fun us s1 ⟨vs, H1, I1, r1, q1⟩ => ?_) (by rw [he]; rfl) hpl
  refine kws_cons (thn (hd pins s1 σ H1 _ I1 q1) fun w' s2 ⟨y, H2, I2, ry, l, ns, d', e2, e3, hq, q⟩ => kws_nil ?_)
  subst e2 e3
  obtain ⟨u, rfl, rx⟩ := vals1 r1
  cases rx
  obtain ⟨t, rfl⟩ := ry
  obtain ⟨its, r', pl, hz⟩ := I2.list hq
  exact call_maxd (I2.ok.hd hc) pl.isList r' fun M t' h' tk hM k => ⟨.int M, H2, I2.kept k, ⟨_, rfl⟩, q M hM⟩
end
end L2
namespace L2
open PySem PySem.Spec PyProof.Rows
/-- f 0, f 1, .. (n of them) -/
def Itf (f : Nat → V) (n : Nat) : It := ⟨fun i _ => i < n, fun i H x H' => H' = H ∧ x = f i, fun i _ => i = n⟩
theorem turn_walk {P : Program} {w : World} {K : PySem.W.Frag} {tg : Expr} {it : Addr} {n : Nat} {Pq : Nat → Value → Prop} {St : Nat → Heap → Prop} {f : Nat → V} {nm : String}
    (W : ∀ A : Around, A.handled = none → Walks P w A it [it] [it] n Pq St) (ho : ∀ i h, St i h → ∃ o vs, h.get? it = some o ∧ o.cls = .type nm ∧ o.data = .fields vs)
    (hfr : ∀ i h h', St i h → (∀ b ∈ [it], ∀ o, h.get? b = some o → h'.get? b = some o) → St i h') (hn : ["enumerate", "zip", "dict_itemiterator", "dict_reverseitemiterator", "odict_iterator", "itertools.zip_longest", "itertools.pairwise"].contains nm = false)
    (hP : ∀ i v, i < n → Pq i v → RelV (f i) v) (hself : ∀ (A : Around) (i : Nat) (s : Shared) (Q : Value → Shared → Prop) (E : Value → Shared → Prop), St i s.heap → Q (.ref it) s → wpAny (model P w) A (pyIter (.ref it)) Q E s) : Turn P w K tg (Itf f n) [it] it St where
  mem := by simp
  obj := fun i h st b hb => by
    have e : b = it := by simpa using hb
    subst e
    obtain ⟨o, vs, e, c, d⟩ := ho i h st
    exact ⟨o, e, fun v z => by rw [d] at z; cases z⟩
  keep := fun i h h' st k => hfr i h h' st k
  item := by
    intro X hP' hw hK hc i pins s σ H E I hf st hg
    subst hP' hw hK
    obtain ⟨f0, f1, f2, f3, f4, f5⟩ := hf it (by simp)
    refine (W X.A (I.ok.hd hc)).item i s _ _ hg st fun v h' tk hv st' kk => ?_
    have I1 : Inv X pins σ H { s with heap := h', toks := tk } := I.turned (fun b o hb e => kk b o (by simpa using hb) e) f0 f1 f3 f4 f5
    obtain ⟨o, vs, e, c, d⟩ := ho _ _ st'
    exact ⟨v, rfl, go_of (s := { s with heap := h', toks := tk }) e c d hn ⟨f i, H, I1, hP i v hg hv, ⟨rfl, rfl⟩, st', fun b hb => (hf b hb).1⟩⟩
  done := by
    intro X hP' hw hK hc i pins s σ H E I hf st hg
    subst hP' hw hK
    obtain ⟨f0, f1, f2, f3, f4, f5⟩ := hf it (by simp)
    have e : i = n := hg
    subst e
    exact (W X.A (I.ok.hd hc)).done s _ _ st fun h' tk kk => ⟨rfl, I.turned (fun b o hb e => kk b o (by simpa using hb) e) f0 f1 f3 f4 f5⟩
  self := hself
theorem for_f {f : Nat → V} {n : Nat} {g : TG} {tb : TS} {D : Ends} {σ : St} {H : Hp} (Pv : Nat → St → Hp → Prop) (h0 : Pv 0 σ H)
    (hs : ∀ i σ H, i < n → Pv i σ H → g (f i) σ H fun σ2 H2 => tb { D with nx := Pv (i + 1), ct := Pv (i + 1), bk := D.nx } σ2 H2) (hd : ∀ σ H, Pv n σ H → D.nx σ H) :
    ∃ W : Nat → Nat → St → Hp → Prop, (∃ m, W 0 m σ H) ∧ ∀ i m σ H, W i m σ H →
      ((Itf f n).stop i H ∧ D.nx σ H) ∨ ((Itf f n).go i H ∧ ∃ N : St → Hp → Prop, (∀ σ' H', N σ' H' → ∃ m', m' < m ∧ W (i + 1) m' σ' H') ∧ ∀ x H', (Itf f n).yld i H x H' → g x σ H' fun σ2 H2 => tb { D with nx := N, ct := N, bk := D.nx } σ2 H2) := by
  refine ⟨fun i m σ H => m = n - i ∧ i ≤ n ∧ Pv i σ H, ⟨n, by simp, Nat.zero_le _, h0⟩, ?_⟩
  rintro i m σ H ⟨rfl, hi, p⟩
  by_cases hlt : i < n
  · refine .inr ⟨hlt, Pv (i + 1), fun σ' H' p' => ⟨n - (i + 1), by omega, rfl, hlt, p'⟩, fun x H' y => ?_⟩
    obtain ⟨e, y⟩ := y
    subst e y
    exact hs i σ _ hlt p
  · have e : i = n := by omega
    subst e
    exact .inl ⟨rfl, hd σ H p⟩
section
variable {g : TG} {tf : TT} {te : TE} {fin : List V → Hp → Prop} {n : Nat} {σ : St} {H : Hp}
theorem comp_f {f : Nat → V} {k : Nat} (Pv : Nat → List V → Hp → Prop) (hk : k ≤ 1000000) (h0 : Pv 0 [] H) (hz : ∀ i ys H, Pv i ys H → ys.length ≤ i)
    (hgo : ∀ i ys H, i < k → Pv i ys H → g (f i) (σ ++ List.replicate n none) H fun σ2 H2 => tf σ2 H2 fun b H3 => if b = true then te σ2 H3 (fun y H4 => Pv (i + 1) (ys ++ [y]) H4) else Pv (i + 1) ys H3)
    (hst : ∀ ys H, Pv k ys H → fin ys H) :
    ∃ W : Nat → Nat → List V → Hp → Prop, (∃ m, W 0 m [] H) ∧ ∀ i m ys H, W i m ys H → ys.length ≤ sizeLine ∧ (((Itf f k).stop i H ∧ fin ys H) ∨ ((Itf f k).go i H ∧ ∃ (Y : V → Hp → Prop) (Z : Hp → Prop), (∀ y H4, Y y H4 → ys.length < sizeLine ∧ ∃ m', m' < m ∧ W (i + 1) m' (ys ++ [y]) H4) ∧
      (∀ H3, Z H3 → ∃ m', m' < m ∧ W (i + 1) m' ys H3) ∧ ∀ x H', (Itf f k).yld i H x H' → g x (σ ++ List.replicate n none) H' fun σ2 H2 => tf σ2 H2 fun b H3 => if b = true then te σ2 H3 Y else Z H3)) :=
  comp_by Pv hk h0 hz (fun i ys H hi p => ⟨hi, fun x H' y => by
    obtain ⟨e, y⟩ := y
    subst e y
    exact hgo i ys _ hi p⟩) fun ys H p => ⟨rfl, hst ys H p⟩
end
/-! ### a text walked -/
def sgn (z : Str) (i : Nat) : V := .str ⟨#[z.cps.getD i 0]⟩
def iTxt (tl : TE) : TI := fun σ H R => tl σ H fun x H1 => ∃ z, x = .str z ∧ R (Itf (sgn z) z.cps.size) H1
theorem striter_fields {h : Heap} {it : Addr} {nm : String} {x : Str} {t : Tok} {i : Nat} (st : h.IsStrIter it nm x t i) : ∃ o vs, h.get? it = some o ∧ o.cls = .type nm ∧ o.data = .fields vs := by
  obtain ⟨o, e, c, d⟩ := st
  exact ⟨o, _, e, c, d⟩
theorem striter_keep {h h' : Heap} {it : Addr} {nm : String} {x : Str} {t : Tok} {i : Nat} (st : h.IsStrIter it nm x t i) (k : ∀ b ∈ [it], ∀ o, h.get? b = some o → h'.get? b = some o) : h'.IsStrIter it nm x t i := let ⟨o, ho, r⟩ := st; ⟨o, k it (by simp) o ho, r⟩
theorem sgn_rel {z : Str} {i : Nat} {v : Value} (h : SignAt z i v) : RelV (sgn z i) v := by
  obtain ⟨c, u, e, rfl⟩ := h
  refine ⟨u, ?_⟩
  have : z.cps.getD i 0 = c := by simp [Array.getD_eq_getD_getElem?, e]
  rw [this]
theorem pi_txt {X : Cx} {tg : Expr} {l : Expr} {tl : TE} (hl : PE X l tl) : PI X tg l (iTxt tl) := by
  intro pins s σ H R I h
  refine thn (hl pins s σ H _ I h) fun v s1 ⟨x, H1, I1, r1, q1⟩ => ?_
  obtain ⟨z, e, q⟩ := q1
  subst e
  obtain ⟨t, rfl⟩ := r1
  have fp : ∀ b ∈ [s1.heap.objs.size], FpOk X pins H1 b := fun b hb => by
    have e : b = s1.heap.objs.size := by simpa using hb
    subst e
    exact I1.fpOk (Nat.le_refl _) (I1.hok.fresh (Nat.le_refl _))
  cases ha : z.cps.all (· < 128)
  · refine wpAny_pyIter_wide ha ?_
    exact ⟨s1.heap.objs.size, [s1.heap.objs.size], _, _, H1, rfl, I1.kept (t' := s1.toks) fun b o e => Heap.get?_push_of_some _ e, turn_walk (nm := "str_iterator") (St := fun i h => h.IsStrIter s1.heap.objs.size "str_iterator" z t i) (fun A hA => Walks.strWide hA _ z t) (fun i h st => striter_fields st) (fun i h h' st k => striter_keep st k) (by decide) (fun i v _ hv => sgn_rel hv) (fun A i s Q E st q => wpAny_pyIter_striter_wide st q), ⟨_, Heap.get?_push_size _ rfl, rfl, rfl⟩, fp, q⟩
  · refine wpAny_pyIter_ascii ha ?_
    exact ⟨s1.heap.objs.size, [s1.heap.objs.size], _, _, H1, rfl, I1.kept (t' := s1.toks) fun b o e => Heap.get?_push_of_some _ e, turn_walk (nm := "str_ascii_iterator") (St := fun i h => h.IsStrIter s1.heap.objs.size "str_ascii_iterator" z t i) (fun A hA => Walks.strAscii hA _ z t) (fun i h st => striter_fields st) (fun i h h' st k => striter_keep st k) (by decide) (fun i v _ hv => sgn_rel hv) (fun A i s Q E st q => wpAny_pyIter_striter_ascii st q), ⟨_, Heap.get?_push_size _ rfl, rfl, rfl⟩, fp, q⟩
end L2
namespace L2
open PySem PySem.Spec PyProof.Rows
variable {X : Cx}
theorem sl_txt : SlR X (fun x lo hi H Q => ∃ z, x = .str z ∧ z.length ≤ sizeLine ∧ Q (.str (Txt.slice z lo hi)) H) := by
  intro pins s σ H x v vl vu lo hi sl Q I rx hs pl pu q
  obtain ⟨z, rfl, hz, q⟩ := q
  obtain ⟨t, rfl⟩ := rx
  obtain ⟨o, e, c, d⟩ := hs
  have hp : ∀ {v : Value} {o : Option Int}, IsPart v o → ∃ p : Option (Int × Tok), v = partValue p ∧ p.map (·.1) = o := by
    intro v o h
    cases h with
    | none => exact ⟨none, rfl, rfl⟩
    | int i t => exact ⟨some (i, t), rfl, rfl⟩
  obtain ⟨l, rfl, hl⟩ := hp pl
  obtain ⟨u, rfl, hu⟩ := hp pu
  subst hl hu
  refine ⟨"str", _, F.slot_str_getitem.lookup, typeIs_str _ _ _, wpAny_getItem_str_slice (l := l) (u := u) (st := none) ⟨o, e, c, d⟩ rfl ?_⟩
  exact post_val_or_str ⟨Nat.le_trans (Txt.slice_le z _ _) hz, fun t' k => ⟨.str (Txt.slice z (l.map (·.1)) (u.map (·.1))), H, I.tok _, ⟨t', rfl⟩, q⟩⟩
theorem strvals {ts : List Str} : ∀ {its : List Value}, Vals (ts.map V.str) its → ∃ l : List (Str × Tok), its = strValues l ∧ l.map (·.1) = ts := by
  induction ts with
  | nil => intro its r; cases r; exact ⟨[], rfl, rfl⟩
  | cons a ts ih =>
    intro its r
    rw [List.map_cons] at r
    cases r with
    | cons r1 r2 =>
      obtain ⟨t, rfl⟩ := r1
      obtain ⟨l, rfl, rfl⟩ := ih r2
      exact ⟨(a, t) :: l, rfl, rfl⟩
theorem mt_join : MtM X "str.join" (fun x xs H Q => ∃ (z : Str) (l : Addr) (ts : List Str), x = .str z ∧ xs = [.ref l] ∧ SqL X.K H l (ts.map V.str) ∧ JoinOk z ts = true ∧ Q (.str (Txt.join z ts)) H) := by
  intro pins s σ H x xs v us Q I rx rs h
  obtain ⟨z, l, ts, rfl, rfl, hq, hok, q⟩ := h
  obtain ⟨t, rfl⟩ := rx
  obtain ⟨u, rfl, ru⟩ := vals1 rs
  cases ru
  obtain ⟨its, r', pl, hz⟩ := I.list hq
  obtain ⟨ls, rfl, rfl⟩ := strvals r'
  exact SC.join pl.isList rfl hok fun t' k => ⟨.str (Txt.join z (ls.map (·.1))), H, I.tok _, ⟨t', rfl⟩, q⟩
theorem signs_vals {z : Str} {acc : Array Value} (h : ItemsOf (SignAt z) acc z.cps.size) : Vals ((List.range z.cps.size).map (sgn z)) acc.toList := by
  obtain ⟨h1, h2⟩ := h
  have gen : ∀ (n k : Nat) (ls : List Value), ls.length = n → (∀ j v, ls[j]? = some v → SignAt z (k + j) v) → Vals ((List.range' k n).map (sgn z)) ls := by
    intro n
    induction n with
    | zero => intro k ls hl _; have : ls = [] := List.length_eq_zero_iff.mp hl; subst this; exact .nil
    | succ n ih =>
      intro k ls hl hh
      cases ls with
      | nil => cases hl
      | cons v ls =>
        rw [List.range'_succ, List.map_cons]
        refine .cons (sgn_rel (by simpa using hh 0 v rfl)) (ih (k + 1) ls (by simpa using hl) fun j v e => ?_)
        have := hh (j + 1) v (by simpa using e)
        rwa [show k + (j + 1) = k + 1 + j by omega] at this
  rw [List.range_eq_range']
  refine gen _ 0 _ (by simpa using h1) fun j v e => ?_
  rw [Nat.zero_add]
  exact h2 j v (by simpa using e)
theorem call_list_txt (hc : X.calm = true) : CallR X (.type "list") (fun xs H Q => ∃ z, xs = [.str z] ∧ z.cps.size ≤ sizeLine ∧ ∀ l, H l = none → Q (.ref l) (upd H l (.lst ((List.range z.cps.size).map (sgn z))))) := by
  intro pins s σ H xs us Q I r h
  obtain ⟨z, rfl, hz, q⟩ := h
  obtain ⟨u, rfl, t, rfl⟩ := vals1 r
  refine call_list_str (I.ok.hd hc) z t (fun h' tk acc c' kp e it => ?_) hz
  have hv := signs_vals it
  exact ⟨.ref s.heap.objs.size, _, I.laid (t' := tk) kp (Nat.le_refl _) (show ObjOk X.prog X.w _ h' _ (.lst _) from ⟨by simpa using hz, acc.toList, c', hv, by simpa using e⟩), rfl, q _ (I.hok.fresh (Nat.le_refl _))⟩
theorem call_tuple_txt (hc : X.calm = true) : CallR X (.type "tuple") (fun xs H Q => ∃ z, xs = [.str z] ∧ z.cps.size ≤ sizeLine ∧ ∀ l, H l = none → Q (.ref l) (upd H l (.tup ((List.range z.cps.size).map (sgn z))))) := by
  intro pins s σ H xs us Q I r h
  obtain ⟨z, rfl, hz, q⟩ := h
  obtain ⟨u, rfl, t, rfl⟩ := vals1 r
  refine call_tuple_str (I.ok.hd hc) z t (fun h' tk acc kp it => ?_) hz
  have hv := signs_vals it
  have I1 : Inv X pins σ H { s with heap := h', toks := tk } := I.kept kp
  have I2 : Inv X pins σ (upd H h'.objs.size (.tup ((List.range z.cps.size).map (sgn z)))) { s with heap := h'.push { cls := .type "tuple", data := .seq acc }, toks := tk } :=
    I1.laid (t' := tk) (fun b o e => Heap.get?_push_of_some _ e) (Nat.le_refl _) (show ObjOk X.prog X.w _ _ _ (.tup _) from ⟨by simpa using hz, acc.toList, hv, by simpa using IsTup.new h' acc, _, Heap.get?_push_size _ rfl, rfl⟩)
  exact ⟨.ref h'.objs.size, _, I2, rfl, q _ (I1.hok.fresh (Nat.le_refl _))⟩
end L2
namespace L2
open PySem PySem.Spec PyProof.Rows
variable {X : Cx}
theorem sys_below {pins : List (Addr × Obj)} {σ : St} {H : Hp} {s : Shared} (I : Inv X pins σ H s) : sysModules < s.heap.objs.size := by
  have h : mainGlobals < s.heap.objs.size := (I.mod.glob.keeps I.bk).lt
  exact Nat.lt_trans (by decide) h
def tDict0 : TE := fun _ H Q => ∀ p, H p = none → Q (.ref p) (upd H p (.dK []))
theorem pe_dict0 {pos : Pos} : PE X (.Dict [] [] pos) tDict0 := fun pins s σ H Q I h =>
  wpAny_Dict_empty ⟨.ref s.heap.objs.size, _, I.laid (a := s.heap.objs.size) (o := .dK []) (t' := s.toks) (fun _ _ q => Heap.get?_push_of_some _ q) (Nat.le_refl _)
    ⟨Nat.zero_le _, beq_eq_false_iff_ne.mpr (Ne.symm (Nat.ne_of_lt (sys_below I))), [], .nil, Heap.DictOf.new s.heap⟩, rfl, h _ (I.hok.fresh (Nat.le_refl _))⟩
def tDict1 (k : Str) (n : Int) : TE := fun _ H Q => ∀ p, H p = none → Q (.ref p) (upd H p (.dK [(Sum.inr k, .int n)]))
theorem pe_dict1 {k : Str} {n : Int} {j1 j2 p1 p2 pos} : PE X (.Dict [some (.Constant (.str k) j1 p1)] [.Constant (.int n) j2 p2] pos) (tDict1 k n) := by
  intro pins s σ H Q I q
  refine wpAny_Dict_walk (knd := mixKind X.prog X.w) rfl rfl (by simp) (by show 1 ≤ 15; decide) (pairTrees_cons_walk (Calls.Constant_str (wpAny_Constant_int (pairTrees_nil_walk ?_))))
  refine ⟨[(Sum.inr k, .int n _)], ⟨by simp [mixKind, keyIs, Value.isStrOf], rfl, True.intro⟩, Heap.DictOf.new s.heap, fun h' dd hs => ?_⟩
  refine ⟨.ref s.heap.objs.size, _, I.laid (a := s.heap.objs.size) (o := .dK [(Sum.inr k, .int n)]) (h' := h') (fun b o e => ?_) (Nat.le_refl _) ⟨(by show 1 ≤ sizeLine; decide), beq_eq_false_iff_ne.mpr (Ne.symm (Nat.ne_of_lt (sys_below I))), _, .cons ⟨rfl, _, rfl⟩ .nil, dd⟩, rfl, q _ (I.hok.fresh (Nat.le_refl _))⟩
  exact (hs.2 b (Nat.ne_of_lt (Heap.lt_size e))).trans (Heap.get?_push_of_some _ e)
end L2
namespace L2
open PySem PySem.Spec PyProof.Rows
variable {X : Cx} {K : PySem.W.Frag}
theorem call_isiK (hK : X.K = K) : CallR X (.builtin "isinstance") (fun xs H Q => ∃ x t n b, xs = [x, .ty n] ∧ TyOf K H x t ∧ PySem.W.kitOne K t (.type n) = some b ∧ Q (.bl b) H) := by
  subst hK; exact call_isi
theorem ix_listK (hK : X.K = K) : IxR X (rIxL K) := by subst hK; exact ix_list
theorem ix_tupK (hK : X.K = K) : IxR X (rIxT K) := by subst hK; exact ix_tup
theorem call_len_seqK (hK : X.K = K) : CallR X (.builtin "len") (fun xs H Q => ∃ p ys, xs = [.ref p] ∧ (SqL K H p ys ∨ SqT K H p ys) ∧ Q (.int ys.length) H) := by subst hK; exact call_len_seq
theorem call_allBK (hc : X.calm = true) (hK : X.K = K) : CallR X (.builtin "all") (fun xs H Q => ∃ (l : Addr) (bs : List Bool), xs = [.ref l] ∧ SqL K H l (bs.map V.bl) ∧ Q (.bl (bs.all id)) H) := by subst hK; exact call_allB hc
theorem pi_listK {tg l : Expr} {tl : TE} (hK : X.K = K) (hl : PE X l tl) : PI X tg l (iList K tl) := by subst hK; exact pi_list hl
theorem pi_tupK {tg l : Expr} {tl : TE} (hK : X.K = K) (hl : PE X l tl) : PI X tg l (iTup K tl) := by subst hK; exact pi_tup hl
theorem mt_joinK (hK : X.K = K) : MtM X "str.join" (fun x xs H Q => ∃ (z : Str) (l : Addr) (ts : List Str), x = .str z ∧ xs = [.ref l] ∧ SqL K H l (ts.map V.str) ∧ JoinOk z ts = true ∧ Q (.str (Txt.join z ts)) H) := by subst hK; exact mt_join
theorem call_list_ofK (hK : X.K = K) : CallR X (.type "list") (fun xs H Q => ∃ p ys, xs = [.ref p] ∧ (SqL K H p ys ∨ SqT K H p ys) ∧ ∀ l, H l = none → Q (.ref l) (upd H l (.lst ys))) := by subst hK; exact call_list_of
theorem call_tuple_ofK (hK : X.K = K) : CallR X (.type "tuple") (fun xs H Q => ∃ p ys, xs = [.ref p] ∧ ((SqL K H p ys ∧ ∀ l, H l = none → Q (.ref l) (upd H l (.tup ys))) ∨ (SqT K H p ys ∧ Q (.ref p) H))) := by subst hK; exact call_tuple_of
end L2
namespace L2
open PySem PySem.Spec PyProof.Rows
/-- a word kept from being unfolded while a term is read -/
structure Hid (p : Prop) : Prop where
  out : p
section
variable {X : Cx} {st : Stmt} {rest : List Stmt} {t u : TS} {pos : Pos}
theorem hs_cons (h1 : Hid (PS X st t)) (h2 : Hid (PSs X rest u)) : Hid (PSs X (st :: rest) (tSeq t u)) := ⟨pss_cons h1.out h2.out⟩
theorem hs_one (h1 : Hid (PS X st t)) : Hid (PSs X [st] t) := ⟨pss_one h1.out⟩
theorem hs_set {i : Nat} {x : Str} {e : Expr} {te : TE} {pos' : Pos} (hN : X.N.Nodup) (hi : X.N[i]? = some x) (hx : Loc X.env.scope x) (he : Hid (PE X e te)) (hs : swapsWith e (some (.Name x pos')) pos.line X.env = pure false := by rfl) (hf : X.fn x = true ∨ X.env.scope.names.lookup x = some .local := by first | exact .inl rfl | exact .inr rfl | assumption) :
    Hid (PS X (.Assign [.Name x pos'] e pos) (tAsg te (gName i))) := ⟨ps_set hN hi hx he.out hs hf⟩
theorem ha_nil : Hid (PA X [] tNil) := ⟨pa_nil⟩
theorem ha_cons {e : Expr} {es : List Expr} {te : TE} {ta : TA} (ha : Hid (PE X e te)) (hr : Hid (PA X es ta)) (hs : starEach (e :: es) X.env = (false, eval e X.env) :: starEach es X.env := by rfl) : Hid (PA X (e :: es) (tCons te ta)) := ⟨pa_cons ha.out hr.out hs⟩
theorem he_lst {es : List Expr} {ta : TA} (h : Hid (PA X es ta)) : Hid (PE X (.List es pos) (tLst ta)) := ⟨pe_lst h.out⟩
theorem he_tup {es : List Expr} {ta : TA} {k} (h : Hid (PA X es ta)) : Hid (PE X (.Tuple es k pos) (tTup ta)) := ⟨pe_tup h.out⟩
theorem he_ix {a b : Expr} {ta tb : TE} {r : R2} (hr : IxR X r) (ha : Hid (PE X a ta)) (hb : Hid (PE X b tb)) (hs : PlainIx b) : Hid (PE X (.Subscript a b pos) (tOp r ta tb)) := ⟨pe_ix hr ha.out hb.out hs⟩
theorem hs_nil : Hid (PSs X [] tNext) := ⟨pss_nil⟩
theorem hs_ret {e : Expr} {te : TE} (he : Hid (PE X e te)) : Hid (PS X (.Return (some e) pos) (tRet te)) := ⟨ps_ret he.out⟩
theorem hs_if {c : Expr} {a b : List Stmt} {tc : TT} {t u : TS} (hc : PT X c tc) (ha : Hid (PSs X a t)) (hb : Hid (PSs X b u)) : Hid (PS X (.If c a b pos) (tIfS tc t u)) := ⟨ps_if hc ha.out hb.out⟩
theorem hs_for {tg iter : Expr} {body : List Stmt} {wi : TI} {g : TG} {tb : TS} (hp : PassesOwn (model X.prog X.w) X.A X.env X.xe) (hc : X.calm = true) (hi : PI X tg iter wi) (hg : PG X tg g) (hb : Hid (PSs X body tb))
    (hs : ∀ x, foldedSetIterable iter X.env x = pure x := by intro _; rfl) : Hid (PS X (.For tg iter body [] pos) (tFor wi g tb)) := ⟨ps_for hp hc hi hg hb.out hs⟩
end
end L2
namespace PySem
open Sem (wp)
open Builtin
namespace F
theorem sub_rit_reversed : isSubtype (.type "range_iterator") (.type "reversed") = pure false := by rw [isSubtype_type]; kernel_rfl
end F
section
variable {prog : Program} {w : World} {A : Around} {E : Value → Shared → Prop} {s : Shared}
def revRng (n : Int) : Obj := { cls := .type "range_iterator", data := .fields #[rawInt (n - 1), rawInt n, rawInt (-1)] }
theorem call_range_reversed {r : Addr} {n : Int} {t u v : Tok} {Q : Value → Shared → Prop} (hr : IsRange s.heap r 0 n 1 t u v) (h0 : 0 ≤ n) (h1 : n < 2 ^ 62)
    (h : Q (.ref s.heap.objs.size) { s with heap := s.heap.push (revRng n) }) : wpAny (model prog w) A (call (.builtin "range.__reversed__") [.ref r]) Q E s := by
  have hT : s.TypeIs (.ref r) "range" := ⟨_, hr, rfl⟩
  refine wpAny_call_entry F.slot_range_reversed hT F.entry_range_reversed ?_ (F.args_range_reversed_1 _)
  unfold Builtin.«range.__reversed__»
  refine wpAny_bind (wpAny_of_eq (a := Value.ref r) rfl ?_)
  unfold Builtin.Range.rangeFields
  refine wpAny_bind (wpAny_bind (wpAny_field hr rfl (x := .int 0 t) rfl ?_))
  refine wpAny_bind (wpAny_of_eq (a := some (0 : Int)) rfl ?_)
  refine wpAny_bind (wpAny_field hr rfl (x := .int n u) rfl ?_)
  refine wpAny_bind (wpAny_of_eq (a := some n) rfl ?_)
  refine wpAny_bind (wpAny_field hr rfl (x := .int 1 v) rfl ?_)
  refine wpAny_bind (wpAny_of_eq (a := some (1 : Int)) rfl ?_)
  refine wpAny_pure ?_
  have hn : Builtin.Range.rangeSize 0 n 1 = n := by
    unfold Builtin.Range.rangeSize
    rw [if_pos (by decide), Int.ediv_one]
    split <;> omega
  dsimp only
  rw [hn]
  have hs : (Builtin.Range.rangeFitsLong 0 && Builtin.Range.rangeFitsLong n && Builtin.Range.rangeFitsLong 1 && Builtin.Range.rangeFitsLong (-1) && Builtin.Range.rangeFitsLong (0 - 1) && Builtin.Range.rangeFitsLong n) = true := by
    have : Builtin.Range.rangeFitsLong n = true := by
      unfold Builtin.Range.rangeFitsLong
      simp only [Bool.and_eq_true, decide_eq_true_eq]
      omega
    rw [this]; decide
  rw [hs]
  rw [show (0 : Int) + (n - 1) * 1 = n - 1 by omega]
  rw [if_neg (by decide), if_pos rfl]
  exact wpAny_bind (wpAny_newObj_type (wpAny_pure ⟨_, rfl, h⟩))
theorem code_reversed_rng {r : Addr} {n : Int} {t u v : Tok} {Q₁ : Value → Shared → Prop} (hr : IsRange s.heap r 0 n 1 t u v) (h0 : 0 ≤ n) (h1 : n < 2 ^ 62)
    (h : Q₁ (.ref s.heap.objs.size) { s with heap := s.heap.push (revRng n) }) :
    codeAny (model prog w) A (.call (.builtin "reversed.__new__") ⟨[.type "reversed", .ref r], []⟩) (wants Q₁ E) s := by
  have hT : s.TypeIs (.ref r) "range" := ⟨_, hr, rfl⟩
  refine codeAny_of_tree ?_
  show wpAny _ A.in1 (do checkBuiltinCall "reversed.__new__" ⟨[.type "reversed", .ref r], []⟩; again (.builtin "reversed.__new__" ⟨[.type "reversed", .ref r], []⟩)) _ _ s
  refine wpAny_bind (wpAny_of_eq (F.newCall_reversed_1 _) (wpAny_pure ⟨plainId_quiet F.plain_reversed_new _, codeAny_builtin F.entry_reversed_new ?_⟩))
  rw [Around.under_plainId F.plain_reversed_new _]
  unfold Builtin.«reversed.__new__»
  refine wpAny_bind (wpAny_of_eq (newClass_reversed _) ?_)
  dsimp only
  refine wpAny_bind (wpAny_of_eq (a := ()) rfl ?_)
  refine wpAny_bind (wpAny_of_eq (a := ()) rfl ?_)
  refine wpAny_bind (wpAny_specialOf hT F.slot_range_reversed.lookup ?_)
  dsimp only
  refine wpAny_bind (wpAny_of_eq (F.slot_range_reversed.bind _) ?_)
  dsimp only
  rw [if_neg (show ¬ ((Value.builtin "range.__reversed__" == Value.none) = true) from Bool.false_ne_true)]
  refine wpAny_bind (wpAny_rule ?_)
  refine wpAny_bind (m := runValue (.call (.builtin "range.__reversed__") ⟨[.ref r], []⟩)) (show wpAny _ _ (call (.builtin "range.__reversed__") [.ref r]) _ _ _ from call_range_reversed hr h0 h1 ?_)
  first
  | exact wpAny_pure h
  | exact wpAny_bind (wpAny_pure (wpAny_pure h))
theorem call_reversed_rng {r : Addr} {n : Int} {t u v : Tok} {Q : Value → Shared → Prop} (hr : IsRange s.heap r 0 n 1 t u v) (h0 : 0 ≤ n) (h1 : n < 2 ^ 62)
    (h : Q (.ref s.heap.objs.size) { s with heap := s.heap.push (revRng n) }) : wpAny (model prog w) A (call (.type "reversed") [.ref r]) Q E s := by
  refine callType_other (U := "range_iterator") (Q₁ := fun obj s₁ => obj = .ref s.heap.objs.size ∧ s₁ = { s with heap := s.heap.push (revRng n) }) (by decide +kernel) F.create_reversed ⟨_, _, F.mro_reversed⟩ F.made_reversed F.sub_rit_reversed (F.typeCall_reversed_1 _) (code_reversed_rng hr h0 h1 ⟨rfl, rfl⟩) ?_
  rintro obj s₁ ⟨rfl, rfl⟩
  exact ⟨⟨_, Heap.get?_push_size _ rfl, rfl⟩, h⟩
end
end PySem
namespace L2
open PySem PySem.Spec PyProof.Rows
section
variable {X : Cx} {tg : Expr}
theorem call_rng : CallR X (.type "range") (fun xs H Q => ∃ n : Int, xs = [.int n] ∧ 0 ≤ n ∧ n < 2 ^ 62 ∧ ∀ p, H p = none → Q (.ref p) (upd H p (.rng 0 n))) := by
  intro pins s σ H xs us Q I r h
  obtain ⟨n, rfl, h0, h1, q⟩ := h
  obtain ⟨u, rfl, t, rfl⟩ := vals1 r
  refine call_range_1 ?_
  exact ⟨.ref s.heap.objs.size, _, I.laid (o := .rng 0 n) (fun b o e => Heap.get?_push_of_some _ e) (Nat.le_refl _) ⟨_, _, _, Heap.get?_push_size _ rfl⟩, rfl, q _ (I.hok.fresh (Nat.le_refl _))⟩
/-- reversed(range(n)) -/
def iRev (te : TE) : TI := fun σ H R => te σ H fun x H1 => ∃ (p : Addr) (n : Int), [x] = [V.ref p] ∧ H1 p = some (.rng 0 n) ∧ 0 ≤ n ∧ n < 2 ^ 62 ∧ R (Itf (fun i => .int (n - 1 - i)) n.toNat) H1
theorem pi_rev {e : Expr} {te : TE} {p pos : Pos} (hg : Gl X "reversed") (hm : X.mg "reversed" = none) (he : PE X e te)
    (hs : starEach [e] X.env = [(false, eval e X.env)] := by rfl) : PI X tg (.Call (.Name "reversed" p) [e] [] pos) (iRev te) := by
  intro pins s σ H R I h
  refine Call_ (ld_blt I hg hm boot_reversed (PyProof.Rows.callWith_type1 (thn (pa_cons he pa_nil hs pos pins s σ H (fun xs H1 => ∃ (p : Addr) (n : Int), xs = [.ref p] ∧ H1 p = some (.rng 0 n) ∧ 0 ≤ n ∧ n < 2 ^ 62 ∧ R (Itf (fun i => .int (n - 1 - i)) n.toNat) H1) I ?_) fun us s1 ⟨vs, H1, I1, r1, q1⟩ => ?_) hs rfl))
  · exact h
  · obtain ⟨r, n, rfl, hr, h0, h1, q⟩ := q1
    obtain ⟨u, rfl, ru⟩ := vals1 r1
    cases ru
    obtain ⟨t, u, v, e⟩ := (show ObjOk X.prog X.w H1 s1.heap r (.rng 0 n) from I1.hok r _ hr)
    refine call_reversed_rng e h0 h1 ?_
    refine wpAny_pyIter_rangeiter (x := n - 1) (left := n) (step := -1) (Heap.get?_push_size _ rfl) ?_
    have I2 : Inv X pins σ H1 { s1 with heap := s1.heap.push (revRng n) } := I1.kept (t' := s1.toks) fun b o e => Heap.get?_push_of_some _ e
    refine ⟨s1.heap.objs.size, [s1.heap.objs.size], _, _, H1, rfl, I2, turn_walk (nm := "range_iterator") (f := fun i => .int (n - 1 - i)) (n := n.toNat) (fun A hA => Walks.range hA _ (n - 1) (-1) n.toNat) (fun i h st => ⟨_, _, st, rfl, rfl⟩) (fun i h h' st k => k _ (by simp) _ st) (by decide) (fun i v hi hv => ?_) (fun A i s Q E st q => wpAny_pyIter_rangeiter st q), ?_, fun b hb => ?_, q⟩
    · obtain ⟨t, rfl⟩ := hv
      exact ⟨t, by congr 1; omega⟩
    · show IsRangeIter _ _ (n - 1 + ((0 : Nat) : Int) * (-1)) ((n.toNat : Int) - ((0 : Nat) : Int)) (-1)
      rw [show n - 1 + ((0 : Nat) : Int) * (-1) = n - 1 by omega, show (n.toNat : Int) - ((0 : Nat) : Int) = n by omega]
      exact Heap.get?_push_size _ rfl
    · have e : b = s1.heap.objs.size := by simpa using hb
      subst e
      exact I1.fpOk (Nat.le_refl _) (I1.hok.fresh (Nat.le_refl _))
end
end L2
namespace PySem
open Sem (wp)
open Builtin Builtin.Str
namespace F
theorem slot_reversed_init : Slot "reversed" "__init__" "object.__init__" :=
  .of (owner := "object") (n := "__init__") (by rw [typeLookup_type, builtinLookup_eq_fast]; kernel_rfl) (by decide +kernel) (by decide +kernel) (by decide +kernel)
    (by first | exact .inl (by decide +kernel) | exact .inr (by decide +kernel)) (by rw [isSubtype_type]; kernel_rfl)
theorem called_reversed : TypeCalled "reversed" "reversed.__new__" "object.__init__" :=
  ⟨by decide +kernel, by decide +kernel, ⟨_, _, mro_reversed⟩, made_reversed, by decide +kernel, by rw [isSubtype_type]; kernel_rfl, slot_reversed_init⟩
theorem slot_reversed_iter : Slot "reversed" "__iter__" "reversed.__iter__" :=
  .of (owner := "reversed") (n := "__iter__") (by rw [typeLookup_type, builtinLookup_eq_fast]; kernel_rfl) (by decide +kernel) (by decide +kernel) (by decide +kernel)
    (by first | exact .inl (by decide +kernel) | exact .inr (by decide +kernel)) (by rw [isSubtype_type]; kernel_rfl)
theorem slot_reversed_next : Slot "reversed" "__next__" "reversed.__next__" :=
  .of (owner := "reversed") (n := "__next__") (by rw [typeLookup_type, builtinLookup_eq_fast]; kernel_rfl) (by decide +kernel) (by decide +kernel) (by decide +kernel)
    (by first | exact .inl (by decide +kernel) | exact .inr (by decide +kernel)) (by rw [isSubtype_type]; kernel_rfl)
theorem entry_reversed_iter : entryFor table "reversed.__iter__" = some Builtin.«dict_keyiterator.__iter__» :=
  entryFor_alias (id' := "dict_keyiterator.__iter__") (by kernel_rfl) rfl (by decide +kernel) (by kernel_rfl)
theorem entry_reversed_next : entryFor table "reversed.__next__" = some Builtin.«reversed.__next__» := entryFor_of_tree (by kernel_rfl)
theorem args_reversed_iter_1 (a : Value) : argsOk "reversed.__iter__" ⟨[a], []⟩ := by unfold argsOk; kernel_rfl
theorem args_reversed_next_1 (a : Value) : argsOk "reversed.__next__" ⟨[a], []⟩ := by unfold argsOk; kernel_rfl
theorem str_no_reversed : typeLookup (.type "str") "__reversed__" = pure none := by rw [typeLookup_type, builtinLookup_eq_fast]; kernel_rfl
end F
end PySem
namespace PySem
open Sem (wp)
open Builtin Builtin.Str
section
variable {prog : Program} {w : World} {A : Around} {E : Value → Shared → Prop} {s : Shared}
def revTxt (z : Str) (t : Tok) (i : Int) : Obj := { cls := .type "reversed", data := .fields #[.str z t, rawInt i] }
theorem meets_reversed_new (z : Str) (t : Tok) (hz : z.length ≤ sizeLine) :
    Meets (Builtin.«reversed.__new__» ⟨[.type "reversed", .str z t], []⟩) (fun _ R s => ∀ k,
      R (.ok (.ret (.ref s.heap.objs.size))) { s with heap := s.heap.push (revTxt z t ((z.length : Int) - 1)), toks := k }) :=
  .of_wp fun prog w A R s h => by
    unfold Builtin.«reversed.__new__»
    refine wpAny_bind (wpAny_of_eq (newClass_reversed _) ?_)
    dsimp only
    refine wpAny_bind (wpAny_of_eq (a := ()) rfl ?_)
    refine wpAny_bind (wpAny_of_eq (a := ()) rfl ?_)
    refine wpAny_bind (wpAny_specialOf (typeIs_str _ z t) F.str_no_reversed ?_)
    dsimp only
    refine wpAny_bind ?_
    wp_delta
    refine wpAny_bind (wpAny_isInstance (T := "str") (v := .str z t) (b := false) rfl F.sub_str_dict ?_)
    rw [if_neg Bool.false_ne_true]
    refine wpAny_bind (wpAny_specialOf (typeIs_str _ z t) F.slot_str_getitem.lookup ?_)
    dsimp only
    rw [if_pos (by decide)]
    refine wpAny_pure ?_
    rw [if_neg (by decide)]
    have hline : sizeLine = 16777216 := sizeLine_eq
    refine wpAny_bind (PyProof.Rows.len_str (by omega) ?_)
    refine wpAny_bind (wpAny_of_eq (a := some (z.length : Int)) rfl ?_)
    dsimp only
    unfold SmallTypes.newRecord
    exact wpAny_bind (wpAny_newObj_type (wpAny_pure ⟨_, rfl, h _⟩))
theorem call_reversed_txt {z : Str} {t : Tok} {Q : Value → Shared → Prop} (hz : z.length ≤ sizeLine) (h : ∀ k, Q (.ref s.heap.objs.size) { s with heap := s.heap.push (revTxt z t ((z.length : Int) - 1)), toks := k }) :
    wpAny (model prog w) A (call (.type "reversed") [.str z t]) Q E s :=
  callType_new F.called_reversed (by decide) (F.typeCall_reversed_1 _) (F.newCall_reversed_1 _) (fun obj => F.args_object_init_2 obj _) F.entry_reversed_new (meets_reversed_new z t hz)
    fun k => ⟨⟨_, Heap.get?_push_size _ rfl, rfl⟩, h k⟩
abbrev IsRevTxt (h : Heap) (it : Addr) (z : Str) (t : Tok) (i : Int) : Prop := h.get? it = some (revTxt z t i)
theorem wpAny_pyIter_revtxt {it : Addr} {z : Str} {t : Tok} {i : Int} {Q : Value → Shared → Prop} (hit : IsRevTxt s.heap it z t i) (h : Q (.ref it) s) : wpAny (model prog w) A (pyIter (.ref it)) Q E s := by
  have hT : s.TypeIs (.ref it) "reversed" := ⟨_, hit, rfl⟩
  refine wpAny_pyIter_slot hT F.slot_reversed_iter (wpAny_call_entry F.slot_reversed_iter hT F.entry_reversed_iter ?_ (F.args_reversed_iter_1 _))
  show wpAny _ _ (ret (.ref it)) _ _ s
  exact wpAny_pure ⟨_, rfl, "reversed", _, hT, F.slot_reversed_next.lookup, h⟩
theorem nextOf_revtxt_item {it : Addr} {z : Str} {t : Tok} {i c : Nat} {Q : Value → Shared → Prop} (hit : IsRevTxt s.heap it z t (i : Int)) (hx : z.cps[i]? = some c) (hz : z.length ≤ sizeLine)
    (hQ : ∀ h' u tk, IsRevTxt h' it z t ((i : Int) - 1) → Heap.SameBut it s.heap h' → Q (.str ⟨#[c]⟩ u) { s with heap := h', toks := tk }) :
    wpAny (model prog w) A (Builtin.SmallTypes.nextOf (.ref it)) Q E s := by
  have hT : s.TypeIs (.ref it) "reversed" := ⟨_, hit, rfl⟩
  have hline : sizeLine = 16777216 := sizeLine_eq
  have hlt : i < z.length := by
    show i < z.cps.size
    have := Array.getElem?_eq_some_iff.mp hx
    exact this.1
  unfold Builtin.SmallTypes.nextOf
  refine wpAny_bind (wpAny_callSpecial?_slot (name := Str.ofString "__next__") hT F.slot_reversed_next
    (wpAny_call_entry F.slot_reversed_next hT F.entry_reversed_next ?_ (F.args_reversed_next_1 _)))
  unfold Builtin.«reversed.__next__»
  refine wpAny_bind (wpAny_of_eq (a := (Value.ref it, [])) rfl ?_)
  dsimp only
  refine wpAny_bind (wpAny_field hit rfl (x := .str z t) rfl ?_)
  refine wpAny_bind (wpAny_field hit rfl (x := rawInt (i : Int)) rfl ?_)
  show wpAny _ _ (if (i : Int) < 0 then _ else _) _ _ s
  rw [if_neg (by omega)]
  refine wpAny_bind (wpAny_specialOf (typeIs_str _ z t) F.slot_str_getitem.lookup ?_)
  rw [if_neg (by decide)]
  refine wpAny_bind (wpAny_mkInt ?_)
  refine wpAny_bind (wpAny_attempt ?_)
  refine PyProof.Rows.getItem_str (c := c) ?_ ?_ ?_
  · rw [Bool.or_eq_false_iff]
    exact ⟨decide_eq_false (by omega), decide_eq_false (by omega)⟩
  · have : seqIndex? (i : Int) z.length = some i := by
      unfold seqIndex?
      simp
      omega
    rw [this]
    exact hx
  dsimp only
  refine wpAny_bind (wpAny_field hit rfl (x := rawInt (i : Int)) rfl ?_)
  refine wpAny_bind (m := setField (.ref it) 1 (rawInt ((i : Int) - 1))) (wpAny_setField_rec hit (by simp) fun h₂ he₂ hs₂ => ?_)
  exact wpAny_pure ⟨_, rfl, wpAny_pure (hQ h₂ _ _ he₂ hs₂)⟩
theorem nextOf_revtxt_end {it : Addr} {z : Str} {t : Tok} {Q : Value → Shared → Prop} (hh : A.handled = none) (hit : IsRevTxt s.heap it z t (-1))
    (hE : ∀ h' e, Heap.ExtBut it s.heap h' → (∃ o, h'.get? e = some o ∧ o.cls = .type "StopIteration") → E (.ref e) { s with heap := h' }) :
    wpAny (model prog w) A (Builtin.SmallTypes.nextOf (.ref it)) Q E s := by
  have hT : s.TypeIs (.ref it) "reversed" := ⟨_, hit, rfl⟩
  unfold Builtin.SmallTypes.nextOf
  refine wpAny_bind (wpAny_callSpecial?_slot (name := Str.ofString "__next__") hT F.slot_reversed_next
    (wpAny_call_entry F.slot_reversed_next hT F.entry_reversed_next ?_ (F.args_reversed_next_1 _)))
  unfold Builtin.«reversed.__next__»
  refine wpAny_bind (wpAny_of_eq (a := (Value.ref it, [])) rfl ?_)
  dsimp only
  refine wpAny_bind (wpAny_field hit rfl (x := .str z t) rfl ?_)
  refine wpAny_bind (wpAny_field hit rfl (x := rawInt (-1)) rfl ?_)
  show wpAny _ _ (if (-1 : Int) < 0 then _ else _) _ _ s
  rw [if_pos (by decide)]
  refine wpAny_bind (wpAny_rule ?_)
  refine wpAny_bind ?_
  wp_delta
  refine wpAny_bind (m := setField (.ref it) 1 (rawInt (-1))) (wpAny_setField_rec hit (by simp) fun h₂ he₂ hs₂ => ?_)
  refine wpAny_setField_rec he₂ (by simp) fun h₃ he₃ hs₃ => ?_
  refine wpAny_bind ?_
  show wpAny _ _ (newExc (.type "StopIteration") [] >>= _) _ _ _
  refine wpAny_bind ?_
  simp only [newExc, newTuple]
  refine wpAny_bind (wpAny_newObj_type ?_ (by size_fits))
  refine wpAny_bind (m := firstArgMember _ _) (wpAny_of_eq (a := Value.none) (by first | rfl | (simp only [firstArgMember]; rfl)) ?_)
  refine wpAny_newObj_type ?_ (by size_fits)
  simp only [raiseNew]
  refine wpAny_bind (wpAny_handled ?_)
  first | rw [show A.in1.handled = none from hh] | rw [hh]
  refine wpAny_bind (wpAny_pure (wpAny_throw ?_))
  exact hE _ _ (((hs₂.trans hs₃).extBut.push _).push _) ⟨_, Heap.get?_push_size _ rfl, rfl⟩
end
theorem Draws.revTxt {prog : Program} {w : World} {A : Around} (hh : A.handled = none) (it : Addr) (z : Str) (t : Tok) (hz : z.length ≤ sizeLine) :
    Draws prog w A it [it] z.cps.size (fun i v => ∃ c u, z.cps[z.cps.size - 1 - i]? = some c ∧ v = .str ⟨#[c]⟩ u) (fun i h => IsRevTxt h it z t ((z.cps.size : Int) - 1 - i)) where
  live := fun _ _ st => ⟨_, st⟩
  frame := fun _ _ _ st hk => hk it (by simp) _ st
  item := fun i s Q E hi st hQ => by
    have hlt : z.cps.size - 1 - i < z.cps.size := by omega
    have e : (z.cps.size : Int) - 1 - i = ((z.cps.size - 1 - i : Nat) : Int) := by omega
    have st' : IsRevTxt s.heap it z t ((z.cps.size - 1 - i : Nat) : Int) := by rw [← e]; exact st
    refine nextOf_revtxt_item st' (c := z.cps[z.cps.size - 1 - i]) (by simp [hlt]) hz fun h' u tk hit' hs' => ?_
    refine hQ _ h' tk ⟨_, _, by simp [hlt], rfl⟩ ?_ hs'
    have e2 : (z.cps.size : Int) - 1 - ((i + 1 : Nat) : Int) = ((z.cps.size - 1 - i : Nat) : Int) - 1 := by omega
    show IsRevTxt h' it z t ((z.cps.size : Int) - 1 - ((i + 1 : Nat) : Int))
    rw [e2]
    exact hit'
  done := fun s Q E st hE => by
    have e : (z.cps.size : Int) - 1 - (z.cps.size : Nat) = -1 := by omega
    have st' : IsRevTxt s.heap it z t (-1) := by rw [← e]; exact st
    exact nextOf_revtxt_end hh st' hE
set_option maxHeartbeats 1000000 in
theorem meets_enumerate_rev (it : Addr) (z : Str) (t : Tok) (i : Int) :
    Meets (Builtin.«enumerate.__new__» ⟨[.type "enumerate", .ref it], []⟩) (fun _ R s => IsRevTxt s.heap it z t i ∧
      R (.ok (.ret (.ref s.heap.objs.size)))
        { s with heap := s.heap.push { cls := .type "enumerate", data := .fields #[.none, .bool false, .ref it, rawInt 0, .none, .none] } }) :=
  .of_wp fun prog w A R s ⟨hit, h⟩ => by
    obtain ⟨hp, g, d, tk, os⟩ := s
    have hsub := sub_enumerate
    wp_walk
    refine wpAny_stack_any fun st => wpAny_pure ?_
    split
    · rename_i c _ _ _ _ _
      cases (c == Value.type "enumerate")
      · wp_walk using wpAny_pyIter_revtxt hit
        exact ⟨_, rfl, h⟩
      · wp_walk using wpAny_pyIter_revtxt hit
        exact ⟨_, rfl, h⟩
    · wp_walk using wpAny_pyIter_revtxt hit
      exact ⟨_, rfl, h⟩
end PySem
namespace L2
open PySem PySem.Spec PyProof.Rows
theorem Inv.turn2 {X : Cx} {pins : List (Addr × Obj)} {σ : St} {H : Hp} {s : Shared} {h' : Heap} {t' : Nat} {a b : Addr} (I : Inv X pins σ H s) (fa : FpOk X pins H a) (fb : FpOk X pins H b)
    (k : ∀ c o, c ≠ a → c ≠ b → s.heap.get? c = some o → h'.get? c = some o) : Inv X pins σ H { s with heap := h', toks := t' } := by
  obtain ⟨a0, a1, a2, a3, a4, a5⟩ := fa
  obtain ⟨b0, b1, b2, b3, b4, b5⟩ := fb
  have na : ∀ c u, H c = some u → c ≠ a := fun c u e z => by rw [z, a0] at e; cases e
  have nb : ∀ c u, H c = some u → c ≠ b := fun c u e z => by rw [z, b0] at e; cases e
  refine I.step (g' := s.gens) (d' := s.drawn) (ch := [a, b]) (fun c hc => ?_) (fun c o _ _ hc e _ => k c o (fun z => hc (by simp [z])) (fun z => hc (by simp [z])) e) (fun c o _ _ hc e _ => ⟨o.slots, k c o (fun z => hc (by simp [z])) (fun z => hc (by simp [z])) e⟩)
    (fun _ _ _ _ n => n) (fun c o hc e => ⟨o, k c o (fun z => hc (by simp [z])) (fun z => hc (by simp [z])) e⟩) (fun _ _ e => e) (fun _ _ _ e => e) (fun c ps e => ⟨#[], by rw [e]; simp⟩) (fun m hm => ?_) (fun c u e => ?_) I.bare
  · have e : c = a ∨ c = b := by simpa using hc
    rcases e with rfl | rfl
    · exact ⟨a3, a1, a4, a5⟩
    · exact ⟨b3, b1, b4, b5⟩
  · obtain ⟨o, es, ep, ho, r⟩ := hm
    exact ⟨o, es, ep, k _ o (Ne.symm a1) (Ne.symm b1) ho, r⟩
  · refine (I.hok c u e).stay (fun d v hd q => ?_) (fun _ q => q) fun _ _ q => q
    rcases hd with z | z
    · rw [z] at q ⊢
      exact k c v (na c u e) (nb c u e) q
    · exact k d v (na d _ z) (nb d _ z) q
theorem Inv.turn2l {X : Cx} {pins : List (Addr × Obj)} {σ : St} {H : Hp} {s : Shared} {h' : Heap} {t' : Nat} {a b T : Addr} {o' : HO} (I : Inv X pins σ H s) (fa : FpOk X pins H a) (fb : FpOk X pins H b)
    (k : ∀ c o, c ≠ a → c ≠ b → s.heap.get? c = some o → h'.get? c = some o) (hT : s.heap.objs.size ≤ T) (new : ObjOk X.prog X.w (upd H T o') h' T o') : Inv X pins σ (upd H T o') { s with heap := h', toks := t' } := by
  have J : Inv X pins σ H { s with heap := h', toks := t' } := I.turn2 fa fb k
  have hn : H T = none := I.hok.fresh hT
  obtain ⟨a0, a1, a2, a3, a4, a5⟩ := fa
  obtain ⟨b0, b1, b2, b3, b4, b5⟩ := fb
  have nT : ∀ c o, s.heap.get? c = some o → c ≠ T := fun c o q => Nat.ne_of_lt (Nat.lt_of_lt_of_le (Heap.lt_size q) hT)
  refine I.step (g' := s.gens) (d' := s.drawn) (ch := [a, b]) (fun c hc => ?_) (fun c o _ _ hc e _ => k c o (fun z => hc (by simp [z])) (fun z => hc (by simp [z])) e) (fun c o _ _ hc e _ => ⟨o.slots, k c o (fun z => hc (by simp [z])) (fun z => hc (by simp [z])) e⟩)
    (fun c o _ q n => by rw [upd_ne (nT c o q)]; exact n) (fun c o hc e => ⟨o, k c o (fun z => hc (by simp [z])) (fun z => hc (by simp [z])) e⟩) (fun c xs e => by rw [upd_ne (ne_of_none e hn)]; exact e) (fun c u xs e => by rw [upd_ne (ne_of_none e hn)]; exact e)
    (fun c ps e => ⟨#[], by rw [upd_ne (ne_of_none e hn), e]; simp⟩) (fun m hm => ?_) (hok_track J.hok hn new) I.bare
  · have e : c = a ∨ c = b := by simpa using hc
    rcases e with rfl | rfl
    · exact ⟨a3, a1, a4, a5⟩
    · exact ⟨b3, b1, b4, b5⟩
  · obtain ⟨o, es, ep, ho, r⟩ := hm
    exact ⟨o, es, ep, k _ o (Ne.symm a1) (Ne.symm b1) ho, r⟩
/-- (0, f 0), (1, f 1), .. (n of them), each a new tuple -/
def Ite (f : Nat → V) (n : Nat) : It := ⟨fun i _ => i < n, fun i H x H' => ∃ T, H T = none ∧ x = .ref T ∧ H' = upd H T (.tup [.int (i : Int), f i]), fun i _ => i = n⟩
theorem turn_enum {P : Program} {w : World} {K : PySem.W.Frag} {elts : List Expr} {kt : Nat} {pt : Pos} {e it : Addr} {n : Nat} {Pq : Nat → Value → Prop} {St : Nat → Heap → Prop} {f : Nat → V} (hei : e ≠ it)
    (D : ∀ A : Around, A.handled = none → Draws P w A it [it] n Pq St) (ho : ∀ i h, St i h → ∃ o, h.get? it = some o ∧ ∀ v, o.data ≠ .cell v)
    (hfr : ∀ i h h', St i h → (∀ o, h.get? it = some o → h'.get? it = some o) → St i h')
    (hP : ∀ i v, i < n → Pq i v → RelV (f i) v) : Turn P w K (.Tuple elts kt pt) (Ite f n) [e, it] e (fun i h => (∃ old, IsEnum h e it i old) ∧ St i h) where
  mem := by simp
  obj := fun i h st b hb => by
    obtain ⟨⟨old, he⟩, st⟩ := st
    have q : b = e ∨ b = it := by simpa using hb
    rcases q with rfl | rfl
    · exact ⟨_, he, fun v z => by cases z⟩
    · exact ho i h st
  keep := fun i h h' st k => ⟨let ⟨old, he⟩ := st.1; ⟨old, k e (by simp) _ he⟩, hfr i h h' st.2 fun o q => k it (by simp) o q⟩
  item := by
    intro X hP' hw hK hc i pins s σ H E I hf st hg
    subst hP' hw hK
    obtain ⟨⟨old, he⟩, hs⟩ := st
    have fe := hf e (by simp)
    have fi := hf it (by simp)
    have het : e < s.heap.objs.size := Heap.lt_size he
    have hit : it < s.heap.objs.size := by obtain ⟨o, q, _⟩ := ho _ _ hs; exact Heap.lt_size q
    refine wpAny_pyNext_enum_itemD (D X.A.in1 (I.ok.hd hc)) he hs hg hei (by simpa using hei) fun x h' tk hx ho' hs' hT hsz hk => ?_
    refine ⟨.ref s.heap.objs.size, rfl, wpAny_letOwnedTupleGo_enum (s := { s with heap := h', toks := tk + 1 }) ho' fun h2 he2 hs2 => ?_⟩
    have hT2 : h2.get? s.heap.objs.size = some { cls := .type "tuple", data := .seq #[.int i tk, x] } := (hs2.2 _ (Nat.ne_of_gt het)).trans hT
    have new : ObjOk X.prog X.w (upd H s.heap.objs.size (.tup [.int (i : Int), f i])) h2 s.heap.objs.size (.tup [.int (i : Int), f i]) := ⟨(by show 2 ≤ sizeLine; decide), [.int i tk, x], .cons ⟨tk, rfl⟩ (.cons (hP i x hg hx) .nil), ⟨_, hT2, rfl, _, rfl⟩, _, hT2, rfl⟩
    refine ⟨.ref s.heap.objs.size, _, I.turn2l fe fi (fun c o c1 c2 q => (hs2.2 c c1).trans (hk c o c1 c2 q)) (Nat.le_refl _) new, rfl, ⟨s.heap.objs.size, I.hok.fresh (Nat.le_refl _), rfl, rfl⟩, ⟨⟨x, by simpa using he2⟩, hfr _ _ _ hs' fun o q => (hs2.2 it (Ne.symm hei)).trans q⟩, fun b hb => ?_⟩
    have q : b = e ∨ b = it := by simpa using hb
    rcases q with rfl | rfl
    · rw [upd_ne (Nat.ne_of_lt het)]; exact fe.1
    · rw [upd_ne (Nat.ne_of_lt hit)]; exact fi.1
  done := by
    intro X hP' hw hK hc i pins s σ H E I hf st hg
    subst hP' hw hK
    have e2 : i = n := hg
    subst e2
    have W := WalksT.enumerateD (D X.A.in1 (I.ok.hd hc)) e hei (by simpa using hei) (by simp)
    exact W.done s _ _ st fun h' tk kk => ⟨rfl, I.turn2 (hf e (by simp)) (hf it (by simp)) fun c o c1 c2 q => kk c o (by simp [c1, c2]) q⟩
  self := fun A i s Q E st q => by
    obtain ⟨⟨old, he⟩, _⟩ := st
    exact wpAny_pyIter_enum he q
/-- enumerate(reversed(text)) -/
def rsgn (z : Str) (i : Nat) : V := .str ⟨#[z.cps.getD (z.cps.size - 1 - i) 0]⟩
def iEnumRev (te : TE) : TI := fun σ H R => te σ H fun x H1 => ∃ z, [x] = [V.str z] ∧ z.length ≤ sizeLine ∧ R (Ite (rsgn z) z.cps.size) H1
theorem pi_enumrev {X : Cx} {elts : List Expr} {kt : Nat} {pt : Pos} {e : Expr} {te : TE} {p1 p2 pos1 pos2 : Pos} (hg : Gl X "enumerate") (hm : X.mg "enumerate" = none) (hg2 : Gl X "reversed") (hm2 : X.mg "reversed" = none) (he : PE X e te)
    (hs2 : starEach [e] X.env = [(false, eval e X.env)] := by rfl)
    (hs : starEach [.Call (.Name "reversed" p2) [e] [] pos2] X.env = [(false, eval (.Call (.Name "reversed" p2) [e] [] pos2) X.env)] := by rfl) :
    PI X (.Tuple elts kt pt) (.Call (.Name "enumerate" p1) [.Call (.Name "reversed" p2) [e] [] pos2] [] pos1) (iEnumRev te) := by
  intro pins s σ H R I h
  refine Call_ (ld_blt I hg hm boot_enumerate (PyProof.Rows.callWith_type1 ?_ hs rfl))
  rw [hs]
  show wpAny _ _ (spliced ((false, eval (.Call (.Name "reversed" p2) [e] [] pos2) X.env) :: backTo pos1 [])) _ _ s
  refine Calls.spliced_cons (Call_ (ld_blt I hg2 hm2 boot_reversed (PyProof.Rows.callWith_type1 (thn (pa_cons he pa_nil hs2 pos2 pins s σ H (fun xs H1 => ∃ z, xs = [V.str z] ∧ z.length ≤ sizeLine ∧ R (Ite (rsgn z) z.cps.size) H1) I h) fun us s1 ⟨vs, H1, I1, r1, q1⟩ => ?_) hs2 rfl)))
  obtain ⟨z, rfl, hz, q⟩ := q1
  obtain ⟨u, rfl, t, rfl⟩ := vals1 r1
  refine call_reversed_txt hz fun k => Calls.spliced_nil ?_
  have hr : IsRevTxt (s1.heap.push (revTxt z t ((z.length : Int) - 1))) s1.heap.objs.size z t ((z.length : Int) - 1) := Heap.get?_push_size _ rfl
  have I2 : Inv X pins σ H1 { s1 with heap := s1.heap.push (revTxt z t ((z.length : Int) - 1)), toks := k } := I1.kept fun b o e => Heap.get?_push_of_some _ e
  have hn1 : H1 s1.heap.objs.size = none := I1.hok.fresh (Nat.le_refl _)
  have fr : FpOk X pins H1 s1.heap.objs.size := I1.fpOk (Nat.le_refl _) hn1
  have hlt : s1.heap.objs.size < (s1.heap.push (revTxt z t ((z.length : Int) - 1))).objs.size := Heap.lt_size hr
  generalize s1.heap.push (revTxt z t ((z.length : Int) - 1)) = h2 at hr I2 hlt ⊢
  generalize s1.heap.objs.size = it at hr fr hn1 hlt ⊢
  refine callType_new F.called_enumerate (by decide) (F.typeCall_enumerate_1 _) (F.newCall_enumerate_1 _) (fun obj => F.args_object_init_2 obj _) F.entry_enumerate_new (meets_enumerate_rev it z t ((z.length : Int) - 1))
    ⟨hr, ⟨⟨_, Heap.get?_push_size _ rfl, rfl⟩, ?_⟩⟩
  have hen : IsEnum (h2.push { cls := .type "enumerate", data := .fields #[.none, .bool false, .ref it, rawInt 0, .none, .none] }) h2.objs.size it 0 .none := Heap.get?_push_size _ rfl
  refine wpAny_pyIter_enum hen ?_
  refine ⟨h2.objs.size, [h2.objs.size, it], _, _, H1, rfl, I2.kept (t' := k) fun b o e => Heap.get?_push_of_some _ e,
    turn_enum (St := fun i h => IsRevTxt h it z t ((z.cps.size : Int) - 1 - i)) (Nat.ne_of_gt hlt) (fun A hA => Draws.revTxt hA it z t hz) (fun i h st => ⟨_, st, fun v z => by cases z⟩) (fun i h h' st k => k _ st) (fun i v hi hv => ?_),
    ⟨⟨.none, hen⟩, ?_⟩, fun b hb => ?_, q⟩
  · obtain ⟨c, u, e, rfl⟩ := hv
    refine ⟨u, ?_⟩
    have : z.cps.getD (z.cps.size - 1 - i) 0 = c := by simp [Array.getD_eq_getD_getElem?, e]
    rw [this]
  · show IsRevTxt _ it z t ((z.cps.size : Int) - 1 - ((0 : Nat) : Int))
    rw [show (z.cps.size : Int) - 1 - ((0 : Nat) : Int) = (z.length : Int) - 1 by show (z.cps.size : Int) - 1 - ((0 : Nat) : Int) = (z.cps.size : Int) - 1; omega]
    exact Heap.get?_push_of_some _ hr
  · have e : b = h2.objs.size ∨ b = it := by simpa using hb
    rcases e with rfl | rfl
    · exact I2.fpOk (Nat.le_refl _) (I2.hok.fresh (Nat.le_refl _))
    · exact fr
theorem for_e {f : Nat → V} {n : Nat} {g : TG} {tb : TS} {D : Ends} {σ : St} {H : Hp} (Pv : Nat → St → Hp → Prop) (h0 : Pv 0 σ H)
    (hs : ∀ i σ H T, i < n → Pv i σ H → H T = none → g (.ref T) σ (upd H T (.tup [.int (i : Int), f i])) fun σ2 H2 => tb { D with nx := Pv (i + 1), ct := Pv (i + 1), bk := D.nx } σ2 H2) (hd : ∀ σ H, Pv n σ H → D.nx σ H) :
    ∃ W : Nat → Nat → St → Hp → Prop, (∃ m, W 0 m σ H) ∧ ∀ i m σ H, W i m σ H →
      ((Ite f n).stop i H ∧ D.nx σ H) ∨ ((Ite f n).go i H ∧ ∃ N : St → Hp → Prop, (∀ σ' H', N σ' H' → ∃ m', m' < m ∧ W (i + 1) m' σ' H') ∧ ∀ x H', (Ite f n).yld i H x H' → g x σ H' fun σ2 H2 => tb { D with nx := N, ct := N, bk := D.nx } σ2 H2) := by
  refine ⟨fun i m σ H => m = n - i ∧ i ≤ n ∧ Pv i σ H, ⟨n, by simp, Nat.zero_le _, h0⟩, ?_⟩
  rintro i m σ H ⟨rfl, hi, p⟩
  by_cases hlt : i < n
  · refine .inr ⟨hlt, Pv (i + 1), fun σ' H' p' => ⟨n - (i + 1), by omega, rfl, hlt, p'⟩, fun x H' y => ?_⟩
    obtain ⟨T, hT, rfl, rfl⟩ := y
    exact hs i σ _ T hlt p hT
  · have e : i = n := by omega
    subst e
    exact .inl ⟨rfl, hd σ H p⟩
end L2
namespace PySem
open Sem (wp)
open Builtin
section
variable {prog : Program} {w : World} {A : Around} {E : Value → Shared → Prop} {s : Shared}
theorem nextOf_tup_item {it l : Addr} {i : Nat} {items : Array Value} {x : Value} {Q : Value → Shared → Prop} (hit : s.heap.IsTupleIter it l i) (hl : s.heap.IsTuple l items) (hx : items[i]? = some x)
    (hQ : ∀ h', h'.IsTupleIter it l (i + 1) → Heap.SameBut it s.heap h' → Q x { s with heap := h' }) : wpAny (model prog w) A (SmallTypes.nextOf (.ref it)) Q E s := by
  obtain ⟨o, ho, hc, hd⟩ := id hit
  obtain ⟨ol, hol, _, nl, hdl⟩ := hl
  have e0 : ¬ ((Value.ref l == Value.none) = true) := Bool.false_ne_true
  unfold SmallTypes.nextOf
  refine wpAny_bind (wpAny_callSpecial?_slot (name := Str.ofString "__next__") hit.typeIs F.slot_tuple_iterator_next (wpAny_call_entry F.slot_tuple_iterator_next hit.typeIs F.entry_tuple_iterator_next ?_ (F.args_tuple_iterator_next_1 _)))
  refine wpAny_bind (m := field (.ref it) 0) (wpAny_field ho hd (x := .ref l) rfl ?_)
  show wpAny _ _ (if (Value.ref l == Value.none) = true then _ else _) _ _ s
  rw [if_neg e0]
  refine wpAny_bind (m := field (.ref it) 1) (wpAny_field ho hd (x := .int i 0) rfl ?_)
  refine wpAny_bind (m := seqItems? (.ref l)) (wpAny_seqItems hol hdl ?_)
  simp only [Int.toNat_natCast, hx]
  refine wpAny_bind (wpAny_setField ho hd (by simp) (wpAny_pure ⟨x, rfl, wpAny_pure (hQ _ ⟨_, Heap.get?_update_self _ ho (Obj.isFreed_of_fields (Obj.data_mapFields hd _)), (Obj.cls_mapFields ..).trans hc, ?_⟩ (Heap.SameBut.update ..))⟩))
  rw [Obj.data_mapFields hd]
  simp [rawInt]
theorem nextOf_tup_end {it l : Addr} {i : Nat} {items : Array Value} {Q : Value → Shared → Prop} (hh : A.handled = none) (hit : s.heap.IsTupleIter it l i) (hl : s.heap.IsTuple l items) (hx : items[i]? = none)
    (hE : ∀ h' e, Heap.ExtBut it s.heap h' → (∃ o, h'.get? e = some o ∧ o.cls = .type "StopIteration") → E (.ref e) { s with heap := h' }) : wpAny (model prog w) A (SmallTypes.nextOf (.ref it)) Q E s := by
  obtain ⟨o, ho, hc, hd⟩ := id hit
  obtain ⟨ol, hol, _, nl, hdl⟩ := hl
  have e0 : ¬ ((Value.ref l == Value.none) = true) := Bool.false_ne_true
  unfold SmallTypes.nextOf
  refine wpAny_bind (wpAny_callSpecial?_slot (name := Str.ofString "__next__") hit.typeIs F.slot_tuple_iterator_next (wpAny_call_entry F.slot_tuple_iterator_next hit.typeIs F.entry_tuple_iterator_next ?_ (F.args_tuple_iterator_next_1 _)))
  refine wpAny_bind (m := field (.ref it) 0) (wpAny_field ho hd (x := .ref l) rfl ?_)
  show wpAny _ _ (if (Value.ref l == Value.none) = true then _ else _) _ _ s
  rw [if_neg e0]
  refine wpAny_bind (m := field (.ref it) 1) (wpAny_field ho hd (x := .int i 0) rfl ?_)
  refine wpAny_bind (m := seqItems? (.ref l)) (wpAny_seqItems hol hdl ?_)
  simp only [Int.toNat_natCast, hx]
  refine wpAny_bind (wpAny_rule (wpAny_bind (wpAny_setField ho hd (by simp) ?_)))
  show wpAny _ _ (newExc (.type "StopIteration") [] >>= _) _ _ _
  refine wpAny_bind ?_
  simp only [newExc, newTuple]
  refine wpAny_bind (wpAny_newObj_type ?_ (by size_fits))
  refine wpAny_bind (m := firstArgMember _ _) (wpAny_of_eq (a := Value.none) (by first | rfl | (simp only [firstArgMember]; rfl)) (wpAny_newObj_type ?_ (by size_fits)))
  simp only [raiseNew]
  have hh1 : A.in1.handled = none := hh
  refine wpAny_bind (wpAny_handled ?_)
  rw [hh1]
  exact wpAny_bind (wpAny_pure (wpAny_throw (hE _ _ (((Heap.SameBut.update ..).extBut.push _).push _) ⟨_, Heap.get?_push_size _ rfl, rfl⟩)))
end
theorem Draws.tup {prog : Program} {w : World} {A : Around} (hh : A.handled = none) (it l : Addr) (hne : l ≠ it) (items : Array Value) :
    Draws prog w A it [it, l] items.size (fun i v => items[i]? = some v) (fun i h => h.IsTupleIter it l i ∧ h.IsTuple l items) where
  live := fun _ _ st => let ⟨o, ho, _⟩ := st.1; ⟨o, ho⟩
  frame := fun _ _ _ st hk => ⟨let ⟨o, ho, r⟩ := st.1; ⟨o, hk it (by simp) o ho, r⟩, let ⟨o, ho, r⟩ := st.2; ⟨o, hk l (by simp) o ho, r⟩⟩
  item := fun i s Q E hi st hQ => nextOf_tup_item st.1 st.2 (x := items[i]) (by simp [hi]) fun h' hit' hs' => hQ _ h' s.toks (by simp [hi]) ⟨hit', st.2.extBut hs'.extBut hne⟩ hs'
  done := fun s Q E st hE => nextOf_tup_end hh st.1 st.2 (by simp) hE
set_option maxHeartbeats 1000000 in
theorem meets_enumerate_tup (l : Addr) (items : Array Value) :
    Meets (Builtin.«enumerate.__new__» ⟨[.type "enumerate", .ref l], []⟩) (fun _ R s => s.heap.IsTuple l items ∧
      R (.ok (.ret (.ref (s.heap.push { cls := .type "tuple_iterator", data := .fields #[.ref l, .int 0 0] }).objs.size)))
        { s with heap := (s.heap.push { cls := .type "tuple_iterator", data := .fields #[.ref l, .int 0 0] }).push { cls := .type "enumerate", data := .fields #[.none, .bool false, .ref s.heap.objs.size, rawInt 0, .none, .none] } }) :=
  .of_wp fun prog w A R s h => by
    obtain ⟨hp, g, d, tk, os⟩ := s
    obtain ⟨hL, h⟩ := h
    have hsub := sub_enumerate
    wp_walk
    refine wpAny_stack_any fun st => wpAny_pure ?_
    split
    · rename_i c _ _ _ _ _
      cases (c == Value.type "enumerate") <;> (wp_walk using wpAny_pyIter_tuple hL; exact ⟨_, rfl, h⟩)
    · wp_walk using wpAny_pyIter_tuple hL
      exact ⟨_, rfl, h⟩
theorem call_enumerate_tup {prog : Program} {w : World} {A : Around} {E : Value → Shared → Prop} {s : Shared} {l : Addr} {items : Array Value} {Q : Value → Shared → Prop} (hL : s.heap.IsTuple l items)
    (h : ∀ h', IsEnum h' (s.heap.objs.size + 1) s.heap.objs.size 0 .none → h'.IsTupleIter s.heap.objs.size l 0 → (∀ b o, s.heap.get? b = some o → h'.get? b = some o) → Q (.ref (s.heap.objs.size + 1)) { s with heap := h' }) :
    wpAny (model prog w) A (call (.type "enumerate") [.ref l]) Q E s := by
  refine callType_new F.called_enumerate (by decide) (F.typeCall_enumerate_1 _) (F.newCall_enumerate_1 _) (fun obj => F.args_object_init_2 obj _) F.entry_enumerate_new (meets_enumerate_tup l items) ⟨hL, ?_⟩
  have hz : (s.heap.push { cls := .type "tuple_iterator", data := .fields #[.ref l, .int 0 0] }).objs.size = s.heap.objs.size + 1 := Heap.size_push ..
  show _ ∧ _
  rw [hz]
  have he : IsEnum ((s.heap.push { cls := .type "tuple_iterator", data := .fields #[.ref l, .int 0 0] }).push { cls := .type "enumerate", data := .fields #[.none, .bool false, .ref s.heap.objs.size, rawInt 0, .none, .none] }) (s.heap.objs.size + 1) s.heap.objs.size 0 .none := by
    rw [← hz]; exact Heap.get?_push_size _ rfl
  exact ⟨⟨_, he, rfl⟩, h _ he ⟨_, Heap.get?_push_of_some _ (Heap.get?_push_size _ rfl), rfl, rfl⟩ fun b o e => Heap.get?_push_of_some _ (Heap.get?_push_of_some _ e)⟩
end PySem
namespace L2
open PySem PySem.Spec PyProof.Rows
/-- (0, x0), (1, x1), .. over the list or tuple at l, each a new tuple -/
def IteS (c : List V → HO) (l : Addr) : It :=
  ⟨fun i H => ∃ xs x, H l = some (c xs) ∧ xs[i]? = some x, fun i H x H' => ∃ T xs y, H T = none ∧ x = .ref T ∧ H l = some (c xs) ∧ xs[i]? = some y ∧ H' = upd H T (.tup [.int (i : Int), y]), fun i H => ∃ xs, H l = some (c xs) ∧ xs.length = i⟩
structure SeqKind (c : List V → HO) (IsS : Heap → Addr → Array Value → Prop) (IsI : Heap → Addr → Addr → Nat → Prop) : Prop where
  obj : ∀ h it l i, IsI h it l i → ∃ o, h.get? it = some o ∧ ∀ v, o.data ≠ .cell v
  kp : ∀ (h h' : Heap) it l i, IsI h it l i → (∀ o, h.get? it = some o → h'.get? it = some o) → IsI h' it l i
  seq : ∀ (X : Cx) (pins : List (Addr × Obj)) (σ : St) (H : Hp) (s : Shared) (l : Addr) (xs : List V), Inv X pins σ H s → H l = some (c xs) → ∃ its : List Value, Vals xs its ∧ IsS s.heap l its.toArray
  dr : ∀ (P : Program) (w : World) (A : Around), A.handled = none → ∀ (it l : Addr), l ≠ it → ∀ items : Array Value, Draws P w A it [it, l] items.size (fun i v => items[i]? = some v) (fun i h => IsI h it l i ∧ IsS h l items)
  inj : ∀ a b, c a = c b → a = b
theorem seq_lst : SeqKind HO.lst Heap.IsList Heap.IsListIter where
  obj := fun h it l i st => by obtain ⟨o, e, _, d⟩ := st; exact ⟨o, e, fun v z => by rw [d] at z; cases z⟩
  kp := fun h h' it l i st k => let ⟨o, e, r⟩ := st; ⟨o, k o e, r⟩
  seq := fun X pins σ H s l xs I e => by
    obtain ⟨its, r, p, _⟩ := I.list (SqL.of e)
    exact ⟨its, r, p.isList⟩
  dr := fun P w A hh it l hne items => Draws.list hh it l hne items
  inj := fun a b e => by cases e; rfl
theorem seq_tup : SeqKind HO.tup Heap.IsTuple Heap.IsTupleIter where
  obj := fun h it l i st => by obtain ⟨o, e, _, d⟩ := st; exact ⟨o, e, fun v z => by rw [d] at z; cases z⟩
  kp := fun h h' it l i st k => let ⟨o, e, r⟩ := st; ⟨o, k o e, r⟩
  seq := fun X pins σ H s l xs I e => by
    obtain ⟨its, r, p, _⟩ := I.tuple (SqT.of e)
    exact ⟨its, r, p⟩
  dr := fun P w A hh it l hne items => Draws.tup hh it l hne items
  inj := fun a b e => by cases e; rfl
theorem turn_enumS {c : List V → HO} {IsS : Heap → Addr → Array Value → Prop} {IsI : Heap → Addr → Addr → Nat → Prop} (S : SeqKind c IsS IsI) {P : Program} {w : World} {K : PySem.W.Frag} {elts : List Expr} {kt : Nat} {pt : Pos} {e it l : Addr} (hei : e ≠ it) :
    Turn P w K (.Tuple elts kt pt) (IteS c l) [e, it] e (fun i h => (∃ old, IsEnum h e it i old) ∧ IsI h it l i) where
  mem := by simp
  obj := fun i h st b hb => by
    obtain ⟨⟨old, he⟩, st⟩ := st
    have q : b = e ∨ b = it := by simpa using hb
    rcases q with rfl | rfl
    · exact ⟨_, he, fun v z => by cases z⟩
    · exact S.obj _ _ _ _ st
  keep := fun i h h' st k => ⟨let ⟨old, he⟩ := st.1; ⟨old, k e (by simp) _ he⟩, S.kp _ _ _ _ _ st.2 fun o q => k it (by simp) o q⟩
  item := by
    intro X hP' hw hK hc i pins s σ H E I hf st hg
    subst hP' hw hK
    obtain ⟨xs, y, hl, hy⟩ := hg
    obtain ⟨its, rv, p⟩ := S.seq X pins σ H s l xs I hl
    obtain ⟨u, hu, ru⟩ := rv.get hy
    have fe := hf e (by simp)
    have fi := hf it (by simp)
    have hle : l ≠ e := ne_of_none hl fe.1
    have hli : l ≠ it := ne_of_none hl fi.1
    have hlt : i < its.toArray.size := by
      have := List.getElem?_eq_some_iff.mp hu
      simpa using this.1
    obtain ⟨⟨old, he⟩, hs⟩ := st
    have het : e < s.heap.objs.size := Heap.lt_size he
    have hit : it < s.heap.objs.size := by obtain ⟨o, q, _⟩ := S.obj _ _ _ _ hs; exact Heap.lt_size q
    refine wpAny_pyNext_enum_itemD (S.dr X.prog X.w X.A.in1 (I.ok.hd hc) it l hli its.toArray) he ⟨hs, p⟩ hlt hei (by simp [hei, Ne.symm hle]) fun x h' tk hx ho' hs' hT hsz hk => ?_
    refine ⟨.ref s.heap.objs.size, rfl, wpAny_letOwnedTupleGo_enum (s := { s with heap := h', toks := tk + 1 }) ho' fun h2 he2 hs2 => ?_⟩
    have hxu : x = u := by
      have h1 : its[i]? = some x := by simpa using hx
      rw [hu] at h1
      exact (Option.some.inj h1).symm
    subst hxu
    have hT2 : h2.get? s.heap.objs.size = some { cls := .type "tuple", data := .seq #[.int i tk, x] } := (hs2.2 _ (Nat.ne_of_gt het)).trans hT
    have new : ObjOk X.prog X.w (upd H s.heap.objs.size (.tup [.int (i : Int), y])) h2 s.heap.objs.size (.tup [.int (i : Int), y]) := ⟨(by show 2 ≤ sizeLine; decide), [.int i tk, x], .cons ⟨tk, rfl⟩ (.cons ru .nil), ⟨_, hT2, rfl, _, rfl⟩, _, hT2, rfl⟩
    refine ⟨.ref s.heap.objs.size, _, I.turn2l fe fi (fun c o c1 c2 q => (hs2.2 c c1).trans (hk c o c1 c2 q)) (Nat.le_refl _) new, rfl, ⟨s.heap.objs.size, xs, y, I.hok.fresh (Nat.le_refl _), rfl, hl, hy, rfl⟩, ⟨⟨x, by simpa using he2⟩, S.kp _ _ _ _ _ hs'.1 fun o q => (hs2.2 it (Ne.symm hei)).trans q⟩, fun b hb => ?_⟩
    have q : b = e ∨ b = it := by simpa using hb
    rcases q with rfl | rfl
    · rw [upd_ne (Nat.ne_of_lt het)]; exact fe.1
    · rw [upd_ne (Nat.ne_of_lt hit)]; exact fi.1
  done := by
    intro X hP' hw hK hc i pins s σ H E I hf st hg
    subst hP' hw hK
    obtain ⟨xs, hl, hn⟩ := hg
    obtain ⟨its, rv, p⟩ := S.seq X pins σ H s l xs I hl
    have fe := hf e (by simp)
    have fi := hf it (by simp)
    have hle : l ≠ e := ne_of_none hl fe.1
    have hli : l ≠ it := ne_of_none hl fi.1
    have hi : i = its.toArray.size := by rw [← hn, rv.length]; simp
    subst hi
    have W := WalksT.enumerateD (S.dr X.prog X.w X.A.in1 (I.ok.hd hc) it l hli its.toArray) e hei (by simp [hei, Ne.symm hle]) (by simp)
    exact W.done s _ _ ⟨st.1, st.2, p⟩ fun h' tk kk => ⟨rfl, I.turn2 fe fi fun c o c1 c2 q => kk c o (by simp [c1, c2]) q⟩
  self := fun A i s Q E st q => by
    obtain ⟨⟨old, he⟩, _⟩ := st
    exact wpAny_pyIter_enum he q
def iEnum (c : List V → HO) (te : TE) : TI := fun σ H R => te σ H fun x H1 => ∃ l xs, [x] = [V.ref l] ∧ H1 l = some (c xs) ∧ R (IteS c l) H1
section
variable {X : Cx} {elts : List Expr} {kt : Nat} {pt : Pos} {e : Expr} {te : TE} {p pos : Pos}
theorem enum_pie {c : List V → HO} {IsS : Heap → Addr → Array Value → Prop} {IsI : Heap → Addr → Addr → Nat → Prop} (S : SeqKind c IsS IsI) {pins : List (Addr × Obj)} {σ : St} {H : Hp} {s : Shared} {R : It → Hp → Prop} {l : Addr} {h' : Heap} (I : Inv X pins σ H s)
    (he : IsEnum h' (s.heap.objs.size + 1) s.heap.objs.size 0 .none) (hi : IsI h' s.heap.objs.size l 0) (k : ∀ b o, s.heap.get? b = some o → h'.get? b = some o) (q : R (IteS c l) H) :
    PIE X pins σ (.Tuple elts kt pt) R (.ref (s.heap.objs.size + 1)) { s with heap := h' } := by
  refine ⟨s.heap.objs.size + 1, [s.heap.objs.size + 1, s.heap.objs.size], _, _, H, rfl, I.kept (t' := s.toks) k, turn_enumS S (Nat.ne_of_gt (Nat.lt_succ_self _)), ⟨⟨.none, he⟩, hi⟩, fun b hb => ?_, q⟩
  have e : b = s.heap.objs.size + 1 ∨ b = s.heap.objs.size := by simpa using hb
  rcases e with rfl | rfl
  · exact I.fpOk (Nat.le_succ _) (I.hok.fresh (Nat.le_succ _))
  · exact I.fpOk (Nat.le_refl _) (I.hok.fresh (Nat.le_refl _))
theorem pi_enumL (hg : Gl X "enumerate") (hm : X.mg "enumerate" = none) (he : PE X e te) (hs : starEach [e] X.env = [(false, eval e X.env)] := by rfl) : PI X (.Tuple elts kt pt) (.Call (.Name "enumerate" p) [e] [] pos) (iEnum HO.lst te) := by
  intro pins s σ H R I h
  refine Call_ (ld_blt I hg hm boot_enumerate (PyProof.Rows.callWith_type1 (thn (pa_cons he pa_nil hs pos pins s σ H (fun zs H1 => ∃ l xs, zs = [V.ref l] ∧ H1 l = some (HO.lst xs) ∧ R (IteS HO.lst l) H1) I h) fun us s1 ⟨vs, H1, I1, r1, q1⟩ => ?_) hs rfl))
  obtain ⟨l, xs, rfl, hl, q⟩ := q1
  obtain ⟨u, rfl, ru⟩ := vals1 r1
  cases ru
  obtain ⟨its, rv, pl⟩ := seq_lst.seq X pins σ H1 s1 l xs I1 hl
  exact call_enumerate_list pl fun h' hen hit _ k => wpAny_pyIter_enum hen (enum_pie seq_lst I1 hen hit k q)
theorem pi_enumT (hg : Gl X "enumerate") (hm : X.mg "enumerate" = none) (he : PE X e te) (hs : starEach [e] X.env = [(false, eval e X.env)] := by rfl) : PI X (.Tuple elts kt pt) (.Call (.Name "enumerate" p) [e] [] pos) (iEnum HO.tup te) := by
  intro pins s σ H R I h
  refine Call_ (ld_blt I hg hm boot_enumerate (PyProof.Rows.callWith_type1 (thn (pa_cons he pa_nil hs pos pins s σ H (fun zs H1 => ∃ l xs, zs = [V.ref l] ∧ H1 l = some (HO.tup xs) ∧ R (IteS HO.tup l) H1) I h) fun us s1 ⟨vs, H1, I1, r1, q1⟩ => ?_) hs rfl))
  obtain ⟨l, xs, rfl, hl, q⟩ := q1
  obtain ⟨u, rfl, ru⟩ := vals1 r1
  cases ru
  obtain ⟨its, rv, pl⟩ := seq_tup.seq X pins σ H1 s1 l xs I1 hl
  exact call_enumerate_tup pl fun h' hen hit k => wpAny_pyIter_enum hen (enum_pie seq_tup I1 hen hit k q)
end
theorem for_eS {c : List V → HO} (hinj : ∀ a b, c a = c b → a = b) {l : Addr} {xs : List V} {g : TG} {tb : TS} {D : Ends} {σ : St} {H : Hp} (Pv : Nat → St → Hp → Prop) (h0 : Pv 0 σ H) (hl : ∀ i σ H, i ≤ xs.length → Pv i σ H → H l = some (c xs))
    (hs : ∀ i x σ H T, xs[i]? = some x → Pv i σ H → H T = none → g (.ref T) σ (upd H T (.tup [.int (i : Int), x])) fun σ2 H2 => tb { D with nx := Pv (i + 1), ct := Pv (i + 1), bk := D.nx } σ2 H2) (hd : ∀ σ H, Pv xs.length σ H → D.nx σ H) :
    ∃ W : Nat → Nat → St → Hp → Prop, (∃ m, W 0 m σ H) ∧ ∀ i m σ H, W i m σ H →
      ((IteS c l).stop i H ∧ D.nx σ H) ∨ ((IteS c l).go i H ∧ ∃ N : St → Hp → Prop, (∀ σ' H', N σ' H' → ∃ m', m' < m ∧ W (i + 1) m' σ' H') ∧ ∀ x H', (IteS c l).yld i H x H' → g x σ H' fun σ2 H2 => tb { D with nx := N, ct := N, bk := D.nx } σ2 H2) := by
  refine ⟨fun i m σ H => m = xs.length - i ∧ i ≤ xs.length ∧ Pv i σ H, ⟨xs.length, by simp, Nat.zero_le _, h0⟩, ?_⟩
  rintro i m σ H ⟨rfl, hi, p⟩
  have q := hl i σ H hi p
  by_cases hlt : i < xs.length
  · refine .inr ⟨⟨xs, xs[i], q, by simp [hlt]⟩, Pv (i + 1), fun σ' H' p' => ⟨xs.length - (i + 1), by omega, rfl, hlt, p'⟩, fun x H' y => ?_⟩
    obtain ⟨T, ys, y, hT, rfl, q2, hy, rfl⟩ := y
    rw [q] at q2
    have := hinj _ _ (Option.some.inj q2)
    subst this
    exact hs i y σ _ T hy p hT
  · have e : i = xs.length := by omega
    subst e
    exact .inl ⟨⟨xs, q, rfl⟩, hd σ H p⟩
theorem comp_eS {c : List V → HO} (hinj : ∀ a b, c a = c b → a = b) {l : Addr} {xs : List V} {g : TG} {tf : TT} {te : TE} {fin : List V → Hp → Prop} {n : Nat} {σ : St} {H : Hp} (Pv : Nat → List V → Hp → Prop) (hk : xs.length ≤ 1000000) (h0 : Pv 0 [] H) (hl : ∀ i ys H, Pv i ys H → H l = some (c xs)) (hz : ∀ i ys H, Pv i ys H → ys.length ≤ i)
    (hgo : ∀ i x ys H T, xs[i]? = some x → Pv i ys H → H T = none → g (.ref T) (σ ++ List.replicate n none) (upd H T (.tup [.int (i : Int), x])) fun σ2 H2 => tf σ2 H2 fun b H3 => if b = true then te σ2 H3 (fun y H4 => Pv (i + 1) (ys ++ [y]) H4) else Pv (i + 1) ys H3)
    (hst : ∀ ys H, Pv xs.length ys H → fin ys H) :
    ∃ W : Nat → Nat → List V → Hp → Prop, (∃ m, W 0 m [] H) ∧ ∀ i m ys H, W i m ys H → ys.length ≤ sizeLine ∧ (((IteS c l).stop i H ∧ fin ys H) ∨ ((IteS c l).go i H ∧ ∃ (Y : V → Hp → Prop) (Z : Hp → Prop), (∀ y H4, Y y H4 → ys.length < sizeLine ∧ ∃ m', m' < m ∧ W (i + 1) m' (ys ++ [y]) H4) ∧
      (∀ H3, Z H3 → ∃ m', m' < m ∧ W (i + 1) m' ys H3) ∧ ∀ x H', (IteS c l).yld i H x H' → g x (σ ++ List.replicate n none) H' fun σ2 H2 => tf σ2 H2 fun b H3 => if b = true then te σ2 H3 Y else Z H3)) :=
  comp_by Pv hk h0 hz (fun i ys H hi p => by
    have q := hl i ys H p
    refine ⟨⟨xs, xs[i], q, by simp [hi]⟩, fun x H' y => ?_⟩
    obtain ⟨T, zs, y, hT, rfl, q2, hy, rfl⟩ := y
    rw [q] at q2
    have := hinj _ _ (Option.some.inj q2)
    subst this
    exact hgo i y ys _ T hy p hT) fun ys H p => ⟨⟨xs, hl _ ys H p, rfl⟩, hst ys H p⟩
end L2
namespace L2
open PySem PySem.Spec PyProof.Rows
theorem presum_take (ns : List Int) : ∀ j, j ≤ ns.length → preSum (fun i => ns.getD i 0) j = (ns.take j).sum
  | 0, _ => by simp [preSum]
  | j + 1, h => by
    have h2 := presum_take ns j (by omega)
    rw [preSum, h2, List.take_add_one, List.getElem?_eq_getElem (by omega), List.sum_append]
    have hj : j < ns.length := by omega
    simp [hj]
theorem sum_bound (B : Int) (hB : 0 ≤ B) : ∀ ns : List Int, (∀ a, a ∈ ns → 0 ≤ a ∧ a ≤ B) → 0 ≤ ns.sum ∧ ns.sum ≤ ns.length * B
  | [], _ => by simp
  | a :: r, h => by
    have h1 := sum_bound B hB r fun b hb => h b (List.mem_cons_of_mem _ hb)
    have h2 := h a (by simp)
    rw [List.sum_cons, List.length_cons]
    push_cast
    rw [Int.add_mul]
    omega
theorem call_sumL {X : Cx} (hc : X.calm = true) : CallR X (.builtin "sum") (fun xs H Q => ∃ (l : Addr) (ns : List Int), xs = [.ref l] ∧ SqL X.K H l (ns.map V.int) ∧ (∀ a, a ∈ ns → 0 ≤ a ∧ a ≤ 2 ^ 50) ∧ ns.length ≤ 1000 ∧ Q (.int ns.sum) H) := by
  intro pins s σ H xs us Q I r h
  obtain ⟨l, ns, rfl, hq, hb, hn, q⟩ := h
  obtain ⟨u, rfl, rx⟩ := vals1 r
  cases rx
  obtain ⟨its, r', pl, hz⟩ := I.list hq
  have hl := pl.isList
  have hlt : l < s.heap.objs.size := by obtain ⟨_, e, _⟩ := hl; exact Heap.lt_size e
  have hlen : ns.length = its.length := by rw [← r'.length, List.length_map]
  have hsum : ∀ j, j ≤ ns.length → 0 ≤ preSum (fun i => ns.getD i 0) j ∧ preSum (fun i => ns.getD i 0) j ≤ 1000 * 2 ^ 50 := fun j hj => by
    rw [presum_take ns j hj]
    have h1 := sum_bound (2 ^ 50) (by decide) (ns.take j) fun a ha => hb a (List.mem_of_mem_take ha)
    have h2 : ((ns.take j).length : Int) ≤ 1000 := by rw [List.length_take]; omega
    have h3 : ((ns.take j).length : Int) * 2 ^ 50 ≤ 1000 * 2 ^ 50 := Int.mul_le_mul_of_nonneg_right h2 (by decide)
    omega
  refine call_sum_walk (wpAny_pyIter_list hl ?_)
  refine ⟨s.heap.objs.size, _, _, its.toArray.size, _, _, fun i => ns.getD i 0, rfl, Walks.list (A := X.A.in1) (I.ok.hd hc) _ l (Nat.ne_of_lt hlt) its.toArray, ⟨⟨_, Heap.get?_push_size _ rfl, rfl, rfl⟩, hl.push _⟩, fun b hbm => ?_, fun i v e => vals_at r' e, fun j hj => ?_, fun h' tk t' hk => ?_⟩
  · have e : b = s.heap.objs.size ∨ b = l := by simpa using hbm
    have z : (s.heap.push { cls := .type "list_iterator", data := .fields #[.ref l, .int 0 0] }).objs.size = s.heap.objs.size + 1 := Heap.size_push ..
    show b < (s.heap.push { cls := .type "list_iterator", data := .fields #[.ref l, .int 0 0] }).objs.size
    rw [z]
    rcases e with rfl | rfl
    · exact Nat.lt_succ_self _
    · exact Nat.lt_succ_of_lt hlt
  · rw [List.size_toArray, ← hlen] at hj
    have h1 := hsum (j + 1) hj
    have h2 := hb (ns.getD j 0) (by rw [getD_lt hj]; exact List.getElem_mem hj)
    refine ⟨⟨?_, ?_⟩, ⟨by omega, by omega⟩⟩
    · show -(2 ^ 63) ≤ ns.getD j 0
      omega
    · show ns.getD j 0 < 2 ^ 63
      omega
  · rw [List.size_toArray, ← hlen, presum_take ns _ (Nat.le_refl _), List.take_length]
    exact ⟨.int ns.sum, H, I.kept fun b o e => hk b o (fun z => Nat.ne_of_lt (Heap.lt_size e) (List.mem_singleton.mp z)) (Heap.get?_push_of_some _ e), ⟨t', rfl⟩, q⟩
end L2
namespace L2
open PySem PySem.Spec PyProof.Rows
section
variable {X : Cx} {K : PySem.W.Frag} {pos : Pos}
theorem pg_tupK {es : List Expr} {k : Nat} {t : TGs} {n : Nat} (hK : X.K = K) (hc : X.calm = true) (h : PGs X es t) (hn : (assignEach es X.env).length = n) (hst : (assignEach es X.env).findIdx? (·.1) = none := by rfl) : PG X (.Tuple es k pos) (gTup K n t) := by
  subst hK; exact pg_tup hc h hn hst
/-- t + u, whatever they hold -/
def rCatA (K : PySem.W.Frag) : R2 := fun x y H Q => ∃ a b xs ys, x = .ref a ∧ y = .ref b ∧ H a = some (.tup xs) ∧ H b = some (.tup ys) ∧ xs.length + ys.length ≤ sizeLine ∧ ∀ r H', H' r = some (.tup (xs ++ ys)) → (∀ b o, H b = some o → H' b = some o) → Q (.ref r) H'
theorem op_catA : OpR X (binaryOp .Add) (rCatA X.K) := by
  intro pins s σ H x y v u Q I rx ry h
  obtain ⟨a, b, xs, ys, rfl, rfl, ha, hb, hz, q⟩ := h
  by_cases hx : xs = []
  · subst hx
    cases rx
    cases ry
    obtain ⟨its, r1, p1, _⟩ := I.tuple (SqT.of ha)
    obtain ⟨its2, r2, p2, _⟩ := I.tuple (SqT.of hb)
    cases r1
    obtain ⟨⟨cls, dd, data, sl⟩, ho, hc, n, hd⟩ := id p1
    obtain ⟨⟨cls2, dd2, data2, sl2⟩, ho2, hc2, n2, hd2⟩ := id p2
    simp only at hc hd hc2 hd2
    subst hc hd hc2 hd2
    exact concat_meets ⟨_, ho, rfl⟩ ⟨_, ho2, rfl⟩ noFill_tuple_add seq_tuple_add PySem.F.slot_tuple_add PySem.F.entry_tuple_add (PySem.F.args_tuple_add_2 _ _)
      (tuple_addW0 a b #[] its2.toArray n n2 dd dd2 sl sl2 rfl) ⟨ho, ho2, ⟨.ref b, H, I, rfl, q b H hb fun _ _ e => e⟩⟩
  · refine op_catT pins s σ H (.ref a) (.ref b) v u Q I rx ry ⟨a, b, xs, ys, rfl, rfl, SqT.of ha, SqT.of hb, hx, hz, fun e => ?_, fun _ p hp => ?_⟩
    · subst e
      exact q a H (by rw [List.append_nil]; exact ha) fun _ _ e => e
    · exact q p _ upd_same fun c o e => by rw [upd_ne (ne_of_none e hp)]; exact e
end
end L2
namespace PySem
open Sem (wp)
open Builtin
open AutoSeq1 (wpAny_loadPart')
theorem tuple_indexAt (l : Addr) (items : Array Value) (n : Nat) (dd : Option Addr) (sl : Array (Option Value)) (x : Value) (e : Value → Bool) (j : Nat) (hj : j < items.size) (hit : e items[j] = true) (hno : ∀ m (hm : m < items.size), m < j → e items[m] = false) :
    Meets (Builtin.«tuple.index» ⟨[.ref l, x], []⟩)
      (fun A R s => s.heap.get? l = some { cls := .type "tuple", dict := dd, data := .seq items n, slots := sl } ∧ (∀ y, y ∈ items → SeqAt.EqAt A.in1 s y x (e y)) ∧ R (.ok (.ret (.int j s.toks))) { s with toks := s.toks + 1 }) :=
  .of_wp fun prog w A R s h => by
    obtain ⟨hp, g, d, tk, os⟩ := s
    obtain ⟨hl, he, h⟩ := h
    unfold Builtin.«tuple.index»
    refine wpAny_bind (wpAny_of_eq (a := (Value.ref l, [x])) rfl ?_)
    refine wpAny_bind (wpAny_tupleItemsOf hl rfl ?_)
    dsimp only
    refine wpAny_bind (wpAny_pure ?_)
    refine wpAny_bind (wpAny_pure ?_)
    rw [Nat.min_self, Std.Legacy.Range.forIn_eq_forIn_range']
    have hz : List.range' ([:items.size]).start ([:items.size]).size ([:items.size]).step = List.range' 0 items.size 1 := by
      simp [Std.Legacy.Range.size]
    rw [hz]
    refine wpAny_bind (wpAny_forIn_list _ (fun rest b s' => b = (none, ()) ∧ s' = ⟨hp, g, d, tk, os⟩ ∧ ∃ i, i ≤ j ∧ rest = List.range' i (items.size - i) 1) _ ?_ ?_ _ _ ⟨rfl, rfl, 0, Nat.zero_le _, by simp⟩)
    · rintro i rest b s' ⟨rfl, rfl, k, hk, hr⟩
      have hks : k < items.size := by omega
      rw [show items.size - k = (items.size - (k + 1)) + 1 by omega, List.range'_succ] at hr
      obtain ⟨rfl, rfl⟩ := List.cons.inj hr
      have hi : items[i]? = some items[i] := by simp [hks]
      rw [hi]
      dsimp only
      refine wpAny_bind (he _ (Array.getElem_mem hks) prog w _ _ ?_)
      by_cases hij : i = j
      · subst hij
        rw [hit, if_pos rfl]
        refine wpAny_bind (wpAny_bind (wpAny_mkInt (wpAny_pure ?_)))
        exact wpAny_pure (wpAny_pure ⟨_, rfl, h⟩)
      · rw [hno i hks (by omega), if_neg Bool.false_ne_true]
        exact wpAny_pure ⟨rfl, rfl, i + 1, by omega, rfl⟩
    · rintro b s' ⟨rfl, rfl, k, hk, hr⟩
      have := congrArg List.length hr
      simp at this
      omega
end PySem
namespace L2
open PySem PySem.Spec PyProof.Rows
/-- t.index(n), t a tuple of ints that holds n -/
theorem mt_tindex {X : Cx} : MtM X "tuple.index" (fun x xs H Q => ∃ (a : Addr) (ns : List Int) (v : Int) (j : Nat) (h : j < ns.length), x = .ref a ∧ xs = [.int v] ∧ H a = some (.tup (ns.map V.int)) ∧ ns[j] = v ∧ (∀ m (hm : m < ns.length), m < j → ns[m] ≠ v) ∧ Q (.int (j : Int)) H) := by
  intro pins s σ H x xs v us Q I rx rs h
  obtain ⟨a, ns, z, j, hj, rfl, rfl, ha, hz, hno, q⟩ := h
  cases rx
  obtain ⟨u, rfl, t, rfl⟩ := vals1 rs
  obtain ⟨its, r, p, _⟩ := I.tuple (SqT.of ha)
  have hlen : ns.length = its.length := by rw [← r.length, List.length_map]
  have hat : ∀ m (hm : m < ns.length), ∃ t', its[m]'(by omega) = .int ns[m] t' := fun m hm => by
    obtain ⟨t', e⟩ := vals_at r (i := m) (v := its[m]'(by omega)) (by simp)
    refine ⟨t', ?_⟩
    rw [e, getD_lt hm]
  have f1 : flatV (.int z) = true := rfl
  have f2 : (ns.map V.int).all flatV = true := by simp [flatV]
  obtain ⟨⟨cls, dd, data, sl⟩, ho, hc, n, hd⟩ := id p
  simp only at hc hd
  subst hc hd
  refine call_meets PySem.F.slot_tuple_index ⟨_, ho, rfl⟩ PySem.F.entry_tuple_index (PySem.F.args_tuple_index_2 _ _) (tuple_indexAt a its.toArray n dd sl (.int z t) (eqU (.int z)) j (by simp; omega) ?_ ?_) ⟨ho, ?_, ?_⟩
  · obtain ⟨t', e⟩ := hat j hj
    simp only [List.getElem_toArray]
    rw [e, hz]
    show eqV (.int z) (.int z) = true
    simp [eqV]
  · intro m hm hmj
    have hm2 : m < ns.length := by simp at hm; omega
    obtain ⟨t', e⟩ := hat m hm2
    simp only [List.getElem_toArray]
    rw [e]
    show eqV (.int ns[m]) (.int z) = false
    have := hno m hm2 hmj
    simp [eqV, this]
  · intro y hy
    exact mem_eqAt (x := .int z) ⟨t, rfl⟩ f1 r f2 y (by simpa using hy)
  · exact ⟨.int (j : Int), H, I.tok _, ⟨_, rfl⟩, q⟩
def tBMT (r : V → List V → Hp → VK → Prop) (to : TE) (t : TA) : TE := fun σ H Q => to σ H fun x H1 => (∃ p xs, x = .ref p ∧ H1 p = some (.tup xs)) ∧ t σ H1 fun ys H2 => r x ys H2 Q
/-- t.m(e), t a tracked tuple -/
theorem pe_bmT {X : Cx} {o e : Expr} {to : TE} {t : TA} {name : Str} {apos cpos : Pos} {id : String} {r : V → List V → Hp → VK → Prop} (slot : Slot "tuple" name id) (hty : typeOf (.builtin id) = pure (.type "method_descriptor")) (hm : MtR X id r) (ho : PE X o to) (ha : PA X [e] t)
    (hbase : attributeBase o name X.env (eval o X.env) = eval o X.env := by rfl)
    (hfew : ((backTo cpos (starEach [e] X.env)).all (fun x => !x.1) && (backToKw cpos (keywordEach [] X.env)).all (fun x => x.1.isSome) && decide (([e] : List Expr).length + ([] : List Keyword).length + (if ([] : List Keyword).isEmpty then 0 else 1) < 30)) = true := by rfl)
    (hline : (apos.endLine == cpos.line) = true := by rfl) (hs : starEach [e] X.env = [(false, eval e X.env)] := by rfl) :
    PE X (.Call (.Attribute o name apos) [e] [] cpos) (tBMT r to t) := by
  intro pins s σ H Q I h
  refine wpAny_Call_method_late hbase hfew hline rfl (thn (ho pins s σ H _ I h) fun v s1 ⟨x, H1, I1, r1, ⟨p, xs, ex, hp⟩, q1⟩ => ?_)
  subst ex
  cases r1
  obtain ⟨_, _, _, ⟨ob, h1, h2, _⟩, od, h3, h4⟩ := (show ObjOk X.prog X.w H1 s1.heap p (.tup xs) from I1.hok p _ hp)
  refine ⟨"tuple", id, PySem.F.plainAttrs_tuple, slot, hty, ⟨ob, h1, h2⟩, fun a e => by cases e; exact ⟨od, h3, h4⟩, ?_⟩
  have hA := ha cpos pins s1 σ H1 _ I1 q1
  rw [hs] at hA ⊢
  refine Calls.callWith_builtin rfl (Calls.evalArgs_plain ?_)
  exact thn hA fun us s2 ⟨vs, H2, I2, r2, q2⟩ => hm pins s2 σ H2 (.ref p) vs (.ref p) us Q I2 rfl r2 q2
end L2
namespace Mth
theorem two_pow_pos (n : Nat) : (1 : Int) ≤ 2 ^ n := by
  have h : (0 : Int) < 2 ^ n := Int.pow_pos (by decide)
  omega
theorem two_pow_succ (n : Nat) : (2 : Int) ^ (n + 1) = 2 ^ n * 2 := Int.pow_succ 2 n
theorem two_pow_mono {m n : Nat} (h : m ≤ n) : (2 : Int) ^ m ≤ 2 ^ n := by
  induction n with
  | zero => have : m = 0 := by omega
            subst this; exact Int.le_refl _
  | succ n ih =>
    by_cases e : m = n + 1
    · subst e; exact Int.le_refl _
    · have h1 := ih (by omega)
      have h2 := two_pow_succ n
      have h3 := two_pow_pos n
      omega
theorem lt_of_pow_lt {m n : Nat} (h : (2 : Int) ^ m < 2 ^ n) : m < n := by
  apply Classical.byContradiction
  intro c
  have := two_pow_mono (m := n) (n := m) (by omega)
  omega
/-- w is the least width that writes m numbers -/
def Wid (m : Int) (w : Nat) : Prop := m ≤ 2 ^ w ∧ (w = 0 ∨ 2 ^ (w - 1) < m)
theorem Wid.one {w : Nat} (h : Wid 1 w) : w = 0 := by
  rcases h with ⟨_, h | h⟩
  · exact h
  · have := two_pow_pos (w - 1); omega
theorem Wid.two {w : Nat} (h : Wid 2 w) : w = 1 := by
  rcases h with ⟨h1, h | h⟩
  · subst h; simp at h1
  · have h2 : (2 : Int) ^ (w - 1) < 2 ^ 1 := by simpa using h
    have h3 := lt_of_pow_lt h2
    have h4 : w ≠ 0 := by intro e; subst e; simp at h1
    omega
theorem Wid.lt {m : Int} {w n : Nat} (h : Wid m w) (hm : m < 2 ^ n) : w ≤ n := by
  rcases h with ⟨h1, h | h⟩
  · omega
  · have h2 : (2 : Int) ^ (w - 1) < 2 ^ n := by omega
    have := lt_of_pow_lt h2
    omega
end Mth
namespace Mth
theorem emod_self_sub (n S : Int) : (n - n % S) % S = 0 := by
  have h := Int.mul_ediv_add_emod n S
  have e : n - n % S = S * (n / S) := by omega
  rw [e]; exact Int.mul_emod_right _ _
theorem emod_sub_emod (n S : Int) : (n % S - n) % S = 0 := by
  have h := Int.mul_ediv_add_emod n S
  have e : n % S - n = S * (-(n / S)) := by rw [Int.mul_neg]; omega
  rw [e]; exact Int.mul_emod_right _ _
/-- the number of the window with this rest -/
theorem win_rest (l r S : Int) : (l + (r - l) % S - r) % S = 0 := by
  have e : l + (r - l) % S - r = (r - l) % S - (r - l) := by omega
  rw [e]; exact emod_sub_emod _ _
end Mth
namespace Mth
theorem odd_cancel (o : Int) (ho : o % 2 = 1) : ∀ (b : Nat) (d : Int), (2 : Int) ^ b ∣ o * d → (2 : Int) ^ b ∣ d
  | 0, d, _ => by simp
  | b + 1, d, h => by
    obtain ⟨q, hq⟩ := h
    rw [two_pow_succ] at hq ⊢
    have h2 : o * d % 2 = 0 := by
      rw [hq, Int.mul_assoc, Int.mul_left_comm]
      exact Int.mul_emod_right 2 _
    have hd : d % 2 = 0 := by
      rw [Int.mul_emod, ho, Int.one_mul] at h2
      omega
    obtain ⟨e, rfl⟩ : ∃ e, d = 2 * e := ⟨d / 2, by omega⟩
    have h3 : o * e = 2 ^ b * q := by
      have : 2 * (o * e) = 2 * (2 ^ b * q) := by
        rw [← Int.mul_left_comm, hq, Int.mul_comm ((2 : Int) ^ b) 2, Int.mul_assoc]
      omega
    obtain ⟨r, hr⟩ := odd_cancel o ho b e ⟨q, h3⟩
    refine ⟨r, ?_⟩
    rw [hr, Int.mul_comm ((2 : Int) ^ b) 2, Int.mul_assoc]
def rowOf (f o B : Int) (n : Nat) : List Int := (List.range n).map fun (k : Nat) => (f + o * (k : Int)) % B
theorem row_length (f o B : Int) (n : Nat) : (rowOf f o B n).length = n := by simp [rowOf]
theorem row_nodup (f o : Int) (b n : Nat) (ho : o % 2 = 1) (hn : (n : Int) ≤ 2 ^ b) : (rowOf f o (2 ^ b) n).Nodup := by
  unfold rowOf
  rw [List.Nodup, List.pairwise_map]
  refine List.Pairwise.imp_of_mem ?_ List.pairwise_lt_range
  intro i j hi hj hij e
  rw [List.mem_range] at hi hj
  rw [Int.emod_eq_emod_iff_emod_sub_eq_zero] at e
  have hd := Int.dvd_of_emod_eq_zero e
  rw [show f + o * (i : Int) - (f + o * (j : Int)) = o * ((i : Int) - j) by rw [Int.mul_sub]; omega] at hd
  obtain ⟨q, hq⟩ := odd_cancel o ho b _ hd
  have hp := two_pow_pos b
  have : q < 0 := by
    rcases Int.lt_or_le q 0 with h | h
    · exact h
    · have := Int.mul_nonneg (show (0 : Int) ≤ 2 ^ b by omega) h
      omega
  have h2 : (2 : Int) ^ b * q ≤ 2 ^ b * (-1) := Int.mul_le_mul_of_nonneg_left (by omega) (by omega)
  omega
theorem row_bound (f o : Int) (b n : Nat) : ∀ v ∈ rowOf f o (2 ^ b) n, 0 ≤ v ∧ v < 2 ^ b := by
  intro v hv
  obtain ⟨k, _, rfl⟩ := List.mem_map.mp hv
  have hp := two_pow_pos b
  exact ⟨Int.emod_nonneg _ (by omega), Int.emod_lt_of_pos _ (by omega)⟩
theorem row_snoc (f o B : Int) (n : Nat) : rowOf f o B (n + 1) = rowOf f o B n ++ [(f + o * (n : Int)) % B] := by
  unfold rowOf
  rw [List.range_succ, List.map_append]
  rfl
end Mth
namespace Mth
def bt (c : Nat) : Int := if c = 49 then 1 else 0
def tv : List Nat → Int
  | [] => 0
  | c :: r => bt c + 2 * tv r
def val (cs : List Nat) : Int := cs.foldl (fun a c => a * 2 + bt c) 0
theorem bt_01 (c : Nat) : bt c = 0 ∨ bt c = 1 := by unfold bt; split <;> simp
theorem tv_foldr : ∀ rs : List Nat, rs.foldr (fun c a => a * 2 + bt c) 0 = tv rs
  | [] => rfl
  | c :: r => by
    rw [List.foldr_cons, tv_foldr r, tv]
    omega
theorem val_eq (cs : List Nat) : val cs = tv cs.reverse := by
  have h := List.foldl_reverse (l := cs.reverse) (f := fun a c => a * 2 + bt c) (b := 0)
  rw [List.reverse_reverse] at h
  unfold val
  rw [h]
  exact tv_foldr cs.reverse
theorem val_snoc (cs : List Nat) (c : Nat) : val (cs ++ [c]) = val cs * 2 + bt c := by
  unfold val
  rw [List.foldl_append]
  rfl
theorem tv_nonneg : ∀ rs : List Nat, 0 ≤ tv rs
  | [] => Int.le_refl 0
  | c :: r => by
    have h := tv_nonneg r
    have b := bt_01 c
    rw [tv]
    omega
def dig (n : Int) (p : Nat) : Nat := if n / 2 ^ p % 2 = 1 then 49 else 48
def Ds (n : Int) (w : Nat) : List Nat := (List.range w).map (dig n)
theorem dig_succ (n : Int) (p : Nat) : dig n (p + 1) = dig (n / 2) p := by
  unfold dig
  rw [Int.pow_succ, Int.mul_comm, ← Int.ediv_ediv_of_nonneg (by decide)]
theorem Ds_succ (n : Int) (w : Nat) : Ds n (w + 1) = dig n 0 :: Ds (n / 2) w := by
  unfold Ds
  rw [List.range_succ_eq_map, List.map_cons, List.map_map]
  congr 1
  refine List.map_congr_left fun p _ => ?_
  exact dig_succ n p
theorem Ds_snoc (n : Int) (w : Nat) : Ds n (w + 1) = Ds n w ++ [dig n w] := by
  unfold Ds
  rw [List.range_succ, List.map_append]
  rfl
theorem Ds_length (n : Int) (w : Nat) : (Ds n w).length = w := by simp [Ds]
theorem bt_dig (n : Int) (p : Nat) : bt (dig n p) = n / 2 ^ p % 2 := by
  unfold dig bt
  by_cases h : n / 2 ^ p % 2 = 1
  · rw [if_pos h, if_pos rfl, h]
  · rw [if_neg h, if_neg (by decide)]
    omega
theorem dig_bit (n : Int) (p : Nat) : dig n p = 48 ∨ dig n p = 49 := by unfold dig; split <;> simp
theorem tv_Ds : ∀ (w : Nat) (n : Int), 0 ≤ n → n < 2 ^ w → tv (Ds n w) = n
  | 0, n, h0, h1 => by
    have : (2 : Int) ^ 0 = 1 := by decide
    show (0 : Int) = n
    omega
  | w + 1, n, h0, h1 => by
    rw [Ds_succ, tv, bt_dig]
    have e := two_pow_succ w
    have h2 := tv_Ds w (n / 2) (by omega) (by omega)
    have e0 : (2 : Int) ^ 0 = 1 := by decide
    rw [h2, e0, Int.ediv_one]
    omega
theorem Ds_tv : ∀ rs : List Nat, (∀ c ∈ rs, c = 48 ∨ c = 49) → Ds (tv rs) rs.length = rs
  | [], _ => rfl
  | c :: r, h => by
    rw [List.length_cons, Ds_succ, tv]
    have b := bt_01 c
    have e : (bt c + 2 * tv r) / 2 = tv r := by omega
    rw [e, Ds_tv r fun d hd => h d (List.mem_cons_of_mem _ hd)]
    congr 1
    unfold dig
    have e0 : (2 : Int) ^ 0 = 1 := by decide
    rw [e0, Int.ediv_one]
    have hc := h c (by simp)
    unfold bt at b ⊢
    rcases hc with rfl | rfl
    · have z : (if (48 : Nat) = 49 then (1 : Int) else 0) = 0 := by decide
      rw [z, if_neg (by omega)]
    · have z : (if (49 : Nat) = 49 then (1 : Int) else 0) = 1 := by decide
      rw [z, if_pos (by omega)]
theorem rev_range (n : Int) (w : Nat) : (List.range w).map (fun j => dig n (w - 1 - j)) = (Ds n w).reverse := by
  refine List.ext_getElem (by simp [Ds]) fun i h1 h2 => ?_
  simp only [List.length_map, List.length_range] at h1
  simp [Ds]
end Mth
namespace L2
open PySem PySem.Spec PyProof.Rows

/-! ### lists of pairs as tables -/
section
variable {κ : Type} [DecidableEq κ]
def valV (kvs : List (κ × V)) (k : κ) : Option V := (kvs.find? fun kv => decide (kv.1 = k)).map (·.2)
/-- in its place, or at the end -/
def putK (kvs : List (κ × V)) (k : κ) (v : V) : List (κ × V) :=
  if (kvs.any fun kv => decide (kv.1 = k)) = true then kvs.map (fun kv => if kv.1 = k then (kv.1, v) else kv) else kvs ++ [(k, v)]
def dropK (kvs : List (κ × V)) (k : κ) : List (κ × V) := kvs.filter fun kv => decide (kv.1 ≠ k)

theorem valV_nil {k : κ} : valV ([] : List (κ × V)) k = none := rfl
theorem valV_pos {p : κ × V} {r : List (κ × V)} {k : κ} (e : p.1 = k) : valV (p :: r) k = some p.2 := by simp [valV, List.find?_cons, e]
theorem valV_neg {p : κ × V} {r : List (κ × V)} {k : κ} (e : ¬ p.1 = k) : valV (p :: r) k = valV r k := by simp [valV, List.find?_cons, e]
theorem valV_any (k : κ) : ∀ kvs : List (κ × V), (kvs.any fun kv => decide (kv.1 = k)) = (valV kvs k).isSome
  | [] => rfl
  | p :: r => by
    rw [List.any_cons]
    by_cases e : p.1 = k
    · simp only [valV_pos e, decide_eq_true e, Bool.true_or, Option.isSome_some]
    · rw [valV_neg e, decide_eq_false e, Bool.false_or]; exact valV_any k r
theorem valV_map (k j : κ) (y : V) : ∀ kvs : List (κ × V), valV (kvs.map fun kv => if kv.1 = k then (kv.1, y) else kv) j = (valV kvs j).map fun x => if j = k then y else x
  | [] => rfl
  | p :: r => by
    have ih := valV_map k j y r
    rw [List.map_cons]
    by_cases h : p.1 = k
    · rw [if_pos h]
      by_cases e : p.1 = j
      · rw [valV_pos (p := (p.1, y)) e, valV_pos e, Option.map_some, if_pos (e.symm.trans h)]
      · rw [valV_neg (p := (p.1, y)) e, valV_neg e, ih]
    · rw [if_neg h]
      by_cases e : p.1 = j
      · rw [valV_pos (p := p) e, valV_pos e, Option.map_some, if_neg (fun z => h (e.trans z))]
      · rw [valV_neg (p := p) e, valV_neg e, ih]
theorem valV_snoc (k j : κ) (y : V) : ∀ kvs : List (κ × V), valV kvs k = none → valV (kvs ++ [(k, y)]) j = if j = k then some y else valV kvs j
  | [], _ => by
    by_cases e : k = j
    · rw [if_pos e.symm]; exact valV_pos (p := (k, y)) e
    · rw [if_neg (fun z => e z.symm)]; exact valV_neg (p := (k, y)) e
  | p :: r, hn => by
    rw [List.cons_append]
    have hk : ¬ p.1 = k := fun z => by rw [valV_pos z] at hn; cases hn
    rw [valV_neg hk] at hn
    have ih := valV_snoc k j y r hn
    by_cases e : p.1 = j
    · rw [valV_pos e, valV_pos e, if_neg (fun z => hk (e.trans z))]
    · rw [valV_neg e, valV_neg e, ih]
theorem valV_put (kvs : List (κ × V)) (k j : κ) (y : V) : valV (putK kvs k y) j = if j = k then some y else valV kvs j := by
  unfold putK
  by_cases a : (kvs.any fun kv => decide (kv.1 = k)) = true
  · rw [if_pos a, valV_map]
    rw [valV_any] at a
    by_cases e : j = k
    · obtain ⟨x, hx⟩ := Option.isSome_iff_exists.mp a
      rw [if_pos e, e, hx, Option.map_some, if_pos rfl]
    · rw [if_neg e]
      cases valV kvs j with
      | none => rfl
      | some x => rw [Option.map_some, if_neg e]
  · rw [if_neg a]
    refine valV_snoc k j y kvs ?_
    rw [valV_any] at a
    cases q : valV kvs k with
    | none => rfl
    | some x => rw [q] at a; exact (a rfl).elim
theorem length_putK (kvs : List (κ × V)) (k : κ) (v : V) : (putK kvs k v).length ≤ kvs.length + 1 := by
  unfold putK
  split
  · rw [List.length_map]; omega
  · rw [List.length_append, List.length_cons, List.length_nil]; omega
theorem putK_new {kvs : List (κ × V)} {k : κ} (v : V) (h : valV kvs k = none) : putK kvs k v = kvs ++ [(k, v)] := by
  unfold putK
  rw [valV_any, h]
  exact if_neg (by decide)

theorem RelO.isSome_eq {o : Option V} {u : Option Value} (r : RelO o u) : o.isSome = u.isSome := by
  cases o with
  | none => cases u with
    | none => rfl
    | some _ => exact (show False from r).elim
  | some _ => cases u with
    | none => exact (show False from r).elim
    | some _ => rfl
theorem RelO.getD {o : Option V} {u : Option Value} {d : V} {d' : Value} (r : RelO o u) (rd : RelV d d') : RelV (o.getD d) (u.getD d') := by
  cases o with
  | none => cases u with
    | none => exact rd
    | some _ => exact (show False from r).elim
  | some _ => cases u with
    | none => exact (show False from r).elim
    | some _ => exact r

/-- raw tables of the same keys -/
theorem KV.val {kvs : List (κ × V)} {vs : List (κ × Value)} (r : KV kvs vs) (k : κ) : RelO (valV kvs k) (valueAt vs k) := by
  unfold KV at r
  induction r with
  | nil => exact True.intro
  | @cons p q ps qs h t ih =>
    obtain ⟨h1, h2⟩ := h
    by_cases e : p.1 = k
    · have e' : q.1 = k := h1.symm.trans e
      have b : valueAt (q :: qs) k = some q.2 := by simp [valueAt, List.find?_cons, e']
      rw [valV_pos e, b]; exact h2
    · have e' : ¬ q.1 = k := fun z => e (h1.trans z)
      have b : valueAt (q :: qs) k = valueAt qs k := by simp [valueAt, List.find?_cons, e']
      rw [valV_neg e, b]; exact ih
theorem KV.any {kvs : List (κ × V)} {vs : List (κ × Value)} (r : KV kvs vs) (k : κ) : (kvs.any fun kv => decide (kv.1 = k)) = vs.any fun kv => decide (kv.1 = k) := by
  unfold KV at r
  induction r with
  | nil => rfl
  | cons h t ih => rw [List.any_cons, List.any_cons, ih, h.1]
theorem KV.repl {kvs : List (κ × V)} {vs : List (κ × Value)} (r : KV kvs vs) (k : κ) {y : V} {u : Value} (ry : RelV y u) :
    KV (kvs.map fun kv => if kv.1 = k then (kv.1, y) else kv) (vs.map fun kv => if kv.1 = k then (kv.1, u) else kv) := by
  unfold KV at r ⊢
  induction r with
  | nil => exact .nil
  | @cons p q ps qs h t ih =>
    rw [List.map_cons, List.map_cons]
    refine .cons ?_ ih
    obtain ⟨h1, h2⟩ := h
    by_cases e : p.1 = k
    · rw [if_pos e, if_pos (h1.symm.trans e)]; exact ⟨h1, ry⟩
    · rw [if_neg e, if_neg (fun z => e (h1.trans z))]; exact ⟨h1, h2⟩
theorem KV.put {kvs : List (κ × V)} {vs : List (κ × Value)} (r : KV kvs vs) (k : κ) {y : V} {u : Value} (ry : RelV y u) : KV (putK kvs k y) (stored vs k u) := by
  unfold putK stored
  rw [r.any k]
  by_cases e : (vs.any fun kv => decide (kv.1 = k)) = true
  · rw [if_pos e, if_pos e]; exact r.repl k ry
  · rw [if_neg e, if_neg e]; exact Paired.snoc r ⟨rfl, ry⟩
theorem KV.drop {kvs : List (κ × V)} {vs : List (κ × Value)} (r : KV kvs vs) (k : κ) : KV (dropK kvs k) (without vs k) := by
  unfold KV at r ⊢
  unfold dropK without
  induction r with
  | nil => exact .nil
  | @cons p q ps qs h t ih =>
    obtain ⟨h1, h2⟩ := h
    rw [List.filter_cons, List.filter_cons]
    by_cases e : p.1 = k
    · have a : ¬ decide (p.1 ≠ k) = true := by simp [e]
      have b : ¬ decide (q.1 ≠ k) = true := by simp [h1.symm.trans e]
      rw [if_neg a, if_neg b]; exact ih
    · have e' : ¬ q.1 = k := fun z => e (h1.trans z)
      have a : decide (p.1 ≠ k) = true := by simp [e]
      have b : decide (q.1 ≠ k) = true := by simp [e']
      rw [if_pos a, if_pos b]; exact .cons ⟨h1, h2⟩ ih
theorem KV.keys {kvs : List (κ × V)} {vs : List (κ × Value)} (r : KV kvs vs) : kvs.map (·.1) = vs.map (·.1) := by
  unfold KV at r
  induction r with
  | nil => rfl
  | cons h t ih => rw [List.map_cons, List.map_cons, ih, h.1]
theorem KV.length {kvs : List (κ × V)} {vs : List (κ × Value)} (r : KV kvs vs) : kvs.length = vs.length := Paired.length r
theorem dropK_le (kvs : List (κ × V)) (k : κ) : (dropK kvs k).length ≤ kvs.length := List.length_filter_le _ _
end


/-! ### a tracked dict, its keys ints and texts or tuples of these -/
theorem kV_is {P : Program} {w : World} {k : Key} {u : Value} (r : RelV (kV k) u) : (mixKind P w).is k u = true := by
  cases k with
  | inl i => obtain ⟨t, e⟩ := (show ∃ t, u = Value.int i t from r); subst e; exact mixKind_int P w i t
  | inr x => obtain ⟨t, e⟩ := (show ∃ t, u = Value.str x t from r); subst e; exact mixKind_str P w x t
theorem kV_inj {a b : Key} (e : kV a = kV b) : a = b := by
  cases a with
  | inl i => cases b with
    | inl j => have e' : V.int i = V.int j := e; injection e' with e'; rw [e']
    | inr y => exact nomatch (show V.int i = V.str y from e)
  | inr x => cases b with
    | inl j => exact nomatch (show V.str x = V.int j from e)
    | inr y => have e' : V.str x = V.str y := e; injection e' with e'; rw [e']
theorem kVs_inj : ∀ {a b : List Key}, a.map kV = b.map kV → a = b
  | [], [], _ => rfl
  | [], _ :: _, e => by simp at e
  | _ :: _, [], e => by simp at e
  | x :: xs, y :: ys, e => by
    rw [List.map_cons, List.map_cons] at e
    injection e with e1 e2
    rw [kV_inj e1, kVs_inj e2]
theorem items_are {P : Program} {w : World} : ∀ {ks : List Key} {us : List Value}, Vals (ks.map kV) us → ItemsAre (mixKind P w) ks us
  | [], _, r => by rw [List.map_nil] at r; cases r; exact .nil
  | k :: ks, _, r => by
    rw [List.map_cons] at r
    cases r with
    | cons h t => exact .cons (kV_is h) (items_are t)

/-- raw entries of a dict with tuple keys -/
abbrev KT (H : Hp) : List (List Key × V) → List (List Key × Addr × Value) → Prop := Paired fun p q => p.1 = q.1 ∧ H q.2.1 = some (.tup (p.1.map kV)) ∧ RelV p.2 q.2.2
theorem KT.val {H : Hp} {kvs : List (List Key × V)} {xs : List (List Key × Addr × Value)} (r : KT H kvs xs) (k : List Key) : RelO (valV kvs k) ((atKey xs k).map (·.2)) := by
  induction r with
  | nil => exact True.intro
  | @cons p q ps qs h t ih =>
    obtain ⟨h1, _, h2⟩ := h
    by_cases e : p.1 = k
    · have e' : q.1 = k := h1.symm.trans e
      have b : atKey (q :: qs) k = some q.2 := by simp [atKey, List.find?_cons, e']
      rw [valV_pos e, b]; exact h2
    · have e' : ¬ q.1 = k := fun z => e (h1.trans z)
      have b : atKey (q :: qs) k = atKey qs k := by simp [atKey, List.find?_cons, e']
      rw [valV_neg e, b]; exact ih
theorem KT.repl {H : Hp} {kvs : List (List Key × V)} {xs : List (List Key × Addr × Value)} (r : KT H kvs xs) (k : List Key) {y : V} {u : Value} (ry : RelV y u) :
    KT H (kvs.map fun kv => if kv.1 = k then (kv.1, y) else kv) (xs.map (putAt k u)) := by
  induction r with
  | nil => exact .nil
  | @cons p q ps qs h t ih =>
    rw [List.map_cons, List.map_cons]
    refine .cons ?_ ih
    obtain ⟨h1, h2, h3⟩ := h
    unfold putAt
    by_cases e : p.1 = k
    · rw [if_pos e, if_pos (h1.symm.trans e)]; exact ⟨h1, h2, ry⟩
    · rw [if_neg e, if_neg (fun z => e (h1.trans z))]; exact ⟨h1, h2, h3⟩
theorem KT.put {H : Hp} {kvs : List (List Key × V)} {xs : List (List Key × Addr × Value)} (r : KT H kvs xs) (k : List Key) {b : Addr} {y : V} {u : Value} (hb : H b = some (.tup (k.map kV))) (ry : RelV y u) :
    KT H (putK kvs k y) (storedH xs k b u) := by
  have e : (kvs.any fun kv => decide (kv.1 = k)) = (atKey xs k).isSome := by
    rw [valV_any, (r.val k).isSome_eq, Option.isSome_map]
  unfold putK storedH
  rw [e]
  by_cases q : (atKey xs k).isSome = true
  · rw [if_pos q, if_pos q]; exact r.repl k ry
  · rw [if_neg q, if_neg q]; exact Paired.snoc r ⟨rfl, hb, ry⟩
theorem KT.keeps {H H' : Hp} {kvs : List (List Key × V)} {xs : List (List Key × Addr × Value)} (r : KT H kvs xs) (ht : ∀ b ys, H b = some (.tup ys) → H' b = some (.tup ys)) : KT H' kvs xs :=
  Paired.mapP r fun _ _ z => ⟨z.1, ht _ _ z.2.1, z.2.2⟩

section
variable {P : Program} {w : World} {H : Hp} {h : Heap} {a : Addr}
theorem rd_of {u : HO} (ok : HOk P w H h) (e : Rd H a u) : ObjOk P w H h a u := e.ok ok
theorem dk_rd {kvs : List (Key × V)} (ok : HOk P w H h) (e : Rd H a (.dK kvs)) : kvs.length ≤ sizeLine ∧ (a == sysModules) = false ∧ ∃ vs, KV kvs vs ∧ h.DictOf (mixKind P w) a vs :=
  show ObjOk P w H h a (.dK kvs) from rd_of ok e
theorem dk_of {kvs : List (Key × V)} (ok : HOk P w H h) (e : H a = some (.dK kvs)) : kvs.length ≤ sizeLine ∧ (a == sysModules) = false ∧ ∃ vs, KV kvs vs ∧ h.DictOf (mixKind P w) a vs := dk_rd ok (.inl e)
/-- a tracked tuple of ints and texts is a key -/
theorem key_of {ks : List Key} (ok : HOk P w H h) (e : H a = some (.tup (ks.map kV))) : (tupleKind (mixKind P w)).is h ks a := by
  obtain ⟨_, its, r, ⟨o, h1, h2, n, h3⟩, _⟩ := (show ObjOk P w H h a (.tup (ks.map kV)) from ok a _ e)
  exact ⟨o, its.toArray, n, h1, h2, h3, by simpa using items_are r⟩
theorem dt_rd {kvs : List (List Key × V)} (ok : HOk P w H h) (e : Rd H a (.dT kvs)) : kvs.length ≤ sizeLine ∧ (a == sysModules) = false ∧
    ∃ xs, KT H kvs xs ∧ h.DictOfH (tupleKind (mixKind P w)) a xs := by
  obtain ⟨z, y, xs, r, o, es, ep, h1, h2, h3, h4, h5⟩ := (show ObjOk P w H h a (.dT kvs) from rd_of ok e)
  refine ⟨z, y, xs, r, o, es, ep, h1, h2, h3, h4, fun x hx => ?_, h5⟩
  have all : ∀ {l : List (List Key × V)} {m : List (List Key × Addr × Value)}, KT H l m → ∀ x ∈ m, (tupleKind (mixKind P w)).is h x.1 x.2.1 := by
    intro l m q
    induction q with
    | nil => intro x hx; exact nomatch hx
    | @cons p q ps qs hq t ih =>
      intro x hx
      rcases List.mem_cons.mp hx with e | hx
      · subst e
        exact key_of ok (by rw [← hq.1]; exact hq.2.1)
      · exact ih x hx
  exact all r x hx
theorem dt_of {kvs : List (List Key × V)} (ok : HOk P w H h) (e : H a = some (.dT kvs)) : kvs.length ≤ sizeLine ∧ (a == sysModules) = false ∧
    ∃ xs, KT H kvs xs ∧ h.DictOfH (tupleKind (mixKind P w)) a xs := dt_rd ok (.inl e)
end

/-- what the dict at a holds at the key y -/
def DGet (H : Hp) (a : Addr) (y : V) (r : Option V) : Prop :=
  (∃ kvs k, Rd H a (.dK kvs) ∧ y = kV k ∧ r = valV kvs k) ∨ ∃ kvs k b, Rd H a (.dT kvs) ∧ y = .ref b ∧ H b = some (.tup (k.map kV)) ∧ r = valV kvs k
/-- the heap behind a[y] = v -/
def DPut (H : Hp) (a : Addr) (y v : V) (H' : Hp) : Prop :=
  (∃ kvs k, H a = some (.dK kvs) ∧ y = kV k ∧ kvs.length < sizeLine ∧ H' = upd H a (.dK (putK kvs k v))) ∨
  ∃ kvs k b, H a = some (.dT kvs) ∧ y = .ref b ∧ H b = some (.tup (k.map kV)) ∧ kvs.length < sizeLine ∧ H' = upd H a (.dT (putK kvs k v))
theorem DGet.k {H : Hp} {a : Addr} {kvs : List (Key × V)} {k : Key} (e : H a = some (.dK kvs)) : DGet H a (kV k) (valV kvs k) := .inl ⟨kvs, k, .inl e, rfl, rfl⟩
theorem DGet.t {H : Hp} {a b : Addr} {kvs : List (List Key × V)} {k : List Key} (e : H a = some (.dT kvs)) (eb : H b = some (.tup (k.map kV))) : DGet H a (.ref b) (valV kvs k) := .inr ⟨kvs, k, b, .inl e, rfl, eb, rfl⟩
theorem DPut.k {H : Hp} {a : Addr} {kvs : List (Key × V)} {k : Key} {v : V} (e : H a = some (.dK kvs)) (hl : kvs.length < sizeLine) : DPut H a (kV k) v (upd H a (.dK (putK kvs k v))) := .inl ⟨kvs, k, e, rfl, hl, rfl⟩
theorem DPut.t {H : Hp} {a b : Addr} {kvs : List (List Key × V)} {k : List Key} {v : V} (e : H a = some (.dT kvs)) (eb : H b = some (.tup (k.map kV))) (hl : kvs.length < sizeLine) :
    DPut H a (.ref b) v (upd H a (.dT (putK kvs k v))) := .inr ⟨kvs, k, b, e, rfl, eb, hl, rfl⟩


section
variable {X : Cx} {pins : List (Addr × Obj)} {σ : St} {H : Hp} {s : Shared} {a : Addr} {y v : V} {u r : Value} {o : Option V} {A : Around} {E : Value → Shared → Prop}

theorem Inv.big (I : Inv X pins σ H s) : sysModules < s.heap.objs.size := by
  have h : mainGlobals < s.heap.objs.size := (I.mod.glob.keeps I.bk).lt
  exact Nat.lt_trans (by decide) h

/-- d[y], there -/
theorem d_getItem {Q : Value → Shared → Prop} (hu : A.units + 1 < cLine) (I : Inv X pins σ H s) (g : DGet H a y (some v)) (ry : RelV y u) (h : ∀ w' s', Inv X pins σ H s' → RelV v w' → Q w' s') :
    wpAny (model X.prog X.w) A (getItem (.ref a) u) Q E s := by
  rcases g with ⟨kvs, k, e, ey, l⟩ | ⟨kvs, k, b, e, ey, eb, l⟩
  · subst ey
    obtain ⟨z, hd, vs, rel, dd⟩ := dk_rd I.hok e
    obtain ⟨w', hw, rw'⟩ := RelO.some_of (v := v) (o := valueAt vs k) (by rw [l]; exact rel.val k)
    exact wpAny_getItem_of (kV_is ry) dd.mapOf hw (h w' _ (I.tok _) rw')
  · subst ey
    cases (show u = Value.ref b from ry)
    obtain ⟨z, hd, xs, rel, dd⟩ := dt_rd I.hok e
    obtain ⟨w', hw, rw'⟩ := RelO.some_of (v := v) (o := (atKey xs k).map (·.2)) (by rw [l]; exact rel.val k)
    obtain ⟨p, hp, hp2⟩ := Option.map_eq_some_iff.mp hw
    refine wpAny_getItem_heap (tupleKind_room_in1 hu) (key_of I.hok eb) dd hp ?_
    rw [hp2]
    exact h w' _ (I.tok _) rw'
/-- y in d -/
theorem d_in {Q : Value → Shared → Prop} (hu : A.units + 1 < cLine) (I : Inv X pins σ H s) (g : DGet H a y o) (ry : RelV y u) (h : ∀ s', Inv X pins σ H s' → Q (.bool o.isSome) s') :
    wpAny (model X.prog X.w) A (compareOp .In u (.ref a)) Q E s := by
  rcases g with ⟨kvs, k, e, ey, l⟩ | ⟨kvs, k, b, e, ey, eb, l⟩
  · subst ey
    obtain ⟨z, hd, vs, rel, dd⟩ := dk_rd I.hok e
    refine wpAny_in_of (kV_is ry) hd dd.mapOf ?_
    rw [← (rel.val k).isSome_eq, ← l]
    exact h _ (I.tok _)
  · subst ey
    cases (show u = Value.ref b from ry)
    obtain ⟨z, hd, xs, rel, dd⟩ := dt_rd I.hok e
    refine wpAny_in_heap (tupleKind_room_in1 hu) (key_of I.hok eb) hd dd ?_
    have q := (rel.val k).isSome_eq
    rw [Option.isSome_map] at q
    rw [← q, ← l]
    exact h _ (I.tok _)
theorem d_notIn {Q : Value → Shared → Prop} (hu : A.units + 1 < cLine) (I : Inv X pins σ H s) (g : DGet H a y o) (ry : RelV y u) (h : ∀ s', Inv X pins σ H s' → Q (.bool (!o.isSome)) s') :
    wpAny (model X.prog X.w) A (compareOp .NotIn u (.ref a)) Q E s := by
  rcases g with ⟨kvs, k, e, ey, l⟩ | ⟨kvs, k, b, e, ey, eb, l⟩
  · subst ey
    obtain ⟨z, hd, vs, rel, dd⟩ := dk_rd I.hok e
    refine wpAny_notIn_of (kV_is ry) hd dd.mapOf ?_
    rw [← (rel.val k).isSome_eq, ← l]
    exact h _ (I.tok _)
  · subst ey
    cases (show u = Value.ref b from ry)
    obtain ⟨z, hd, xs, rel, dd⟩ := dt_rd I.hok e
    refine wpAny_notIn_heap (tupleKind_room_in1 hu) (key_of I.hok eb) hd dd ?_
    have q := (rel.val k).isSome_eq
    rw [Option.isSome_map] at q
    rw [← q, ← l]
    exact h _ (I.tok _)
/-- a dict's object is replaced -/
theorem d_write {h' : Heap} {t' : Nat} {ob : HO} (I : Inv X pins σ H s) (mu : Mut (H a)) (hs : Heap.SameBut a s.heap h') (he : ∃ q, h'.get? a = some q) (new : ObjOk X.prog X.w (upd H a ob) h' a ob) :
    Inv X pins σ (upd H a ob) { s with heap := h', toks := t' } :=
  I.write (x := a) (e := a) mu (.inl rfl) (fun b q hb z => (hs.2 b hb).trans z) he new
theorem dk_new {P : Program} {w : World} {H' : Hp} {h' : Heap} {kvs : List (Key × V)} {vs : List (Key × Value)} (z : kvs.length ≤ sizeLine) (hd : (a == sysModules) = false) (rel : KV kvs vs) (dd : h'.DictOf (mixKind P w) a vs) :
    ObjOk P w H' h' a (.dK kvs) := ⟨z, hd, vs, rel, dd⟩
/-- d[y] = v -/
theorem d_setItem {H' : Hp} {Q : Unit → Shared → Prop} (hu : A.units + 1 < cLine) (I : Inv X pins σ H s) (g : DPut H a y v H') (ry : RelV y u) (rv : RelV v r) (h : ∀ s', Inv X pins σ H' s' → Q () s') :
    wpAny (model X.prog X.w) A (setItem (.ref a) u r) Q E s := by
  rcases g with ⟨kvs, k, e, ey, l, eH⟩ | ⟨kvs, k, b, e, ey, eb, l, eH⟩
  · subst ey eH
    obtain ⟨z, hd, vs, rel, dd⟩ := dk_of I.hok e
    have hz : vs.length ≤ sizeLine := by rw [← rel.length]; exact z
    have hl : (putK kvs k v).length ≤ sizeLine := by have := length_putK kvs k v; omega
    refine wpAny_setItem_pairs (hsz := hz) (kV_is ry) dd fun h' dd' hs => h _ ?_
    have he : ∃ q, h'.get? a = some q := let ⟨q, _, _, hq, _⟩ := dd'; ⟨q, hq⟩
    exact d_write I (by rw [e]; exact True.intro) hs he (dk_new hl hd (rel.put k rv) dd')
  · subst ey eH
    cases (show u = Value.ref b from ry)
    obtain ⟨z, hd, xs, rel, dd⟩ := dt_of I.hok e
    have hz : xs.length ≤ sizeLine := by rw [← Paired.length rel]; exact z
    have hl : (putK kvs k v).length ≤ sizeLine := by have := length_putK kvs k v; omega
    refine wpAny_setItem_heap (hsz := hz) (tupleKind_room_in1 hu) (key_of I.hok eb) dd fun h' dd' hs => h _ ?_
    obtain ⟨q, es, ep, hq, h2, h3, h4, _, h5⟩ := dd'
    refine d_write I (by rw [e]; exact True.intro) hs ⟨q, hq⟩ ⟨hl, hd, _, (rel.put k eb rv).keeps fun c ys ec => ?_, q, es, ep, hq, h2, h3, h4, h5⟩
    rw [upd_ne (ne_of ec e (fun z => nomatch z))]
    exact ec
end

section
variable {X : Cx} {pins : List (Addr × Obj)} {σ : St} {H : Hp} {s : Shared} {a : Addr} {kvs : List (Key × V)} {k : Key} {u : Value} {A : Around} {E : Value → Shared → Prop}
/-- del d[k] -/
theorem d_delItem {Q : Unit → Shared → Prop} (I : Inv X pins σ H s) (e : H a = some (.dK kvs)) (ry : RelV (kV k) u) (l : (valV kvs k).isSome = true) (h : ∀ s', Inv X pins σ (upd H a (.dK (dropK kvs k))) s' → Q () s') :
    wpAny (model X.prog X.w) A (delItem (.ref a) u) Q E s := by
  obtain ⟨z, hd, vs, rel, dd⟩ := dk_of I.hok e
  refine wpAny_delItem_slot dd.typeIs (by decide) PySem.F.slot_dict_delitem
    (call_meetsIn PySem.F.slot_dict_delitem dd.typeIs PySem.F.entry_dict_delitem (PySem.F.args_dict_delitem_2 _ _) (meets_dict_delitem_pairs (mixKind X.prog X.w) a (kV_is ry)) ⟨vs, dd, by rw [← rel.length]; exact z, by rw [← (rel.val k).isSome_eq]; exact l, fun h' dd' hs => h _ ?_⟩)
  have he : ∃ q, h'.get? a = some q := let ⟨q, _, _, hq, _⟩ := dd'; ⟨q, hq⟩
  exact d_write I (by rw [e]; exact True.intro) hs he (dk_new (Nat.le_trans (dropK_le kvs k) z) hd (rel.drop k) dd')
/-- d.pop(k[, x]), there -/
theorem d_pop {v : V} {more : List Value} {Q : Value → Shared → Prop} (I : Inv X pins σ H s) (e : H a = some (.dK kvs)) (ry : RelV (kV k) u) (l : valV kvs k = some v) (hm : more = [] ∨ ∃ x, more = [x])
    (h : ∀ w' s', Inv X pins σ (upd H a (.dK (dropK kvs k))) s' → RelV v w' → Q w' s') : wpAny (model X.prog X.w) A (call (.builtin "dict.pop") (.ref a :: u :: more)) Q E s := by
  obtain ⟨z, hd, vs, rel, dd⟩ := dk_of I.hok e
  obtain ⟨w', hw, rw'⟩ := RelO.some_of (v := v) (o := valueAt vs k) (by rw [← l]; exact rel.val k)
  have hp : (keyPart u).isSome = true := by
    cases k with
    | inl i => obtain ⟨t, q⟩ := (show ∃ t, u = Value.int i t from ry); subst q; rfl
    | inr x => obtain ⟨t, q⟩ := (show ∃ t, u = Value.str x t from ry); subst q; rfl
  have ha : argsOk "dict.pop" ⟨.ref a :: u :: more, []⟩ := by
    rcases hm with q | ⟨x, q⟩
    · subst q; exact PySem.F.args_dict_pop_2 _ _
    · subst q; exact PySem.F.args_dict_pop_3 _ _ _
  refine call_meetsIn PySem.F.slot_dict_pop dd.typeIs PySem.F.entry_dict_pop ha (meets_dict_pop_there (mixKind X.prog X.w) a (kV_is ry) more hm hp)
    ⟨vs, w', dd, by rw [← rel.length]; exact z, hw, fun h' dd' hs => h w' _ ?_ rw'⟩
  have he : ∃ q, h'.get? a = some q := let ⟨q, _, _, hq, _⟩ := dd'; ⟨q, hq⟩
  exact d_write I (by rw [e]; exact True.intro) hs he (dk_new (Nat.le_trans (dropK_le kvs k) z) hd (rel.drop k) dd')
/-- d.pop(k, x), not there -/
theorem d_popD {r : Value} {Q : Value → Shared → Prop} (I : Inv X pins σ H s) (e : H a = some (.dK kvs)) (ry : RelV (kV k) u) (l : valV kvs k = none) (h : ∀ s', Inv X pins σ H s' → Q r s') :
    wpAny (model X.prog X.w) A (call (.builtin "dict.pop") [.ref a, u, r]) Q E s := by
  obtain ⟨z, hd, vs, rel, dd⟩ := dk_of I.hok e
  have hn : valueAt vs k = none := RelO.none_of (by rw [← l]; exact rel.val k)
  have hp : (keyPart u).isSome = true := by
    cases k with
    | inl i => obtain ⟨t, q⟩ := (show ∃ t, u = Value.int i t from ry); subst q; rfl
    | inr x => obtain ⟨t, q⟩ := (show ∃ t, u = Value.str x t from ry); subst q; rfl
  exact call_meetsIn PySem.F.slot_dict_pop dd.typeIs PySem.F.entry_dict_pop (PySem.F.args_dict_pop_3 _ _ _) (meets_dict_pop_default (mixKind X.prog X.w) a (kV_is ry) hd hp r) ⟨vs, dd, hn, h _ (I.tok _)⟩
/-- d.clear() -/
theorem d_clear {Q : Value → Shared → Prop} (I : Inv X pins σ H s) (e : H a = some (.dK kvs)) (h : ∀ s', Inv X pins σ (upd H a (.dK [])) s' → Q .none s') : wpAny (model X.prog X.w) A (call (.builtin "dict.clear") [.ref a]) Q E s := by
  obtain ⟨z, hd, vs, rel, dd⟩ := dk_of I.hok e
  refine call_meetsIn PySem.F.slot_dict_clear dd.typeIs PySem.F.entry_dict_clear (PySem.F.args_dict_clear_1 _) (meets_dict_clear (mixKind X.prog X.w) a) ⟨vs, dd, by rw [← rel.length]; exact z, fun h' dd' hs => h _ ?_⟩
  have he : ∃ q, h'.get? a = some q := let ⟨q, _, _, hq, _⟩ := dd'; ⟨q, hq⟩
  exact d_write (t' := s.toks) I (by rw [e]; exact True.intro) hs he (dk_new (Nat.zero_le _) hd .nil dd')
/-- len(d) -/
theorem d_len {Q : Value → Shared → Prop} (I : Inv X pins σ H s) (e : Rd H a (.dK kvs)) (h : ∀ t s', Inv X pins σ H s' → Q (.int kvs.length t) s') : wpAny (model X.prog X.w) A (call (.builtin "len") [.ref a]) Q E s := by
  obtain ⟨z, hd, vs, rel, dd⟩ := dk_rd I.hok e
  refine call_len_dict hd dd (by rw [← rel.length]; rw [sizeLine_eq] at z; omega) ?_
  rw [← rel.length]
  exact h _ _ (I.tok _)
/-- if d -/
theorem d_truth {Q : Bool → Shared → Prop} (I : Inv X pins σ H s) (e : Rd H a (.dK kvs)) (h : ∀ s', Inv X pins σ H s' → Q (!kvs.isEmpty) s') : wpAny (model X.prog X.w) A (truthy (.ref a)) Q E s := by
  obtain ⟨z, hd, vs, rel, dd⟩ := dk_rd I.hok e
  refine wpAny_truthy_dict hd dd (by rw [← rel.length]; rw [sizeLine_eq] at z; omega) ?_
  have q : kvs.isEmpty = vs.isEmpty := by cases rel <;> rfl
  rw [← q]
  exact h _ (I.tok _)
end


/-! ### readings and rules -/
/-- the element of a subscription, not a slice -/
def NoSl (i : Expr) : Prop := ∀ ov iv, subscripted i false ov iv = operate [ov, iv] (getItem ov iv)
theorem subD_of {prog : Program} {w : World} {A : Around} {E : Value → Shared → Prop} {s : Shared} {env : Env} {value slice : Expr} {pos : Pos} {T id : String} {Q : Value → Shared → Prop}
    (hl : typeLookup (.type T) "__getitem__" = pure (some (.builtin id))) (hs : NoSl slice)
    (h : wpAny (model prog w) A (eval value env) (fun o s₁ => wpAny (model prog w) A (eval slice env) (fun i s₂ => s₂.TypeIs o T ∧ wpAny (model prog w) A (getItem o i) Q E s₂) E s₁) E s) :
    wpAny (model prog w) A (eval (.Subscript value slice pos) env) Q E s := by
  refine Subscript_ (wpAny_mono h (fun o s₁ h₁ => wpAny_mono h₁ (fun i s₂ h₂ => ?_) fun _ _ x => x) fun _ _ x => x)
  obtain ⟨hT, h₂⟩ := h₂
  unfold subscriptTail
  refine wpAny_bind ?_
  rw [getitemInPython_of_ne hT.not_modules]
  refine wpAny_bind (wpAny_specialOf hT hl ?_)
  have fin : wpAny (model prog w) A (subscripted slice false o i) (fun r s₃ => wpAny (model prog w) A (letTemporaryGo value o r >>= fun _ => pure r) Q E s₃) E s₂ := by
    rw [hs o i]
    exact wpAny_operating (wpAny_mono h₂ (fun r s₃ h₃ => wpAny_bind (wpAny_letTemporaryGo (wpAny_pure h₃))) fun _ _ x => x)
  first
    | exact wpAny_pure (wpAny_bind fin)
    | exact wpAny_bind (wpAny_pure (wpAny_bind fin))
    | exact wpAny_bind fin

theorem dict_typeIs {X : Cx} {pins : List (Addr × Obj)} {σ : St} {H : Hp} {s : Shared} {a : Addr} {y : V} {o : Option V} (I : Inv X pins σ H s) (g : DGet H a y o) : s.TypeIs (.ref a) "dict" := by
  rcases g with ⟨kvs, k, e, _, _⟩ | ⟨kvs, k, b, e, _, _, _⟩
  · obtain ⟨_, _, vs, _, dd⟩ := dk_rd I.hok e
    exact dd.typeIs
  · obtain ⟨_, _, xs, _, dd⟩ := dt_rd I.hok e
    exact dd.typeIs
theorem dict_noDict {X : Cx} {pins : List (Addr × Obj)} {σ : St} {H : Hp} {s : Shared} {a : Addr} {y : V} {o : Option V} (I : Inv X pins σ H s) (g : DGet H a y o) :
    ∀ b, Value.ref a = .ref b → ∃ ob, s.heap.get? b = some ob ∧ ob.dict = none := fun b q => by
  cases q
  rcases g with ⟨kvs, k, e, _, _⟩ | ⟨kvs, k, b, e, _, _, _⟩
  · obtain ⟨_, _, vs, _, ob, _, _, h1, h2, _⟩ := dk_rd I.hok e
    exact ⟨ob, h1, h2.2.1⟩
  · obtain ⟨_, _, xs, _, ob, _, _, h1, h2, _⟩ := dt_rd I.hok e
    exact ⟨ob, h1, h2.2.1⟩

/-- d[y] -/
def tDGet (td ty : TE) : TE := fun σ H Q => td σ H fun x H1 => ty σ H1 fun y H2 => ∃ a v, x = .ref a ∧ DGet H2 a y (some v) ∧ Q v H2
/-- y in d, y not in d -/
def tDIn (ty td : TE) : TE := fun σ H Q => ty σ H fun y H1 => td σ H1 fun x H2 => ∃ a o, x = .ref a ∧ DGet H2 a y o ∧ Q (.bl o.isSome) H2
def tDNotIn (ty td : TE) : TE := fun σ H Q => ty σ H fun y H1 => td σ H1 fun x H2 => ∃ a o, x = .ref a ∧ DGet H2 a y o ∧ Q (.bl (!o.isSome)) H2
/-- d[y] = v -/
def sDPut (td ty tv : TE) : TS := fun D σ H => tv σ H fun v H1 => td σ H1 fun x H2 => ty σ H2 fun y H3 => ∃ a H4, x = .ref a ∧ DPut H3 a y v H4 ∧ D.nx σ H4
/-- d[y] op= v -/
def sDAug (td ty tv : TE) (rd : V → V → Hp → VK → Prop) : TS := fun D σ H => td σ H fun x H1 => ty σ H1 fun y H2 => ∃ a v, x = .ref a ∧ DGet H2 a y (some v) ∧
  tv σ H2 fun y2 H3 => rd v y2 H3 fun z H4 => ∃ H5, DPut H4 a y z H5 ∧ D.nx σ H5
/-- del d[y] -/
def sDDel (td ty : TE) : TS := fun D σ H => td σ H fun x H1 => ty σ H1 fun y H2 => ∃ a kvs k, x = .ref a ∧ H2 a = some (.dK kvs) ∧ y = kV k ∧ (valV kvs k).isSome = true ∧ D.nx σ (upd H2 a (.dK (dropK kvs k)))

section
variable {X : Cx} {o i e value : Expr} {pos pos' tpos : Pos} {td ty tv : TE}
theorem pe_dget (hu : X.A.units + 1 < cLine) (ho : PE X o td) (hi : PE X i ty) (hs : NoSl i) : PE X (.Subscript o i pos) (tDGet td ty) := by
  intro pins s σ H Q I h
  refine subD_of PySem.F.slot_dict_getitem.lookup hs (thn (ho pins s σ H _ I h) fun u s1 ⟨x, H1, I1, rx, q1⟩ => thn (hi pins s1 σ H1 _ I1 q1) fun iv s2 ⟨y, H2, I2, ry, a, v, ex, g, q2⟩ => ?_)
  subst ex
  obtain rfl : u = Value.ref a := rx
  exact ⟨dict_typeIs I2 g, d_getItem hu I2 g ry fun w' s3 I3 rw' => ⟨v, H2, I3, rw', q2⟩⟩
theorem pc_din (hu : X.A.units + 1 < cLine) (hi : PE X i ty) (ho : PE X o td) : PC X .In i o (tDIn ty td) := by
  intro pins s σ H Q I h
  refine thn (hi pins s σ H _ I h) fun iv s1 ⟨y, H1, I1, ry, q1⟩ => thn (ho pins s1 σ H1 _ I1 q1) fun u s2 ⟨x, H2, I2, rx, a, ov, ex, g, q2⟩ => ?_
  subst ex
  obtain rfl : u = Value.ref a := rx
  exact d_in hu I2 g ry fun s3 I3 => ⟨.bl ov.isSome, H2, I3, rfl, q2⟩
theorem pc_dnotin (hu : X.A.units + 1 < cLine) (hi : PE X i ty) (ho : PE X o td) : PC X .NotIn i o (tDNotIn ty td) := by
  intro pins s σ H Q I h
  refine thn (hi pins s σ H _ I h) fun iv s1 ⟨y, H1, I1, ry, q1⟩ => thn (ho pins s1 σ H1 _ I1 q1) fun u s2 ⟨x, H2, I2, rx, a, ov, ex, g, q2⟩ => ?_
  subst ex
  obtain rfl : u = Value.ref a := rx
  exact d_notIn hu I2 g ry fun s3 I3 => ⟨.bl (!ov.isSome), H2, I3, rfl, q2⟩
theorem ps_dput (hu : X.A.units + 1 < cLine) (ho : PE X o td) (hi : PE X i ty) (hv : PE X value tv) (hs : swapsWith value (some (.Subscript o i pos')) pos.line X.env = pure false) :
    PS X (.Assign [.Subscript o i pos'] value pos) (sDPut td ty tv) := by
  intro pins s σ H D I h
  refine wpAny_Assign_Subscript (thn (hv pins s σ H _ I h) fun r s1 ⟨v, H1, I1, rv, q1⟩ => thn (ho pins s1 σ H1 _ I1 q1) fun u s2 ⟨x, H2, I2, rx, q2⟩ => thn (hi pins s2 σ H2 _ I2 q2) fun iv s3 ⟨y, H3, I3, ry, a, H4, ex, g, q3⟩ => ?_) hs
  subst ex
  obtain rfl : u = Value.ref a := rx
  exact d_setItem hu I3 g ry rv fun s4 I4 => ⟨σ, H4, I4, q3⟩
theorem ps_daug {op : Operator} {rd : V → V → Hp → VK → Prop} (hu : X.A.units + 1 < cLine) (ho : PE X o td) (hi : PE X i ty) (hv : PE X value tv) (hop : InOp X op rd)
    (ha : ∀ ov iv new, augStore i ov iv new = (do holding [new, ov, iv] (setItem ov iv new); release [new, ov, iv] []; pure .next)) : PS X (.AugAssign (.Subscript o i tpos) op value pos) (sDAug td ty tv rd) := by
  intro pins s σ H D I h
  refine wpAny_AugAssign_SubscriptAny (thn (ho pins s σ H _ I h) fun u s1 ⟨x, H1, I1, rx, q1⟩ => thn (hi pins s1 σ H1 _ I1 q1) fun iv s2 ⟨y, H2, I2, ry, a, v, ex, g, q2⟩ => ?_) ha
  subst ex
  obtain rfl : u = Value.ref a := rx
  refine d_getItem hu I2 g ry fun w' s3 I3 rw' => thn (hv pins s3 σ H2 _ I3 q2) fun w2 s4 ⟨y2, H3, I4, ry2, q3⟩ => thn (hop pins s4 σ H3 v y2 w' w2 _ I4 rw' ry2 q3) fun w3 s5 ⟨z, H4, I5, rz, H5, g5, q4⟩ => ?_
  exact d_setItem hu I5 g5 ry rz fun s6 I6 => ⟨σ, H5, I6, q4⟩
theorem ps_ddel (ho : PE X o td) (hi : PE X i ty) : PS X (.Delete [.Subscript o i tpos] pos) (sDDel td ty) := by
  intro pins s σ H D I h
  refine wpAny_Delete (wpAny_deleteEach_cons (wpAny_delete_Subscript (thn (ho pins s σ H _ I h) fun u s1 ⟨x, H1, I1, rx, q1⟩ => thn (hi pins s1 σ H1 _ I1 q1) fun iv s2 ⟨y, H2, I2, ry, a, kvs, k, ex, e, ey, l, q2⟩ => ?_)))
  subst ex ey
  obtain rfl : u = Value.ref a := rx
  exact d_delItem I2 e ry l fun s3 I3 => wpAny_deleteEach_nil ⟨σ, _, I3, q2⟩
end


/-! ### displays -/
theorem dk_empty {P : Program} {w : World} {H : Hp} (h : Heap) (hb : sysModules < h.objs.size) : ObjOk P w H (h.push { cls := .type "dict", data := .dict #[] }) h.objs.size (.dK []) :=
  ⟨Nat.zero_le _, beq_eq_false_iff_ne.mpr (Ne.symm (Nat.ne_of_lt hb)), [], .nil, Heap.DictOf.new h⟩
theorem dt_empty {P : Program} {w : World} {H : Hp} (h : Heap) (hb : sysModules < h.objs.size) : ObjOk P w H (h.push { cls := .type "dict", data := .dict #[] }) h.objs.size (.dT []) :=
  ⟨Nat.zero_le _, beq_eq_false_iff_ne.mpr (Ne.symm (Nat.ne_of_lt hb)), [], .nil, _, #[], 0, Heap.get?_push_size _ rfl, ⟨rfl, rfl, rfl⟩, rfl, rfl, List.nodup_nil⟩
/-- {}, to be a dict of the kind that is wanted -/
def tDNewK : TE := fun _ H Q => ∀ p, H p = none → Q (.ref p) (upd H p (.dK []))
def tDNewT : TE := fun _ H Q => ∀ p, H p = none → Q (.ref p) (upd H p (.dT []))
section
variable {X : Cx} {pos : Pos}
theorem pe_dnewK : PE X (.Dict [] [] pos) tDNewK := fun pins s σ H Q I h =>
  wpAny_Dict_empty ⟨.ref s.heap.objs.size, _, I.laid (a := s.heap.objs.size) (o := .dK []) (t' := s.toks) (fun _ _ q => Heap.get?_push_of_some _ q) (Nat.le_refl _) (dk_empty s.heap I.big), rfl, h _ (I.hok.fresh (Nat.le_refl _))⟩
theorem pe_dnewT : PE X (.Dict [] [] pos) tDNewT := fun pins s σ H Q I h =>
  wpAny_Dict_empty ⟨.ref s.heap.objs.size, _, I.laid (a := s.heap.objs.size) (o := .dT []) (t' := s.toks) (fun _ _ q => Heap.get?_push_of_some _ q) (Nat.le_refl _) (dt_empty s.heap I.big), rfl, h _ (I.hok.fresh (Nat.le_refl _))⟩
end

/-- the pairs of a display, from the left -/
def tPairs : List (TE × TE) → St → Hp → (List (V × V) → Hp → Prop) → Prop
  | [], _, H, Q => Q [] H
  | (tk, tv) :: r, σ, H, Q => tk σ H fun x H1 => tv σ H1 fun y H2 => tPairs r σ H2 fun ps H3 => Q ((x, y) :: ps) H3
abbrev VV : List (V × V) → List (Value × Value) → Prop := Paired fun p q => RelV p.1 q.1 ∧ RelV p.2 q.2
def PPs (X : Cx) (pos : Pos) (keys : List (Option Expr)) (values : List Expr) (trs : List (TE × TE)) : Prop :=
  ∀ (pins : List (Addr × Obj)) (s : Shared) (σ : St) (H : Hp) (Q : List (V × V) → Hp → Prop), Inv X pins σ H s → tPairs trs σ H Q →
    wpAny (model X.prog X.w) X.A (evalPairs (pairTrees keys values X.env pos)) (fun vs s' => ∃ ps H', Inv X pins σ H' s' ∧ VV ps vs ∧ Q ps H') X.xe s
theorem pps_nil {X : Cx} {pos : Pos} : PPs X pos [] [] [] := fun pins s σ H Q I h => pairTrees_nil_walk ⟨[], H, I, .nil, h⟩
theorem pps_cons {X : Cx} {pos : Pos} {k v : Expr} {ks : List (Option Expr)} {vs : List Expr} {tk tv : TE} {trs : List (TE × TE)} (hk : PE X k tk) (hv : PE X v tv) (hr : PPs X pos ks vs trs) :
    PPs X pos (some k :: ks) (v :: vs) ((tk, tv) :: trs) := fun pins s σ H Q I h =>
  pairTrees_cons_walk (thn (hk pins s σ H _ I h) fun u s1 ⟨x, H1, I1, rx, q1⟩ => thn (hv pins s1 σ H1 _ I1 q1) fun w2 s2 ⟨y, H2, I2, ry, q2⟩ =>
    thn (hr pins s2 σ H2 _ I2 q2) fun ws s3 ⟨ps, H3, I3, rel, q3⟩ => ⟨(x, y) :: ps, H3, I3, .cons ⟨rx, ry⟩ rel, q3⟩)

def mergeK (kvs more : List (Key × V)) : List (Key × V) := more.foldl (fun acc kv => putK acc kv.1 kv.2) kvs
theorem KV.merge : ∀ {more : List (Key × V)} {rs : List (Key × Value)} {kvs : List (Key × V)} {vs : List (Key × Value)}, KV more rs → KV kvs vs → KV (mergeK kvs more) (merged vs rs) := by
  intro more rs kvs vs r
  unfold KV at r
  induction r generalizing kvs vs with
  | nil => intro q; exact q
  | @cons p q ps qs h t ih =>
    intro r0
    have e : KV (putK kvs p.1 p.2) (stored vs q.1 q.2) := by
      have := r0.put p.1 h.2
      rw [← h.1]; exact this
    exact ih e
theorem length_mergeK : ∀ (more kvs : List (Key × V)), (mergeK kvs more).length ≤ kvs.length + more.length
  | [], kvs => by show kvs.length ≤ kvs.length + 0; omega
  | p :: r, kvs => by
    have h1 := length_mergeK r (putK kvs p.1 p.2)
    have h2 := length_putK kvs p.1 p.2
    show (mergeK (putK kvs p.1 p.2) r).length ≤ _
    rw [List.length_cons]; omega
theorem carries_of {P : Program} {w : World} : ∀ {kvs : List (Key × V)} {ws : List (Value × Value)}, VV (kvs.map fun kv => (kV kv.1, kv.2)) ws → ∃ rs, Carries (mixKind P w) ws rs ∧ KV kvs rs
  | [], _, r => by rw [List.map_nil] at r; cases r; exact ⟨[], True.intro, .nil⟩
  | p :: kvs, _, r => by
    rw [List.map_cons] at r
    cases r with
    | @cons a b as bs h t =>
      obtain ⟨rs, c, q⟩ := carries_of (P := P) (w := w) t
      obtain ⟨b1, b2⟩ := b
      exact ⟨(p.1, b2) :: rs, ⟨kV_is h.1, rfl, c⟩, .cons ⟨rfl, h.2⟩ q⟩
/-- {k: v, ..} with keys ints and texts; the new dict stands empty while the pairs are made -/
def tDisp (trs : List (TE × TE)) : TE := fun σ H Q => ∀ p, H p = none → tPairs trs σ (upd H p (.dK [])) fun ps H2 => H2 p = some (.dK []) ∧ ∃ kvs : List (Key × V), ps = kvs.map (fun kv => (kV kv.1, kv.2)) ∧ kvs.length ≤ 15 ∧ Q (.ref p) (upd H2 p (.dK (mergeK [] kvs)))
theorem pe_disp {X : Cx} {pos : Pos} {keys : List (Option Expr)} {values : List Expr} {trs : List (TE × TE)} (h : PPs X pos keys values trs) (hall : keys.all (·.isSome) = true) (hl : keys.length = values.length) (h0 : keys ≠ [])
    (h15 : keys.length ≤ 15) : PE X (.Dict keys values pos) (tDisp trs) := by
  intro pins s σ H Q I q
  have hn := I.hok.fresh (Nat.le_refl s.heap.objs.size)
  have I1 := I.laid (a := s.heap.objs.size) (o := .dK []) (h' := s.heap.push { cls := .type "dict", data := .dict #[] }) (t' := s.toks) (fun _ _ q => Heap.get?_push_of_some _ q) (Nat.le_refl _) (dk_empty s.heap I.big)
  refine wpAny_Dict_walk (knd := mixKind X.prog X.w) hall hl h0 h15 (thn (h pins _ σ _ _ I1 (q _ hn)) fun ws s2 ⟨ps, H2, I2, rel, e, kvs, ep, lk, q2⟩ => ?_)
  subst ep
  obtain ⟨rs, c, rk⟩ := carries_of (P := X.prog) (w := X.w) rel
  obtain ⟨z, hd, vs0, r0, dd⟩ := dk_of I2.hok e
  cases r0
  refine ⟨rs, c, dd, fun h' dd' hs => ⟨.ref s.heap.objs.size, _, ?_, rfl, q2⟩⟩
  have hz : (mergeK [] kvs).length ≤ sizeLine := by
    have h1 := length_mergeK kvs []
    rw [List.length_nil] at h1
    rw [sizeLine_eq]; omega
  have he : ∃ q, h'.get? s.heap.objs.size = some q := let ⟨q, _, _, hq, _⟩ := dd'; ⟨q, hq⟩
  exact d_write I2 (by rw [e]; exact True.intro) hs he (dk_new hz hd (rk.merge .nil) dd')


/-! ### methods -/
/-- a method call o.m(e) of a built-in, with one argument: what must be seen of the text -/
structure M1 (X : Cx) (o : Expr) (m : Str) (apos : Pos) (e : Expr) (cpos : Pos) : Prop where
  base : attributeBase o m X.env (eval o X.env) = eval o X.env
  few : ((backTo cpos (starEach [e] X.env)).all (fun x => !x.1) && (backToKw cpos (keywordEach [] X.env)).all (fun x => x.1.isSome)
    && decide (([e] : List Expr).length + ([] : List Keyword).length + (if ([] : List Keyword).isEmpty then 0 else 1) < 30)) = true
  line : (apos.endLine == cpos.line) = true
  trees : backTo cpos (starEach [e] X.env) = [(false, eval e X.env)]
structure M2 (X : Cx) (o : Expr) (m : Str) (apos : Pos) (e f : Expr) (cpos : Pos) : Prop where
  base : attributeBase o m X.env (eval o X.env) = eval o X.env
  few : ((backTo cpos (starEach [e, f] X.env)).all (fun x => !x.1) && (backToKw cpos (keywordEach [] X.env)).all (fun x => x.1.isSome)
    && decide (([e, f] : List Expr).length + ([] : List Keyword).length + (if ([] : List Keyword).isEmpty then 0 else 1) < 30)) = true
  line : (apos.endLine == cpos.line) = true
  trees : backTo cpos (starEach [e, f] X.env) = [(false, eval e X.env), (false, eval f X.env)]

/-- a is a dict, whatever its keys -/
def IsD (H : Hp) (a : Addr) : Prop := (∃ kvs, Rd H a (.dK kvs)) ∨ ∃ kvs, Rd H a (.dT kvs)
theorem isD_at {X : Cx} {pins : List (Addr × Obj)} {σ : St} {H : Hp} {s : Shared} {a : Addr} (I : Inv X pins σ H s) (d : IsD H a) :
    s.TypeIs (.ref a) "dict" ∧ (∀ b, Value.ref a = .ref b → ∃ ob, s.heap.get? b = some ob ∧ ob.dict = none) ∧ (a == sysModules) = false := by
  rcases d with ⟨kvs, e⟩ | ⟨kvs, e⟩
  · obtain ⟨_, hd, vs, _, dd⟩ := dk_rd I.hok e
    refine ⟨dd.typeIs, fun b q => ?_, hd⟩
    cases q
    obtain ⟨ob, _, _, h1, h2, _⟩ := dd
    exact ⟨ob, h1, h2.2.1⟩
  · obtain ⟨_, hd, xs, _, dd⟩ := dt_rd I.hok e
    refine ⟨dd.typeIs, fun b q => ?_, hd⟩
    cases q
    obtain ⟨ob, _, _, h1, h2, _⟩ := dd
    exact ⟨ob, h1, h2.2.1⟩

section
variable {X : Cx} {pins : List (Addr × Obj)} {σ : St} {H : Hp} {s : Shared} {a : Addr} {y d : V} {u r : Value} {o : Option V} {A : Around} {E : Value → Shared → Prop}
/-- d.get(y) -/
theorem d_get1 {Q : Value → Shared → Prop} (hu : A.units + 1 < cLine) (I : Inv X pins σ H s) (g : DGet H a y o) (ry : RelV y u) (h : ∀ w' s', Inv X pins σ H s' → RelV (o.getD .non) w' → Q w' s') :
    wpAny (model X.prog X.w) A (call (.builtin "dict.get") [.ref a, u]) Q E s := by
  rcases g with ⟨kvs, k, e, ey, l⟩ | ⟨kvs, k, b, e, ey, eb, l⟩
  · subst ey
    obtain ⟨z, hd, vs, rel, dd⟩ := dk_rd I.hok e
    refine call_meetsIn PySem.F.slot_dict_get dd.typeIs PySem.F.entry_dict_get (PySem.F.args_dict_get_2 _ _) (meets_dict_get (mixKind X.prog X.w) a (kV_is ry) hd) ⟨_, dd.mapOf, h _ _ (I.tok _) ?_⟩
    rw [l]
    exact (rel.val k).getD rfl
  · subst ey
    cases (show u = Value.ref b from ry)
    obtain ⟨z, hd, xs, rel, dd⟩ := dt_rd I.hok e
    refine call_meetsIn PySem.F.slot_dict_get dd.typeIs PySem.F.entry_dict_get (PySem.F.args_dict_get_2 _ _) (meetsH_dict_get (tupleKind (mixKind X.prog X.w)) a b hd) ⟨tupleKind_room_in1 hu, k, xs, key_of I.hok eb, dd, h _ _ (I.tok _) ?_⟩
    rw [l]
    exact (rel.val k).getD rfl
/-- d.get(y, x) -/
theorem d_get2 {Q : Value → Shared → Prop} (hu : A.units + 1 < cLine) (I : Inv X pins σ H s) (g : DGet H a y o) (ry : RelV y u) (rd : RelV d r) (h : ∀ w' s', Inv X pins σ H s' → RelV (o.getD d) w' → Q w' s') :
    wpAny (model X.prog X.w) A (call (.builtin "dict.get") [.ref a, u, r]) Q E s := by
  rcases g with ⟨kvs, k, e, ey, l⟩ | ⟨kvs, k, b, e, ey, eb, l⟩
  · subst ey
    obtain ⟨z, hd, vs, rel, dd⟩ := dk_rd I.hok e
    refine call_meetsIn PySem.F.slot_dict_get dd.typeIs PySem.F.entry_dict_get (PySem.F.args_dict_get_3 _ _ _) (meets_dict_get_default (mixKind X.prog X.w) a (kV_is ry) hd r) ⟨_, dd.mapOf, h _ _ (I.tok _) ?_⟩
    rw [l]
    exact (rel.val k).getD rd
  · subst ey
    cases (show u = Value.ref b from ry)
    obtain ⟨z, hd, xs, rel, dd⟩ := dt_rd I.hok e
    refine call_meetsIn PySem.F.slot_dict_get dd.typeIs PySem.F.entry_dict_get (PySem.F.args_dict_get_3 _ _ _) (meetsH_dict_get_default (tupleKind (mixKind X.prog X.w)) a b hd r) ⟨tupleKind_room_in1 hu, k, xs, key_of I.hok eb, dd, h _ _ (I.tok _) ?_⟩
    rw [l]
    exact (rel.val k).getD rd
end

def tDGet1 (td ty : TE) : TE := fun σ H Q => td σ H fun x H1 => ∃ a, x = .ref a ∧ IsD H1 a ∧ ty σ H1 fun y H2 => ∃ o, DGet H2 a y o ∧ Q (o.getD .non) H2
def tDGet2 (td ty tx : TE) : TE := fun σ H Q => td σ H fun x H1 => ∃ a, x = .ref a ∧ IsD H1 a ∧ ty σ H1 fun y H2 => tx σ H2 fun z H3 => ∃ o, DGet H3 a y o ∧ Q (o.getD z) H3
/-- d.pop(k): there; d.pop(k, x): there or not -/
def tDPop1 (td ty : TE) : TE := fun σ H Q => td σ H fun x H1 => ∃ a, x = .ref a ∧ IsD H1 a ∧ ty σ H1 fun y H2 => ∃ kvs k v, H2 a = some (.dK kvs) ∧ y = kV k ∧ valV kvs k = some v ∧ Q v (upd H2 a (.dK (dropK kvs k)))
def tDPop2 (td ty tx : TE) : TE := fun σ H Q => td σ H fun x H1 => ∃ a, x = .ref a ∧ IsD H1 a ∧ ty σ H1 fun y H2 => tx σ H2 fun z H3 => ∃ kvs k, H3 a = some (.dK kvs) ∧ y = kV k ∧
  (∀ v, valV kvs k = some v → Q v (upd H3 a (.dK (dropK kvs k)))) ∧ (valV kvs k = none → Q z H3)
section
variable {X : Cx} {o e f : Expr} {apos cpos : Pos} {td ty tx : TE}
theorem pe_dget1 (hu : X.A.units + 1 < cLine) (ho : PE X o td) (he : PE X e ty) (m : M1 X o "get" apos e cpos) : PE X (.Call (.Attribute o "get" apos) [e] [] cpos) (tDGet1 td ty) := by
  intro pins s σ H Q I h
  refine wpAny_Call_method m.base m.few m.line PySem.F.plainAttrs_dict PySem.F.slot_dict_get PySem.F.type_dict_get (thn (ho pins s σ H _ I h) fun u s1 ⟨x, H1, I1, rx, a, ex, d, q1⟩ => ?_)
  subst ex
  obtain rfl : u = Value.ref a := rx
  obtain ⟨t1, t2, _⟩ := isD_at I1 d
  refine ⟨t1, t2, ?_⟩
  rw [m.trees]
  refine Calls.callWith_builtin rfl (Calls.evalArgs_plain (Calls.spliced_cons (thn (he pins s1 σ H1 _ I1 q1) fun iv s2 ⟨y, H2, I2, ry, ov, g, q2⟩ => Calls.spliced_nil ?_)))
  exact d_get1 hu I2 g ry fun w' s3 I3 rw' => ⟨_, H2, I3, rw', q2⟩
theorem pe_dget2 (hu : X.A.units + 1 < cLine) (ho : PE X o td) (he : PE X e ty) (hf : PE X f tx) (m : M2 X o "get" apos e f cpos) : PE X (.Call (.Attribute o "get" apos) [e, f] [] cpos) (tDGet2 td ty tx) := by
  intro pins s σ H Q I h
  refine wpAny_Call_method m.base m.few m.line PySem.F.plainAttrs_dict PySem.F.slot_dict_get PySem.F.type_dict_get (thn (ho pins s σ H _ I h) fun u s1 ⟨x, H1, I1, rx, a, ex, d, q1⟩ => ?_)
  subst ex
  obtain rfl : u = Value.ref a := rx
  obtain ⟨t1, t2, _⟩ := isD_at I1 d
  refine ⟨t1, t2, ?_⟩
  rw [m.trees]
  refine Calls.callWith_builtin rfl (Calls.evalArgs_plain (Calls.spliced_cons (thn (he pins s1 σ H1 _ I1 q1) fun iv s2 ⟨y, H2, I2, ry, q2⟩ =>
    Calls.spliced_cons (thn (hf pins s2 σ H2 _ I2 q2) fun fv s3 ⟨z, H3, I3, rz, ov, g, q3⟩ => Calls.spliced_nil ?_))))
  exact d_get2 hu I3 g ry rz fun w' s4 I4 rw' => ⟨_, H3, I4, rw', q3⟩
theorem pe_dpop1 (ho : PE X o td) (he : PE X e ty) (m : M1 X o "pop" apos e cpos) : PE X (.Call (.Attribute o "pop" apos) [e] [] cpos) (tDPop1 td ty) := by
  intro pins s σ H Q I h
  refine wpAny_Call_method m.base m.few m.line PySem.F.plainAttrs_dict PySem.F.slot_dict_pop PySem.F.type_dict_pop (thn (ho pins s σ H _ I h) fun u s1 ⟨x, H1, I1, rx, a, ex, d, q1⟩ => ?_)
  subst ex
  obtain rfl : u = Value.ref a := rx
  obtain ⟨t1, t2, _⟩ := isD_at I1 d
  refine ⟨t1, t2, ?_⟩
  rw [m.trees]
  refine Calls.callWith_builtin rfl (Calls.evalArgs_plain (Calls.spliced_cons (thn (he pins s1 σ H1 _ I1 q1) fun iv s2 ⟨y, H2, I2, ry, kvs, k, v, ea, ey, l, q2⟩ => Calls.spliced_nil ?_)))
  subst ey
  exact d_pop I2 ea ry l (.inl rfl) fun w' s3 I3 rw' => ⟨v, _, I3, rw', q2⟩
theorem pe_dpop2 (ho : PE X o td) (he : PE X e ty) (hf : PE X f tx) (m : M2 X o "pop" apos e f cpos) : PE X (.Call (.Attribute o "pop" apos) [e, f] [] cpos) (tDPop2 td ty tx) := by
  intro pins s σ H Q I h
  refine wpAny_Call_method m.base m.few m.line PySem.F.plainAttrs_dict PySem.F.slot_dict_pop PySem.F.type_dict_pop (thn (ho pins s σ H _ I h) fun u s1 ⟨x, H1, I1, rx, a, ex, d, q1⟩ => ?_)
  subst ex
  obtain rfl : u = Value.ref a := rx
  obtain ⟨t1, t2, _⟩ := isD_at I1 d
  refine ⟨t1, t2, ?_⟩
  rw [m.trees]
  refine Calls.callWith_builtin rfl (Calls.evalArgs_plain (Calls.spliced_cons (thn (he pins s1 σ H1 _ I1 q1) fun iv s2 ⟨y, H2, I2, ry, q2⟩ =>
    Calls.spliced_cons (thn (hf pins s2 σ H2 _ I2 q2) fun fv s3 ⟨z, H3, I3, rz, kvs, k, ea, ey, q3, q4⟩ => Calls.spliced_nil ?_))))
  subst ey
  cases l : valV kvs k with
  | some v => exact d_pop I3 ea ry l (.inr ⟨fv, rfl⟩) fun w' s4 I4 rw' => ⟨v, _, I4, rw', q3 v l⟩
  | none => exact d_popD I3 ea ry l fun s4 I4 => ⟨z, H3, I4, rz, q4 l⟩
end

/-! ### dict(d): a copy -/
section
variable {X : Cx} {pins : List (Addr × Obj)} {σ : St} {H : Hp} {s : Shared} {a : Addr} {kvs : List (Key × V)} {A : Around} {E : Value → Shared → Prop}
theorem d_copyOf {Q : Value → Shared → Prop} (I : Inv X pins σ H s) (e : Rd H a (.dK kvs)) (h : ∀ p s', H p = none → Inv X pins σ (upd H p (.dK kvs)) s' → Q (.ref p) s') : wpAny (model X.prog X.w) A (call (.type "dict") [.ref a]) Q E s := by
  obtain ⟨z, hd, vs, rel, dd⟩ := dk_rd I.hok e
  refine kt_call_dict hd dd (by rw [← rel.length]; exact z) fun h' dd' hs => ?_
  refine h _ _ (I.hok.fresh (Nat.le_refl _)) (I.laid (a := s.heap.objs.size) (o := .dK kvs) (t' := s.toks) (fun b q hq => ?_) (Nat.le_refl _) (dk_new z (beq_eq_false_iff_ne.mpr (Ne.symm (Nat.ne_of_lt I.big))) rel dd'))
  exact (hs.2 b (Nat.ne_of_lt (Heap.lt_size hq))).trans (Heap.get?_push_of_some _ hq)
end


section
variable {X : Cx} {pins : List (Addr × Obj)} {σ : St} {H : Hp} {s : Shared} {a : Addr} {y : V} {u : Value} {A : Around} {E : Value → Shared → Prop}
/-- d[y], not there: a KeyError -/
theorem d_missing {Q : Value → Shared → Prop} (hu : A.units + 1 < cLine) (hh : A.handled = none) (I : Inv X pins σ H s) (g : DGet H a y none) (ry : RelV y u)
    (h : ∀ h' e t', Heap.NewExc s.heap h' e "KeyError" → E (.ref e) { s with heap := h', toks := t' }) : wpAny (model X.prog X.w) A (getItem (.ref a) u) Q E s := by
  rcases g with ⟨kvs, k, e, ey, l⟩ | ⟨kvs, k, b, e, ey, eb, l⟩
  · subst ey
    obtain ⟨z, hd, vs, rel, dd⟩ := dk_rd I.hok e
    have hn : valueAt vs k = none := RelO.none_of (by rw [l]; exact rel.val k)
    exact wpAny_getItem_missing_of (kV_is ry) hd hh dd.mapOf hn fun h' ex ne => h h' ex _ ne
  · subst ey
    cases (show u = Value.ref b from ry)
    obtain ⟨z, hd, xs, rel, dd⟩ := dt_rd I.hok e
    have hn : (atKey xs k).map (·.2) = none := RelO.none_of (by rw [l]; exact rel.val k)
    exact wpAny_getItem_missing_heap (tupleKind_room_in1 hu) (key_of I.hok eb) hd hh dd (Option.map_eq_none_iff.mp hn) fun h' ex ne => h h' ex _ ne
end
end L2
namespace L2
open PySem PySem.Spec PyProof.Rows
section
variable {X : Cx}
/-- lists of ints, != -/
theorem op_neLI (hu : X.A.units + 64 < cLine) : OpR X (compareOp .NotEq) (fun x y H Q => ∃ (a b : Addr) (ns ms : List Int), x = .ref a ∧ y = .ref b ∧ SqL X.K H a (ns.map V.int) ∧ SqL X.K H b (ms.map V.int) ∧ Q (.bl (!decide (ns = ms))) H) := by
  intro pins s σ H x y v u Q I rx ry h
  obtain ⟨a, b, ns, ms, rfl, rfl, ha, hb, q⟩ := h
  cases rx
  cases ry
  obtain ⟨its, r1, p1, _⟩ := I.list ha
  obtain ⟨its2, r2, p2, _⟩ := I.list hb
  exact PySem.W.ne_intsK p1.isList (intsAre_of r1) p2.isList (intsAre_of r2) hu ⟨.bl (!decide (ns = ms)), H, I, rfl, q⟩
theorem op_eqLI (hu : X.A.units + 64 < cLine) : OpR X (compareOp .Eq) (fun x y H Q => ∃ (a b : Addr) (ns ms : List Int), x = .ref a ∧ y = .ref b ∧ SqL X.K H a (ns.map V.int) ∧ SqL X.K H b (ms.map V.int) ∧ Q (.bl (decide (ns = ms))) H) := by
  intro pins s σ H x y v u Q I rx ry h
  obtain ⟨a, b, ns, ms, rfl, rfl, ha, hb, q⟩ := h
  cases rx
  cases ry
  obtain ⟨its, r1, p1, _⟩ := I.list ha
  obtain ⟨its2, r2, p2, _⟩ := I.list hb
  exact PySem.W.eq_intsK p1.isList (intsAre_of r1) p2.isList (intsAre_of r2) hu ⟨.bl (decide (ns = ms)), H, I, rfl, q⟩
/-- x is True, x is not True, of a truth -/
theorem op_isT : OpR X (compareOp .Is) (fun x y H Q => ∃ b c, x = .bl b ∧ y = .bl c ∧ Q (.bl (b == c)) H) := by
  intro pins s σ H x y v u Q I rx ry h
  obtain ⟨b, c, rfl, rfl, q⟩ := h
  cases rx
  cases ry
  exact is_bool ⟨.bl (b == c), H, I, rfl, q⟩
theorem op_isntT : OpR X (compareOp .IsNot) (fun x y H Q => ∃ b c, x = .bl b ∧ y = .bl c ∧ Q (.bl (b != c)) H) := by
  intro pins s σ H x y v u Q I rx ry h
  obtain ⟨b, c, rfl, rfl, q⟩ := h
  cases rx
  cases ry
  exact isnot_bool ⟨.bl (b != c), H, I, rfl, q⟩
end
end L2
namespace PySem
open Sem (wp)
open Builtin
section
variable {prog : Program} {w : World} {A : Around} {E : Value → Shared → Prop} {s : Shared}
theorem same_pair {h h' : Heap} {c T : Addr} {a b : Value} (hs : Heap.SameBut c h h') (n : T ≠ c) (e : IsPair h T a b) : IsPair h' T a b := (hs.2 T n).trans e
theorem zip_next_itemD {z TI TO i1 i2 : Addr} {fp1 fp2 : List Addr} {n1 n2 k : Nat} {P1 P2 : Nat → Value → Prop} {S1 S2 : Nat → Heap → Prop} {a b : Value} {Q : Value → Shared → Prop}
    (D1 : Draws prog w A i1 fp1 n1 P1 S1) (D2 : Draws prog w A i2 fp2 n2 P2 S2) (hz : IsZip s.heap z TI TO .none) (hTI : IsPair s.heap TI (.ref i1) (.ref i2)) (hTO : IsPair s.heap TO a b)
    (h1 : S1 k s.heap) (h2 : S2 k s.heap) (k1 : k < n1) (k2 : k < n2) (nTO : TO ≠ z) (nTI : TI ≠ z) (n1z : i1 ≠ z) (n2z : i2 ≠ z) (n1T : i1 ≠ TO) (n2T : i2 ≠ TO)
    (f1z : z ∉ fp1) (f1T : TO ∉ fp1) (f12 : i2 ∉ fp1) (f2z : z ∉ fp2) (f2T : TO ∉ fp2) (f21 : i1 ∉ fp2)
    (hQ : ∀ x y h' tk, P1 k x → P2 k y → IsZip h' z TI TO (rawInt s.heap.objs.size) → IsPair h' TO x y → S1 (k + 1) h' → S2 (k + 1) h' → IsPair h' s.heap.objs.size x y → h'.objs.size = s.heap.objs.size + 1 →
      (∀ c o, c ≠ z → c ≠ TO → c ≠ i1 → c ≠ i2 → s.heap.get? c = some o → h'.get? c = some o) → Q (.ref s.heap.objs.size) { s with heap := h', toks := tk }) :
    wpAny (model prog w) A (Builtin.«zip.__next__» ⟨[.ref z], []⟩) (fun fin s' => ∃ v, fin = .done (.ret v) ∧ Q v s') E s := by
  show wpAny _ _ (field (.ref z) 2 >>= _) _ _ s
  refine wpAny_bind (wpAny_field hz rfl (x := .bool false) rfl ?_)
  refine wpAny_bind (wpAny_field hz rfl (x := .ref TI) rfl ?_)
  refine wpAny_bind (wpAny_seqItems hTI rfl ?_)
  refine wpAny_bind (m := SmallTypes.ownedTupleIsFree (.ref z)) (wpAny_bind (wpAny_field hz rfl (x := .none) rfl (wpAny_pure ?_)))
  show wpAny _ _ (if true = true then _ else _) _ _ s
  rw [if_pos rfl]
  refine wpAny_bind (wpAny_rule ?_)
  refine wpAny_bind (wpAny_field hz rfl (x := .ref TO) rfl ?_)
  refine wpAny_bind (wpAny_setField_rec hz (by simp) fun g1 hz1 hs1 => ?_)
  have st1 : S1 k g1 := D1.frame k _ _ h1 fun c hc o e => (hs1.2 c fun q => f1z (q ▸ hc)).trans e
  have st2 : S2 k g1 := D2.frame k _ _ h2 fun c hc o e => (hs1.2 c fun q => f2z (q ▸ hc)).trans e
  have hTO1 := same_pair hs1 nTO hTO
  refine wpAny_bind ?_
  show wpAny _ _ (forIn [(Value.ref i1, 0), (Value.ref i2, 1)] _ _) _ _ _
  rw [List.forIn_cons]
  refine wpAny_bind (wpAny_bind (wpAny_onRaise ?_))
  refine wpAny_bind (m := SmallTypes.nextOf (.ref i1)) (D1.item k { s with heap := g1 } _ _ k1 st1 fun x g2 tk2 px st1' hs2 => wpAny_pure ?_)
  have hTO2 := same_pair hs2 (Ne.symm n1T) hTO1
  refine wpAny_bind (wpAny_seqItems hTO2 rfl ?_)
  refine wpAny_bind (wpAny_updateSeq_pair hTO2 fun g3 hTO3 hs3 => ?_)
  refine wpAny_bind (wpAny_letGo (wpAny_pure ?_))
  have hTO3 : IsPair g3 TO x b := hTO3
  have st2' : S2 k g3 := D2.frame k _ _ st2 fun c hc o e => (hs3.2 c fun q => f2T (q ▸ hc)).trans ((hs2.2 c fun q => f21 (q ▸ hc)).trans e)
  show wpAny _ _ (forIn [(Value.ref i2, 1)] _ _) _ _ _
  rw [List.forIn_cons]
  refine wpAny_bind (wpAny_bind (wpAny_onRaise ?_))
  refine wpAny_bind (m := SmallTypes.nextOf (.ref i2)) (D2.item k { s with heap := g3, toks := tk2 } _ _ k2 st2' fun y g4 tk4 py st2'' hs4 => wpAny_pure ?_)
  have hTO4 := same_pair hs4 (Ne.symm n2T) hTO3
  refine wpAny_bind (wpAny_seqItems hTO4 rfl ?_)
  refine wpAny_bind (wpAny_updateSeq_pair hTO4 fun g5 hTO5 hs5 => ?_)
  refine wpAny_bind (wpAny_letGo (wpAny_pure ?_))
  have hTO5 : IsPair g5 TO x y := hTO5
  show wpAny _ _ (forIn [] _ _) _ _ _
  rw [List.forIn_nil]
  refine wpAny_pure ?_
  refine wpAny_bind (wpAny_seqItems hTO5 rfl ?_)
  refine wpAny_bind (wpAny_newTuple ?_)
  have hz5 : IsZip g5 z TI TO .ellipsis := (hs5.2 z (Ne.symm nTO)).trans ((hs4.2 z (Ne.symm n2z)).trans ((hs3.2 z (Ne.symm nTO)).trans ((hs2.2 z (Ne.symm n1z)).trans hz1)))
  have sz5 : g5.objs.size = s.heap.objs.size := by rw [hs5.1, hs4.1, hs3.1, hs2.1, hs1.1]
  have hz6 := Heap.get?_push_of_some { cls := Value.type "tuple", data := Data.seq #[x, y] } hz5
  refine wpAny_bind (m := SmallTypes.ownedTupleHandOut _ _) ?_
  refine wpAny_bind (m := setField _ 0 _) (wpAny_setField_rec hz6 (by simp) fun g7 hz7 hs7 => ?_)
  refine wpAny_setField_rec hz7 (by simp) fun g8 hz8 hs8 => ?_
  have lt : ∀ {c : Addr} {o : Obj}, s.heap.get? c = some o → c < g5.objs.size := fun e => by rw [sz5]; exact Heap.lt_size e
  have nw : g5.objs.size ≠ z := Nat.ne_of_gt (Heap.lt_size hz5)
  have fr : ∀ c o, c ≠ z → g5.get? c = some o → g8.get? c = some o := fun c o n e => (hs8.2 c n).trans ((hs7.2 c n).trans (Heap.get?_push_of_some _ e))
  have up : ∀ c o, c ≠ z → c ≠ TO → c ≠ i2 → g2.get? c = some o → g8.get? c = some o := fun c o c1 c2 c3 e => fr c o c1 ((hs5.2 c c2).trans ((hs4.2 c c3).trans ((hs3.2 c c2).trans e)))
  have hnew : g8.get? g5.objs.size = some { cls := Value.type "tuple", data := Data.seq #[x, y] } := (hs8.2 _ nw).trans ((hs7.2 _ nw).trans (Heap.get?_push_size _ rfl))
  have sz8 : g8.objs.size = s.heap.objs.size + 1 := by
    rw [hs8.1]
    show g7.objs.size = _
    rw [hs7.1]
    show (g5.push _).objs.size = _
    rw [Heap.size_push, sz5]
  have hz8' : IsZip g8 z TI TO (rawInt s.heap.objs.size) := by
    rw [← sz5]
    exact hz8
  refine wpAny_pure ⟨_, rfl, ?_⟩
  show Q (Value.ref g5.objs.size) { s with heap := g8, toks := tk4 }
  rw [sz5] at hnew ⊢
  refine hQ x y g8 tk4 px py hz8' (fr _ _ nTO hTO5) (D1.frame _ _ _ st1' fun c hc o e => up c o (fun q => f1z (q ▸ hc)) (fun q => f1T (q ▸ hc)) (fun q => f12 (q ▸ hc)) e) (D2.frame _ _ _ st2'' fun c hc o e => fr c o (fun q => f2z (q ▸ hc)) ((hs5.2 c fun q => f2T (q ▸ hc)).trans e)) hnew sz8 fun c o c1 c2 c3 c4 e => up c o c1 c2 c4 ((hs2.2 c c3).trans ((hs1.2 c c1).trans e))
theorem zip_next_endD {z TI TO i1 i2 : Addr} {fp1 : List Addr} {n1 : Nat} {P1 : Nat → Value → Prop} {S1 : Nat → Heap → Prop} {a b : Value} {Q : Value → Shared → Prop}
    (D1 : Draws prog w A i1 fp1 n1 P1 S1) (hz : IsZip s.heap z TI TO .none) (hTI : IsPair s.heap TI (.ref i1) (.ref i2)) (hTO : IsPair s.heap TO a b)
    (h1 : S1 n1 s.heap) (nTO : TO ≠ z) (n1z : i1 ≠ z) (f1z : z ∉ fp1)
    (hE : ∀ h' e, (∃ o, h'.get? e = some o ∧ o.cls = .type "StopIteration") → (∀ c o, c ≠ z → c ≠ TO → c ≠ i1 → c ≠ i2 → s.heap.get? c = some o → h'.get? c = some o) → E (.ref e) { s with heap := h' }) :
    wpAny (model prog w) A (Builtin.«zip.__next__» ⟨[.ref z], []⟩) (fun fin s' => ∃ v, fin = .done (.ret v) ∧ Q v s') E s := by
  show wpAny _ _ (field (.ref z) 2 >>= _) _ _ s
  refine wpAny_bind (wpAny_field hz rfl (x := .bool false) rfl ?_)
  refine wpAny_bind (wpAny_field hz rfl (x := .ref TI) rfl ?_)
  refine wpAny_bind (wpAny_seqItems hTI rfl ?_)
  refine wpAny_bind (m := SmallTypes.ownedTupleIsFree (.ref z)) (wpAny_bind (wpAny_field hz rfl (x := .none) rfl (wpAny_pure ?_)))
  show wpAny _ _ (if true = true then _ else _) _ _ s
  rw [if_pos rfl]
  refine wpAny_bind (wpAny_rule ?_)
  refine wpAny_bind (wpAny_field hz rfl (x := .ref TO) rfl ?_)
  refine wpAny_bind (wpAny_setField_rec hz (by simp) fun g1 hz1 hs1 => ?_)
  have st1 : S1 n1 g1 := D1.frame n1 _ _ h1 fun c hc o e => (hs1.2 c fun q => f1z (q ▸ hc)).trans e
  refine wpAny_bind ?_
  show wpAny _ _ (forIn [(Value.ref i1, 0), (Value.ref i2, 1)] _ _) _ _ _
  rw [List.forIn_cons]
  refine wpAny_bind (wpAny_bind (wpAny_onRaise ?_))
  refine wpAny_bind (m := SmallTypes.nextOf (.ref i1)) (D1.done { s with heap := g1 } _ _ st1 fun g2 e hs2 he => ?_)
  have hz2 : g2.get? z = some _ := hs2 z _ (Ne.symm n1z) hz1
  refine wpAny_setField_rec hz2 (by simp) fun g3 hz3 hs3 => ?_
  obtain ⟨oe, e1, e2⟩ := he
  have ez : e ≠ z := fun q => by
    rw [q, hz2] at e1
    cases e1
    exact absurd (Value.type.inj e2) (by decide)
  exact hE g3 e ⟨oe, (hs3.2 e ez).trans e1, e2⟩ fun c o c1 c2 c3 c4 q => (hs3.2 c c1).trans (hs2 c o c3 ((hs1.2 c c1).trans q))
theorem wpAny_pyNext_zip_itemD {z TI TO i1 i2 : Addr} {fp1 fp2 : List Addr} {n1 n2 k : Nat} {P1 P2 : Nat → Value → Prop} {S1 S2 : Nat → Heap → Prop} {a b : Value} {Q : Option Value → Shared → Prop}
    (D1 : Draws prog w A.in1 i1 fp1 n1 P1 S1) (D2 : Draws prog w A.in1 i2 fp2 n2 P2 S2) (hz : IsZip s.heap z TI TO .none) (hTI : IsPair s.heap TI (.ref i1) (.ref i2)) (hTO : IsPair s.heap TO a b)
    (h1 : S1 k s.heap) (h2 : S2 k s.heap) (k1 : k < n1) (k2 : k < n2) (nTO : TO ≠ z) (nTI : TI ≠ z) (n1z : i1 ≠ z) (n2z : i2 ≠ z) (n1T : i1 ≠ TO) (n2T : i2 ≠ TO)
    (f1z : z ∉ fp1) (f1T : TO ∉ fp1) (f12 : i2 ∉ fp1) (f2z : z ∉ fp2) (f2T : TO ∉ fp2) (f21 : i1 ∉ fp2)
    (hQ : ∀ x y h' tk, P1 k x → P2 k y → IsZip h' z TI TO (rawInt s.heap.objs.size) → IsPair h' TO x y → S1 (k + 1) h' → S2 (k + 1) h' → IsPair h' s.heap.objs.size x y → h'.objs.size = s.heap.objs.size + 1 →
      (∀ c o, c ≠ z → c ≠ TO → c ≠ i1 → c ≠ i2 → s.heap.get? c = some o → h'.get? c = some o) → Q (some (.ref s.heap.objs.size)) { s with heap := h', toks := tk }) :
    wpAny (model prog w) A (pyNext (.ref z)) Q E s := by
  have hT : s.TypeIs (.ref z) "zip" := ⟨_, hz, rfl⟩
  exact wpAny_bind (wpAny_attempt (wpAny_callSpecial?_slot hT F.slot_zip_next (wpAny_call_entry F.slot_zip_next hT F.entry_zip_next
    (zip_next_itemD D1 D2 hz hTI hTO h1 h2 k1 k2 nTO nTI n1z n2z n1T n2T f1z f1T f12 f2z f2T f21 fun x y h' tk a0 b0 a1 a2 a3 a4 a5 a6 a7 => wpAny_pure (hQ x y h' tk a0 b0 a1 a2 a3 a4 a5 a6 a7)) (F.args_zip_next_1 (Value.ref z)))))
theorem wpAny_pyNext_zip_endD {z TI TO i1 i2 : Addr} {fp1 : List Addr} {n1 : Nat} {P1 : Nat → Value → Prop} {S1 : Nat → Heap → Prop} {a b : Value} {Q : Option Value → Shared → Prop}
    (D1 : Draws prog w A.in1 i1 fp1 n1 P1 S1) (hz : IsZip s.heap z TI TO .none) (hTI : IsPair s.heap TI (.ref i1) (.ref i2)) (hTO : IsPair s.heap TO a b)
    (h1 : S1 n1 s.heap) (nTO : TO ≠ z) (n1z : i1 ≠ z) (f1z : z ∉ fp1)
    (hQ : ∀ h', (∀ c o, c ≠ z → c ≠ TO → c ≠ i1 → c ≠ i2 → s.heap.get? c = some o → h'.get? c = some o) → Q none { s with heap := h' }) :
    wpAny (model prog w) A (pyNext (.ref z)) Q E s := by
  have hT : s.TypeIs (.ref z) "zip" := ⟨_, hz, rfl⟩
  exact wpAny_bind (wpAny_attempt (wpAny_callSpecial?_slot hT F.slot_zip_next (wpAny_call_entry F.slot_zip_next hT F.entry_zip_next
    (zip_next_endD D1 hz hTI hTO h1 nTO n1z f1z fun h' e he k => let ⟨o, ho, hc⟩ := he; wpAny_bind (wpAny_isInstance ⟨o, ho, hc⟩ isSubtype_stop (wpAny_pure (hQ h' k)))) (F.args_zip_next_1 (Value.ref z)))))
end
/-- the heap behind zip(l1, l2), the iterators being o1 and o2 -/
def zpH (h : Heap) (o1 o2 : Obj) : Heap :=
  ((((h.push o1).push o2).push { cls := .type "tuple", data := .seq #[.ref h.objs.size, .ref (h.push o1).objs.size] }).push { cls := .type "tuple", data := .seq #[.none, .none] }).push
    { cls := .type "zip", data := .fields #[.none, .bool false, .bool false, .ref ((h.push o1).push o2).objs.size, .ref (((h.push o1).push o2).push { cls := .type "tuple", data := .seq #[.ref h.objs.size, .ref (h.push o1).objs.size] }).objs.size] }
abbrev tIt (l : Addr) : Obj := { cls := .type "tuple_iterator", data := .fields #[.ref l, .int 0 0] }
abbrev lIt (l : Addr) : Obj := { cls := .type "list_iterator", data := .fields #[.ref l, .int 0 0] }
set_option maxHeartbeats 1000000 in
theorem meets_zip_TL (l1 l2 : Addr) (xs ys : Array Value) :
    Meets (Builtin.«zip.__new__» ⟨[.type "zip", .ref l1, .ref l2], []⟩) (fun _ R s => s.heap.IsTuple l1 xs ∧ s.heap.IsList l2 ys ∧
      R (.ok (.ret (.ref ((((s.heap.push (tIt l1)).push (lIt l2)).push { cls := .type "tuple", data := .seq #[.ref s.heap.objs.size, .ref (s.heap.push (tIt l1)).objs.size] }).push { cls := .type "tuple", data := .seq #[.none, .none] }).objs.size)))
        { s with heap := zpH s.heap (tIt l1) (lIt l2) }) :=
  .of_wp fun prog w A R s h => by
    obtain ⟨hp, g, d, tk, os⟩ := s
    obtain ⟨hl1, hl2, h⟩ := h
    have hsub := sub_zip
    have hL1 := hl1
    have hL2 := Heap.IsList.push hl2 (tIt l1)
    wp_walk using wpAny_pyIter_tuple hL1, wpAny_pyIter_list hL2
    exact ⟨_, rfl, h⟩
theorem call_zip_TL {prog : Program} {w : World} {A : Around} {E : Value → Shared → Prop} {s : Shared} {l1 l2 : Addr} {xs ys : Array Value} {Q : Value → Shared → Prop} (h1 : s.heap.IsTuple l1 xs) (h2 : s.heap.IsList l2 ys)
    (h : ∀ h', IsZip h' (s.heap.objs.size + 4) (s.heap.objs.size + 2) (s.heap.objs.size + 3) .none → IsPair h' (s.heap.objs.size + 2) (.ref s.heap.objs.size) (.ref (s.heap.objs.size + 1)) → IsPair h' (s.heap.objs.size + 3) .none .none →
      h'.IsTupleIter s.heap.objs.size l1 0 → h'.IsListIter (s.heap.objs.size + 1) l2 0 → (∀ b o, s.heap.get? b = some o → h'.get? b = some o) → Q (.ref (s.heap.objs.size + 4)) { s with heap := h' }) :
    wpAny (model prog w) A (call (.type "zip") [.ref l1, .ref l2]) Q E s := by
  refine callType_new F.called_zip (by decide) (F.typeCall_zip_2 _ _) (F.newCall_zip_2 _ _) (fun obj => F.args_object_init_3 obj _ _) F.entry_zip_new (meets_zip_TL l1 l2 xs ys) ⟨h1, h2, ?_⟩
  have z1 : (s.heap.push (tIt l1)).objs.size = s.heap.objs.size + 1 := Heap.size_push ..
  have z2 : ((s.heap.push (tIt l1)).push (lIt l2)).objs.size = s.heap.objs.size + 2 := by rw [Heap.size_push, z1]
  have z3 : (((s.heap.push (tIt l1)).push (lIt l2)).push { cls := .type "tuple", data := .seq #[.ref s.heap.objs.size, .ref (s.heap.push (tIt l1)).objs.size] }).objs.size = s.heap.objs.size + 3 := by rw [Heap.size_push, z2]
  have z4 : ((((s.heap.push (tIt l1)).push (lIt l2)).push { cls := .type "tuple", data := .seq #[.ref s.heap.objs.size, .ref (s.heap.push (tIt l1)).objs.size] }).push { cls := .type "tuple", data := .seq #[.none, .none] }).objs.size = s.heap.objs.size + 4 := by rw [Heap.size_push, z3]
  have g5 : IsZip (zpH s.heap (tIt l1) (lIt l2)) (s.heap.objs.size + 4) (s.heap.objs.size + 2) (s.heap.objs.size + 3) .none := by
    rw [← z4, ← z3, ← z2]
    exact Heap.get?_push_size _ rfl
  have g4 : IsPair (zpH s.heap (tIt l1) (lIt l2)) (s.heap.objs.size + 3) .none .none := by
    rw [← z3]
    exact Heap.get?_push_of_some _ (Heap.get?_push_size _ rfl)
  have g3 : IsPair (zpH s.heap (tIt l1) (lIt l2)) (s.heap.objs.size + 2) (.ref s.heap.objs.size) (.ref (s.heap.objs.size + 1)) := by
    rw [← z2, ← z1]
    exact Heap.get?_push_of_some _ (Heap.get?_push_of_some _ (Heap.get?_push_size _ rfl))
  have g2 : (zpH s.heap (tIt l1) (lIt l2)).get? (s.heap.objs.size + 1) = some (lIt l2) := by
    rw [← z1]
    exact Heap.get?_push_of_some _ (Heap.get?_push_of_some _ (Heap.get?_push_of_some _ (Heap.get?_push_size _ rfl)))
  have g1 : (zpH s.heap (tIt l1) (lIt l2)).get? s.heap.objs.size = some (tIt l1) := Heap.get?_push_of_some _ (Heap.get?_push_of_some _ (Heap.get?_push_of_some _ (Heap.get?_push_of_some _ (Heap.get?_push_size _ rfl))))
  show _ ∧ _
  rw [z4]
  exact ⟨⟨_, g5, rfl⟩, h _ g5 g3 g4 ⟨_, g1, rfl, rfl⟩ ⟨_, g2, rfl, rfl⟩ fun b o e => Heap.get?_push_of_some _ (Heap.get?_push_of_some _ (Heap.get?_push_of_some _ (Heap.get?_push_of_some _ (Heap.get?_push_of_some _ e))))⟩
set_option maxHeartbeats 1000000 in
theorem meets_zip_TT (l1 l2 : Addr) (xs ys : Array Value) :
    Meets (Builtin.«zip.__new__» ⟨[.type "zip", .ref l1, .ref l2], []⟩) (fun _ R s => s.heap.IsTuple l1 xs ∧ s.heap.IsTuple l2 ys ∧
      R (.ok (.ret (.ref ((((s.heap.push (tIt l1)).push (tIt l2)).push { cls := .type "tuple", data := .seq #[.ref s.heap.objs.size, .ref (s.heap.push (tIt l1)).objs.size] }).push { cls := .type "tuple", data := .seq #[.none, .none] }).objs.size)))
        { s with heap := zpH s.heap (tIt l1) (tIt l2) }) :=
  .of_wp fun prog w A R s h => by
    obtain ⟨hp, g, d, tk, os⟩ := s
    obtain ⟨hl1, hl2, h⟩ := h
    have hsub := sub_zip
    have hL1 := hl1
    have hL2 := Heap.IsTuple.push hl2 (tIt l1)
    wp_walk using wpAny_pyIter_tuple hL1, wpAny_pyIter_tuple hL2
    exact ⟨_, rfl, h⟩
theorem call_zip_TT {prog : Program} {w : World} {A : Around} {E : Value → Shared → Prop} {s : Shared} {l1 l2 : Addr} {xs ys : Array Value} {Q : Value → Shared → Prop} (h1 : s.heap.IsTuple l1 xs) (h2 : s.heap.IsTuple l2 ys)
    (h : ∀ h', IsZip h' (s.heap.objs.size + 4) (s.heap.objs.size + 2) (s.heap.objs.size + 3) .none → IsPair h' (s.heap.objs.size + 2) (.ref s.heap.objs.size) (.ref (s.heap.objs.size + 1)) → IsPair h' (s.heap.objs.size + 3) .none .none →
      h'.IsTupleIter s.heap.objs.size l1 0 → h'.IsTupleIter (s.heap.objs.size + 1) l2 0 → (∀ b o, s.heap.get? b = some o → h'.get? b = some o) → Q (.ref (s.heap.objs.size + 4)) { s with heap := h' }) :
    wpAny (model prog w) A (call (.type "zip") [.ref l1, .ref l2]) Q E s := by
  refine callType_new F.called_zip (by decide) (F.typeCall_zip_2 _ _) (F.newCall_zip_2 _ _) (fun obj => F.args_object_init_3 obj _ _) F.entry_zip_new (meets_zip_TT l1 l2 xs ys) ⟨h1, h2, ?_⟩
  have z1 : (s.heap.push (tIt l1)).objs.size = s.heap.objs.size + 1 := Heap.size_push ..
  have z2 : ((s.heap.push (tIt l1)).push (tIt l2)).objs.size = s.heap.objs.size + 2 := by rw [Heap.size_push, z1]
  have z3 : (((s.heap.push (tIt l1)).push (tIt l2)).push { cls := .type "tuple", data := .seq #[.ref s.heap.objs.size, .ref (s.heap.push (tIt l1)).objs.size] }).objs.size = s.heap.objs.size + 3 := by rw [Heap.size_push, z2]
  have z4 : ((((s.heap.push (tIt l1)).push (tIt l2)).push { cls := .type "tuple", data := .seq #[.ref s.heap.objs.size, .ref (s.heap.push (tIt l1)).objs.size] }).push { cls := .type "tuple", data := .seq #[.none, .none] }).objs.size = s.heap.objs.size + 4 := by rw [Heap.size_push, z3]
  have g5 : IsZip (zpH s.heap (tIt l1) (tIt l2)) (s.heap.objs.size + 4) (s.heap.objs.size + 2) (s.heap.objs.size + 3) .none := by
    rw [← z4, ← z3, ← z2]
    exact Heap.get?_push_size _ rfl
  have g4 : IsPair (zpH s.heap (tIt l1) (tIt l2)) (s.heap.objs.size + 3) .none .none := by
    rw [← z3]
    exact Heap.get?_push_of_some _ (Heap.get?_push_size _ rfl)
  have g3 : IsPair (zpH s.heap (tIt l1) (tIt l2)) (s.heap.objs.size + 2) (.ref s.heap.objs.size) (.ref (s.heap.objs.size + 1)) := by
    rw [← z2, ← z1]
    exact Heap.get?_push_of_some _ (Heap.get?_push_of_some _ (Heap.get?_push_size _ rfl))
  have g2 : (zpH s.heap (tIt l1) (tIt l2)).get? (s.heap.objs.size + 1) = some (tIt l2) := by
    rw [← z1]
    exact Heap.get?_push_of_some _ (Heap.get?_push_of_some _ (Heap.get?_push_of_some _ (Heap.get?_push_size _ rfl)))
  have g1 : (zpH s.heap (tIt l1) (tIt l2)).get? s.heap.objs.size = some (tIt l1) := Heap.get?_push_of_some _ (Heap.get?_push_of_some _ (Heap.get?_push_of_some _ (Heap.get?_push_of_some _ (Heap.get?_push_size _ rfl))))
  show _ ∧ _
  rw [z4]
  exact ⟨⟨_, g5, rfl⟩, h _ g5 g3 g4 ⟨_, g1, rfl, rfl⟩ ⟨_, g2, rfl, rfl⟩ fun b o e => Heap.get?_push_of_some _ (Heap.get?_push_of_some _ (Heap.get?_push_of_some _ (Heap.get?_push_of_some _ (Heap.get?_push_of_some _ e))))⟩
end PySem
namespace L2
open PySem PySem.Spec PyProof.Rows
theorem Inv.turnN {X : Cx} {pins : List (Addr × Obj)} {σ : St} {H : Hp} {s : Shared} {h' : Heap} {t' : Nat} {ch : List Addr} (I : Inv X pins σ H s) (fa : ∀ b ∈ ch, FpOk X pins H b)
    (k : ∀ c o, c ∉ ch → s.heap.get? c = some o → h'.get? c = some o) : Inv X pins σ H { s with heap := h', toks := t' } := by
  have na : ∀ c u, H c = some u → c ∉ ch := fun c u e z => by have := (fa c z).1; rw [e] at this; cases this
  refine I.step (g' := s.gens) (d' := s.drawn) (ch := ch) (fun c hc => ?_) (fun c o _ _ hc e _ => k c o hc e) (fun c o _ _ hc e _ => ⟨o.slots, k c o hc e⟩)
    (fun _ _ _ _ n => n) (fun c o hc e => ⟨o, k c o hc e⟩) (fun _ _ e => e) (fun _ _ _ e => e) (fun c ps e => ⟨#[], by rw [e]; simp⟩) (fun m hm => ?_) (fun c u e => ?_) I.bare
  · obtain ⟨a0, a1, a2, a3, a4, a5⟩ := fa c hc
    exact ⟨a3, a1, a4, a5⟩
  · obtain ⟨o, es, ep, ho, r⟩ := hm
    exact ⟨o, es, ep, k _ o (fun z => (fa _ z).2.1 rfl) ho, r⟩
  · refine (I.hok c u e).stay (fun d v hd q => ?_) (fun _ q => q) fun _ _ q => q
    rcases hd with z | z
    · rw [z] at q ⊢
      exact k c v (na c u e) q
    · exact k d v (na d _ z) q
theorem Inv.turnNl {X : Cx} {pins : List (Addr × Obj)} {σ : St} {H : Hp} {s : Shared} {h' : Heap} {t' : Nat} {ch : List Addr} {T : Addr} {o' : HO} (I : Inv X pins σ H s) (fa : ∀ b ∈ ch, FpOk X pins H b)
    (k : ∀ c o, c ∉ ch → s.heap.get? c = some o → h'.get? c = some o) (hT : s.heap.objs.size ≤ T) (new : ObjOk X.prog X.w (upd H T o') h' T o') : Inv X pins σ (upd H T o') { s with heap := h', toks := t' } := by
  have J : Inv X pins σ H { s with heap := h', toks := t' } := I.turnN fa k
  have hn : H T = none := I.hok.fresh hT
  have nT : ∀ c o, s.heap.get? c = some o → c ≠ T := fun c o q => Nat.ne_of_lt (Nat.lt_of_lt_of_le (Heap.lt_size q) hT)
  refine I.step (g' := s.gens) (d' := s.drawn) (ch := ch) (fun c hc => ?_) (fun c o _ _ hc e _ => k c o hc e) (fun c o _ _ hc e _ => ⟨o.slots, k c o hc e⟩)
    (fun c o _ q n => by rw [upd_ne (nT c o q)]; exact n) (fun c o hc e => ⟨o, k c o hc e⟩) (fun c xs e => by rw [upd_ne (ne_of_none e hn)]; exact e) (fun c u xs e => by rw [upd_ne (ne_of_none e hn)]; exact e)
    (fun c ps e => ⟨#[], by rw [upd_ne (ne_of_none e hn), e]; simp⟩) (fun m hm => ?_) (hok_track J.hok hn new) I.bare
  · obtain ⟨a0, a1, a2, a3, a4, a5⟩ := fa c hc
    exact ⟨a3, a1, a4, a5⟩
  · obtain ⟨o, es, ep, ho, r⟩ := hm
    exact ⟨o, es, ep, k _ o (fun z => (fa _ z).2.1 rfl) ho, r⟩
/-- (x0, y0), (x1, y1), .. over what is at l1 and at l2, each a new tuple; as long as the first -/
def IteZ (c1 c2 : List V → HO) (l1 l2 : Addr) : It :=
  ⟨fun i H => ∃ xs ys x y, H l1 = some (c1 xs) ∧ H l2 = some (c2 ys) ∧ xs[i]? = some x ∧ ys[i]? = some y, fun i H v H' => ∃ T xs ys x y, H T = none ∧ v = .ref T ∧ H l1 = some (c1 xs) ∧ H l2 = some (c2 ys) ∧ xs[i]? = some x ∧ ys[i]? = some y ∧ H' = upd H T (.tup [x, y]), fun i H => ∃ xs, H l1 = some (c1 xs) ∧ xs.length = i⟩
theorem turn_zip {c1 c2 : List V → HO} {IsS1 IsS2 : Heap → Addr → Array Value → Prop} {IsI1 IsI2 : Heap → Addr → Addr → Nat → Prop} (S1 : SeqKind c1 IsS1 IsI1) (S2 : SeqKind c2 IsS2 IsI2) {P : Program} {w : World} {K : PySem.W.Frag} {elts : List Expr} {kt : Nat} {pt : Pos} {z TI TO i1 i2 l1 l2 : Addr} (nTO : TO ≠ z) (nTI : TI ≠ z) (n1z : i1 ≠ z) (n2z : i2 ≠ z) (nTT : TI ≠ TO) (n1I : TI ≠ i1) (n2I : TI ≠ i2) (n1T : i1 ≠ TO) (n2T : i2 ≠ TO) (n12 : i1 ≠ i2) :
    Turn P w K (.Tuple elts kt pt) (IteZ c1 c2 l1 l2) [z, TI, TO, i1, i2] z (fun i h => IsZip h z TI TO .none ∧ IsPair h TI (.ref i1) (.ref i2) ∧ (∃ a b, IsPair h TO a b) ∧ IsI1 h i1 l1 i ∧ IsI2 h i2 l2 i) where
  mem := by simp
  obj := fun i h st b hb => by
    obtain ⟨h1, h2, ⟨a, c, h3⟩, h4, h5⟩ := st
    simp only [List.mem_cons, List.not_mem_nil, or_false] at hb
    rcases hb with rfl | rfl | rfl | rfl | rfl
    · exact ⟨_, h1, fun v z => by cases z⟩
    · exact ⟨_, h2, fun v z => by cases z⟩
    · exact ⟨_, h3, fun v z => by cases z⟩
    · exact S1.obj _ _ _ _ h4
    · exact S2.obj _ _ _ _ h5
  keep := fun i h h' st k => by
    obtain ⟨h1, h2, ⟨a, c, h3⟩, h4, h5⟩ := st
    exact ⟨k _ (by simp) _ h1, k _ (by simp) _ h2, ⟨a, c, k _ (by simp) _ h3⟩, S1.kp _ _ _ _ _ h4 fun o q => k _ (by simp) o q, S2.kp _ _ _ _ _ h5 fun o q => k _ (by simp) o q⟩
  item := by
    intro X hP' hw hK hc i pins s σ H E I hf st hg
    subst hP' hw hK
    obtain ⟨xs, ys, x, y, hl1, hl2, hx, hy⟩ := hg
    obtain ⟨its1, rv1, p1⟩ := S1.seq X pins σ H s l1 xs I hl1
    obtain ⟨its2, rv2, p2⟩ := S2.seq X pins σ H s l2 ys I hl2
    obtain ⟨u1, hu1, ru1⟩ := rv1.get hx
    obtain ⟨u2, hu2, ru2⟩ := rv2.get hy
    have fz := hf z (by simp)
    have fT := hf TO (by simp)
    have f1 := hf i1 (by simp)
    have f2 := hf i2 (by simp)
    have hlt1 : i < its1.toArray.size := by
      have := List.getElem?_eq_some_iff.mp hu1
      simpa using this.1
    have hlt2 : i < its2.toArray.size := by
      have := List.getElem?_eq_some_iff.mp hu2
      simpa using this.1
    obtain ⟨h1, h2, ⟨a, c, h3⟩, h4, h5⟩ := st
    have a1 := ne_of_none hl1 fz.1
    have a2 := ne_of_none hl1 fT.1
    have a3 := ne_of_none hl1 f1.1
    have a4 := ne_of_none hl1 f2.1
    have b1 := ne_of_none hl2 fz.1
    have b2 := ne_of_none hl2 fT.1
    have b3 := ne_of_none hl2 f1.1
    have b4 := ne_of_none hl2 f2.1
    refine wpAny_pyNext_zip_itemD (S1.dr X.prog X.w X.A.in1 (I.ok.hd hc) i1 l1 a3 its1.toArray) (S2.dr X.prog X.w X.A.in1 (I.ok.hd hc) i2 l2 b4 its2.toArray) h1 h2 h3 ⟨h4, p1⟩ ⟨h5, p2⟩ hlt1 hlt2 nTO nTI n1z n2z n1T n2T
      (by simp [Ne.symm n1z, Ne.symm a1]) (by simp [Ne.symm n1T, Ne.symm a2]) (by simp [Ne.symm n12, Ne.symm a4]) (by simp [Ne.symm n2z, Ne.symm b1]) (by simp [Ne.symm n2T, Ne.symm b2]) (by simp [n12, Ne.symm b3]) fun v1 v2 h' tk e1 e2 q1 q2 q3 q4 q5 q6 q7 => ?_
    refine ⟨.ref s.heap.objs.size, rfl, wpAny_letOwnedTupleGo_zip (s := { s with heap := h', toks := tk }) q1 fun g r1 r2 => ?_⟩
    have hv1 : v1 = u1 := by
      have h1 : its1[i]? = some v1 := by simpa using e1
      rw [hu1] at h1
      exact (Option.some.inj h1).symm
    have hv2 : v2 = u2 := by
      have h1 : its2[i]? = some v2 := by simpa using e2
      rw [hu2] at h1
      exact (Option.some.inj h1).symm
    subst hv1 hv2
    have hzt : z < s.heap.objs.size := Heap.lt_size h1
    have hT2 : g.get? s.heap.objs.size = some { cls := .type "tuple", data := .seq #[v1, v2] } := (r2.2 _ (Nat.ne_of_gt hzt)).trans q5
    have new : ObjOk X.prog X.w (upd H s.heap.objs.size (.tup [x, y])) g s.heap.objs.size (.tup [x, y]) := ⟨(by show 2 ≤ sizeLine; decide), [v1, v2], .cons ru1 (.cons ru2 .nil), ⟨_, hT2, rfl, _, rfl⟩, _, hT2, rfl⟩
    refine ⟨.ref s.heap.objs.size, _, I.turnNl (ch := [z, TO, i1, i2]) (fun b hb => hf b ?_) (fun c o hc q => (r2.2 c ?_).trans (q7 c o ?_ ?_ ?_ ?_ q)) (Nat.le_refl _) new, rfl, ⟨s.heap.objs.size, xs, ys, x, y, I.hok.fresh (Nat.le_refl _), rfl, hl1, hl2, hx, hy, rfl⟩, ⟨r1, (r2.2 _ nTI).trans (q7 _ _ nTI nTT n1I n2I h2), ⟨_, _, (r2.2 _ nTO).trans q2⟩, S1.kp _ _ _ _ _ q3.1 fun o q => (r2.2 _ n1z).trans q, S2.kp _ _ _ _ _ q4.1 fun o q => (r2.2 _ n2z).trans q⟩, fun b hb => ?_⟩
    · simp only [List.mem_cons, List.not_mem_nil, or_false] at hb ⊢
      rcases hb with h | h | h | h <;> simp [h]
    · exact fun z => hc (by simp [z])
    · exact fun z => hc (by simp [z])
    · exact fun z => hc (by simp [z])
    · exact fun z => hc (by simp [z])
    · exact fun z => hc (by simp [z])
    · have fb := hf b hb
      have lt : b < s.heap.objs.size := by
        simp only [List.mem_cons, List.not_mem_nil, or_false] at hb
        rcases hb with rfl | rfl | rfl | rfl | rfl
        · exact hzt
        · exact Heap.lt_size h2
        · exact Heap.lt_size h3
        · obtain ⟨o, q, _⟩ := S1.obj _ _ _ _ h4; exact Heap.lt_size q
        · obtain ⟨o, q, _⟩ := S2.obj _ _ _ _ h5; exact Heap.lt_size q
      rw [upd_ne (Nat.ne_of_lt lt)]
      exact fb.1
  done := by
    intro X hP' hw hK hc i pins s σ H E I hf st hg
    subst hP' hw hK
    obtain ⟨xs, hl1, hn⟩ := hg
    obtain ⟨its1, rv1, p1⟩ := S1.seq X pins σ H s l1 xs I hl1
    have fz := hf z (by simp)
    have f1 := hf i1 (by simp)
    obtain ⟨h1, h2, ⟨a, c, h3⟩, h4, h5⟩ := st
    have a1 := ne_of_none hl1 fz.1
    have a3 := ne_of_none hl1 f1.1
    have hi : i = its1.toArray.size := by rw [← hn, rv1.length]; simp
    subst hi
    refine wpAny_pyNext_zip_endD (S1.dr X.prog X.w X.A.in1 (I.ok.hd hc) i1 l1 a3 its1.toArray) h1 h2 h3 ⟨h4, p1⟩ nTO n1z (by simp [Ne.symm n1z, Ne.symm a1]) fun h' k => ⟨rfl, I.turnN (t' := s.toks) (ch := [z, TO, i1, i2]) (fun b hb => hf b ?_) fun c o hc q => k c o (fun z => hc (by simp [z])) (fun z => hc (by simp [z])) (fun z => hc (by simp [z])) (fun z => hc (by simp [z])) q⟩
    simp only [List.mem_cons, List.not_mem_nil, or_false] at hb ⊢
    rcases hb with h | h | h | h <;> simp [h]
  self := fun A i s Q E st q => wpAny_pyIter_zip st.1 q
def iZip (c1 c2 : List V → HO) (te1 te2 : TE) : TI := fun σ H R => te1 σ H fun x H1 => te2 σ H1 fun y H2 => ∃ l1 l2 xs ys, [x, y] = [V.ref l1, V.ref l2] ∧ H2 l1 = some (c1 xs) ∧ H2 l2 = some (c2 ys) ∧ R (IteZ c1 c2 l1 l2) H2
section
variable {X : Cx} {elts : List Expr} {kt : Nat} {pt : Pos} {e1 e2 : Expr} {te1 te2 : TE} {p pos : Pos}
theorem zip_pie {c1 c2 : List V → HO} {IsS1 IsS2 : Heap → Addr → Array Value → Prop} {IsI1 IsI2 : Heap → Addr → Addr → Nat → Prop} (S1 : SeqKind c1 IsS1 IsI1) (S2 : SeqKind c2 IsS2 IsI2) {pins : List (Addr × Obj)} {σ : St} {H1 : Hp} {s1 : Shared} {R : It → Hp → Prop} {l1 l2 : Addr} {h' : Heap} (I1 : Inv X pins σ H1 s1)
    (a1 : IsZip h' (s1.heap.objs.size + 4) (s1.heap.objs.size + 2) (s1.heap.objs.size + 3) .none) (a2 : IsPair h' (s1.heap.objs.size + 2) (.ref s1.heap.objs.size) (.ref (s1.heap.objs.size + 1))) (a3 : IsPair h' (s1.heap.objs.size + 3) .none .none)
    (a4 : IsI1 h' s1.heap.objs.size l1 0) (a5 : IsI2 h' (s1.heap.objs.size + 1) l2 0) (k : ∀ b o, s1.heap.get? b = some o → h'.get? b = some o) (q : R (IteZ c1 c2 l1 l2) H1) :
    PIE X pins σ (.Tuple elts kt pt) R (.ref (s1.heap.objs.size + 4)) { s1 with heap := h' } := by
  have nn : ∀ i j : Nat, i ≠ j → s1.heap.objs.size + i ≠ s1.heap.objs.size + j := fun i j h e => h (by exact Nat.add_left_cancel e)
  refine ⟨s1.heap.objs.size + 4, [s1.heap.objs.size + 4, s1.heap.objs.size + 2, s1.heap.objs.size + 3, s1.heap.objs.size, s1.heap.objs.size + 1], _, _, H1, rfl, I1.kept (t' := s1.toks) k, turn_zip S1 S2 (nn 3 4 (by decide)) (nn 2 4 (by decide)) (nn 0 4 (by decide)) (nn 1 4 (by decide)) (nn 2 3 (by decide)) (nn 2 0 (by decide)) (nn 2 1 (by decide)) (nn 0 3 (by decide)) (nn 1 3 (by decide)) (nn 0 1 (by decide)), ⟨a1, a2, ⟨_, _, a3⟩, a4, a5⟩, fun b hb => ?_, q⟩
  have le : s1.heap.objs.size ≤ b := by
    simp only [List.mem_cons, List.not_mem_nil, or_false] at hb
    rcases hb with h | h | h | h | h
    · rw [h]; exact Nat.le_add_right _ _
    · rw [h]; exact Nat.le_add_right _ _
    · rw [h]; exact Nat.le_add_right _ _
    · rw [h]; exact Nat.le_refl _
    · rw [h]; exact Nat.le_add_right _ _
  exact I1.fpOk le (I1.hok.fresh le)
theorem pi_zip (hg : Gl X "zip") (hm : X.mg "zip" = none) (he1 : PE X e1 te1) (he2 : PE X e2 te2) (hs : starEach [e1, e2] X.env = (false, eval e1 X.env) :: starEach [e2] X.env := by rfl) (hs2 : starEach [e2] X.env = [(false, eval e2 X.env)] := by rfl) : PI X (.Tuple elts kt pt) (.Call (.Name "zip" p) [e1, e2] [] pos) (iZip HO.tup HO.lst te1 te2) := by
  intro pins s σ H R I h
  refine Call_ (ld_blt I hg hm boot_zip (PyProof.Rows.callWith_type1 (thn (pa_cons he1 (pa_cons he2 pa_nil hs2) hs pos pins s σ H (fun zs H1 => ∃ l1 l2 xs ys, zs = [V.ref l1, V.ref l2] ∧ H1 l1 = some (HO.tup xs) ∧ H1 l2 = some (HO.lst ys) ∧ R (IteZ HO.tup HO.lst l1 l2) H1) I h) fun us s1 ⟨vs, H1, I1, r1, q1⟩ => ?_) hs (by rw [hs2]; rfl)))
  obtain ⟨l1, l2, xs, ys, rfl, hl1, hl2, q⟩ := q1
  obtain ⟨u, v, rfl, ru, rv⟩ := vals2 r1
  cases ru
  cases rv
  obtain ⟨its1, rv1, p1⟩ := seq_tup.seq X pins σ H1 s1 l1 xs I1 hl1
  obtain ⟨its2, rv2, p2⟩ := seq_lst.seq X pins σ H1 s1 l2 ys I1 hl2
  exact call_zip_TL p1 p2 fun h' a1 a2 a3 a4 a5 k => wpAny_pyIter_zip a1 (zip_pie seq_tup seq_lst I1 a1 a2 a3 a4 a5 k q)
theorem pi_zipT (hg : Gl X "zip") (hm : X.mg "zip" = none) (he1 : PE X e1 te1) (he2 : PE X e2 te2) (hs : starEach [e1, e2] X.env = (false, eval e1 X.env) :: starEach [e2] X.env := by rfl) (hs2 : starEach [e2] X.env = [(false, eval e2 X.env)] := by rfl) : PI X (.Tuple elts kt pt) (.Call (.Name "zip" p) [e1, e2] [] pos) (iZip HO.tup HO.tup te1 te2) := by
  intro pins s σ H R I h
  refine Call_ (ld_blt I hg hm boot_zip (PyProof.Rows.callWith_type1 (thn (pa_cons he1 (pa_cons he2 pa_nil hs2) hs pos pins s σ H (fun zs H1 => ∃ l1 l2 xs ys, zs = [V.ref l1, V.ref l2] ∧ H1 l1 = some (HO.tup xs) ∧ H1 l2 = some (HO.tup ys) ∧ R (IteZ HO.tup HO.tup l1 l2) H1) I h) fun us s1 ⟨vs, H1, I1, r1, q1⟩ => ?_) hs (by rw [hs2]; rfl)))
  obtain ⟨l1, l2, xs, ys, rfl, hl1, hl2, q⟩ := q1
  obtain ⟨u, v, rfl, ru, rv⟩ := vals2 r1
  cases ru
  cases rv
  obtain ⟨its1, rv1, p1⟩ := seq_tup.seq X pins σ H1 s1 l1 xs I1 hl1
  obtain ⟨its2, rv2, p2⟩ := seq_tup.seq X pins σ H1 s1 l2 ys I1 hl2
  exact call_zip_TT p1 p2 fun h' a1 a2 a3 a4 a5 k => wpAny_pyIter_zip a1 (zip_pie seq_tup seq_tup I1 a1 a2 a3 a4 a5 k q)
end
theorem comp_zG {c1 c2 : List V → HO} (i1 : ∀ a b, c1 a = c1 b → a = b) (i2 : ∀ a b, c2 a = c2 b → a = b) {l1 l2 : Addr} {xs ys0 : List V} {g : TG} {tf : TT} {te : TE} {fin : List V → Hp → Prop} {n : Nat} {σ : St} {H : Hp} (Pv : Nat → List V → Hp → Prop) (hk : xs.length ≤ 1000000) (hxy : xs.length ≤ ys0.length) (h0 : Pv 0 [] H) (hl : ∀ i ys H, Pv i ys H → H l1 = some (c1 xs) ∧ H l2 = some (c2 ys0)) (hz : ∀ i ys H, Pv i ys H → ys.length ≤ i)
    (hgo : ∀ i x y ys H T, xs[i]? = some x → ys0[i]? = some y → Pv i ys H → H T = none → g (.ref T) (σ ++ List.replicate n none) (upd H T (.tup [x, y])) fun σ2 H2 => tf σ2 H2 fun b H3 => if b = true then te σ2 H3 (fun y H4 => Pv (i + 1) (ys ++ [y]) H4) else Pv (i + 1) ys H3)
    (hst : ∀ ys H, Pv xs.length ys H → fin ys H) :
    ∃ W : Nat → Nat → List V → Hp → Prop, (∃ m, W 0 m [] H) ∧ ∀ i m ys H, W i m ys H → ys.length ≤ sizeLine ∧ (((IteZ c1 c2 l1 l2).stop i H ∧ fin ys H) ∨ ((IteZ c1 c2 l1 l2).go i H ∧ ∃ (Y : V → Hp → Prop) (Z : Hp → Prop), (∀ y H4, Y y H4 → ys.length < sizeLine ∧ ∃ m', m' < m ∧ W (i + 1) m' (ys ++ [y]) H4) ∧
      (∀ H3, Z H3 → ∃ m', m' < m ∧ W (i + 1) m' ys H3) ∧ ∀ x H', (IteZ c1 c2 l1 l2).yld i H x H' → g x (σ ++ List.replicate n none) H' fun σ2 H2 => tf σ2 H2 fun b H3 => if b = true then te σ2 H3 Y else Z H3)) :=
  comp_by Pv hk h0 hz (fun i ys H hi p => by
    have q := hl i ys H p
    have hi2 : i < ys0.length := Nat.lt_of_lt_of_le hi hxy
    refine ⟨⟨xs, ys0, xs[i], ys0[i], q.1, q.2, by simp [hi], by simp [hi2]⟩, fun x H' y => ?_⟩
    obtain ⟨T, zs, ws, x, y, hT, rfl, q2, q3, hx, hy, rfl⟩ := y
    rw [q.1] at q2
    rw [q.2] at q3
    cases i1 _ _ (Option.some.inj q2)
    cases i2 _ _ (Option.some.inj q3)
    exact hgo i x y ys _ T hx hy p hT) fun ys H p => ⟨⟨xs, (hl _ ys H p).1, rfl⟩, hst ys H p⟩
abbrev comp_z {l1 l2 : Addr} {xs ys0 : List V} {g : TG} {tf : TT} {te : TE} {fin : List V → Hp → Prop} {n : Nat} {σ : St} {H : Hp} := @comp_zG HO.tup HO.lst seq_tup.inj seq_lst.inj l1 l2 xs ys0 g tf te fin n σ H
abbrev comp_zT {l1 l2 : Addr} {xs ys0 : List V} {g : TG} {tf : TT} {te : TE} {fin : List V → Hp → Prop} {n : Nat} {σ : St} {H : Hp} := @comp_zG HO.tup HO.tup seq_tup.inj seq_tup.inj l1 l2 xs ys0 g tf te fin n σ H
end L2
namespace PySem
open Sem (wp)
open Builtin
theorem int_rmul_tup (a : Int) (t : Tok) (l : Addr) (items : Array Value) (n : Nat) (dd : Option Addr) (sl : Array (Option Value)) :
    Meets (Builtin.«int.__rmul__» ⟨[.int a t, .ref l], []⟩) (fun _ R s => s.heap.get? l = some ⟨.type "tuple", dd, .seq items n, sl⟩ ∧ R (.ok (.ret .notImplemented)) s) :=
  .of_wp fun prog w A R s h => by
    obtain ⟨hp, g, d, tk, os⟩ := s
    obtain ⟨hl, h⟩ := h
    wp_walk
    exact ⟨_, rfl, h⟩
theorem noFill_tuple_mul : fillsNumberSlot (Value.type "tuple") "mul" = pure false := PySem.fillsNumberSlot_seq F.slot_tuple_mul.lookup (by first | rfl | decide) F.slot_tuple_rmul.lookup (by first | rfl | decide)
theorem repeat_tuple : seqRepeat? (Value.type "tuple") = pure (some (Value.builtin "tuple.__mul__")) := by
  unfold seqRepeat?
  have h1 : seqSlot? (Value.type "tuple") (Str.ofString "__mul__") = _ := PySem.seqSlot_of F.slot_tuple_mul.lookup (by first | rfl | decide)
  have h2 : seqSlot? (Value.type "tuple") (Str.ofString "__rmul__") = _ := PySem.seqSlot_of F.slot_tuple_rmul.lookup (by first | rfl | decide)
  rw [h1, h2]
  rfl
theorem tup_mul1 (l : Addr) (v : Value) (t : Tok) (n : Nat) (dd : Option Addr) (sl : Array (Option Value)) :
    Meets (Builtin.«tuple.__mul__» ⟨[.ref l, .int 1 t], []⟩) (fun _ R s => s.heap.get? l = some ⟨.type "tuple", dd, .seq #[v] n, sl⟩ ∧ R (.ok (.ret (.ref l))) s) :=
  .of_wp fun prog w A R s h => by
    obtain ⟨hp, g, d, tk, os⟩ := s
    obtain ⟨hl, h⟩ := h
    unfold Builtin.«tuple.__mul__»
    wp_walk
    exact ⟨_, rfl, h⟩
theorem fold_rep_aux (v : Value) : ∀ (n : Nat) (a : Array Value), List.foldl (fun x1 x2 => x1 ++ x2) a (List.replicate n #[v]) = a ++ (List.replicate n v).toArray
  | 0, a => by simp
  | n + 1, a => by
    rw [List.replicate_succ, List.foldl_cons, fold_rep_aux v n, List.replicate_succ]
    apply Array.ext'
    simp
theorem fold_rep (v : Value) (n : Nat) : List.foldl (fun x1 x2 => x1 ++ x2) #[] (List.replicate n #[v]) = (List.replicate n v).toArray := by rw [fold_rep_aux]; simp
theorem tup_mulN (l : Addr) (v : Value) (x : Int) (t : Tok) (n : Nat) (dd : Option Addr) (sl : Array (Option Value)) (h2 : 2 ≤ x) (h3 : x ≤ 1000) :
    Meets (Builtin.«tuple.__mul__» ⟨[.ref l, .int x t], []⟩) (fun _ R s => s.heap.get? l = some ⟨.type "tuple", dd, .seq #[v] n, sl⟩ ∧
      R (.ok (.ret (.ref s.heap.objs.size))) { s with heap := s.heap.push { cls := .type "tuple", data := .seq (List.foldl (fun x1 x2 => x1 ++ x2) #[] (List.replicate x.toNat #[v])) } }) :=
  .of_wp fun prog w A R s h => by
    obtain ⟨hp, g, d, tk, os⟩ := s
    obtain ⟨hl, h⟩ := h
    have e1 : (decide (x < -2 ^ 63) || decide (x ≥ 2 ^ 63)) = false := by simp; omega
    have e2 : ((#[v] : Array Value).isEmpty || x == 1) = false := by simp; omega
    have e3 : (decide (x ≤ 0) || (#[v] : Array Value).isEmpty) = false := by simp; omega
    have e4 : ¬ (((#[v] : Array Value).size : Int) * x > (2 ^ 63 - 1) / 8) := by simp; omega
    have e5 : Builtin.Tuple.tupleTooMany (((#[v] : Array Value).size : Int) * x) = false := by
      unfold Builtin.Tuple.tupleTooMany
      have : (sizeLine : Int) = 16777216 := by decide
      rw [this]
      simp
      omega
    unfold Builtin.«tuple.__mul__»
    wp_walk
    rw [e1, if_neg Bool.false_ne_true]
    refine wpAny_bind (m := Builtin.Tuple.tupleItemsOf _) (wpAny_bind (wpAny_seqItems hl rfl (wpAny_pure ?_)))
    show wpAny _ _ (if ((#[v] : Array Value).isEmpty || x == 1) = true then _ else _) _ _ _
    rw [e2, if_neg Bool.false_ne_true]
    show wpAny _ _ (if (decide (x ≤ 0) || (#[v] : Array Value).isEmpty) = true then _ else _) _ _ _
    rw [e3, if_neg Bool.false_ne_true]
    show wpAny _ _ (if (((#[v] : Array Value).size : Int) * x > (2 ^ 63 - 1) / 8) then _ else _) _ _ _
    rw [if_neg e4]
    show wpAny _ _ (if Builtin.Tuple.tupleTooMany (((#[v] : Array Value).size : Int) * x) = true then _ else _) _ _ _
    rw [e5, if_neg Bool.false_ne_true]
    refine wpAny_bind (m := Builtin.Tuple.tupleExact _) (wpAny_newObj_type (wpAny_pure ⟨_, rfl, h⟩) ?_)
    rw [fold_rep]
    show (List.replicate x.toNat v).toArray.size ≤ sizeLine
    rw [List.size_toArray, List.length_replicate]
    have : sizeLine = 16777216 := by decide
    omega
end PySem
namespace L2
open PySem PySem.Spec PyProof.Rows
section
variable {X : Cx}
/-- (x,) * n, n from 1 -/
def rMulT : R2 := fun x y H Q => ∃ a v n, x = .ref a ∧ y = .int n ∧ H a = some (.tup [v]) ∧ 1 ≤ n ∧ n ≤ 1000 ∧ ∀ r H', H' r = some (.tup (List.replicate n.toNat v)) → (∀ b o, H b = some o → H' b = some o) → Q (.ref r) H'
theorem vals_rep {v : V} {u : Value} (r : RelV v u) : ∀ n : Nat, Vals (List.replicate n v) (List.replicate n u)
  | 0 => .nil
  | n + 1 => .cons r (vals_rep r n)
theorem op_mulT : OpR X (binaryOp .Mult) rMulT := by
  intro pins s σ H x y v u Q I rx ry h
  obtain ⟨a, w, n, rfl, rfl, ha, n1, n2, q⟩ := h
  cases rx
  obtain ⟨t, rfl⟩ := ry
  obtain ⟨its, r1, p1, _⟩ := I.tuple (SqT.of ha)
  obtain ⟨u, rfl, ru⟩ := vals1 r1
  obtain ⟨⟨cls, dd, data, sl⟩, ho, hc, k, hd⟩ := id p1
  simp only at hc hd
  subst hc hd
  refine wpAny_binaryOp_repeat_ref (by decide) ⟨_, ho, rfl⟩ (fun s' => typeIs_int s' n t) noFill_tuple_mul F.fills_int_mul F.slot_int_rmul repeat_tuple F.slot_int_index.lookup
    (call_meets F.slot_int_rmul (typeIs_int s n t) F.entry_int_rmul (F.args_int_rmul_2 _ _) (int_rmul_tup n t a _ k dd sl) ⟨ho, rfl, ⟨_, ho, rfl⟩, ?_⟩)
  by_cases e : n = 1
  · subst e
    exact call_meets F.slot_tuple_mul ⟨_, ho, rfl⟩ F.entry_tuple_mul (F.args_tuple_mul_2 _ _) (tup_mul1 a u t k dd sl) ⟨ho, ⟨.ref a, H, I, rfl, q a H ha fun _ _ e => e⟩⟩
  · refine call_meets F.slot_tuple_mul ⟨_, ho, rfl⟩ F.entry_tuple_mul (F.args_tuple_mul_2 _ _) (tup_mulN a u n t k dd sl (by omega) n2) ⟨ho, ?_⟩
    rw [fold_rep]
    have z : (List.replicate n.toNat w).length ≤ sizeLine := by
      rw [List.length_replicate]
      have : sizeLine = 16777216 := by decide
      omega
    exact ⟨.ref s.heap.objs.size, upd H s.heap.objs.size (.tup (List.replicate n.toNat w)), I.laid (t' := s.toks) (fun b o e => Heap.get?_push_of_some _ e) (Nat.le_refl _) ⟨z, List.replicate n.toNat u, vals_rep ru _, ⟨_, Heap.get?_push_size _ rfl, rfl, 0, rfl⟩, _, Heap.get?_push_size _ rfl, rfl⟩, rfl, q _ _ upd_same fun b o e => by rw [upd_ne (ne_of_none e (I.hok.fresh (Nat.le_refl _)))]; exact e⟩
def tPar3 (i j k : Nat) (ta : TA) : TS := fun D σ H => ta σ H fun vs H1 => ∃ u v w, vs = [u, v, w] ∧ D.nx (((σ.set i (some u)).set j (some v)).set k (some w)) H1
theorem ps_par3 {i j k : Nat} {x y z : Str} {a b c : Expr} {ta : TA} {px py pz pt pos : Pos} {kt k2 pt2} (hc : X.calm = true) (hN : X.N.Nodup) (hi : X.N[i]? = some x) (hj : X.N[j]? = some y) (hk : X.N[k]? = some z) (hij : i ≠ j) (hik : i ≠ k) (hjk : j ≠ k)
    (hx : X.env.scope.names.lookup x = some .local) (hy : X.env.scope.names.lookup y = some .local) (hz : X.env.scope.names.lookup z = some .local) (ha : PA X [a, b, c] ta)
    (hw : swappedStores [.Tuple [.Name x px, .Name y py, .Name z pz] kt pt] (.Tuple [a, b, c] k2 pt2) X.env = pure (some [x, y, z]))
    (hs : swapsWithSole [.Tuple [.Name x px, .Name y py, .Name z pz] kt pt] (.Tuple [a, b, c] k2 pt2) pos.line X.env = pure false := by rfl) :
    PS X (.Assign [.Tuple [.Name x px, .Name y py, .Name z pz] kt pt] (.Tuple [a, b, c] k2 pt2) pos) (tPar3 i j k ta) := by
  intro pins s σ H D I h
  rw [exec_Assign_arm]
  refine wpAny_bind (wpAny_standAt ?_)
  rw [hs]
  refine wpAny_bind (wpAny_pure ?_)
  rw [if_neg (by decide)]
  refine wpAny_bind (Tuple_ (thn (ha _ pins s σ H _ I h) fun us s1 ⟨vs, H1, I1, r1, q1⟩ => ?_))
  obtain ⟨v0, v, w, e1, q1⟩ := q1
  subst e1
  obtain ⟨u0, u1, u2, rfl, ru, rv, rw'⟩ : ∃ u0 u1 u2, us = [u0, u1, u2] ∧ RelV v0 u0 ∧ RelV v u1 ∧ RelV w u2 := by
    cases r1 with
    | cons p0 q0 =>
      cases q0 with
      | cons p q =>
        cases q with
        | cons p' q' =>
          cases q'
          exact ⟨_, _, _, rfl, p0, p, p'⟩
  refine wpAny_newObj_type ?_ (by show 3 ≤ sizeLine; decide)
  have I2 : Inv X pins σ H1 { s1 with heap := s1.heap.push { cls := .type "tuple", data := .seq [u0, u1, u2].toArray } } := I1.kept (t' := s1.toks) fun b o e => Heap.get?_push_of_some _ e
  rw [hw]
  refine wpAny_bind (wpAny_pure ?_)
  show wpAny (model X.prog X.w) X.A (do rule "assign.swapped-stores"; let items ← unpackItems (.ref s1.heap.objs.size) 3 none; assignInOrder [fun v => bindName X.env z v, fun v => bindName X.env y v, fun v => bindName X.env x v] items.reverse; pure Flow.next) _ _ _
  refine wpAny_bind (wpAny_rule (wpAny_bind (unpackItems_tuple (items := #[u0, u1, u2]) (I.ok.hd hc) (IsTup.new s1.heap _) fun h' hx' => ?_)))
  have I3 := I2.kept (h' := h') (t' := s1.toks) fun b o e => hx' b o (Nat.ne_of_lt (Heap.lt_size e)) e
  show wpAny _ _ (assignInOrder [fun v => bindName X.env z v, fun v => bindName X.env y v, fun v => bindName X.env x v] [u2, u1, u0] >>= fun _ => pure Flow.next) _ _ _
  refine wpAny_bind (assignInOrder_cons (wpAny_bindName (store_ok I3 hN hk (.inl hz) rw' (fun s2 I4 => ?_) (.inr hz))))
  refine assignInOrder_cons (wpAny_bindName (store_ok I4 hN hj (.inl hy) rv (fun s3 I5 => ?_) (.inr hy)))
  refine assignInOrder_cons (wpAny_bindName (store_ok I5 hN hi (.inl hx) ru (fun s4 I6 => assignInOrder_nil (wpAny_pure ?_)) (.inr hx)))
  rw [List.set_comm _ _ (Ne.symm hij), List.set_comm _ _ (Ne.symm hik), List.set_comm _ _ (Ne.symm hjk)] at I6
  exact ⟨_, H1, I6, q1⟩
end
end L2
namespace Mth
open PySem PyProof.Rows
theorem fm_range (xs : Array Nat) (a n : Nat) (h : a + n ≤ xs.size) : List.filterMap (fun i => xs[i]?) ((List.range n).map fun k => a + k) = (xs.toList.drop a).take n := by
  induction n with
  | zero => simp
  | succ n ih =>
    rw [List.range_succ, List.map_append, List.filterMap_append, ih (by omega), List.take_add_one]
    have h1 : a + n < xs.size := by omega
    simp [h1]
theorem idx_none_lo (u : Option Int) (n : Nat) : Builtin.Str.strSliceIndices none u 1 n = Builtin.Str.strSliceIndices (some ((0 : Nat) : Int)) u 1 n := by
  unfold Builtin.Str.strSliceIndices
  simp
  rw [show min 0 (n : Int) = 0 by omega, Int.max_self]
theorem idx_none_hi (l : Option Int) (n : Nat) : Builtin.Str.strSliceIndices l none 1 n = Builtin.Str.strSliceIndices l (some (n : Int)) 1 n := by
  unfold Builtin.Str.strSliceIndices
  simp
  rw [if_neg (by omega), Int.min_self, show max 0 (n : Int) = n by omega]
theorem slice_mid (z : Str) (a b : Nat) (h1 : a ≤ b) (h2 : b ≤ z.cps.size) : (Txt.slice z (some (a : Int)) (some (b : Int))).cps.toList = (z.cps.toList.drop a).take (b - a) := by
  unfold Txt.slice
  have hl : z.length = z.cps.size := rfl
  rw [hl, StrLaws.strSliceIndices_plain h1 h2, List.length_map, List.length_range]
  split
  · rename_i h
    have h3 : b - a = z.cps.size := by simpa using h
    have ha : a = 0 := by omega
    subst ha
    rw [List.drop_zero, List.take_of_length_le (by simp; omega)]
  · exact fm_range z.cps a (b - a) (by omega)
theorem slice_lo (z : Str) (b : Nat) (h2 : b ≤ z.cps.size) : (Txt.slice z none (some (b : Int))).cps.toList = z.cps.toList.take b := by
  have e : Txt.slice z none (some (b : Int)) = Txt.slice z (some ((0 : Nat) : Int)) (some (b : Int)) := by
    unfold Txt.slice
    rw [idx_none_lo]
  rw [e, slice_mid z 0 b (Nat.zero_le _) h2]
  simp
theorem slice_hi (z : Str) (a : Nat) (h2 : a ≤ z.cps.size) : (Txt.slice z (some (a : Int)) none).cps.toList = z.cps.toList.drop a := by
  have e : Txt.slice z (some (a : Int)) none = Txt.slice z (some (a : Int)) (some (z.cps.size : Int)) := by
    unfold Txt.slice
    rw [idx_none_hi]
    rfl
  rw [e, slice_mid z a z.cps.size h2 (Nat.le_refl _), List.take_of_length_le (by simp)]
end Mth
namespace L2
open PySem PySem.Spec PyProof.Rows
variable {X : Cx}
theorem rng_vals {acc : Array Value} {n : Nat} (h : ItemsOf (fun i v => ∃ t, v = Value.int (0 + (i : Int) * 1) t) acc n) : Vals ((List.range n).map fun i : Nat => V.int (i : Int)) acc.toList := by
  obtain ⟨h1, h2⟩ := h
  have gen : ∀ (n k : Nat) (ls : List Value), ls.length = n → (∀ j v, ls[j]? = some v → ∃ t, v = Value.int (0 + ((k + j : Nat) : Int) * 1) t) → Vals ((List.range' k n).map fun i : Nat => V.int (i : Int)) ls := by
    intro n
    induction n with
    | zero => intro k ls hl _; have : ls = [] := List.length_eq_zero_iff.mp hl; subst this; exact .nil
    | succ n ih =>
      intro k ls hl hh
      cases ls with
      | nil => cases hl
      | cons v ls =>
        rw [List.range'_succ, List.map_cons]
        refine .cons ?_ (ih (k + 1) ls (by simpa using hl) fun j v e => ?_)
        · obtain ⟨t, rfl⟩ := hh 0 v rfl
          refine ⟨t, ?_⟩
          simp
        · have := hh (j + 1) v (by simpa using e)
          rwa [show k + (j + 1) = k + 1 + j by omega] at this
  have := gen n 0 acc.toList (by simpa using h1) fun j v e => by simpa using h2 j v (by simpa using e)
  rwa [← List.range_eq_range'] at this
/-- list(range(n)) -/
theorem call_list_rng (hc : X.calm = true) : CallR X (.type "list") (fun xs H Q => ∃ (p : Addr) (n : Nat), xs = [.ref p] ∧ H p = some (.rng 0 (n : Int)) ∧ n ≤ 1000 ∧ ∀ l, H l = none → Q (.ref l) (upd H l (.lst ((List.range n).map fun i : Nat => V.int (i : Int))))) := by
  intro pins s σ H xs us Q I r h
  obtain ⟨p, n, rfl, hp, hn, q⟩ := h
  obtain ⟨u, rfl, rx⟩ := vals1 r
  cases rx
  obtain ⟨t, u, v, e⟩ := (show ObjOk X.prog X.w H s.heap p (.rng 0 (n : Int)) from I.hok p _ hp)
  have hs : Builtin.Range.rangeSize 0 (n : Int) 1 = n := by rw [rangeSize_nat]; omega
  have fit : ∀ i : Int, 0 ≤ i → i ≤ 1000 → Builtin.Range.rangeFitsLong i = true := by
    intro i h0 h1
    unfold Builtin.Range.rangeFitsLong
    simp
    omega
  refine call_list_range (I.ok.hd hc) e ?_ hs (by omega) fun h' tk acc c' kp e' it => ?_
  · unfold Builtin.Range.small
    rw [hs, fit 0 (by decide) (by decide), fit n (by omega) (by omega), fit 1 (by decide) (by decide), if_pos (by decide), fit ((n : Int) + (1 - 1)) (by omega) (by omega)]
    simp
  · exact ⟨.ref s.heap.objs.size, _, I.laid (t' := tk) kp (Nat.le_refl _) (show ObjOk X.prog X.w _ h' _ (.lst _) from ⟨by simp; have := sizeLine_eq; omega, acc.toList, c', rng_vals it, by simpa using e'⟩), rfl, q _ (I.hok.fresh (Nat.le_refl _))⟩
end L2
namespace PySem
open Sem (wp)
open Builtin
abbrev IsTri (h : Heap) (T : Addr) (a b c : Value) : Prop := h.get? T = some { cls := .type "tuple", data := .seq #[a, b, c] }
section
variable {prog : Program} {w : World} {A : Around} {E : Value → Shared → Prop} {s : Shared}
theorem same_tri {h h' : Heap} {c T : Addr} {a b d : Value} (hs : Heap.SameBut c h h') (n : T ≠ c) (e : IsTri h T a b d) : IsTri h' T a b d := (hs.2 T n).trans e
theorem wpAny_updateSeq_tri {T : Addr} {a b c x : Value} {k : Nat} {Q : Unit → Shared → Prop} (hT : IsTri s.heap T a b c)
    (h : ∀ h', h'.get? T = some { cls := .type "tuple", data := .seq (#[a, b, c].setIfInBounds k x) } → Heap.SameBut T s.heap h' → Q () { s with heap := h' }) :
    wpAny (model prog w) A (updateSeq T fun x_1 => x_1.setIfInBounds k x) Q E s := by
  refine wpAny_updateSeq hT rfl (h (s.heap.update T (Obj.mapSeq fun x_1 => x_1.setIfInBounds k x)) ?_ (Heap.SameBut.update ..)) (by simp; have := sizeLine_eq; omega) (by simp; have := sizeLine_eq; omega)
  rw [Heap.get?_update_self _ hT rfl]
  simp [Obj.mapSeq]
theorem zip3_next_itemD {z TI TO i1 i2 i3 : Addr} {fp1 fp2 fp3 : List Addr} {n1 n2 n3 k : Nat} {P1 P2 P3 : Nat → Value → Prop} {S1 S2 S3 : Nat → Heap → Prop} {a b c : Value} {Q : Value → Shared → Prop}
    (D1 : Draws prog w A i1 fp1 n1 P1 S1) (D2 : Draws prog w A i2 fp2 n2 P2 S2) (D3 : Draws prog w A i3 fp3 n3 P3 S3) (hz : IsZip s.heap z TI TO .none) (hTI : IsTri s.heap TI (.ref i1) (.ref i2) (.ref i3)) (hTO : IsTri s.heap TO a b c)
    (h1 : S1 k s.heap) (h2 : S2 k s.heap) (h3 : S3 k s.heap) (k1 : k < n1) (k2 : k < n2) (k3 : k < n3) (nTO : TO ≠ z) (n1z : i1 ≠ z) (n2z : i2 ≠ z) (n3z : i3 ≠ z) (n1T : i1 ≠ TO) (n2T : i2 ≠ TO) (n3T : i3 ≠ TO)
    (f1z : z ∉ fp1) (f1T : TO ∉ fp1) (f12 : i2 ∉ fp1) (f13 : i3 ∉ fp1) (f2z : z ∉ fp2) (f2T : TO ∉ fp2) (f21 : i1 ∉ fp2) (f23 : i3 ∉ fp2) (f3z : z ∉ fp3) (f3T : TO ∉ fp3) (f31 : i1 ∉ fp3) (f32 : i2 ∉ fp3)
    (hQ : ∀ x y v h' tk, P1 k x → P2 k y → P3 k v → IsZip h' z TI TO (rawInt s.heap.objs.size) → IsTri h' TO x y v → S1 (k + 1) h' → S2 (k + 1) h' → S3 (k + 1) h' → IsTri h' s.heap.objs.size x y v → h'.objs.size = s.heap.objs.size + 1 →
      (∀ c o, c ≠ z → c ≠ TO → c ≠ i1 → c ≠ i2 → c ≠ i3 → s.heap.get? c = some o → h'.get? c = some o) → Q (.ref s.heap.objs.size) { s with heap := h', toks := tk }) :
    wpAny (model prog w) A (Builtin.«zip.__next__» ⟨[.ref z], []⟩) (fun fin s' => ∃ v, fin = .done (.ret v) ∧ Q v s') E s := by
  show wpAny _ _ (field (.ref z) 2 >>= _) _ _ s
  refine wpAny_bind (wpAny_field hz rfl (x := .bool false) rfl ?_)
  refine wpAny_bind (wpAny_field hz rfl (x := .ref TI) rfl ?_)
  refine wpAny_bind (wpAny_seqItems hTI rfl ?_)
  refine wpAny_bind (m := SmallTypes.ownedTupleIsFree (.ref z)) (wpAny_bind (wpAny_field hz rfl (x := .none) rfl (wpAny_pure ?_)))
  show wpAny _ _ (if true = true then _ else _) _ _ s
  rw [if_pos rfl]
  refine wpAny_bind (wpAny_rule ?_)
  refine wpAny_bind (wpAny_field hz rfl (x := .ref TO) rfl ?_)
  refine wpAny_bind (wpAny_setField_rec hz (by simp) fun g1 hz1 hs1 => ?_)
  have st1 : S1 k g1 := D1.frame k _ _ h1 fun c hc o e => (hs1.2 c fun q => f1z (q ▸ hc)).trans e
  have st2 : S2 k g1 := D2.frame k _ _ h2 fun c hc o e => (hs1.2 c fun q => f2z (q ▸ hc)).trans e
  have st3 : S3 k g1 := D3.frame k _ _ h3 fun c hc o e => (hs1.2 c fun q => f3z (q ▸ hc)).trans e
  have hTO1 := same_tri hs1 nTO hTO
  refine wpAny_bind ?_
  show wpAny _ _ (forIn [(Value.ref i1, 0), (Value.ref i2, 1), (Value.ref i3, 2)] _ _) _ _ _
  rw [List.forIn_cons]
  refine wpAny_bind (wpAny_bind (wpAny_onRaise ?_))
  refine wpAny_bind (m := SmallTypes.nextOf (.ref i1)) (D1.item k { s with heap := g1 } _ _ k1 st1 fun x g2 tk2 px st1' hs2 => wpAny_pure ?_)
  have hTO2 := same_tri hs2 (Ne.symm n1T) hTO1
  refine wpAny_bind (wpAny_seqItems hTO2 rfl ?_)
  refine wpAny_bind (wpAny_updateSeq_tri hTO2 fun g3 hTO3 hs3 => ?_)
  refine wpAny_bind (wpAny_letGo (wpAny_pure ?_))
  have hTO3 : IsTri g3 TO x b c := hTO3
  have st2' : S2 k g3 := D2.frame k _ _ st2 fun c hc o e => (hs3.2 c fun q => f2T (q ▸ hc)).trans ((hs2.2 c fun q => f21 (q ▸ hc)).trans e)
  show wpAny _ _ (forIn [(Value.ref i2, 1), (Value.ref i3, 2)] _ _) _ _ _
  rw [List.forIn_cons]
  refine wpAny_bind (wpAny_bind (wpAny_onRaise ?_))
  refine wpAny_bind (m := SmallTypes.nextOf (.ref i2)) (D2.item k { s with heap := g3, toks := tk2 } _ _ k2 st2' fun y g4 tk4 py st2'' hs4 => wpAny_pure ?_)
  have hTO4 := same_tri hs4 (Ne.symm n2T) hTO3
  refine wpAny_bind (wpAny_seqItems hTO4 rfl ?_)
  refine wpAny_bind (wpAny_updateSeq_tri hTO4 fun g5 hTO5 hs5 => ?_)
  refine wpAny_bind (wpAny_letGo (wpAny_pure ?_))
  have hTO5 : IsTri g5 TO x y c := hTO5
  have st3' : S3 k g5 := D3.frame k _ _ st3 fun c hc o e => (hs5.2 c fun q => f3T (q ▸ hc)).trans ((hs4.2 c fun q => f32 (q ▸ hc)).trans ((hs3.2 c fun q => f3T (q ▸ hc)).trans ((hs2.2 c fun q => f31 (q ▸ hc)).trans e)))
  show wpAny _ _ (forIn [(Value.ref i3, 2)] _ _) _ _ _
  rw [List.forIn_cons]
  refine wpAny_bind (wpAny_bind (wpAny_onRaise ?_))
  refine wpAny_bind (m := SmallTypes.nextOf (.ref i3)) (D3.item k { s with heap := g5, toks := tk4 } _ _ k3 st3' fun v g6 tk6 pv st3'' hs6 => wpAny_pure ?_)
  have hTO6 := same_tri hs6 (Ne.symm n3T) hTO5
  refine wpAny_bind (wpAny_seqItems hTO6 rfl ?_)
  refine wpAny_bind (wpAny_updateSeq_tri hTO6 fun g7 hTO7 hs7 => ?_)
  refine wpAny_bind (wpAny_letGo (wpAny_pure ?_))
  have hTO7 : IsTri g7 TO x y v := hTO7
  show wpAny _ _ (forIn [] _ _) _ _ _
  rw [List.forIn_nil]
  refine wpAny_pure ?_
  refine wpAny_bind (wpAny_seqItems hTO7 rfl ?_)
  refine wpAny_bind (wpAny_newTuple ?_)
  have hz7 : IsZip g7 z TI TO .ellipsis := (hs7.2 z (Ne.symm nTO)).trans ((hs6.2 z (Ne.symm n3z)).trans ((hs5.2 z (Ne.symm nTO)).trans ((hs4.2 z (Ne.symm n2z)).trans ((hs3.2 z (Ne.symm nTO)).trans ((hs2.2 z (Ne.symm n1z)).trans hz1)))))
  have sz7 : g7.objs.size = s.heap.objs.size := by rw [hs7.1, hs6.1, hs5.1, hs4.1, hs3.1, hs2.1, hs1.1]
  have hz8 := Heap.get?_push_of_some { cls := Value.type "tuple", data := Data.seq #[x, y, v] } hz7
  refine wpAny_bind (m := SmallTypes.ownedTupleHandOut _ _) ?_
  refine wpAny_bind (m := setField _ 0 _) (wpAny_setField_rec hz8 (by simp) fun g9 hz9 hs9 => ?_)
  refine wpAny_setField_rec hz9 (by simp) fun g10 hz10 hs10 => ?_
  have nw : g7.objs.size ≠ z := Nat.ne_of_gt (Heap.lt_size hz7)
  have fr : ∀ c o, c ≠ z → g7.get? c = some o → g10.get? c = some o := fun c o n e => (hs10.2 c n).trans ((hs9.2 c n).trans (Heap.get?_push_of_some _ e))
  have up4 : ∀ c o, c ≠ z → c ≠ TO → c ≠ i3 → g4.get? c = some o → g10.get? c = some o := fun c o c1 c2 c4 e => fr c o c1 ((hs7.2 c c2).trans ((hs6.2 c c4).trans ((hs5.2 c c2).trans e)))
  have up : ∀ c o, c ≠ z → c ≠ TO → c ≠ i2 → c ≠ i3 → g2.get? c = some o → g10.get? c = some o := fun c o c1 c2 c3 c4 e => up4 c o c1 c2 c4 ((hs4.2 c c3).trans ((hs3.2 c c2).trans e))
  have hnew : g10.get? g7.objs.size = some { cls := Value.type "tuple", data := Data.seq #[x, y, v] } := (hs10.2 _ nw).trans ((hs9.2 _ nw).trans (Heap.get?_push_size _ rfl))
  have sz10 : g10.objs.size = s.heap.objs.size + 1 := by
    rw [hs10.1]
    show g9.objs.size = _
    rw [hs9.1]
    show (g7.push _).objs.size = _
    rw [Heap.size_push, sz7]
  have hz10' : IsZip g10 z TI TO (rawInt s.heap.objs.size) := by
    rw [← sz7]
    exact hz10
  refine wpAny_pure ⟨_, rfl, ?_⟩
  show Q (Value.ref g7.objs.size) { s with heap := g10, toks := tk6 }
  rw [sz7] at hnew ⊢
  refine hQ x y v g10 tk6 px py pv hz10' (fr _ _ nTO hTO7) (D1.frame _ _ _ st1' fun c hc o e => up c o (fun q => f1z (q ▸ hc)) (fun q => f1T (q ▸ hc)) (fun q => f12 (q ▸ hc)) (fun q => f13 (q ▸ hc)) e) (D2.frame _ _ _ st2'' fun c hc o e => up4 c o (fun q => f2z (q ▸ hc)) (fun q => f2T (q ▸ hc)) (fun q => f23 (q ▸ hc)) e) (D3.frame _ _ _ st3'' fun c hc o e => fr c o (fun q => f3z (q ▸ hc)) ((hs7.2 c fun q => f3T (q ▸ hc)).trans e)) hnew sz10 fun c o c1 c2 c3 c4 c5 e => up c o c1 c2 c4 c5 ((hs2.2 c c3).trans ((hs1.2 c c1).trans e))
theorem zip3_next_endD {z TI TO i1 i2 i3 : Addr} {fp1 : List Addr} {n1 : Nat} {P1 : Nat → Value → Prop} {S1 : Nat → Heap → Prop} {a b c0 : Value} {Q : Value → Shared → Prop}
    (D1 : Draws prog w A i1 fp1 n1 P1 S1) (hz : IsZip s.heap z TI TO .none) (hTI : IsTri s.heap TI (.ref i1) (.ref i2) (.ref i3)) (hTO : IsTri s.heap TO a b c0)
    (h1 : S1 n1 s.heap) (nTO : TO ≠ z) (n1z : i1 ≠ z) (f1z : z ∉ fp1)
    (hE : ∀ h' e, (∃ o, h'.get? e = some o ∧ o.cls = .type "StopIteration") → (∀ c o, c ≠ z → c ≠ TO → c ≠ i1 → c ≠ i2 → c ≠ i3 → s.heap.get? c = some o → h'.get? c = some o) → E (.ref e) { s with heap := h' }) :
    wpAny (model prog w) A (Builtin.«zip.__next__» ⟨[.ref z], []⟩) (fun fin s' => ∃ v, fin = .done (.ret v) ∧ Q v s') E s := by
  show wpAny _ _ (field (.ref z) 2 >>= _) _ _ s
  refine wpAny_bind (wpAny_field hz rfl (x := .bool false) rfl ?_)
  refine wpAny_bind (wpAny_field hz rfl (x := .ref TI) rfl ?_)
  refine wpAny_bind (wpAny_seqItems hTI rfl ?_)
  refine wpAny_bind (m := SmallTypes.ownedTupleIsFree (.ref z)) (wpAny_bind (wpAny_field hz rfl (x := .none) rfl (wpAny_pure ?_)))
  show wpAny _ _ (if true = true then _ else _) _ _ s
  rw [if_pos rfl]
  refine wpAny_bind (wpAny_rule ?_)
  refine wpAny_bind (wpAny_field hz rfl (x := .ref TO) rfl ?_)
  refine wpAny_bind (wpAny_setField_rec hz (by simp) fun g1 hz1 hs1 => ?_)
  have st1 : S1 n1 g1 := D1.frame n1 _ _ h1 fun c hc o e => (hs1.2 c fun q => f1z (q ▸ hc)).trans e
  refine wpAny_bind ?_
  show wpAny _ _ (forIn [(Value.ref i1, 0), (Value.ref i2, 1), (Value.ref i3, 2)] _ _) _ _ _
  rw [List.forIn_cons]
  refine wpAny_bind (wpAny_bind (wpAny_onRaise ?_))
  refine wpAny_bind (m := SmallTypes.nextOf (.ref i1)) (D1.done { s with heap := g1 } _ _ st1 fun g2 e hs2 he => ?_)
  have hz2 : g2.get? z = some _ := hs2 z _ (Ne.symm n1z) hz1
  refine wpAny_setField_rec hz2 (by simp) fun g3 hz3 hs3 => ?_
  obtain ⟨oe, e1, e2⟩ := he
  have ez : e ≠ z := fun q => by
    rw [q, hz2] at e1
    cases e1
    exact absurd (Value.type.inj e2) (by decide)
  exact hE g3 e ⟨oe, (hs3.2 e ez).trans e1, e2⟩ fun c o c1 c2 c3 c4 c5 q => (hs3.2 c c1).trans (hs2 c o c3 ((hs1.2 c c1).trans q))
theorem wpAny_pyNext_zip3_itemD {z TI TO i1 i2 i3 : Addr} {fp1 fp2 fp3 : List Addr} {n1 n2 n3 k : Nat} {P1 P2 P3 : Nat → Value → Prop} {S1 S2 S3 : Nat → Heap → Prop} {a b c : Value} {Q : Option Value → Shared → Prop}
    (D1 : Draws prog w A.in1 i1 fp1 n1 P1 S1) (D2 : Draws prog w A.in1 i2 fp2 n2 P2 S2) (D3 : Draws prog w A.in1 i3 fp3 n3 P3 S3) (hz : IsZip s.heap z TI TO .none) (hTI : IsTri s.heap TI (.ref i1) (.ref i2) (.ref i3)) (hTO : IsTri s.heap TO a b c)
    (h1 : S1 k s.heap) (h2 : S2 k s.heap) (h3 : S3 k s.heap) (k1 : k < n1) (k2 : k < n2) (k3 : k < n3) (nTO : TO ≠ z) (n1z : i1 ≠ z) (n2z : i2 ≠ z) (n3z : i3 ≠ z) (n1T : i1 ≠ TO) (n2T : i2 ≠ TO) (n3T : i3 ≠ TO)
    (f1z : z ∉ fp1) (f1T : TO ∉ fp1) (f12 : i2 ∉ fp1) (f13 : i3 ∉ fp1) (f2z : z ∉ fp2) (f2T : TO ∉ fp2) (f21 : i1 ∉ fp2) (f23 : i3 ∉ fp2) (f3z : z ∉ fp3) (f3T : TO ∉ fp3) (f31 : i1 ∉ fp3) (f32 : i2 ∉ fp3)
    (hQ : ∀ x y v h' tk, P1 k x → P2 k y → P3 k v → IsZip h' z TI TO (rawInt s.heap.objs.size) → IsTri h' TO x y v → S1 (k + 1) h' → S2 (k + 1) h' → S3 (k + 1) h' → IsTri h' s.heap.objs.size x y v → h'.objs.size = s.heap.objs.size + 1 →
      (∀ c o, c ≠ z → c ≠ TO → c ≠ i1 → c ≠ i2 → c ≠ i3 → s.heap.get? c = some o → h'.get? c = some o) → Q (some (.ref s.heap.objs.size)) { s with heap := h', toks := tk }) :
    wpAny (model prog w) A (pyNext (.ref z)) Q E s := by
  have hT : s.TypeIs (.ref z) "zip" := ⟨_, hz, rfl⟩
  exact wpAny_bind (wpAny_attempt (wpAny_callSpecial?_slot hT F.slot_zip_next (wpAny_call_entry F.slot_zip_next hT F.entry_zip_next
    (zip3_next_itemD D1 D2 D3 hz hTI hTO h1 h2 h3 k1 k2 k3 nTO n1z n2z n3z n1T n2T n3T f1z f1T f12 f13 f2z f2T f21 f23 f3z f3T f31 f32 fun x y v h' tk a0 b0 c0 a1 a2 a3 a4 a5 a6 a7 a8 => wpAny_pure (hQ x y v h' tk a0 b0 c0 a1 a2 a3 a4 a5 a6 a7 a8)) (F.args_zip_next_1 (Value.ref z)))))
theorem wpAny_pyNext_zip3_endD {z TI TO i1 i2 i3 : Addr} {fp1 : List Addr} {n1 : Nat} {P1 : Nat → Value → Prop} {S1 : Nat → Heap → Prop} {a b c0 : Value} {Q : Option Value → Shared → Prop}
    (D1 : Draws prog w A.in1 i1 fp1 n1 P1 S1) (hz : IsZip s.heap z TI TO .none) (hTI : IsTri s.heap TI (.ref i1) (.ref i2) (.ref i3)) (hTO : IsTri s.heap TO a b c0)
    (h1 : S1 n1 s.heap) (nTO : TO ≠ z) (n1z : i1 ≠ z) (f1z : z ∉ fp1)
    (hQ : ∀ h', (∀ c o, c ≠ z → c ≠ TO → c ≠ i1 → c ≠ i2 → c ≠ i3 → s.heap.get? c = some o → h'.get? c = some o) → Q none { s with heap := h' }) :
    wpAny (model prog w) A (pyNext (.ref z)) Q E s := by
  have hT : s.TypeIs (.ref z) "zip" := ⟨_, hz, rfl⟩
  exact wpAny_bind (wpAny_attempt (wpAny_callSpecial?_slot hT F.slot_zip_next (wpAny_call_entry F.slot_zip_next hT F.entry_zip_next
    (zip3_next_endD D1 hz hTI hTO h1 nTO n1z f1z fun h' e he k => let ⟨o, ho, hc⟩ := he; wpAny_bind (wpAny_isInstance ⟨o, ho, hc⟩ isSubtype_stop (wpAny_pure (hQ h' k)))) (F.args_zip_next_1 (Value.ref z)))))
end
set_option maxHeartbeats 2000000 in
theorem meets_zip_T3 (l1 l2 l3 : Addr) (xs ys zs : Array Value) :
    Meets (Builtin.«zip.__new__» ⟨[.type "zip", .ref l1, .ref l2, .ref l3], []⟩) (fun _ R s => s.heap.IsTuple l1 xs ∧ s.heap.IsTuple l2 ys ∧ s.heap.IsTuple l3 zs ∧
      R (.ok (.ret (.ref (((((s.heap.push (tIt l1)).push (tIt l2)).push (tIt l3)).push { cls := .type "tuple", data := .seq #[.ref s.heap.objs.size, .ref (s.heap.push (tIt l1)).objs.size, .ref ((s.heap.push (tIt l1)).push (tIt l2)).objs.size] }).push { cls := .type "tuple", data := .seq #[.none, .none, .none] }).objs.size)))
        { s with heap := (((((s.heap.push (tIt l1)).push (tIt l2)).push (tIt l3)).push { cls := .type "tuple", data := .seq #[.ref s.heap.objs.size, .ref (s.heap.push (tIt l1)).objs.size, .ref ((s.heap.push (tIt l1)).push (tIt l2)).objs.size] }).push { cls := .type "tuple", data := .seq #[.none, .none, .none] }).push { cls := .type "zip", data := .fields #[.none, .bool false, .bool false, .ref (((s.heap.push (tIt l1)).push (tIt l2)).push (tIt l3)).objs.size, .ref ((((s.heap.push (tIt l1)).push (tIt l2)).push (tIt l3)).push { cls := .type "tuple", data := .seq #[.ref s.heap.objs.size, .ref (s.heap.push (tIt l1)).objs.size, .ref ((s.heap.push (tIt l1)).push (tIt l2)).objs.size] }).objs.size] } }) :=
  .of_wp fun prog w A R s h => by
    obtain ⟨hp, g, d, tk, os⟩ := s
    obtain ⟨hl1, hl2, hl3, h⟩ := h
    have hsub := sub_zip
    have hL1 := hl1
    have hL2 := Heap.IsTuple.push hl2 (tIt l1)
    have hL3 := Heap.IsTuple.push (Heap.IsTuple.push hl3 (tIt l1)) (tIt l2)
    wp_walk using wpAny_pyIter_tuple hL1, wpAny_pyIter_tuple hL2, wpAny_pyIter_tuple hL3
    exact ⟨_, rfl, h⟩
theorem typeCall_zip_3 (a b c : Value) : checkTypeCall "zip" { pos := [a, b, c] } = pure () := id (Eq.refl (checkTypeCall "zip" { pos := [a, b, c] }))
theorem newCall_zip_3 (a b c : Value) : checkBuiltinCall "zip.__new__" { pos := [Value.type "zip", a, b, c] } = pure () := by
  have h := F.newCall_zip_2 a b
  unfold checkBuiltinCall at h ⊢
  exact h
theorem args_object_init_4 (a b c d : Value) : argsOk "object.__init__" { pos := [a, b, c, d] } := by first | rfl | exact id (Eq.refl _)
theorem call_zip_T3 {prog : Program} {w : World} {A : Around} {E : Value → Shared → Prop} {s : Shared} {l1 l2 l3 : Addr} {xs ys zs : Array Value} {Q : Value → Shared → Prop} (h1 : s.heap.IsTuple l1 xs) (h2 : s.heap.IsTuple l2 ys) (h3 : s.heap.IsTuple l3 zs)
    (h : ∀ h', IsZip h' (s.heap.objs.size + 5) (s.heap.objs.size + 3) (s.heap.objs.size + 4) .none → IsTri h' (s.heap.objs.size + 3) (.ref s.heap.objs.size) (.ref (s.heap.objs.size + 1)) (.ref (s.heap.objs.size + 2)) → IsTri h' (s.heap.objs.size + 4) .none .none .none →
      h'.IsTupleIter s.heap.objs.size l1 0 → h'.IsTupleIter (s.heap.objs.size + 1) l2 0 → h'.IsTupleIter (s.heap.objs.size + 2) l3 0 → (∀ b o, s.heap.get? b = some o → h'.get? b = some o) → Q (.ref (s.heap.objs.size + 5)) { s with heap := h' }) :
    wpAny (model prog w) A (call (.type "zip") [.ref l1, .ref l2, .ref l3]) Q E s := by
  refine callType_new F.called_zip (by decide) (typeCall_zip_3 _ _ _) (newCall_zip_3 _ _ _) (fun obj => args_object_init_4 obj _ _ _) F.entry_zip_new (meets_zip_T3 l1 l2 l3 xs ys zs) ⟨h1, h2, h3, ?_⟩
  have z1 : (s.heap.push (tIt l1)).objs.size = s.heap.objs.size + 1 := Heap.size_push ..
  have z2 : ((s.heap.push (tIt l1)).push (tIt l2)).objs.size = s.heap.objs.size + 2 := by rw [Heap.size_push, z1]
  have z3 : (((s.heap.push (tIt l1)).push (tIt l2)).push (tIt l3)).objs.size = s.heap.objs.size + 3 := by rw [Heap.size_push, z2]
  rw [z1, z2, z3]
  have z4 : ((((s.heap.push (tIt l1)).push (tIt l2)).push (tIt l3)).push { cls := .type "tuple", data := .seq #[.ref s.heap.objs.size, .ref (s.heap.objs.size + 1), .ref (s.heap.objs.size + 2)] }).objs.size = s.heap.objs.size + 4 := by rw [Heap.size_push, z3]
  have z5 : (((((s.heap.push (tIt l1)).push (tIt l2)).push (tIt l3)).push { cls := .type "tuple", data := .seq #[.ref s.heap.objs.size, .ref (s.heap.objs.size + 1), .ref (s.heap.objs.size + 2)] }).push { cls := .type "tuple", data := .seq #[.none, .none, .none] }).objs.size = s.heap.objs.size + 5 := by rw [Heap.size_push, z4]
  rw [z4, z5]
  have p0 := Heap.get?_push_size (o := tIt l1) s.heap rfl
  have p1 := Heap.get?_push_size (o := tIt l2) (s.heap.push (tIt l1)) rfl
  have p2 := Heap.get?_push_size (o := tIt l3) ((s.heap.push (tIt l1)).push (tIt l2)) rfl
  have p3 := Heap.get?_push_size (o := { cls := .type "tuple", data := .seq #[.ref s.heap.objs.size, .ref (s.heap.objs.size + 1), .ref (s.heap.objs.size + 2)] }) (((s.heap.push (tIt l1)).push (tIt l2)).push (tIt l3)) rfl
  have p4 := Heap.get?_push_size (o := { cls := .type "tuple", data := .seq #[.none, .none, .none] }) ((((s.heap.push (tIt l1)).push (tIt l2)).push (tIt l3)).push { cls := .type "tuple", data := .seq #[.ref s.heap.objs.size, .ref (s.heap.objs.size + 1), .ref (s.heap.objs.size + 2)] }) rfl
  have p5 := Heap.get?_push_size (o := { cls := .type "zip", data := .fields #[.none, .bool false, .bool false, .ref (s.heap.objs.size + 3), .ref (s.heap.objs.size + 4)] }) (((((s.heap.push (tIt l1)).push (tIt l2)).push (tIt l3)).push { cls := .type "tuple", data := .seq #[.ref s.heap.objs.size, .ref (s.heap.objs.size + 1), .ref (s.heap.objs.size + 2)] }).push { cls := .type "tuple", data := .seq #[.none, .none, .none] }) rfl
  rw [z1] at p1
  rw [z2] at p2
  rw [z3] at p3
  rw [z4] at p4
  rw [z5] at p5
  have up : ∀ {h : Heap} {b : Addr} {o : Obj} (o' : Obj), h.get? b = some o → (h.push o').get? b = some o := fun o' e => Heap.get?_push_of_some o' e
  exact ⟨⟨_, p5, rfl⟩, h _ p5 (up _ (up _ p3)) (up _ p4) ⟨_, up _ (up _ (up _ (up _ (up _ p0)))), rfl, rfl⟩ ⟨_, up _ (up _ (up _ (up _ p1))), rfl, rfl⟩ ⟨_, up _ (up _ (up _ p2)), rfl, rfl⟩ fun b o e => up _ (up _ (up _ (up _ (up _ (up _ e)))))⟩
end PySem
namespace L2
open PySem PySem.Spec PyProof.Rows
/-- (x0, y0, z0), .. over three tuples, as long as the first -/
def IteZ3 (l1 l2 l3 : Addr) : It :=
  ⟨fun i H => ∃ xs ys zs x y z, H l1 = some (.tup xs) ∧ H l2 = some (.tup ys) ∧ H l3 = some (.tup zs) ∧ xs[i]? = some x ∧ ys[i]? = some y ∧ zs[i]? = some z, fun i H v H' => ∃ T xs ys zs x y z, H T = none ∧ v = .ref T ∧ H l1 = some (.tup xs) ∧ H l2 = some (.tup ys) ∧ H l3 = some (.tup zs) ∧ xs[i]? = some x ∧ ys[i]? = some y ∧ zs[i]? = some z ∧ H' = upd H T (.tup [x, y, z]), fun i H => ∃ xs, H l1 = some (.tup xs) ∧ xs.length = i⟩
theorem turn_zip3 {P : Program} {w : World} {K : PySem.W.Frag} {elts : List Expr} {kt : Nat} {pt : Pos} {z TI TO i1 i2 i3 l1 l2 l3 : Addr} (nTO : TO ≠ z) (nTI : TI ≠ z) (n1z : i1 ≠ z) (n2z : i2 ≠ z) (n3z : i3 ≠ z) (nTT : TI ≠ TO) (n1I : TI ≠ i1) (n2I : TI ≠ i2) (n3I : TI ≠ i3) (n1T : i1 ≠ TO) (n2T : i2 ≠ TO) (n3T : i3 ≠ TO) (n12 : i1 ≠ i2) (n13 : i1 ≠ i3) (n23 : i2 ≠ i3) :
    Turn P w K (.Tuple elts kt pt) (IteZ3 l1 l2 l3) [z, TI, TO, i1, i2, i3] z (fun i h => IsZip h z TI TO .none ∧ IsTri h TI (.ref i1) (.ref i2) (.ref i3) ∧ (∃ a b c, IsTri h TO a b c) ∧ h.IsTupleIter i1 l1 i ∧ h.IsTupleIter i2 l2 i ∧ h.IsTupleIter i3 l3 i) where
  mem := by simp
  obj := fun i h st b hb => by
    obtain ⟨h1, h2, ⟨a, c, d, h3⟩, h4, h5, h6⟩ := st
    simp only [List.mem_cons, List.not_mem_nil, or_false] at hb
    rcases hb with rfl | rfl | rfl | rfl | rfl | rfl
    · exact ⟨_, h1, fun v z => by cases z⟩
    · exact ⟨_, h2, fun v z => by cases z⟩
    · exact ⟨_, h3, fun v z => by cases z⟩
    · exact seq_tup.obj _ _ _ _ h4
    · exact seq_tup.obj _ _ _ _ h5
    · exact seq_tup.obj _ _ _ _ h6
  keep := fun i h h' st k => by
    obtain ⟨h1, h2, ⟨a, c, d, h3⟩, h4, h5, h6⟩ := st
    exact ⟨k _ (by simp) _ h1, k _ (by simp) _ h2, ⟨a, c, d, k _ (by simp) _ h3⟩, seq_tup.kp _ _ _ _ _ h4 fun o q => k _ (by simp) o q, seq_tup.kp _ _ _ _ _ h5 fun o q => k _ (by simp) o q, seq_tup.kp _ _ _ _ _ h6 fun o q => k _ (by simp) o q⟩
  item := by
    intro X hP' hw hK hc i pins s σ H E I hf st hg
    subst hP' hw hK
    obtain ⟨xs, ys, zs, x, y, v, hl1, hl2, hl3, hx, hy, hv⟩ := hg
    obtain ⟨its1, rv1, p1⟩ := seq_tup.seq X pins σ H s l1 xs I hl1
    obtain ⟨its2, rv2, p2⟩ := seq_tup.seq X pins σ H s l2 ys I hl2
    obtain ⟨its3, rv3, p3⟩ := seq_tup.seq X pins σ H s l3 zs I hl3
    obtain ⟨u1, hu1, ru1⟩ := rv1.get hx
    obtain ⟨u2, hu2, ru2⟩ := rv2.get hy
    obtain ⟨u3, hu3, ru3⟩ := rv3.get hv
    have fz := hf z (by simp)
    have fT := hf TO (by simp)
    have f1 := hf i1 (by simp)
    have f2 := hf i2 (by simp)
    have f3 := hf i3 (by simp)
    have hlt1 : i < its1.toArray.size := by
      have := List.getElem?_eq_some_iff.mp hu1
      simpa using this.1
    have hlt2 : i < its2.toArray.size := by
      have := List.getElem?_eq_some_iff.mp hu2
      simpa using this.1
    have hlt3 : i < its3.toArray.size := by
      have := List.getElem?_eq_some_iff.mp hu3
      simpa using this.1
    obtain ⟨h1, h2, ⟨a, c, d, h3⟩, h4, h5, h6⟩ := st
    have A : ∀ {l : Addr} {ws : List V}, H l = some (.tup ws) → l ≠ z ∧ l ≠ TO ∧ l ≠ i1 ∧ l ≠ i2 ∧ l ≠ i3 := fun e => ⟨ne_of_none e fz.1, ne_of_none e fT.1, ne_of_none e f1.1, ne_of_none e f2.1, ne_of_none e f3.1⟩
    obtain ⟨a1, a2, a3, a4, a5⟩ := A hl1
    obtain ⟨b1, b2, b3, b4, b5⟩ := A hl2
    obtain ⟨c1, c2, c3, c4, c5⟩ := A hl3
    refine wpAny_pyNext_zip3_itemD (seq_tup.dr X.prog X.w X.A.in1 (I.ok.hd hc) i1 l1 a3 its1.toArray) (seq_tup.dr X.prog X.w X.A.in1 (I.ok.hd hc) i2 l2 b4 its2.toArray) (seq_tup.dr X.prog X.w X.A.in1 (I.ok.hd hc) i3 l3 c5 its3.toArray) h1 h2 h3 ⟨h4, p1⟩ ⟨h5, p2⟩ ⟨h6, p3⟩ hlt1 hlt2 hlt3 nTO n1z n2z n3z n1T n2T n3T
      (by simp [Ne.symm n1z, Ne.symm a1]) (by simp [Ne.symm n1T, Ne.symm a2]) (by simp [Ne.symm n12, Ne.symm a4]) (by simp [Ne.symm n13, Ne.symm a5]) (by simp [Ne.symm n2z, Ne.symm b1]) (by simp [Ne.symm n2T, Ne.symm b2]) (by simp [n12, Ne.symm b3]) (by simp [Ne.symm n23, Ne.symm b5]) (by simp [Ne.symm n3z, Ne.symm c1]) (by simp [Ne.symm n3T, Ne.symm c2]) (by simp [n13, Ne.symm c3]) (by simp [n23, Ne.symm c4]) fun v1 v2 v3 h' tk e1 e2 e3 q1 q2 q3 q4 q5 q6 q7 q8 => ?_
    refine ⟨.ref s.heap.objs.size, rfl, wpAny_letOwnedTupleGo_zip (s := { s with heap := h', toks := tk }) q1 fun g r1 r2 => ?_⟩
    have eqv : ∀ {its : List Value} {v u : Value}, its.toArray[i]? = some v → its[i]? = some u → v = u := fun {its v u} a b => by
      have h1 : its[i]? = some v := by simpa using a
      rw [b] at h1
      exact (Option.some.inj h1).symm
    cases eqv e1 hu1
    cases eqv e2 hu2
    cases eqv e3 hu3
    have hzt : z < s.heap.objs.size := Heap.lt_size h1
    have hT2 : g.get? s.heap.objs.size = some { cls := .type "tuple", data := .seq #[u1, u2, u3] } := (r2.2 _ (Nat.ne_of_gt hzt)).trans q6
    have new : ObjOk X.prog X.w (upd H s.heap.objs.size (.tup [x, y, v])) g s.heap.objs.size (.tup [x, y, v]) := ⟨(by show 3 ≤ sizeLine; decide), [u1, u2, u3], .cons ru1 (.cons ru2 (.cons ru3 .nil)), ⟨_, hT2, rfl, _, rfl⟩, _, hT2, rfl⟩
    refine ⟨.ref s.heap.objs.size, _, I.turnNl (ch := [z, TO, i1, i2, i3]) (fun b hb => hf b ?_) (fun c o hc q => (r2.2 c ?_).trans (q8 c o ?_ ?_ ?_ ?_ ?_ q)) (Nat.le_refl _) new, rfl, ⟨s.heap.objs.size, xs, ys, zs, x, y, v, I.hok.fresh (Nat.le_refl _), rfl, hl1, hl2, hl3, hx, hy, hv, rfl⟩, ⟨r1, (r2.2 _ nTI).trans (q8 _ _ nTI nTT n1I n2I n3I h2), ⟨_, _, _, (r2.2 _ nTO).trans q2⟩, seq_tup.kp _ _ _ _ _ q3.1 fun o q => (r2.2 _ n1z).trans q, seq_tup.kp _ _ _ _ _ q4.1 fun o q => (r2.2 _ n2z).trans q, seq_tup.kp _ _ _ _ _ q5.1 fun o q => (r2.2 _ n3z).trans q⟩, fun b hb => ?_⟩
    · simp only [List.mem_cons, List.not_mem_nil, or_false] at hb ⊢
      rcases hb with h | h | h | h | h <;> simp [h]
    · exact fun z => hc (by simp [z])
    · exact fun z => hc (by simp [z])
    · exact fun z => hc (by simp [z])
    · exact fun z => hc (by simp [z])
    · exact fun z => hc (by simp [z])
    · exact fun z => hc (by simp [z])
    · have fb := hf b hb
      have lt : b < s.heap.objs.size := by
        simp only [List.mem_cons, List.not_mem_nil, or_false] at hb
        rcases hb with rfl | rfl | rfl | rfl | rfl | rfl
        · exact hzt
        · exact Heap.lt_size h2
        · exact Heap.lt_size h3
        · obtain ⟨o, q, _⟩ := h4; exact Heap.lt_size q
        · obtain ⟨o, q, _⟩ := h5; exact Heap.lt_size q
        · obtain ⟨o, q, _⟩ := h6; exact Heap.lt_size q
      rw [upd_ne (Nat.ne_of_lt lt)]
      exact fb.1
  done := by
    intro X hP' hw hK hc i pins s σ H E I hf st hg
    subst hP' hw hK
    obtain ⟨xs, hl1, hn⟩ := hg
    obtain ⟨its1, rv1, p1⟩ := seq_tup.seq X pins σ H s l1 xs I hl1
    have fz := hf z (by simp)
    have f1 := hf i1 (by simp)
    obtain ⟨h1, h2, ⟨a, c, d, h3⟩, h4, h5, h6⟩ := st
    have a1 := ne_of_none hl1 fz.1
    have a3 := ne_of_none hl1 f1.1
    have hi : i = its1.toArray.size := by rw [← hn, rv1.length]; simp
    subst hi
    refine wpAny_pyNext_zip3_endD (seq_tup.dr X.prog X.w X.A.in1 (I.ok.hd hc) i1 l1 a3 its1.toArray) h1 h2 h3 ⟨h4, p1⟩ nTO n1z (by simp [Ne.symm n1z, Ne.symm a1]) fun h' k => ⟨rfl, I.turnN (t' := s.toks) (ch := [z, TO, i1, i2, i3]) (fun b hb => hf b ?_) fun c o hc q => k c o (fun z => hc (by simp [z])) (fun z => hc (by simp [z])) (fun z => hc (by simp [z])) (fun z => hc (by simp [z])) (fun z => hc (by simp [z])) q⟩
    simp only [List.mem_cons, List.not_mem_nil, or_false] at hb ⊢
    rcases hb with h | h | h | h | h <;> simp [h]
  self := fun A i s Q E st q => wpAny_pyIter_zip st.1 q
def iZip3 (te1 te2 te3 : TE) : TI := fun σ H R => te1 σ H fun x H1 => te2 σ H1 fun y H2 => te3 σ H2 fun z H3 => ∃ l1 l2 l3 xs ys zs, [x, y, z] = [V.ref l1, V.ref l2, V.ref l3] ∧ H3 l1 = some (.tup xs) ∧ H3 l2 = some (.tup ys) ∧ H3 l3 = some (.tup zs) ∧ R (IteZ3 l1 l2 l3) H3
section
variable {X : Cx} {elts : List Expr} {kt : Nat} {pt : Pos} {e1 e2 e3 : Expr} {te1 te2 te3 : TE} {p pos : Pos}
theorem vals3 {x y z : V} {us : List Value} (r : Vals [x, y, z] us) : ∃ u v w, us = [u, v, w] ∧ RelV x u ∧ RelV y v ∧ RelV z w := by
  cases r with
  | cons p0 q0 =>
    obtain ⟨v, w, rfl, r1, r2⟩ := vals2 q0
    exact ⟨_, _, _, rfl, p0, r1, r2⟩
theorem pi_zip3 (hg : Gl X "zip") (hm : X.mg "zip" = none) (he1 : PE X e1 te1) (he2 : PE X e2 te2) (he3 : PE X e3 te3) (hs : starEach [e1, e2, e3] X.env = (false, eval e1 X.env) :: starEach [e2, e3] X.env := by rfl) (hs2 : starEach [e2, e3] X.env = (false, eval e2 X.env) :: starEach [e3] X.env := by rfl) (hs3 : starEach [e3] X.env = [(false, eval e3 X.env)] := by rfl) : PI X (.Tuple elts kt pt) (.Call (.Name "zip" p) [e1, e2, e3] [] pos) (iZip3 te1 te2 te3) := by
  intro pins s σ H R I h
  refine Call_ (ld_blt I hg hm boot_zip (PyProof.Rows.callWith_type1 (thn (pa_cons he1 (pa_cons he2 (pa_cons he3 pa_nil hs3) hs2) hs pos pins s σ H (fun ws H1 => ∃ l1 l2 l3 xs ys zs, ws = [V.ref l1, V.ref l2, V.ref l3] ∧ H1 l1 = some (HO.tup xs) ∧ H1 l2 = some (HO.tup ys) ∧ H1 l3 = some (HO.tup zs) ∧ R (IteZ3 l1 l2 l3) H1) I h) fun us s1 ⟨vs, H1, I1, r1, q1⟩ => ?_) hs (by rw [hs2, hs3]; rfl)))
  obtain ⟨l1, l2, l3, xs, ys, zs, rfl, hl1, hl2, hl3, q⟩ := q1
  obtain ⟨u, v, w, rfl, ru, rv, rw'⟩ := vals3 r1
  cases ru
  cases rv
  cases rw'
  obtain ⟨its1, rv1, p1⟩ := seq_tup.seq X pins σ H1 s1 l1 xs I1 hl1
  obtain ⟨its2, rv2, p2⟩ := seq_tup.seq X pins σ H1 s1 l2 ys I1 hl2
  obtain ⟨its3, rv3, p3⟩ := seq_tup.seq X pins σ H1 s1 l3 zs I1 hl3
  refine call_zip_T3 p1 p2 p3 fun h' a1 a2 a3 a4 a5 a6 k => wpAny_pyIter_zip a1 ?_
  have nn : ∀ i j : Nat, i ≠ j → s1.heap.objs.size + i ≠ s1.heap.objs.size + j := fun i j h e => h (by exact Nat.add_left_cancel e)
  refine ⟨s1.heap.objs.size + 5, [s1.heap.objs.size + 5, s1.heap.objs.size + 3, s1.heap.objs.size + 4, s1.heap.objs.size, s1.heap.objs.size + 1, s1.heap.objs.size + 2], _, _, H1, rfl, I1.kept (t' := s1.toks) k, turn_zip3 (nn 4 5 (by decide)) (nn 3 5 (by decide)) (nn 0 5 (by decide)) (nn 1 5 (by decide)) (nn 2 5 (by decide)) (nn 3 4 (by decide)) (nn 3 0 (by decide)) (nn 3 1 (by decide)) (nn 3 2 (by decide)) (nn 0 4 (by decide)) (nn 1 4 (by decide)) (nn 2 4 (by decide)) (nn 0 1 (by decide)) (nn 0 2 (by decide)) (nn 1 2 (by decide)), ⟨a1, a2, ⟨_, _, _, a3⟩, a4, a5, a6⟩, fun b hb => ?_, q⟩
  have le : s1.heap.objs.size ≤ b := by
    simp only [List.mem_cons, List.not_mem_nil, or_false] at hb
    rcases hb with h | h | h | h | h | h
    · rw [h]; exact Nat.le_add_right _ _
    · rw [h]; exact Nat.le_add_right _ _
    · rw [h]; exact Nat.le_add_right _ _
    · rw [h]; exact Nat.le_refl _
    · rw [h]; exact Nat.le_add_right _ _
    · rw [h]; exact Nat.le_add_right _ _
  exact I1.fpOk le (I1.hok.fresh le)
end
theorem for_z3 {l1 l2 l3 : Addr} {xs ys zs : List V} {g : TG} {tb : TS} {D : Ends} {σ : St} {H : Hp} (hy : xs.length ≤ ys.length) (hz : xs.length ≤ zs.length) (Pv : Nat → St → Hp → Prop) (h0 : Pv 0 σ H) (hl : ∀ i σ H, i ≤ xs.length → Pv i σ H → H l1 = some (.tup xs) ∧ H l2 = some (.tup ys) ∧ H l3 = some (.tup zs))
    (hs : ∀ i x y z σ H T, xs[i]? = some x → ys[i]? = some y → zs[i]? = some z → Pv i σ H → H T = none → g (.ref T) σ (upd H T (.tup [x, y, z])) fun σ2 H2 => tb { D with nx := Pv (i + 1), ct := Pv (i + 1), bk := D.nx } σ2 H2) (hd : ∀ σ H, Pv xs.length σ H → D.nx σ H) :
    ∃ W : Nat → Nat → St → Hp → Prop, (∃ m, W 0 m σ H) ∧ ∀ i m σ H, W i m σ H →
      ((IteZ3 l1 l2 l3).stop i H ∧ D.nx σ H) ∨ ((IteZ3 l1 l2 l3).go i H ∧ ∃ N : St → Hp → Prop, (∀ σ' H', N σ' H' → ∃ m', m' < m ∧ W (i + 1) m' σ' H') ∧ ∀ x H', (IteZ3 l1 l2 l3).yld i H x H' → g x σ H' fun σ2 H2 => tb { D with nx := N, ct := N, bk := D.nx } σ2 H2) := by
  refine ⟨fun i m σ H => m = xs.length - i ∧ i ≤ xs.length ∧ Pv i σ H, ⟨xs.length, by simp, Nat.zero_le _, h0⟩, ?_⟩
  rintro i m σ H ⟨rfl, hi, p⟩
  obtain ⟨q1, q2, q3⟩ := hl i σ H hi p
  by_cases hlt : i < xs.length
  · have h2 : i < ys.length := by omega
    have h3 : i < zs.length := by omega
    refine .inr ⟨⟨xs, ys, zs, xs[i], ys[i], zs[i], q1, q2, q3, by simp [hlt], by simp [h2], by simp [h3]⟩, Pv (i + 1), fun σ' H' p' => ⟨xs.length - (i + 1), by omega, rfl, hlt, p'⟩, fun x H' y => ?_⟩
    obtain ⟨T, xs', ys', zs', x, y, z, hT, rfl, e1, e2, e3, hx, hy', hz', rfl⟩ := y
    rw [q1] at e1
    rw [q2] at e2
    rw [q3] at e3
    cases e1
    cases e2
    cases e3
    exact hs i x y z σ _ T hx hy' hz' p hT
  · have e : i = xs.length := by omega
    subst e
    exact .inl ⟨⟨xs, q1, rfl⟩, hd σ H p⟩
end L2
namespace K
open PySem PyProof.Rows L2 Mth
def top (i : Nat) : Stmt := PySem.Challenge.pw_shorthead_k15_pieces.main.body.getD i (.Pass ⟨0, 0, 0, 0⟩)
abbrev sBitsOf : Stmt := top 1
abbrev sRestOf : Stmt := top 3
abbrev sBreadths : Stmt := top 5
abbrev sWidthOf : Stmt := top 7
abbrev sWidths : Stmt := top 8
abbrev sPieces : Stmt := top 9
abbrev sSizeOf : Stmt := top 10
abbrev sPot : Stmt := top 12
abbrev sPick : Stmt := top 13
abbrev sKind : Stmt := top 14
abbrev sShape : Stmt := top 15
abbrev sValue : Stmt := top 16
abbrev sHead : Stmt := top 17
abbrev sLExpected : Stmt := top 18
abbrev sGone : Stmt := top 19
abbrev sWay : Stmt := top 20
abbrev sForm : Stmt := top 21
abbrev sBits : Stmt := top 22
abbrev sWidth : Stmt := top 23
abbrev sLPieces : Stmt := top 24
abbrev sSame : Stmt := top 25
abbrev sRight : Stmt := top 26
abbrev sLaw : Stmt := top 27
def PotV (g s : Int) : Prop := 0 ≤ g ∧ 0 ≤ s ∧ s < 2305843009213693951
def PotAt (H : Hp) (p : Addr) : Prop := ∃ g s, PotV g s ∧ H p = some (.lst [.int g, .int s])
/-- all but what stands at p is as it was -/
def But (p : Addr) (H H' : Hp) : Prop := ∀ b o, H b = some o → b ≠ p → H' b = some o
def spPot (K : PySem.W.Frag) : Sp := fun vs H Q _ => ∃ (a : Addr) (ns : List Int) (k : Int), vs = [.ref a, .int k] ∧ SqL K H a (ns.map V.int) ∧ 0 ≤ k ∧ ∀ (p : Addr) (H' : Hp), H p = none → PotAt H' p → Same H H' → Q (.ref p) H'
def spDraw : Sp := fun vs H Q _ => ∃ (p : Addr) (m : Int), vs = [.ref p, .int m] ∧ PotAt H p ∧ 0 < m ∧ m < 2 ^ 64 ∧ ∀ (d : Int) (H' : Hp), 0 ≤ d → d < m → PotAt H' p → But p H H' → Q (.int d) H'
def spWhole : Sp := fun vs H Q _ => ∃ i : Int, vs = [.int i] ∧ Q (.bl true) H
structure Txt (mg : Str → Option Value) : Prop where
  sum : mg "sum" = none
  int : mg "int" = none
  range : mg "range" = none
  tuple : mg "tuple" = none
  enumerate : mg "enumerate" = none
  zip : mg "zip" = none
  isi : mg "isinstance" = none
  str : mg "str" = none
  min : mg "min" = none
  all : mg "all" = none
  bool : mg "bool" = none
  len : mg "len" = none
  reversed : mg "reversed" = none
theorem bit_small (b : Bool) : -(2 ^ 64) < (if b = true then (1 : Int) else 0) ∧ (if b = true then (1 : Int) else 0) < 2 ^ 64 := by cases b <;> decide
theorem pot_ok (c N x : Int) (b : Bool) (hN : 0 < N) : PotV (c % N * (if b = true then 1 else 0)) (x % 2305843009213693951) := by
  refine ⟨?_, Int.emod_nonneg _ (by decide), Int.emod_lt_of_pos _ (by decide)⟩
  have h := Int.emod_nonneg c (b := N) (by omega)
  cases b with
  | true => rw [if_pos rfl]; omega
  | false => rw [if_neg Bool.false_ne_true]; omega
def spLaw (K : PySem.W.Frag) : Sp := fun vs H Q _ => ∃ (a : Addr) (ns : List Int), vs = [.ref a] ∧ SqL K H a (ns.map V.int) ∧ ns.length ≤ 63 ∧ ∀ H', Q (.bl true) H'
theorem But.same {p : Addr} {H H1 H2 : Hp} (b : But p H1 H2) (s : Same H H1) (n : H p = none) : Same H H2 := fun c o e => b c o (s c o e) (ne_of_none e n)
theorem But.at {p q : Addr} {H1 H2 : Hp} {o : HO} (b : But p H1 H2) (e : H1 q = some o) (n : q ≠ p) : H2 q = some o := b q o e n
theorem PotAt.new {p q : Addr} {H : Hp} {o : HO} (h : PotAt H p) (n : H q = none) : PotAt (upd H q o) p := by
  obtain ⟨g, s, v, e⟩ := h
  exact ⟨g, s, v, by rw [upd_ne (ne_of_none e n)]; exact e⟩
theorem same_new {H H1 : Hp} {q : Addr} {o : HO} (s : Same H H1) (n : H1 q = none) : Same H (upd H1 q o) := fun b u e => by
  rw [upd_ne (ne_of_none (s b u e) n)]
  exact s b u e
end K
namespace K
open PySem PyProof.Rows L2 Mth
def potL (q : Addr) (left seed turn : Int) : List (L2.Key × V) := [(Sum.inr "own", .ref q), (Sum.inr "left", .int left), (Sum.inr "seed", .int seed), (Sum.inr "turn", .int turn)]
/-- the pot at p, its own numbers at q, c picks at most behind it -/
def PotD (H : Hp) (p q : Addr) (c : Int) : Prop := ∃ (own : List Int) (left seed turn : Int), H p = some (.dK (potL q left seed turn)) ∧ H q = some (.lst (own.map V.int)) ∧ own.length ≤ 100 ∧ (∀ a ∈ own, 0 ≤ a) ∧ 0 ≤ left ∧ 0 ≤ seed ∧ seed < 2 ^ 62 ∧ 0 ≤ turn ∧ turn ≤ c
def But2 (p q : Addr) (H H' : Hp) : Prop := ∀ b o, H b = some o → b ≠ p → b ≠ q → H' b = some o
def spPick : Sp := fun vs H Q _ => ∃ (p q : Addr) (m c : Int), vs = [.ref p, .int m] ∧ PotD H p q c ∧ c < 2 ^ 40 ∧ 0 < m ∧ m < 2 ^ 64 ∧ ∀ (d : Int) (H' : Hp), 0 ≤ d → d < m → PotD H' p q (c + 1) → But2 p q H H' → Q (.int d) H'
theorem mod_small (x : Int) : -(2 ^ 64) < x % 1000003 + 69621 ∧ x % 1000003 + 69621 < 2 ^ 64 := by
  have h0 := Int.emod_nonneg x (b := 1000003) (by decide)
  have h1 := Int.emod_lt_of_pos x (b := 1000003) (by decide)
  omega
def spPotD (K : PySem.W.Frag) : Sp := fun vs H Q _ => ∃ (a : Addr) (ns : List Int), vs = [.ref a] ∧ SqL K H a (ns.map V.int) ∧ ns.length ≤ 63 ∧ ∀ (p qa : Addr) (H' : Hp), H p = none → H qa = none → PotD H' p qa 0 → Same H H' → Q (.ref p) H'
section
variable {P : Program} {w : World} {K : PySem.W.Frag} {mg : Str → Option Value} {base : Heap}
theorem scPick : FnScope ["_law_pot_here", "_law_many", "_law_digit", "_law_turn", "_law_mixed"] ["_law_pot_here", "_law_many"] (defScope sPick) := ⟨rfl, rfl, rfl, by decide +kernel, rfl, by decide +kernel, by decide +kernel⟩
theorem ok_pick {f : Addr} {fd : FuncData} (F : Fun K "_law_pick" "_law_pick" sPick f fd) : FnOk P w K mg base CX0 1 f fd ["_law_pot_here", "_law_many"] spPick := by
  refine F.ok scPick (fun vs H Q E h => ?_) (fun cdv A outer s H vs Q E hr h => ?_)
  · obtain ⟨_, _, _, _, rfl, _⟩ := h
    rfl
  · obtain ⟨p, qa, m, c, rfl, ⟨own, left, seed, turn, hp, hq, ol, ob, l0, s0, s1, t0, t1⟩, hc, m0, m1, q⟩ := h
    refine ⟨_, (pss_cons (ps_if (PW.pt (pw_and (pt_cmpR op_eq (pe_dget (hu_of hr) (pv 0) pe_str (fun _ _ => rfl)) pe_int (nomark _)) (pw_and1 (pt_cmpR (op_neLI hr.units) (pe_dget (hu_of hr) (pv 0) pe_str (fun _ _ => rfl)) (pe_lst pa_nil) (nomark _)))))
      (pss_one (ps_dput (hu_of hr) (pv 0) pe_str (pe_bm PySem.F.plainAttrs_list PySem.F.slot_list_pop PySem.F.type_list_pop mt_popAt (pe_dget (hu_of hr) (pv 0) pe_str (fun _ _ => rfl)) (pa_cons pe_int pa_nil)) rfl))
      pss_nil)
      (pss_cons (ps_if (pt_cmpR op_gt (pe_dget (hu_of hr) (pv 0) pe_str (fun _ _ => rfl)) pe_int (nomark _))
      (pss_cons (ps_set (i := 2) scPick.nd rfl (Or.inl rfl) (pe_op op_mod (pe_dget (hu_of hr) (pv 0) pe_str (fun _ _ => rfl)) (pv 1)))
      (pss_cons (ps_dput (hu_of hr) (pv 0) pe_str (pe_op op_fdivL (pe_dget (hu_of hr) (pv 0) pe_str (fun _ _ => rfl)) (pv 1)) rfl)
      (pss_one (ps_ret (pv 2)))))
      pss_nil)
      (pss_cons (ps_dput (hu_of hr) (pv 0) pe_str (pe_op op_add (pe_dget (hu_of hr) (pv 0) pe_str (fun _ _ => rfl)) pe_int) rfl)
      (pss_cons (ps_set (i := 3) scPick.nd rfl (Or.inl rfl) (pe_dget (hu_of hr) (pv 0) pe_str (fun _ _ => rfl)))
      (pss_cons (ps_set (i := 4) scPick.nd rfl (Or.inl rfl) (pe_op op_add (pe_op op_add (pe_dget (hu_of hr) (pv 0) pe_str (fun _ _ => rfl)) (pe_op op_mul (pe_op op_mul (pv 3) (pv 3)) pe_int)) (pe_op op_mul (pv 3) pe_int)))
      (pss_cons (ps_set (i := 4) scPick.nd rfl (Or.inl rfl) (pe_op op_mod (pe_op op_mul (pv 4) pe_int) pe_int))
      (pss_cons (ps_set (i := 4) scPick.nd rfl (Or.inl rfl) (pe_op op_mod (pe_op op_mul (pv 4) (pe_op op_add (pe_op op_mod (pv 4) pe_int) pe_int)) pe_int))
      (pss_one (ps_ret (pe_op op_mod (pe_op op_fdiv (pv 4) pe_int) (pv 1))))))))))), ?_⟩
    have pq : p ≠ qa := ne_of hp hq (by intro z; cases z)
    refine ⟨_, rfl, p, _, rfl, DGet.k (k := Sum.inr "left") hp, rfl, _, rfl, ite2 (fun y1 => ?_) (fun y1 => ?_)⟩
    · refine ⟨_, rfl, p, _, rfl, DGet.k (k := Sum.inr "own") hp, (by show 0 ≤ sizeLine; decide), fun l hl => ?_⟩
      have sl := same_new (o := .lst []) (Same.refl H) hl
      refine ⟨qa, l, own, [], rfl, rfl, SqL.of (sl _ _ hq), SqL.of upd_same, _, rfl, ?_⟩
      have hp1 := sl _ _ hp
      have hq1 := sl _ _ hq
      cases own with
      | nil =>
        refine iteF ?_
        refine ⟨_, rfl, p, _, rfl, DGet.k (k := Sum.inr "left") hp1, _, _, rfl, rfl, _, rfl, ite2 (fun z1 => ?_) (fun z1 => ?_)⟩
        · refine ⟨_, rfl, p, _, rfl, DGet.k (k := Sum.inr "left") hp1, _, rfl, _, _, rfl, rfl, m0, ?_⟩
          refine ⟨_, rfl, p, _, rfl, DGet.k (k := Sum.inr "left") hp1, _, rfl, _, _, rfl, rfl, ⟨m0, m1⟩, _, rfl, p, _, rfl, DPut.k (k := Sum.inr "left") hp1 (by show 4 < sizeLine; decide), ?_⟩
          refine ⟨_, rfl, q _ _ (Int.emod_nonneg _ (by omega)) (Int.emod_lt_of_pos _ m0) ⟨[], left / m, seed, turn, upd_same, ?_, ol, ob, Int.ediv_nonneg l0 (by omega), s0, s1, t0, by omega⟩ ?_⟩
          · rw [upd_ne (Ne.symm pq)]
            exact hq1
          · intro b o e h1 h2
            rw [upd_ne h1]
            exact (fun b o e _ _ => sl _ _ e : But2 p qa H _) b o e h1 h2
        · refine ⟨_, rfl, p, _, rfl, DGet.k (k := Sum.inr "turn") hp1, _, _, rfl, rfl, _, rfl, p, _, rfl, DPut.k (k := Sum.inr "turn") hp1 (by show 4 < sizeLine; decide), ?_⟩
          refine ⟨_, rfl, p, _, rfl, DGet.k (k := Sum.inr "turn") upd_same, ?_⟩
          refine ⟨_, rfl, p, _, rfl, DGet.k (k := Sum.inr "seed") upd_same, _, rfl, _, rfl, _, _, rfl, rfl, .inl ⟨by omega, by omega⟩, _, _, rfl, rfl, .inr ⟨by decide, by decide⟩, _, _, rfl, rfl, _, rfl, _, _, rfl, rfl, .inr ⟨by decide, by decide⟩, _, _, rfl, rfl, ?_⟩
          refine ⟨_, rfl, _, _, rfl, rfl, .inr ⟨by decide, by decide⟩, _, _, rfl, rfl, (by show (0 : Int) < 2305843009213693921; decide), ?_⟩
          refine ⟨_, rfl, _, rfl, _, _, rfl, rfl, (by show (0 : Int) < 1000003; decide), _, _, rfl, rfl, _, _, rfl, rfl, .inr (mod_small _), _, _, rfl, rfl, (by show (0 : Int) < 2305843009213693907; decide), ?_⟩
          refine ⟨_, rfl, _, _, rfl, rfl, ⟨by decide, by decide⟩, _, rfl, _, _, rfl, rfl, m0, q _ _ (Int.emod_nonneg _ (by omega)) (Int.emod_lt_of_pos _ m0) ⟨[], left, seed, turn + 1, upd_same, ?_, ol, ob, l0, s0, s1, by omega, by omega⟩ ?_⟩
          · rw [upd_ne (Ne.symm pq)]
            exact hq1
          · intro b o e h1 h2
            rw [upd_ne h1]
            exact (fun b o e _ _ => sl _ _ e : But2 p qa H _) b o e h1 h2
      | cons o0 rest0 =>
        refine iteT ?_
        refine ⟨_, rfl, p, _, rfl, DGet.k (k := Sum.inr "own") hp1, .inl ⟨rfl, _, SqL.of hq1⟩, qa, _, 0, 0, .int o0, rfl, rfl, hq1, by decide, by decide, ?_, rfl, ?_⟩
        · unfold seqIndex?
          simp
        have hp2 : upd (upd H l (.lst [])) qa (.lst ((List.map V.int (o0 :: rest0)).eraseIdx 0)) p = some (.dK (potL qa left seed turn)) := by rw [upd_ne pq]; exact hp1
        refine ⟨_, rfl, p, _, rfl, DPut.k (k := Sum.inr "left") hp2 (by show 4 < sizeLine; decide), ?_⟩
        have hp3 : upd (upd (upd H l (.lst [])) qa (.lst (rest0.map V.int))) p (.dK (potL qa o0 seed turn)) p = some (.dK (potL qa o0 seed turn)) := upd_same
        have hq3 : upd (upd (upd H l (.lst [])) qa (.lst (rest0.map V.int))) p (.dK (potL qa o0 seed turn)) qa = some (.lst (rest0.map V.int)) := by rw [upd_ne (Ne.symm pq)]; exact upd_same
        have b3 : But2 p qa H (upd (upd (upd H l (.lst [])) qa (.lst (rest0.map V.int))) p (.dK (potL qa o0 seed turn))) := fun b o e h1 h2 => by
          rw [upd_ne h1, upd_ne h2]
          exact sl _ _ e
        have ol3 : rest0.length ≤ 100 := by
          rw [List.length_cons] at ol
          omega
        have ob3 : ∀ a ∈ rest0, 0 ≤ a := fun a h => ob a (List.mem_cons_of_mem _ h)
        have lo3 : 0 ≤ o0 := ob o0 (by simp)
        refine ⟨_, rfl, p, _, rfl, DGet.k (k := Sum.inr "left") hp3, _, _, rfl, rfl, _, rfl, ite2 (fun z1 => ?_) (fun z1 => ?_)⟩
        · refine ⟨_, rfl, p, _, rfl, DGet.k (k := Sum.inr "left") hp3, _, rfl, _, _, rfl, rfl, m0, ?_⟩
          refine ⟨_, rfl, p, _, rfl, DGet.k (k := Sum.inr "left") hp3, _, rfl, _, _, rfl, rfl, ⟨m0, m1⟩, _, rfl, p, _, rfl, DPut.k (k := Sum.inr "left") hp3 (by show 4 < sizeLine; decide), ?_⟩
          refine ⟨_, rfl, q _ _ (Int.emod_nonneg _ (by omega)) (Int.emod_lt_of_pos _ m0) ⟨rest0, o0 / m, seed, turn, upd_same, ?_, ol3, ob3, Int.ediv_nonneg lo3 (by omega), s0, s1, t0, by omega⟩ ?_⟩
          · rw [upd_ne (Ne.symm pq)]
            exact hq3
          · intro b o e h1 h2
            rw [upd_ne h1]
            exact b3 b o e h1 h2
        · refine ⟨_, rfl, p, _, rfl, DGet.k (k := Sum.inr "turn") hp3, _, _, rfl, rfl, _, rfl, p, _, rfl, DPut.k (k := Sum.inr "turn") hp3 (by show 4 < sizeLine; decide), ?_⟩
          refine ⟨_, rfl, p, _, rfl, DGet.k (k := Sum.inr "turn") upd_same, ?_⟩
          refine ⟨_, rfl, p, _, rfl, DGet.k (k := Sum.inr "seed") upd_same, _, rfl, _, rfl, _, _, rfl, rfl, .inl ⟨by omega, by omega⟩, _, _, rfl, rfl, .inr ⟨by decide, by decide⟩, _, _, rfl, rfl, _, rfl, _, _, rfl, rfl, .inr ⟨by decide, by decide⟩, _, _, rfl, rfl, ?_⟩
          refine ⟨_, rfl, _, _, rfl, rfl, .inr ⟨by decide, by decide⟩, _, _, rfl, rfl, (by show (0 : Int) < 2305843009213693921; decide), ?_⟩
          refine ⟨_, rfl, _, rfl, _, _, rfl, rfl, (by show (0 : Int) < 1000003; decide), _, _, rfl, rfl, _, _, rfl, rfl, .inr (mod_small _), _, _, rfl, rfl, (by show (0 : Int) < 2305843009213693907; decide), ?_⟩
          refine ⟨_, rfl, _, _, rfl, rfl, ⟨by decide, by decide⟩, _, rfl, _, _, rfl, rfl, m0, q _ _ (Int.emod_nonneg _ (by omega)) (Int.emod_lt_of_pos _ m0) ⟨rest0, o0, seed, turn + 1, upd_same, ?_, ol3, ob3, lo3, s0, s1, by omega, by omega⟩ ?_⟩
          · rw [upd_ne (Ne.symm pq)]
            exact hq3
          · intro b o e h1 h2
            rw [upd_ne h1]
            exact b3 b o e h1 h2
    · refine iteF ?_
      refine ⟨_, rfl, p, _, rfl, DGet.k (k := Sum.inr "left") hp, _, _, rfl, rfl, _, rfl, ite2 (fun z1 => ?_) (fun z1 => ?_)⟩
      · refine ⟨_, rfl, p, _, rfl, DGet.k (k := Sum.inr "left") hp, _, rfl, _, _, rfl, rfl, m0, ?_⟩
        refine ⟨_, rfl, p, _, rfl, DGet.k (k := Sum.inr "left") hp, _, rfl, _, _, rfl, rfl, ⟨m0, m1⟩, _, rfl, p, _, rfl, DPut.k (k := Sum.inr "left") hp (by show 4 < sizeLine; decide), ?_⟩
        refine ⟨_, rfl, q _ _ (Int.emod_nonneg _ (by omega)) (Int.emod_lt_of_pos _ m0) ⟨own, left / m, seed, turn, upd_same, ?_, ol, ob, Int.ediv_nonneg l0 (by omega), s0, s1, t0, by omega⟩ ?_⟩
        · rw [upd_ne (Ne.symm pq)]
          exact hq
        · intro b o e h1 h2
          rw [upd_ne h1]
          exact (fun b o e _ _ => e : But2 p qa H H) b o e h1 h2
      · refine ⟨_, rfl, p, _, rfl, DGet.k (k := Sum.inr "turn") hp, _, _, rfl, rfl, _, rfl, p, _, rfl, DPut.k (k := Sum.inr "turn") hp (by show 4 < sizeLine; decide), ?_⟩
        refine ⟨_, rfl, p, _, rfl, DGet.k (k := Sum.inr "turn") upd_same, ?_⟩
        refine ⟨_, rfl, p, _, rfl, DGet.k (k := Sum.inr "seed") upd_same, _, rfl, _, rfl, _, _, rfl, rfl, .inl ⟨by omega, by omega⟩, _, _, rfl, rfl, .inr ⟨by decide, by decide⟩, _, _, rfl, rfl, _, rfl, _, _, rfl, rfl, .inr ⟨by decide, by decide⟩, _, _, rfl, rfl, ?_⟩
        refine ⟨_, rfl, _, _, rfl, rfl, .inr ⟨by decide, by decide⟩, _, _, rfl, rfl, (by show (0 : Int) < 2305843009213693921; decide), ?_⟩
        refine ⟨_, rfl, _, rfl, _, _, rfl, rfl, (by show (0 : Int) < 1000003; decide), _, _, rfl, rfl, _, _, rfl, rfl, .inr (mod_small _), _, _, rfl, rfl, (by show (0 : Int) < 2305843009213693907; decide), ?_⟩
        refine ⟨_, rfl, _, _, rfl, rfl, ⟨by decide, by decide⟩, _, rfl, _, _, rfl, rfl, m0, q _ _ (Int.emod_nonneg _ (by omega)) (Int.emod_lt_of_pos _ m0) ⟨own, left, seed, turn + 1, upd_same, ?_, ol, ob, l0, s0, s1, by omega, by omega⟩ ?_⟩
        · rw [upd_ne (Ne.symm pq)]
          exact hq
        · intro b o e h1 h2
          rw [upd_ne h1]
          exact (fun b o e _ _ => e : But2 p qa H H) b o e h1 h2
theorem scPot : FnScope ["_law_script", "_law_far", "_law_seed", "_law_own", "_law_cell"] ["_law_script"] (defScope sPot) := ⟨rfl, rfl, rfl, by decide +kernel, rfl, by decide +kernel, by decide +kernel⟩
theorem ok_potD {f : Addr} {fd : FuncData} (F : Fun K "_law_pot" "_law_pot" sPot f fd) (T : Txt mg) : FnOk P w K mg base CX0 1 f fd ["_law_script"] (spPotD K) := by
  refine F.ok scPot (fun vs H Q E h => ?_) (fun cdv A outer s H vs Q E hr h => ?_)
  · obtain ⟨_, _, rfl, _⟩ := h
    rfl
  · obtain ⟨a, ns, rfl, hS, hlen, q⟩ := h
    refine ⟨_, (pss_cons (ps_set (i := 1) scPot.nd rfl (Or.inl rfl) (pe_callTy call_int_txt (by rfl) T.int boot_int (pa_cons (pe_op op_add_str pe_str (pe_op op_mul_str pe_str pe_int)) pa_nil)))
      (pss_cons (ps_set (i := 2) scPot.nd rfl (Or.inl rfl) pe_int)
      (pss_cons (ps_set (i := 3) scPot.nd rfl (Or.inl rfl) (pe_lst pa_nil))
      (pss_cons (ps_for PassesOwn.never rfl (pi_list (pe_slice sl_list (pv 0) po_none (po_some pe_int))) (pg_name (i := 4) scPot.nd rfl (Or.inl rfl))
      (pss_cons (ps_set (i := 2) scPot.nd rfl (Or.inl rfl) (pe_op op_mod (pe_op op_add (pe_op op_add (pe_op op_mul (pv 2) pe_int) (pe_op op_mod (pv 4) pe_int)) pe_int) pe_int))
      (pss_one (ps_if (pt_cmpR op_ge (pv 4) (pe_op op_pow pe_int pe_int) (nomark _))
      (pss_one (ps_expr (pe_bm PySem.F.plainAttrs_list PySem.F.slot_list_append PySem.F.type_list_append mt_append (pv 3) (pa_cons (pe_op op_mod (pv 4) (pv 1)) pa_nil))))
      pss_nil))))
      (pss_one (ps_ret (pe_disp (pps_cons pe_str (pv 3) (pps_cons pe_str pe_int (pps_cons pe_str (pv 2) (pps_cons pe_str pe_int pps_nil)))) rfl rfl (by simp) (by decide)))))))), ?_⟩
    obtain ⟨N, hN, eN⟩ := huge
    refine ⟨_, _, rfl, rfl, huge_ok, _, _, rfl, rfl, ?_, _, N, rfl, eN, huge_len, ?_⟩
    · exact Nat.le_trans (Nat.le_of_eq (by rw [← Str.length_append])) (Nat.le_trans huge_len (by decide))
    refine ⟨(by show 0 ≤ sizeLine; decide), fun ow how => ?_⟩
    have s1 := same_new (o := .lst []) (Same.refl H) how
    refine ⟨_, rfl, _, rfl, a, _, rfl, s1.seq hS, fun sc hsc => ?_⟩
    have cut : cutV (ns.map V.int) none (some (64 : Int)) = ns.map V.int := by
      unfold cutV
      show ((ns.map V.int).drop (HT.sIx _ 0 none)).take (HT.sIx _ _ (some ((64 : Nat) : Int)) - HT.sIx _ 0 none) = _
      rw [HT.sIx_nat, HT.sIx_none, Nat.min_eq_right (by rw [List.length_map]; omega)]
      simp
      exact List.take_of_length_le (by simp)
    rw [cut]
    have s2 := same_new (o := .lst (ns.map V.int)) s1 hsc
    have son : sc ≠ ow := fun z => by
      rw [z, upd_same] at hsc
      cases hsc
    refine ⟨sc, rfl, ⟨_, SqL.of upd_same⟩, for_list (xs := ns.map V.int) (fun i σ H2 => ∃ (seed : Int) (own : List Int) (v4 : Option V), σ = [some (.ref a), some (.int N), some (.int seed), some (.ref ow), v4] ∧ Same H H2 ∧ H2 ow = some (.lst (own.map V.int)) ∧ H2 sc = some (.lst (ns.map V.int)) ∧ 0 ≤ seed ∧ seed < 2 ^ 62 ∧ own.length ≤ i ∧ ∀ a ∈ own, 0 ≤ a)
      ⟨5, [], none, rfl, s2, (by rw [upd_ne (Ne.symm son)]; exact upd_same), upd_same, by decide, by decide, Nat.le_refl _, fun a h => (nomatch h)⟩ (fun i σ H2 _ ⟨_, _, _, _, _, _, h, _⟩ => SqL.of h) ?_ ?_⟩
    · rintro i x σ H2 hx ⟨seed, own, v4, rfl, s3, hov, hsv, e0, e1, ol, ob⟩
      obtain ⟨c, hci, rfl⟩ : ∃ c, ns[i]? = some c ∧ x = V.int c := by
        rw [List.getElem?_map] at hx
        cases e : ns[i]? with
        | none => rw [e] at hx; cases hx
        | some v => rw [e] at hx; exact ⟨v, rfl, (Option.some.inj hx).symm⟩
      have hil : i < ns.length := (List.getElem?_eq_some_iff.mp hci).1
      have z0 := Int.emod_nonneg (seed * 69069 + c % 2305843009213693951 + 17) (b := 2305843009213693951) (by decide)
      have z1 := Int.emod_lt_of_pos (seed * 69069 + c % 2305843009213693951 + 17) (b := 2305843009213693951) (by decide)
      have hline := sizeLine_eq
      refine ⟨_, rfl, _, _, rfl, rfl, .inr ⟨by decide, by decide⟩, _, rfl, _, _, rfl, rfl, (by show (0 : Int) < 2305843009213693951; decide), _, _, rfl, rfl, _, _, rfl, rfl, _, _, rfl, rfl, (by show (0 : Int) < 2305843009213693951; decide), ?_⟩
      refine ⟨_, rfl, _, _, rfl, rfl, ⟨by decide, by decide, by decide⟩, _, _, rfl, rfl, _, rfl, ite2 (fun y => ?_) (fun y => ?_)⟩
      · refine ⟨_, rfl, .inl ⟨rfl, _, SqL.of hov⟩, _, rfl, _, rfl, _, _, rfl, rfl, (by show (0 : Int) < N; omega), ow, _, _, rfl, rfl, hov, (by rw [List.length_map]; omega), ?_⟩
        refine ⟨_, own ++ [c % N], _, rfl, fun b o e => ?_, ?_, ?_, z0, by omega, by rw [List.length_append]; show own.length + 1 ≤ i + 1; omega, fun b hb => ?_⟩
        · rw [upd_ne (ne_of_none e how)]
          exact s3 b o e
        · rw [upd_same, List.map_append]
          rfl
        · rw [upd_ne son]
          exact hsv
        · rcases List.mem_append.mp hb with h | h
          · exact ob b h
          · rw [List.mem_singleton.mp h]
            exact Int.emod_nonneg _ (by omega)
      · exact ⟨_, own, _, rfl, s3, hov, hsv, z0, by omega, by omega, ob⟩
    · rintro σ H2 ⟨seed, own, v4, rfl, s3, hov, hsv, e0, e1, ol, ob⟩
      rw [List.length_map] at ol
      intro p hp
      have s4 := same_new (o := .dK []) (Same.refl H2) hp
      refine ⟨_, rfl, _, rfl, upd_same, potL ow 0 seed 0, rfl, (by show 4 ≤ 15; decide), ?_⟩
      have np : H p = none := s3.free hp
      have po : ow ≠ p := ne_of_none hov hp
      refine q p ow _ np how ⟨own, 0, seed, 0, upd_same, ?_, by omega, ob, by decide, e0, e1, by decide, by decide⟩ ?_
      · rw [upd_ne po, upd_ne po]
        exact hov
      · intro b o e
        have nb : b ≠ p := ne_of_none e np
        rw [upd_ne nb, upd_ne nb]
        exact s3 b o e
end
end K
namespace K
open PySem PyProof.Rows L2 Mth
theorem yesG {i : Nat} {v : V} {σ : L2.St} {H : Hp} {A B : L2.St → Hp → Prop} (h : A (σ.set i (some v)) H) : gName i v σ H fun σ2 H2 => tYes σ2 H2 fun b H3 => if b = true then A σ2 H3 else B σ2 H3 := (if_pos rfl : (if true = true then A (σ.set i (some v)) H else B (σ.set i (some v)) H) = A (σ.set i (some v)) H).mpr h
theorem atI_ints (ms : List Int) (d : Int) (h0 : 0 ≤ d) (h1 : d < ms.length) : ∃ m, m ∈ ms ∧ atI (ms.map V.int) d = some (.int m) := by
  obtain ⟨j, rfl⟩ : ∃ j : Nat, d = (j : Int) := ⟨d.toNat, by omega⟩
  have hj : j < ms.length := by omega
  exact ⟨ms[j], List.getElem_mem hj, atI_nat (by simp [hj])⟩
theorem atI_mem {α : Type} (ms : List α) (d : Int) (h0 : 0 ≤ d) (h1 : d < ms.length) : ∃ m, m ∈ ms ∧ atI ms d = some m := by
  obtain ⟨j, rfl⟩ : ∃ j : Nat, d = (j : Int) := ⟨d.toNat, by omega⟩
  have hj : j < ms.length := by omega
  exact ⟨ms[j], List.getElem_mem hj, atI_nat (by simp [hj])⟩
/-- what a field does -/
inductive Kd where
  | still | drawn | step (s : Int) | turn (row : List Int) | wth (f : Nat) (s : Int)
def KindV (H : Hp) (v : V) : Kd → Prop
  | .still => ∃ t, v = .ref t ∧ H t = some (.tup [.str "still"])
  | .drawn => ∃ t, v = .ref t ∧ H t = some (.tup [.str "drawn"])
  | .step s => ∃ t, v = .ref t ∧ H t = some (.tup [.str "step", .int s])
  | .turn row => ∃ t r, v = .ref t ∧ H t = some (.tup [.str "turn", .ref r]) ∧ H r = some (.tup (row.map V.int))
  | .wth f s => ∃ t, v = .ref t ∧ H t = some (.tup [.str "with", .int (f : Int), .int s])
def KdOk (i : Nat) (b : Int) : Kd → Prop
  | .still => True
  | .drawn => True
  | .step s => 0 ≤ s ∧ s < 2 ^ b.toNat
  | .turn row => 2 ≤ row.length ∧ row.length ≤ 20 ∧ row.Nodup ∧ ∀ v ∈ row, 0 ≤ v ∧ v < 2 ^ b.toNat
  | .wth f s => f < i ∧ -99 ≤ s ∧ s ≤ 99
theorem KindV.mono {H H' : Hp} {v : V} (k : ∀ a xs, H a = some (.tup xs) → H' a = some (.tup xs)) : ∀ {d : Kd}, KindV H v d → KindV H' v d
  | .still, ⟨t, e, h⟩ => ⟨t, e, k _ _ h⟩
  | .drawn, ⟨t, e, h⟩ => ⟨t, e, k _ _ h⟩
  | .step _, ⟨t, e, h⟩ => ⟨t, e, k _ _ h⟩
  | .turn _, ⟨t, r, e, h, h2⟩ => ⟨t, r, e, k _ _ h, k _ _ h2⟩
  | .wth _ _, ⟨t, e, h⟩ => ⟨t, e, k _ _ h⟩
def FieldAt (H : Hp) (a : Addr) (b : Int) (d : Kd) : Prop := ∃ nm kv, H a = some (.tup [nm, .int b, kv]) ∧ KindV H kv d
theorem FieldAt.mono {H H' : Hp} {a : Addr} {b : Int} {d : Kd} (k : ∀ a xs, H a = some (.tup xs) → H' a = some (.tup xs)) (h : FieldAt H a b d) : FieldAt H' a b d := by
  obtain ⟨nm, kv, e, h⟩ := h
  exact ⟨nm, kv, k _ _ e, h.mono k⟩
/-- the fields at these places -/
def FieldsAt (H : Hp) : List Addr → List (Int × Kd) → Prop
  | [], [] => True
  | a :: r, b :: bs => FieldAt H a b.1 b.2 ∧ FieldsAt H r bs
  | _, _ => False
theorem FieldsAt.len {H : Hp} : ∀ {fr : List Addr} {bs : List (Int × Kd)}, FieldsAt H fr bs → fr.length = bs.length
  | [], [], _ => rfl
  | a :: r, b :: bs, h => by rw [List.length_cons, List.length_cons, FieldsAt.len h.2]
  | [], _ :: _, h => h.elim
  | _ :: _, [], h => h.elim
theorem FieldsAt.mono {H H' : Hp} (k : ∀ a xs, H a = some (.tup xs) → H' a = some (.tup xs)) : ∀ {fr : List Addr} {bs : List (Int × Kd)}, FieldsAt H fr bs → FieldsAt H' fr bs
  | [], [], _ => True.intro
  | a :: r, b :: bs, h => ⟨h.1.mono k, FieldsAt.mono k h.2⟩
  | [], _ :: _, h => h.elim
  | _ :: _, [], h => h.elim
theorem FieldsAt.snoc {H : Hp} {a : Addr} {b : Int × Kd} (e : FieldAt H a b.1 b.2) : ∀ {fr : List Addr} {bs : List (Int × Kd)}, FieldsAt H fr bs → FieldsAt H (fr ++ [a]) (bs ++ [b])
  | [], [], _ => ⟨e, True.intro⟩
  | _ :: r, _ :: bs, h => ⟨h.1, FieldsAt.snoc e h.2⟩
  | [], _ :: _, h => h.elim
  | _ :: _, [], h => h.elim
theorem FieldsAt.get {H : Hp} : ∀ {fr : List Addr} {bs : List (Int × Kd)}, FieldsAt H fr bs → ∀ (i : Nat) (h1 : i < fr.length) (h2 : i < bs.length), FieldAt H fr[i] bs[i].1 bs[i].2
  | a :: r, b :: bs, h, 0, _, _ => h.1
  | a :: r, b :: bs, h, i + 1, h1, h2 => FieldsAt.get h.2 i (by simpa using h1) (by simpa using h2)
def FsOk (bs : List (Int × Kd)) : Prop := ∀ (i : Nat) (h : i < bs.length), 1 ≤ bs[i].1 ∧ bs[i].1 ≤ 40 ∧ KdOk i bs[i].1 bs[i].2
theorem FsOk.snoc {bs : List (Int × Kd)} {b : Int × Kd} (h : FsOk bs) (h0 : 1 ≤ b.1) (h1 : b.1 ≤ 40) (h2 : KdOk bs.length b.1 b.2) : FsOk (bs ++ [b]) := by
  intro i hi
  by_cases hlt : i < bs.length
  · rw [List.getElem_append_left hlt]
    exact h i hlt
  · have e : i = bs.length := by
      rw [List.length_append] at hi
      have : [b].length = 1 := rfl
      omega
    subst e
    rw [List.getElem_append_right (Nat.le_refl _)]
    simp only [Nat.sub_self, List.getElem_cons_zero]
    exact ⟨h0, h1, h2⟩
def ShapeAt (H : Hp) (sh : Addr) (bs : List (Int × Kd)) : Prop := ∃ (ft : Addr) (fr : List Addr) (m : Int), H sh = some (.tup [.ref ft, .int m]) ∧ H ft = some (.tup (fr.map V.ref)) ∧ FieldsAt H fr bs ∧ 1 ≤ bs.length ∧ bs.length ≤ 12 ∧ FsOk bs
theorem ShapeAt.mono {H H' : Hp} {sh : Addr} {bs : List (Int × Kd)} (k : ∀ a xs, H a = some (.tup xs) → H' a = some (.tup xs)) (h : ShapeAt H sh bs) : ShapeAt H' sh bs := by
  obtain ⟨ft, fr, m, h1, h2, h3, h4⟩ := h
  exact ⟨ft, fr, m, k _ _ h1, k _ _ h2, h3.mono k, h4⟩

theorem pd_new {H : Hp} {p qa a : Addr} {c : Int} {o : HO} (h : PotD H p qa c) (n : H a = none) : PotD (upd H a o) p qa c := by
  obtain ⟨own, l, sd, tn, h1, h2, r⟩ := h
  exact ⟨own, l, sd, tn, by rw [upd_ne (ne_of_none h1 n)]; exact h1, by rw [upd_ne (ne_of_none h2 n)]; exact h2, r⟩
theorem pd_ne {H : Hp} {p qa a : Addr} {c : Int} (h : PotD H p qa c) (n : H a = none) : a ≠ p ∧ a ≠ qa := by
  obtain ⟨own, l, sd, tn, h1, h2, r⟩ := h
  exact ⟨(ne_of_none h1 n).symm, (ne_of_none h2 n).symm⟩
theorem b2_trans {p qa : Addr} {H H1 H2 : Hp} (a : But2 p qa H H1) (b : But2 p qa H1 H2) : But2 p qa H H2 := fun c o e h1 h2 => b c o (a c o e h1 h2) h1 h2
theorem b2_new {p qa a : Addr} {H H1 : Hp} {o : HO} (h : But2 p qa H H1) (n : H1 a = none) : But2 p qa H (upd H1 a o) := fun c u e h1 h2 => by
  have := h c u e h1 h2
  rw [upd_ne (ne_of_none this n)]
  exact this
theorem b2_tup {p qa : Addr} {c : Int} {H H' : Hp} (pot : PotD H p qa c) (k : But2 p qa H H') : ∀ a xs, H a = some (.tup xs) → H' a = some (.tup xs) := fun a xs e => by
  obtain ⟨own, l, sd, tn, h1, h2, r⟩ := pot
  exact k a _ e (fun z => by rw [z, h1] at e; cases e) (fun z => by rw [z, h2] at e; cases e)
def spKindD : Sp := fun vs H Q _ => ∃ (p qa : Addr) (i : Nat) (b c : Int), vs = [.ref p, .int (i : Int), .int b] ∧ i ≤ 11 ∧ 1 ≤ b ∧ b ≤ 40 ∧ PotD H p qa c ∧ c < 2 ^ 30 ∧ ∀ (v : V) (d : Kd) (c' : Int) (H' : Hp), PotD H' p qa c' → c' ≤ c + 5 → But2 p qa H H' → KindV H' v d → KdOk i b d → Q v H'
section
variable {P : Program} {w : World} {K : PySem.W.Frag} {mg : Str → Option Value} {base : Heap}
theorem scKind : FnScope ["_law_pot_here", "_law_place", "_law_breadth", "_law_power", "_law_way_here", "_law_odd", "_law_first", "_law_many"] ["_law_pot_here", "_law_place", "_law_breadth"] (defScope sKind) := ⟨rfl, rfl, rfl, by decide +kernel, rfl, by decide +kernel, by decide +kernel⟩
theorem ok_kindD {f : Addr} {fd : FuncData} (F : Fun K "_law_kind" "_law_kind" sKind f fd) (T : Txt mg) {fPick : Addr} {fdPick : FuncData} (FPick : Fun K "_law_pick" "_law_pick" sPick fPick fdPick) (bPick : Binds K fdPick ["_law_pot_here", "_law_many"] []) (mPick : mg "_law_pick" = some (.ref fPick)) : FnOk P w K mg base CX0 2 f fd ["_law_pot_here", "_law_place", "_law_breadth"] spKindD := by
  have GPick : FnOk P w K mg base CX0 1 fPick fdPick ["_law_pot_here", "_law_many"] spPick := ok_pick FPick
  refine F.ok scKind (fun vs H Q E h => ?_) (fun cdv A outer s H vs Q E hr h => ?_)
  · obtain ⟨_, _, _, _, _, rfl, _⟩ := h
    rfl
  · obtain ⟨p, qa, i, b, c, rfl, i1, b0, b1, pot, hc, q⟩ := h
    refine ⟨_, (Hid.out (hs_cons (hs_set (i := 3) scKind.nd rfl (Or.inr rfl) ⟨(pe_op op_shl pe_int (pv 2))⟩)
      (hs_cons (hs_set (i := 4) scKind.nd rfl (Or.inl rfl) ⟨(pe_call GPick (hr.mono (by decide)) rfl mPick FPick.kp bPick .nil pass0 (pa_cons (pv 0) (pa_cons pe_int pa_nil)))⟩)
      (hs_cons (hs_if (pt_cmpR op_lt (pv 4) pe_int (nomark _))
      (hs_one (hs_ret (he_tup (ha_cons ⟨pe_str⟩ (ha_cons (he_ix ix_list (he_lst (ha_cons ⟨(pe_call GPick (hr.mono (by decide)) rfl mPick FPick.kp bPick .nil pass0 (pa_cons (pv 0) (pa_cons (pe_callB (call_min2 rfl) (by rfl) T.min boot_min (pa_cons (pv 3) (pa_cons pe_int pa_nil))) pa_nil)))⟩ (ha_cons ⟨(pe_call GPick (hr.mono (by decide)) rfl mPick FPick.kp bPick .nil pass0 (pa_cons (pv 0) (pa_cons (pv 3) pa_nil)))⟩ ha_nil))) ⟨(pe_call GPick (hr.mono (by decide)) rfl mPick FPick.kp bPick .nil pass0 (pa_cons (pv 0) (pa_cons pe_int pa_nil)))⟩ (fun _ _ => rfl)) ha_nil)))))
      hs_nil)
      (hs_cons (hs_if (pt_cmpR op_eq (pv 4) pe_int (nomark _))
      (hs_cons (hs_set (i := 5) scKind.nd rfl (Or.inr rfl) ⟨(pe_op op_add pe_int (pe_op op_mul pe_int (pe_call GPick (hr.mono (by decide)) rfl mPick FPick.kp bPick .nil pass0 (pa_cons (pv 0) (pa_cons pe_int pa_nil)))))⟩)
      (hs_cons (hs_set (i := 6) scKind.nd rfl (Or.inr rfl) ⟨(pe_call GPick (hr.mono (by decide)) rfl mPick FPick.kp bPick .nil pass0 (pa_cons (pv 0) (pa_cons (pv 3) pa_nil)))⟩)
      (hs_cons (hs_set (i := 7) scKind.nd rfl (Or.inl rfl) ⟨(pe_callB (call_min2 rfl) (by rfl) T.min boot_min (pa_cons (pv 3) (pa_cons (pe_op op_add pe_int (pe_call GPick (hr.mono (by decide)) rfl mPick FPick.kp bPick .nil pass0 (pa_cons (pv 0) (pa_cons pe_int pa_nil)))) pa_nil)))⟩)
      (hs_one (hs_ret (he_tup (ha_cons ⟨pe_str⟩ (ha_cons ⟨(pe_callTy call_tuple_of (by rfl) T.tuple boot_tuple (pa_cons (pe_comp rfl rfl (xs := ["_law_k"]) ⟨(by with_unfolding_all rfl), rfl, rfl, rfl, (by repeat (first | exact trivial | refine ⟨rfl, ?_⟩)), rfl⟩ (pi_range1 rfl T.range (pa_cons (pv 7) pa_nil)) (fun _ _ _ _ => (pg_name (i := 8) (by decide +kernel : (["_law_pot_here", "_law_place", "_law_breadth", "_law_power", "_law_way_here", "_law_odd", "_law_first", "_law_many", "_law_k"] : List Str).Nodup) rfl (Or.inl rfl))) (fun _ _ _ _ => pif_nil) (fun _ _ _ _ => (pe_op op_mod (pe_op op_add (pv 6) (pe_op op_mul (pv 8) (pv 5))) (pv 3)))) pa_nil))⟩ ha_nil))))))))
      hs_nil)
      (hs_cons (hs_if (PW.pt (pw_and (pt_cmpR op_lt (pv 4) pe_int (nomark _)) (pw_and1 (pt_cmpR op_gt (pv 1) pe_int (nomark _)))))
      (hs_one (hs_ret (he_tup (ha_cons ⟨pe_str⟩ (ha_cons ⟨(pe_call GPick (hr.mono (by decide)) rfl mPick FPick.kp bPick .nil pass0 (pa_cons (pv 0) (pa_cons (pv 1) pa_nil)))⟩ (ha_cons (he_ix ix_list (he_lst (ha_cons ⟨pe_int⟩ (ha_cons ⟨(pe_op op_sub (pe_call GPick (hr.mono (by decide)) rfl mPick FPick.kp bPick .nil pass0 (pa_cons (pv 0) (pa_cons pe_int pa_nil))) pe_int)⟩ ha_nil))) ⟨(pe_call GPick (hr.mono (by decide)) rfl mPick FPick.kp bPick .nil pass0 (pa_cons (pv 0) (pa_cons pe_int pa_nil)))⟩ (fun _ _ => rfl)) ha_nil))))))
      hs_nil)
      (hs_one (hs_ret (he_ix ix_list (he_lst (ha_cons (he_tup (ha_cons ⟨pe_str⟩ ha_nil)) (ha_cons (he_tup (ha_cons ⟨pe_str⟩ ha_nil)) ha_nil))) ⟨(pe_call GPick (hr.mono (by decide)) rfl mPick FPick.kp bPick .nil pass0 (pa_cons (pv 0) (pa_cons pe_int pa_nil)))⟩ (fun _ _ => rfl)))))))))), ?_⟩
    have hp := two_pow_pos b.toNat
    have h40 : (2 : Int) ^ b.toNat ≤ 2 ^ 40 := two_pow_mono (by omega)
    have h2 : (2 : Int) ^ 1 ≤ 2 ^ b.toNat := two_pow_mono (by omega)
    have h2' : (2 : Int) ^ 1 = 2 := by decide
    refine ⟨_, rfl, _, _, rfl, rfl, ⟨by omega, by omega, by decide⟩, ?_⟩
    refine ⟨_, rfl, p, qa, _, c, rfl, pot, by omega, by decide, by decide, fun w0 H1 a0 a1 pot1 k1 => ?_⟩
    refine ⟨_, rfl, _, _, rfl, rfl, _, rfl, ite2 (fun c1 => ?_) (fun c1 => ?_)⟩
    · -- step
      refine ⟨_, rfl, _, rfl, _, _, rfl, p, qa, _, _, rfl, pot1, by omega, by split <;> omega, by split <;> omega, fun d1 H2 e0 e1 pot2 k2 => ?_⟩
      refine ⟨_, rfl, _, rfl, p, qa, _, _, rfl, pot2, by omega, by omega, by omega, fun d2 H3 f0 f1 pot3 k3 => ⟨(by show 2 ≤ sizeLine; decide), fun l hl => ?_⟩⟩
      refine ⟨_, rfl, p, qa, _, _, rfl, pd_new pot3 hl, by omega, by decide, by decide, fun d3 H4 g0 g1 pot4 k4 => ?_⟩
      obtain ⟨z, hz, ez⟩ := atI_ints [d1, d2] d3 g0 g1
      obtain ⟨n1, n2⟩ := pd_ne pot3 hl
      refine ⟨l, _, _, _, rfl, rfl, SqL.of (k4 l _ upd_same n1 n2), ez, (by show 2 ≤ sizeLine; decide), fun t ht => ?_⟩
      refine q _ (.step z) _ _ (pd_new pot4 ht) (by omega) (b2_new (b2_trans (b2_new (b2_trans (b2_trans k1 k2) k3) hl) k4) ht) ⟨t, rfl, upd_same⟩ ?_
      simp only [List.mem_cons, List.not_mem_nil, or_false] at hz
      show 0 ≤ z ∧ z < 2 ^ b.toNat
      have : d1 < 2 ^ b.toNat := by split at e1 <;> omega
      rcases hz with rfl | rfl <;> omega
    refine ⟨_, rfl, rfl, _, rfl, ite2 (fun c2 => ?_) (fun c2 => ?_)⟩
    · -- turn
      refine ⟨_, rfl, p, qa, _, _, rfl, pot1, by omega, by decide, by decide, fun d1 H2 e0 e1 pot2 k2 => ?_⟩
      refine ⟨_, _, rfl, rfl, .inl ⟨by decide, by decide⟩, _, _, rfl, rfl, ?_⟩
      refine ⟨_, rfl, _, rfl, p, qa, _, _, rfl, pot2, by omega, by omega, by omega, fun d2 H3 f0 f1 pot3 k3 => ?_⟩
      refine ⟨_, rfl, _, rfl, p, qa, _, _, rfl, pot3, by omega, by decide, by decide, fun d3 H4 g0 g1 pot4 k4 => ?_⟩
      refine ⟨_, _, rfl, rfl, _, _, rfl, ?_⟩
      refine ⟨_, rfl, _, rfl, ?_, ?_, comp_range (k := (if 2 + d3 < 1 * (2 : Int) ^ b.toNat then 2 + d3 else 1 * 2 ^ b.toNat).toNat) (fun j ys H5 => H5 = H4 ∧ ys = (rowOf d2 (1 + 2 * d1) (1 * 2 ^ b.toNat) j).map V.int) (by split <;> omega) ⟨rfl, rfl⟩ (fun j ys H5 ⟨_, e⟩ => by rw [e, List.length_map, row_length]; exact Nat.le_refl _) ?_ ?_⟩
      · split <;> omega
      · split <;> omega
      · rintro j ys H5 hj ⟨rfl, rfl⟩
        have hj2 : (j : Int) < 20 := by
          have : (if 2 + d3 < 1 * (2 : Int) ^ b.toNat then 2 + d3 else 1 * 2 ^ b.toNat) ≤ 13 := by split <;> omega
          omega
        refine yesG ?_
        refine ⟨_, rfl, _, rfl, _, rfl, _, _, rfl, rfl, .inl ⟨by omega, by omega⟩, _, _, rfl, rfl, _, rfl, _, _, rfl, rfl, (by show (0 : Int) < 1 * 2 ^ b.toNat; omega), rfl, ?_⟩
        rw [row_snoc, List.map_append, Int.zero_add, Int.mul_comm (1 + 2 * d1) (j : Int)]
        rfl
      · rintro ys H5 ⟨rfl, rfl⟩ l3 hl3
        refine ⟨l3, _, rfl, .inl ⟨SqL.of upd_same, fun t2 ht2 => ⟨(by show 2 ≤ sizeLine; decide), fun t3 ht3 => ?_⟩⟩⟩
        have n3 := same_new (o := .tup [.str "turn", .ref t2]) (Same.refl _) ht3
        refine q _ (.turn (rowOf d2 (1 + 2 * d1) (1 * 2 ^ b.toNat) (if 2 + d3 < 1 * (2 : Int) ^ b.toNat then 2 + d3 else 1 * 2 ^ b.toNat).toNat)) _ _ (pd_new (pd_new (pd_new pot4 hl3) ht2) ht3) (by omega) (b2_new (b2_new (b2_new (b2_trans (b2_trans (b2_trans k1 k2) k3) k4) hl3) ht2) ht3) ⟨t3, t2, rfl, upd_same, n3 _ _ upd_same⟩ ?_
        rw [Int.one_mul]
        refine ⟨?_, ?_, row_nodup _ _ _ _ (by omega) ?_, row_bound _ _ _ _⟩
        · rw [row_length]
          split <;> omega
        · rw [row_length]
          split <;> omega
        · split <;> omega
    refine ⟨_, rfl, _, _, rfl, rfl, _, rfl, ite2 (fun c3 => ?_) (fun c3 => ?_)⟩
    · refine ⟨_, rfl, _, _, rfl, rfl, _, rfl, ite2 (fun c4 => ?_) (fun c4 => ?_)⟩
      · -- with
        have i2 : (0 : Int) < (i : Int) := of_decide_eq_true c4
        refine ⟨_, rfl, _, rfl, p, qa, _, _, rfl, pot1, by omega, by omega, by omega, fun d1 H2 e0 e1 pot2 k2 => ?_⟩
        refine ⟨_, rfl, p, qa, _, _, rfl, pot2, by omega, by decide, by decide, fun d2 H3 f0 f1 pot3 k3 => ?_⟩
        refine ⟨_, _, rfl, rfl, (by show 2 ≤ sizeLine; decide), fun l hl => ?_⟩
        refine ⟨_, rfl, p, qa, _, _, rfl, pd_new pot3 hl, by omega, by decide, by decide, fun d3 H4 g0 g1 pot4 k4 => ?_⟩
        obtain ⟨z, hz, ez⟩ := atI_ints [1, d2 - 99] d3 g0 g1
        obtain ⟨n1, n2⟩ := pd_ne pot3 hl
        refine ⟨l, _, _, _, rfl, rfl, SqL.of (k4 l _ upd_same n1 n2), ez, (by show 3 ≤ sizeLine; decide), fun t ht => ?_⟩
        refine q _ (.wth d1.toNat z) _ _ (pd_new pot4 ht) (by omega) (b2_new (b2_trans (b2_new (b2_trans (b2_trans k1 k2) k3) hl) k4) ht) ⟨t, rfl, ?_⟩ ?_
        · rw [show ((d1.toNat : Nat) : Int) = d1 by omega]
          exact upd_same
        · simp only [List.mem_cons, List.not_mem_nil, or_false] at hz
          show d1.toNat < i ∧ -99 ≤ z ∧ z ≤ 99
          rcases hz with rfl | rfl <;> omega
      · refine ⟨(by show 1 ≤ sizeLine; decide), fun t1 h1 => ⟨(by show 1 ≤ sizeLine; decide), fun t2 h2x => ⟨(by show 2 ≤ sizeLine; decide), fun l hl => ?_⟩⟩⟩
        have pn := pd_new (o := .lst [.ref t1, .ref t2]) (pd_new (o := .tup [.str "drawn"]) (pd_new (o := .tup [.str "still"]) pot1 h1) h2x) hl
        have bn := b2_new (o := .lst [.ref t1, .ref t2]) (b2_new (o := .tup [.str "drawn"]) (b2_new (o := .tup [.str "still"]) k1 h1) h2x) hl
        have m2 := same_new (o := .tup [.str "drawn"]) (Same.refl _) h2x
        have m3 := same_new (o := .lst [.ref t1, .ref t2]) (Same.refl _) hl
        refine ⟨_, rfl, p, qa, _, _, rfl, pn, by omega, by decide, by decide, fun d3 H4 g0 g1 pot4 k4 => ?_⟩
        obtain ⟨z, hz, ez⟩ := atI_mem [V.ref t1, .ref t2] d3 g0 g1
        obtain ⟨n1, n2⟩ := pd_ne (pd_new (o := .tup [.str "drawn"]) (pd_new (o := .tup [.str "still"]) pot1 h1) h2x) hl
        refine ⟨l, _, _, _, rfl, rfl, SqL.of (k4 l _ upd_same n1 n2), ez, ?_⟩
        have tp := b2_tup pn k4
        simp only [List.mem_cons, List.not_mem_nil, or_false] at hz
        rcases hz with rfl | rfl
        · exact q _ .still _ _ pot4 (by omega) (b2_trans bn k4) ⟨t1, rfl, tp _ _ (m3 _ _ (m2 _ _ upd_same))⟩ True.intro
        · exact q _ .drawn _ _ pot4 (by omega) (b2_trans bn k4) ⟨t2, rfl, tp _ _ (m3 _ _ upd_same)⟩ True.intro
    · refine iteF ?_
      refine ⟨(by show 1 ≤ sizeLine; decide), fun t1 h1 => ⟨(by show 1 ≤ sizeLine; decide), fun t2 h2x => ⟨(by show 2 ≤ sizeLine; decide), fun l hl => ?_⟩⟩⟩
      have pn := pd_new (o := .lst [.ref t1, .ref t2]) (pd_new (o := .tup [.str "drawn"]) (pd_new (o := .tup [.str "still"]) pot1 h1) h2x) hl
      have bn := b2_new (o := .lst [.ref t1, .ref t2]) (b2_new (o := .tup [.str "drawn"]) (b2_new (o := .tup [.str "still"]) k1 h1) h2x) hl
      have m2 := same_new (o := .tup [.str "drawn"]) (Same.refl _) h2x
      have m3 := same_new (o := .lst [.ref t1, .ref t2]) (Same.refl _) hl
      refine ⟨_, rfl, p, qa, _, _, rfl, pn, by omega, by decide, by decide, fun d3 H4 g0 g1 pot4 k4 => ?_⟩
      obtain ⟨z, hz, ez⟩ := atI_mem [V.ref t1, .ref t2] d3 g0 g1
      obtain ⟨n1, n2⟩ := pd_ne (pd_new (o := .tup [.str "drawn"]) (pd_new (o := .tup [.str "still"]) pot1 h1) h2x) hl
      refine ⟨l, _, _, _, rfl, rfl, SqL.of (k4 l _ upd_same n1 n2), ez, ?_⟩
      have tp := b2_tup pn k4
      simp only [List.mem_cons, List.not_mem_nil, or_false] at hz
      rcases hz with rfl | rfl
      · exact q _ .still _ _ pot4 (by omega) (b2_trans bn k4) ⟨t1, rfl, tp _ _ (m3 _ _ (m2 _ _ upd_same))⟩ True.intro
      · exact q _ .drawn _ _ pot4 (by omega) (b2_trans bn k4) ⟨t2, rfl, tp _ _ (m3 _ _ upd_same)⟩ True.intro
end
end K
namespace K
open PySem PyProof.Rows L2 Mth
theorem mulOk1 {z : Str} (hz : z.length = 1) {n : Int} (h1 : 1 ≤ n) (h8 : n ≤ 8) : MulOk z n := by
  have h : n = 1 ∨ n = 2 ∨ n = 3 ∨ n = 4 ∨ n = 5 ∨ n = 6 ∨ n = 7 ∨ n = 8 := by omega
  refine ⟨?_, fun _ _ => ?_, fun _ _ => ?_⟩
  · rcases h with rfl | rfl | rfl | rfl | rfl | rfl | rfl | rfl <;> decide
  · rw [hz]
    rcases h with rfl | rfl | rfl | rfl | rfl | rfl | rfl | rfl <;> decide
  · rw [hz]
    rcases h with rfl | rfl | rfl | rfl | rfl | rfl | rfl | rfl <;> decide
theorem b2_upd {p qa a : Addr} {H H' : Hp} {o : HO} (k : But2 p qa H H') (h : H a = none) : But2 p qa H (upd H' a o) := fun b u e h1 h2 => by
  rw [upd_ne (ne_of_none e h)]
  exact k b u e h1 h2
theorem b2_none {p qa a : Addr} {H H' : Hp} (k : But2 p qa H H') (h : H' a = none) (n1 : a ≠ p) (n2 : a ≠ qa) : H a = none := by
  cases e : H a with
  | none => rfl
  | some o =>
    have := k a o e n1 n2
    rw [h] at this
    cases this
theorem pd_upd {p qa a : Addr} {H : Hp} {c : Int} {o : HO} (h : PotD H p qa c) (n1 : a ≠ p) (n2 : a ≠ qa) : PotD (upd H a o) p qa c := by
  obtain ⟨own, l, sd, tn, h1, h2, r⟩ := h
  exact ⟨own, l, sd, tn, by rw [upd_ne (Ne.symm n1)]; exact h1, by rw [upd_ne (Ne.symm n2)]; exact h2, r⟩
def spShapeD : Sp := fun vs H Q _ => ∃ (p qa : Addr) (c : Int), vs = [.ref p] ∧ PotD H p qa c ∧ 0 ≤ c ∧ c < 2 ^ 29 ∧ ∀ (sh : Addr) (bs : List (Int × Kd)) (c' : Int) (H' : Hp), PotD H' p qa c' → c' ≤ c + 200 → But2 p qa H H' → ShapeAt H' sh bs → Q (.ref sh) H'
section
variable {P : Program} {w : World} {K : PySem.W.Frag} {mg : Str → Option Value} {base : Heap}
theorem scShape : FnScope ["_law_pot_here", "_law_fields", "_law_left", "_law_place", "_law_breadth", "_law_name"] ["_law_pot_here"] (defScope sShape) := ⟨rfl, rfl, rfl, by decide +kernel, rfl, by decide +kernel, by decide +kernel⟩
set_option maxHeartbeats 4000000 in
theorem ok_shapeD {f : Addr} {fd : FuncData} (F : Fun K "_law_shape" "_law_shape" sShape f fd) (T : Txt mg) {fPick fKind : Addr} {fdPick fdKind : FuncData} (FPick : Fun K "_law_pick" "_law_pick" sPick fPick fdPick) (bPick : Binds K fdPick ["_law_pot_here", "_law_many"] []) (mPick : mg "_law_pick" = some (.ref fPick)) (FKind : Fun K "_law_kind" "_law_kind" sKind fKind fdKind) (bKind : Binds K fdKind ["_law_pot_here", "_law_place", "_law_breadth"] []) (mKind : mg "_law_kind" = some (.ref fKind)) : FnOk P w K mg base CX0 3 f fd ["_law_pot_here"] spShapeD := by
  have GPick : FnOk P w K mg base CX0 1 fPick fdPick ["_law_pot_here", "_law_many"] spPick := ok_pick FPick
  have GKind : FnOk P w K mg base CX0 2 fKind fdKind ["_law_pot_here", "_law_place", "_law_breadth"] spKindD := ok_kindD FKind T FPick bPick mPick
  refine F.ok scShape (fun vs H Q E h => ?_) (fun cdv A outer s H vs Q E hr h => ?_)
  · obtain ⟨_, _, _, rfl, _⟩ := h
    rfl
  · obtain ⟨p, qa, c, rfl, pot, hc0, hc, q⟩ := h
    refine ⟨_, (Hid.out (hs_cons (hs_set (i := 1) scShape.nd rfl (Or.inl rfl) (he_lst ha_nil))
      (hs_cons (hs_set (i := 2) scShape.nd rfl (Or.inl rfl) ⟨pe_int⟩)
      (hs_cons (hs_for PassesOwn.never rfl (pi_range1 rfl T.range (pa_cons (pe_op op_add pe_int (pe_call GPick (hr.mono (by decide)) rfl mPick FPick.kp bPick .nil pass0 (pa_cons (pv 0) (pa_cons (pe_ix ix_list (pe_lst (pa_cons pe_int (pa_cons pe_int (pa_cons pe_int pa_nil)))) (pe_call GPick (hr.mono (by decide)) rfl mPick FPick.kp bPick .nil pass0 (pa_cons (pv 0) (pa_cons pe_int pa_nil))) (fun _ _ => rfl)) pa_nil)))) pa_nil)) (pg_name (i := 3) scShape.nd rfl (Or.inl rfl))
      (hs_cons (hs_set (i := 4) scShape.nd rfl (Or.inl rfl) ⟨(pe_op op_add pe_int (pe_call GPick (hr.mono (by decide)) rfl mPick FPick.kp bPick .nil pass0 (pa_cons (pv 0) (pa_cons (pe_ifExp (pt_cmpR op_gt (pv 2) pe_int (nomark _)) (pe_ix ix_list (pe_lst (pa_cons pe_int (pa_cons pe_int (pa_cons pe_int pa_nil)))) (pe_call GPick (hr.mono (by decide)) rfl mPick FPick.kp bPick .nil pass0 (pa_cons (pv 0) (pa_cons pe_int pa_nil))) (fun _ _ => rfl)) pe_int) pa_nil))))⟩)
      (hs_cons (hs_set (i := 2) scShape.nd rfl (Or.inl rfl) ⟨(pe_op op_sub (pv 2) (pv 4))⟩)
      (hs_cons (hs_set (i := 5) scShape.nd rfl (Or.inl rfl) ⟨(pe_op op_mul_str (pe_ix ix_str pe_str (pv 3) (fun _ _ => rfl)) (pe_op op_add pe_int (pe_call GPick (hr.mono (by decide)) rfl mPick FPick.kp bPick .nil pass0 (pa_cons (pv 0) (pa_cons pe_int pa_nil)))))⟩)
      (hs_one ⟨(ps_expr (pe_bm PySem.F.plainAttrs_list PySem.F.slot_list_append PySem.F.type_list_append mt_append (pv 1) (pa_cons (pe_tup (pa_cons (pv 5) (pa_cons (pv 4) (pa_cons (pe_call GKind (hr.mono (by decide)) rfl mKind FKind.kp bKind .nil pass0 (pa_cons (pv 0) (pa_cons (pv 3) (pa_cons (pv 4) pa_nil)))) pa_nil)))) pa_nil)))⟩)))))
      (hs_one (hs_ret (he_tup (ha_cons ⟨(pe_callTy call_tuple_of (by rfl) T.tuple boot_tuple (pa_cons (pv 1) pa_nil))⟩ (ha_cons (he_ix ix_list (he_lst (ha_cons ⟨pe_int⟩ (ha_cons ⟨pe_int⟩ (ha_cons ⟨(pe_op op_pow pe_int pe_int)⟩ (ha_cons ⟨(pe_op op_add pe_int (pe_call GPick (hr.mono (by decide)) rfl mPick FPick.kp bPick .nil pass0 (pa_cons (pv 0) (pa_cons pe_int pa_nil))))⟩ ha_nil))))) ⟨(pe_call GPick (hr.mono (by decide)) rfl mPick FPick.kp bPick .nil pass0 (pa_cons (pv 0) (pa_cons pe_int pa_nil)))⟩ (fun _ _ => rfl)) ha_nil))))))))), ?_⟩
    have hline := sizeLine_eq
    refine ⟨(by show 0 ≤ sizeLine; decide), fun fl hfl => ?_⟩
    obtain ⟨fp1, fp2⟩ := pd_ne pot hfl
    have pot1 := pd_new (o := .lst []) pot hfl
    have k1 : But2 p qa H (upd H fl (.lst [])) := b2_new (fun _ _ e _ _ => e) hfl
    refine ⟨_, rfl, (by show 3 ≤ sizeLine; decide), fun l1 hl1 => ?_⟩
    refine ⟨_, rfl, p, qa, _, _, rfl, pd_new pot1 hl1, by omega, by decide, by decide, fun d1 H2 a0 a1 pot2 k2 => ?_⟩
    obtain ⟨n1, n2⟩ := pd_ne pot1 hl1
    obtain ⟨m1, hm1, em1⟩ := atI_ints [2, 4, 12] d1 a0 a1
    refine ⟨l1, _, _, _, rfl, rfl, SqL.of (k2 l1 _ upd_same n1 n2), em1, ?_⟩
    have hm12 : 2 ≤ m1 ∧ m1 ≤ 12 := by
      simp only [List.mem_cons, List.not_mem_nil, or_false] at hm1
      rcases hm1 with rfl | rfl | rfl <;> omega
    refine ⟨p, qa, _, _, rfl, pot2, by omega, by omega, by omega, fun d2 H3 b0 b1 pot3 k3 => ?_⟩
    have k13 := b2_trans (b2_trans (b2_new k1 hl1) k2) k3
    have hfl3 : H3 fl = some (.lst []) := k3 _ _ (k2 _ _ ((same_new (o := .lst [.int 2, .int 4, .int 12]) (Same.refl _) hl1) _ _ upd_same) fp1 fp2) fp1 fp2
    refine ⟨_, _, rfl, rfl, _, rfl, by omega, by omega, for_range (fun j σ H4 => ∃ (left cj : Int) (v3 v4 v5 : Option V) (fr : List Addr) (bs : List (Int × Kd)), σ = [some (.ref p), some (.ref fl), some (.int left), v3, v4, v5] ∧ PotD H4 p qa cj ∧ cj ≤ c + 2 + 8 * (j : Int) ∧ But2 p qa H H4 ∧ H4 fl = some (.lst (fr.map V.ref)) ∧ FieldsAt H4 fr bs ∧ bs.length = j ∧ FsOk bs)
      ⟨_, _, _, _, _, [], [], rfl, pot3, by omega, k13, hfl3, True.intro, rfl, fun i h => (nomatch h)⟩ ?_ ?_⟩
    · rintro j σ H4 hj ⟨left, cj, v3, v4, v5, fr, bs, rfl, pot4, cu, k4, hfl4, hF, hbl, hb⟩
      have hj12 : j < 12 := by omega
      -- breadth
      refine ⟨_, rfl, _, rfl, _, _, rfl, rfl, _, rfl, ?_⟩
      obtain ⟨ch, _, ech⟩ := atI_mem ("abcdefghijkl" : Str).cps.toList (0 + (j : Int)) (by omega) (by show (0 : Int) + (j : Int) < 12; omega)
      refine ite2 (fun _ => ?_) (fun _ => ?_)
      · refine ⟨(by show 3 ≤ sizeLine; decide), fun l2 hl2 => ?_⟩
        refine ⟨_, rfl, p, qa, _, _, rfl, pd_new pot4 hl2, by omega, by decide, by decide, fun d7 H5 x0 x1 pot5 k5 => ?_⟩
        obtain ⟨n3, n4⟩ := pd_ne pot4 hl2
        obtain ⟨m2, hm2, em2⟩ := atI_ints [3, 8, 40] d7 x0 x1
        refine ⟨l2, _, _, _, rfl, rfl, SqL.of (k5 l2 _ upd_same n3 n4), em2, ?_⟩
        have hm22 : 3 ≤ m2 ∧ m2 ≤ 40 := by
          simp only [List.mem_cons, List.not_mem_nil, or_false] at hm2
          rcases hm2 with rfl | rfl | rfl <;> omega
        have k45 : But2 p qa H4 H5 := b2_trans (b2_new (fun _ _ e _ _ => e) hl2) k5
        refine ⟨p, qa, _, _, rfl, pot5, by omega, by omega, by omega, fun d3 H6 e0 e1 pot6 k6 => ?_⟩
        refine ⟨_, _, rfl, rfl, ?_⟩
        refine ⟨_, rfl, _, rfl, _, _, rfl, rfl, ?_⟩
        refine ⟨_, rfl, _, _, ch, rfl, rfl, (by decide), ech, ?_⟩
        refine ⟨_, rfl, p, qa, _, _, rfl, pot6, by omega, by decide, by decide, fun d4 H7 f0 f1 pot7 k7 => ?_⟩
        refine ⟨_, _, rfl, rfl, _, _, rfl, rfl, mulOk1 rfl (by omega) (by omega), ?_⟩
        have k67 := b2_trans k45 (b2_trans k6 k7)
        have hfl7 := k67 fl _ hfl4 fp1 fp2
        refine ⟨_, rfl, .inl ⟨rfl, _, SqL.of hfl7⟩, _, rfl, _, rfl, _, rfl, _, rfl, _, rfl, p, qa, j, 1 + d3, _, (by rw [Int.zero_add]; rfl), by omega, by omega, by omega, pot7, by omega, fun kd kdd c8 H8 pot8 hc8 k8 hkv hko => ?_⟩
        refine ⟨(by show 3 ≤ sizeLine; decide), fun t ht => ?_⟩
        have k78 := b2_trans k67 k8
        have hfl8 := k8 fl _ hfl7 fp1 fp2
        have st := same_new (o := .tup [.str (PySem.Txt.mul ⟨#[ch]⟩ (1 + d4)), .int (1 + d3), kd]) (Same.refl H8) ht
        have hfl9 := st _ _ hfl8
        have tf : t ≠ fl := (ne_of_none hfl8 ht).symm
        refine ⟨fl, _, _, rfl, rfl, hfl9, ?_, ?_⟩
        · have h1 := hF.len
          rw [List.length_map]
          omega
        have m8 : ∀ a xs, H8 a = some (.tup xs) → upd (upd H8 t (.tup [.str (PySem.Txt.mul ⟨#[ch]⟩ (1 + d4)), .int (1 + d3), kd])) fl (.lst (fr.map V.ref ++ [.ref t])) a = some (.tup xs) := fun a xs e => by
          have h2 := st _ _ e
          rw [upd_ne]
          · exact h2
          · intro z
            rw [z, hfl9] at h2
            cases h2
        refine ⟨_, c8, _, _, _, fr ++ [t], bs ++ [(1 + d3, kdd)], rfl, pd_upd (pd_new pot8 ht) fp1 fp2, ?_, b2_upd (b2_new (b2_trans k4 k78) ht) hfl, ?_, ?_, ?_, ?_⟩
        · push_cast
          omega
        · rw [upd_same, List.map_append]
          rfl
        · refine FieldsAt.snoc ⟨.str (PySem.Txt.mul ⟨#[ch]⟩ (1 + d4)), kd, ?_, hkv.mono m8⟩ (hF.mono fun a xs e => m8 a xs (b2_tup pot4 k78 _ _ e))
          rw [upd_ne tf]
          exact upd_same
        · rw [List.length_append, hbl]
          rfl
        · refine hb.snoc (by show 1 ≤ 1 + d3; omega) (by show 1 + d3 ≤ 40; omega) ?_
          rw [hbl]
          exact hko
      · have k45 : But2 p qa H4 H4 := fun _ _ e _ _ => e
        refine ⟨p, qa, _, _, rfl, pot4, by omega, by omega, by omega, fun d3 H6 e0 e1 pot6 k6 => ?_⟩
        refine ⟨_, _, rfl, rfl, ?_⟩
        refine ⟨_, rfl, _, rfl, _, _, rfl, rfl, ?_⟩
        refine ⟨_, rfl, _, _, ch, rfl, rfl, (by decide), ech, ?_⟩
        refine ⟨_, rfl, p, qa, _, _, rfl, pot6, by omega, by decide, by decide, fun d4 H7 f0 f1 pot7 k7 => ?_⟩
        refine ⟨_, _, rfl, rfl, _, _, rfl, rfl, mulOk1 rfl (by omega) (by omega), ?_⟩
        have k67 := b2_trans k45 (b2_trans k6 k7)
        have hfl7 := k67 fl _ hfl4 fp1 fp2
        refine ⟨_, rfl, .inl ⟨rfl, _, SqL.of hfl7⟩, _, rfl, _, rfl, _, rfl, _, rfl, _, rfl, p, qa, j, 1 + d3, _, (by rw [Int.zero_add]; rfl), by omega, by omega, by omega, pot7, by omega, fun kd kdd c8 H8 pot8 hc8 k8 hkv hko => ?_⟩
        refine ⟨(by show 3 ≤ sizeLine; decide), fun t ht => ?_⟩
        have k78 := b2_trans k67 k8
        have hfl8 := k8 fl _ hfl7 fp1 fp2
        have st := same_new (o := .tup [.str (PySem.Txt.mul ⟨#[ch]⟩ (1 + d4)), .int (1 + d3), kd]) (Same.refl H8) ht
        have hfl9 := st _ _ hfl8
        have tf : t ≠ fl := (ne_of_none hfl8 ht).symm
        refine ⟨fl, _, _, rfl, rfl, hfl9, ?_, ?_⟩
        · have h1 := hF.len
          rw [List.length_map]
          omega
        have m8 : ∀ a xs, H8 a = some (.tup xs) → upd (upd H8 t (.tup [.str (PySem.Txt.mul ⟨#[ch]⟩ (1 + d4)), .int (1 + d3), kd])) fl (.lst (fr.map V.ref ++ [.ref t])) a = some (.tup xs) := fun a xs e => by
          have h2 := st _ _ e
          rw [upd_ne]
          · exact h2
          · intro z
            rw [z, hfl9] at h2
            cases h2
        refine ⟨_, c8, _, _, _, fr ++ [t], bs ++ [(1 + d3, kdd)], rfl, pd_upd (pd_new pot8 ht) fp1 fp2, ?_, b2_upd (b2_new (b2_trans k4 k78) ht) hfl, ?_, ?_, ?_, ?_⟩
        · push_cast
          omega
        · rw [upd_same, List.map_append]
          rfl
        · refine FieldsAt.snoc ⟨.str (PySem.Txt.mul ⟨#[ch]⟩ (1 + d4)), kd, ?_, hkv.mono m8⟩ (hF.mono fun a xs e => m8 a xs (b2_tup pot4 k78 _ _ e))
          rw [upd_ne tf]
          exact upd_same
        · rw [List.length_append, hbl]
          rfl
        · refine hb.snoc (by show 1 ≤ 1 + d3; omega) (by show 1 + d3 ≤ 40; omega) ?_
          rw [hbl]
          exact hko
    · rintro σ H4 ⟨left, cj, v3, v4, v5, fr, bs, rfl, pot4, cu, k4, hfl4, hF, hbl, hb⟩
      refine ⟨_, rfl, fl, _, rfl, .inl ⟨SqL.of hfl4, fun ft hft => ?_⟩⟩
      have pot5 := pd_new (o := .tup (fr.map V.ref)) pot4 hft
      have s5 := same_new (o := .tup (fr.map V.ref)) (Same.refl H4) hft
      have k5 := b2_new (o := .tup (fr.map V.ref)) k4 hft
      refine ⟨_, _, rfl, rfl, ⟨by decide, by decide, by decide⟩, _, rfl, p, qa, _, _, rfl, pot5, by omega, by decide, by decide, fun d5 H6 g0 g1 pot6 k6 => ?_⟩
      refine ⟨_, _, rfl, rfl, (by show 4 ≤ sizeLine; decide), fun l3 hl3 => ?_⟩
      refine ⟨_, rfl, p, qa, _, _, rfl, pd_new pot6 hl3, by omega, by decide, by decide, fun d6 H7 h0 h1 pot7 k7 => ?_⟩
      obtain ⟨n3, n4⟩ := pd_ne pot6 hl3
      obtain ⟨m, hm, em⟩ := atI_ints [1, 2, 10 ^ (6 : Int).toNat, 1 + d5] d6 h0 h1
      refine ⟨l3, _, _, _, rfl, rfl, SqL.of (k7 l3 _ upd_same n3 n4), em, (by show 2 ≤ sizeLine; decide), fun sh hsh => ?_⟩
      have k67 := b2_trans (b2_new k6 hl3) k7
      have s9 := same_new (o := .tup [.ref ft, .int m]) (Same.refl H7) hsh
      have mono : ∀ a xs, H4 a = some (.tup xs) → upd H7 sh (.tup [.ref ft, .int m]) a = some (.tup xs) := fun a xs e => s9 _ _ (b2_tup pot5 k67 _ _ (s5 _ _ e))
      refine q sh bs _ _ (pd_new pot7 hsh) (by omega) (b2_new (b2_trans k5 k67) hsh) ⟨ft, fr, m, upd_same, s9 _ _ (b2_tup pot5 k67 _ _ upd_same), hF.mono mono, by omega, by omega, hb⟩
end
end K
namespace K
open PySem PyProof.Rows L2 Mth
theorem pd_same {p qa : Addr} {c : Int} {H H' : Hp} (h : PotD H p qa c) (s : Same H H') : PotD H' p qa c := by
  obtain ⟨own, l, sd, tn, h1, h2, r⟩ := h
  exact ⟨own, l, sd, tn, s _ _ h1, s _ _ h2, r⟩
theorem pd_nn {p qa : Addr} {c : Int} {H : Hp} (h : PotD H p qa c) : 0 ≤ c := by
  obtain ⟨own, l, sd, tn, h1, h2, h3, h4, h5, h6, h7, h8, h9⟩ := h
  omega
theorem b2_refl {p qa : Addr} {H : Hp} : But2 p qa H H := fun _ _ e _ _ => e
theorem b2_same {p qa : Addr} {H H1 H2 : Hp} (h : But2 p qa H H1) (s : Same H1 H2) : But2 p qa H H2 := fun b o e n1 n2 => s _ _ (h b o e n1 n2)
theorem yesS {σ : L2.St} {H : Hp} {A B : Hp → Prop} (h : A H) : tYes σ H fun b H3 => if b = true then A H3 else B H3 := (if_pos rfl : (if true = true then A H else B H) = A H).mpr h
theorem iteD {p A B : Prop} [Decidable p] (hp : p) (h : A) : if decide p = true then A else B := by rw [decide_eq_true hp]; exact iteT h
theorem iteDN {p A B : Prop} [Decidable p] (hp : ¬ p) (h : B) : if decide p = true then A else B := by rw [decide_eq_false hp]; exact iteF h
theorem get_map {α β : Type} {f : α → β} {xs : List α} {j : Nat} {x : β} (h : (xs.map f)[j]? = some x) : ∃ hj : j < xs.length, x = f xs[j] := by
  rw [List.getElem?_map] at h
  cases e : xs[j]? with
  | none => rw [e] at h; cases h
  | some v =>
    rw [e] at h
    obtain ⟨hj, rfl⟩ := List.getElem?_eq_some_iff.mp e
    exact ⟨hj, (Option.some.inj h).symm⟩
theorem all_rep : ∀ n : Nat, (List.replicate n true).all id = true
  | 0 => rfl
  | n + 1 => by rw [List.replicate_succ, List.all_cons, all_rep n]; rfl
theorem atI0 {x : V} {xs : List V} : atI (x :: xs) (0 : Int) = some x := atI_nat (xs := x :: xs) (j := 0) rfl
end K
namespace K
open PySem PyProof.Rows L2 Mth
theorem join_ok (ts : List Str) (h : ∀ a ∈ ts, a.length = 1) (hl : ts.length ≤ 1000000) : JoinOk (Str.ofString "") ts = true := by
  refine joinOk_of ?_
  rw [sumLen_of_ones ts h]
  have z : (Str.ofString "").length = 0 := by decide
  rw [z]
  omega

def one (c : Nat) : Str := ⟨#[c]⟩
theorem joins_one : ∀ cs : List Nat, (Str.join (Str.ofString "") (cs.map one)).cps.toList = cs
  | [] => rfl
  | [c] => rfl
  | c :: d :: r => by
    show (one c ++ Str.ofString "" ++ Str.join (Str.ofString "") ((d :: r).map one)).cps.toList = _
    rw [PySem.W.KT.app_list, PySem.W.KT.app_list, joins_one (d :: r)]
    rfl
theorem str_ext {a b : Str} (h : a.cps.toList = b.cps.toList) : a = b := by
  cases a; cases b
  congr 1
  exact Array.ext' h
theorem join_one (cs : List Nat) : PySem.Txt.join (Str.ofString "") (cs.map one) = ⟨cs.toArray⟩ := by
  refine str_ext ?_
  show (Builtin.Str.glued (Str.ofString "") (cs.map one)).cps.toList = _
  rw [StrLaws.glued_eq_join, joins_one]
/-- the text of a number's places, the greatest first -/
def Tx (n : Int) (w : Nat) : Str := ⟨(Ds n w).reverse.toArray⟩
def Bits (z : Str) : Prop := ∀ c ∈ z.cps.toList, c = 48 ∨ c = 49
theorem Tx_bits (n : Int) (w : Nat) : Bits (Tx n w) := fun c hc => by
  have h : c ∈ Ds n w := by simpa [Tx] using hc
  obtain ⟨p, _, rfl⟩ := List.mem_map.mp h
  exact dig_bit n p
theorem Tx_length (n : Int) (w : Nat) : (Tx n w).cps.size = w := by simp [Tx, Ds_length]
def spBitsOf : Sp := fun vs H Q _ => ∃ n w : Int, vs = [.int n, .int w] ∧ 0 ≤ w ∧ w ≤ 1000 ∧ ∀ H', Same H H' → Q (.str (Tx n w.toNat)) H'
theorem str_bit (m : Int) (p : Nat) : Str.ofString (toString (Builtin.bitAnd (m / 2 ^ p) 1)) = one (dig m p) := by
  rw [PyProof.Rows.bitAnd_m1]
  unfold dig
  have h : m / 2 ^ p % 2 = 0 ∨ m / 2 ^ p % 2 = 1 := by omega
  rcases h with h | h
  · rw [h, if_neg (by decide)]; rfl
  · rw [h, if_pos rfl]; rfl
theorem Tx_succ (n : Int) (i : Nat) : Tx n (i + 1) = one (dig n i) ++ Tx n i := by
  refine str_ext ?_
  rw [PySem.W.KT.app_list]
  simp [Tx, Ds_snoc, one]
theorem str_mod (m : Int) : Str.ofString (toString (m % 2)) = one (dig m 0) := by
  unfold dig
  have h : m % 2 = 0 ∨ m % 2 = 1 := by omega
  rw [Int.pow_zero, Int.ediv_one]
  rcases h with h | h
  · rw [h, if_neg (by decide)]; rfl
  · rw [h, if_pos rfl]; rfl
theorem dig_div (n : Int) : ∀ i : Nat, dig (n / 2 ^ i) 0 = dig n i := by
  intro i
  unfold dig
  rw [Int.pow_zero, Int.ediv_one]
theorem div_div2 (n : Int) (i : Nat) : n / 2 ^ i / 2 = n / 2 ^ (i + 1) := by
  rw [Int.ediv_ediv_of_nonneg (by have := two_pow_pos i; omega), Int.pow_succ]
theorem Wid_inj {m : Int} {a b : Nat} (h1 : Wid m a) (h2 : Wid m b) : a = b := by
  obtain ⟨x1, x2⟩ := h1
  obtain ⟨y1, y2⟩ := h2
  rcases Nat.lt_trichotomy a b with h | h | h
  · exfalso
    rcases y2 with y | y
    · omega
    · have := two_pow_mono (show a ≤ b - 1 by omega)
      omega
  · exact h
  · exfalso
    rcases x2 with x | x
    · omega
    · have := two_pow_mono (show b ≤ a - 1 by omega)
      omega
theorem Wid_le {m : Int} {a : Nat} (h1 : Wid m a) (k : Nat) (hm : m ≤ 2 ^ k) : a ≤ k := by
  obtain ⟨x1, x2⟩ := h1
  rcases x2 with x | x
  · omega
  · rcases Nat.lt_or_ge k a with h | h
    · have := two_pow_mono (show k ≤ a - 1 by omega)
      omega
    · exact h
def spRestOf : Sp := fun vs H Q _ => ∃ n w : Int, vs = [.int n, .int w] ∧ 0 ≤ w ∧ w ≤ 1000000 ∧ Q (.int (n % 2 ^ w.toNat)) H
def spWidthFor : Sp := fun vs H Q _ => ∃ m : Int, vs = [.int m] ∧ 1 ≤ m ∧ ∀ w : Nat, Wid m w → Q (.int w) H
def spBits : Sp := fun vs H Q _ => ∃ n w : Int, vs = [.int n, .int w] ∧ 0 ≤ w ∧ w ≤ 1000 ∧ Q (.str (Tx n w.toNat)) H
section
variable {P : Program} {w : World} {K : PySem.W.Frag} {mg : Str → Option Value} {base : Heap}
theorem scBitsOf : FnScope ["number", "width"] ["number", "width"] (defScope sBitsOf) := ⟨rfl, rfl, rfl, by decide +kernel, rfl, by decide +kernel, by decide +kernel⟩
theorem ok_bitsof {f : Addr} {fd : FuncData} (F : Fun K "bits_of" "bits_of" sBitsOf f fd) (T : Txt mg) : FnOk P w K mg base CX0 1 f fd ["number", "width"] spBitsOf := by
  refine F.ok scBitsOf (fun vs H Q E h => ?_) (fun cdv A outer s H vs Q E hr h => ?_)
  · obtain ⟨_, _, rfl, _⟩ := h
    rfl
  · obtain ⟨n, w, rfl, h0, h1, q⟩ := h
    refine ⟨_, (pss_one (ps_ret (pe_bm PySem.F.plainAttrs_str PySem.F.slot_str_join PySem.F.type_str_join mt_join pe_str (pa_cons (pe_comp rfl rfl (xs := ["place"]) ⟨(by with_unfolding_all rfl), rfl, rfl, rfl, (by repeat (first | exact trivial | refine ⟨rfl, ?_⟩)), rfl⟩ (pi_rev rfl T.reversed (pe_callTy call_rng (by rfl) T.range boot_range (pa_cons (pv 1) pa_nil))) (fun _ _ _ _ => (pg_name (i := 2) (by decide +kernel : (["number", "width", "place"] : List Str).Nodup) rfl (Or.inl rfl))) (fun _ _ _ _ => pif_nil) (fun _ _ _ _ => (pe_callTy call_str_int (by rfl) T.str boot_str (pa_cons (pe_op op_and (pe_op op_shr (pv 0) (pv 2)) pe_int) pa_nil)))) pa_nil)))), ?_⟩
    refine ⟨rfl, _, rfl, w, rfl, h0, by omega, fun r hr => ⟨r, w, rfl, upd_same, h0, by omega, ?_⟩⟩
    refine comp_f (k := w.toNat) (fun i ys H2 => H2 = upd H r (.rng 0 w) ∧ ys = ((List.range i).map fun j => one (dig n (w.toNat - 1 - j))).map V.str) (by omega) ⟨rfl, rfl⟩ (fun i ys H2 ⟨_, e⟩ => by rw [e]; simp) ?_ ?_
    · rintro i ys H2 hi ⟨rfl, rfl⟩
      refine yesG ?_
      refine ⟨_, rfl, _, rfl, _, _, rfl, rfl, (by show (0 : Int) ≤ w - 1 - i; omega), _, _, rfl, rfl, _, rfl, ?_, rfl, ?_⟩
      · rw [PyProof.Rows.bitAnd_m1]
        have h2 : (n / 2 ^ (w - 1 - (i : Int)).toNat % 2).natAbs ≤ 1 := by omega
        have h3 : (n / 2 ^ (w - 1 - (i : Int)).toNat % 2).natAbs < 2 ^ 1920 := Nat.lt_of_le_of_lt h2 (by decide)
        by_cases hz : (n / 2 ^ (w - 1 - (i : Int)).toNat % 2).natAbs = 0
        · rw [hz]; decide
        · exact (Nat.log2_lt hz).mpr h3
      · rw [List.range_succ, List.map_append, List.map_append]
        have e : (w - 1 - (i : Int)).toNat = w.toNat - 1 - i := by omega
        show _ ++ [V.str (Str.ofString (toString (Builtin.bitAnd (n / 2 ^ (w - 1 - (i : Int)).toNat) 1)))] = _
        rw [str_bit, e]
        rfl
    · rintro ys H2 ⟨rfl, rfl⟩ l hl
      refine ⟨_, l, (List.range w.toNat).map fun j => one (dig n (w.toNat - 1 - j)), rfl, rfl, SqL.of upd_same, join_ok _ (fun a ha => ?_) (by simp; omega), ?_⟩
      · obtain ⟨j, _, rfl⟩ := List.mem_map.mp ha
        rfl
      · have e : (List.range w.toNat).map (fun j => one (dig n (w.toNat - 1 - j))) = ((Ds n w.toNat).reverse).map one := by
          rw [← rev_range, List.map_map]
          rfl
        rw [e, join_one]
        exact q _ (same_new (same_new (Same.refl H) hr) hl)
theorem scRestOf : FnScope ["number", "width"] ["number", "width"] (defScope sRestOf) := ⟨rfl, rfl, rfl, by decide +kernel, rfl, by decide +kernel, by decide +kernel⟩
theorem ok_restof {f : Addr} {fd : FuncData} (F : Fun K "rest_of" "rest_of" sRestOf f fd) : FnOk P w K mg base CX0 1 f fd ["number", "width"] spRestOf := by
  refine F.ok scRestOf (fun vs H Q E h => ?_) (fun cdv A outer s H vs Q E hr h => ?_)
  · obtain ⟨n, w, rfl, _⟩ := h
    rfl
  · obtain ⟨n, w, rfl, h0, h1, q⟩ := h
    refine ⟨_, (pss_one (ps_ret (pe_op op_mod (pv 0) (pe_op op_shl pe_int (pv 1))))), ?_⟩
    have hp := two_pow_pos w.toNat
    refine ⟨_, rfl, _, rfl, _, _, rfl, rfl, ⟨h0, h1, by decide⟩, _, _, rfl, rfl, (by show (0 : Int) < 1 * 2 ^ w.toNat; omega), ?_⟩
    show Q (.int (n % (1 * 2 ^ w.toNat))) H
    rw [Int.one_mul]
    exact q
theorem scBits : FnScope ["_law_number", "_law_width_here", "_law_told", "_law_k"] ["_law_number", "_law_width_here"] (defScope sBits) := ⟨rfl, rfl, rfl, by decide +kernel, rfl, by decide +kernel, by decide +kernel⟩
theorem ok_lbits {f : Addr} {fd : FuncData} (F : Fun K "_law_bits" "_law_bits" sBits f fd) (T : Txt mg) : FnOk P w K mg base CX0 1 f fd ["_law_number", "_law_width_here"] spBits := by
  refine F.ok scBits (fun vs H Q E h => ?_) (fun cdv A outer s H vs Q E hr h => ?_)
  · obtain ⟨_, _, rfl, _⟩ := h
    rfl
  · obtain ⟨n, w, rfl, h0, h1, q⟩ := h
    refine ⟨_, (pss_cons (ps_set (i := 2) scBits.nd rfl (Or.inl rfl) pe_str)
      (pss_cons (ps_for PassesOwn.never rfl (pi_range1 rfl T.range (pa_cons (pv 1) pa_nil)) (pg_name (i := 3) scBits.nd rfl (Or.inl rfl))
      (pss_cons (ps_set (i := 2) scBits.nd rfl (Or.inl rfl) (pe_op op_add_str (pe_callTy call_str_int (by rfl) T.str boot_str (pa_cons (pe_op op_mod (pv 0) pe_int) pa_nil)) (pv 2)))
      (pss_one (ps_set (i := 0) scBits.nd rfl (Or.inl rfl) (pe_op op_fdiv (pv 0) pe_int)))))
      (pss_one (ps_ret (pv 2))))), ?_⟩
    refine ⟨_, rfl, _, rfl, by omega, by omega, for_range (fun i σ H2 => ∃ v3, σ = [some (.int (n / 2 ^ i)), some (.int w), some (.str (Tx n i)), v3] ∧ H2 = H) ⟨none, by rw [Int.pow_zero, Int.ediv_one]; rfl, rfl⟩ ?_ ?_⟩
    · rintro i σ H2 hi ⟨v3, rfl, rfl⟩
      refine ⟨_, rfl, _, _, rfl, rfl, (by show (0 : Int) < 2; decide), _, rfl, ?_, _, rfl, _, _, rfl, rfl, ?_, ?_⟩
      · have h2 : (n / 2 ^ i % 2).natAbs ≤ 1 := by omega
        have h3 : (n / 2 ^ i % 2).natAbs < 2 ^ 1920 := Nat.lt_of_le_of_lt h2 (by decide)
        by_cases hz : (n / 2 ^ i % 2).natAbs = 0
        · rw [hz]; decide
        · exact (Nat.log2_lt hz).mpr h3
      · rw [str_mod]
        have hl2 : (Tx n i).length = i := Tx_length n i
        have h3 : (one (dig (n / 2 ^ i) 0)).length = 1 := rfl
        rw [hl2, h3]
        have := sizeLine_eq
        omega
      · refine ⟨_, rfl, _, _, rfl, rfl, ⟨by decide, by decide⟩, some (.int (0 + (i : Int))), ?_, rfl⟩
        rw [str_mod, dig_div, ← Tx_succ, ← div_div2]
        rfl
    · rintro σ H2 ⟨v3, rfl, rfl⟩
      exact ⟨_, rfl, q⟩
end
end K
namespace K
open PySem PyProof.Rows L2 Mth
/-- how much of a field goes into a letter -/
inductive Wy where
  | keep | low (w b : Int) | whole
def WayV (H : Hp) (v : V) : Wy → Prop
  | .keep => ∃ t, v = .ref t ∧ H t = some (.tup [.str "keep"])
  | .low w b => ∃ t, v = .ref t ∧ H t = some (.tup [.str "low", .int w, .int b])
  | .whole => ∃ t, v = .ref t ∧ H t = some (.tup [.str "whole"])
def WyOk (b : Int) : Wy → Prop
  | .keep => True
  | .low w d => 1 ≤ w ∧ w ≤ b ∧ 0 ≤ d ∧ d < 2 ^ w.toNat
  | .whole => True
theorem WayV.mono {H H' : Hp} {v : V} (k : ∀ a xs, H a = some (.tup xs) → H' a = some (.tup xs)) : ∀ {d : Wy}, WayV H v d → WayV H' v d
  | .keep, ⟨t, e, h⟩ => ⟨t, e, k _ _ h⟩
  | .low _ _, ⟨t, e, h⟩ => ⟨t, e, k _ _ h⟩
  | .whole, ⟨t, e, h⟩ => ⟨t, e, k _ _ h⟩
def WaysAt (H : Hp) (ws : List V) (ys : List Wy) : Prop := ws.length = ys.length ∧ ∀ (i : Nat) (h1 : i < ws.length) (h2 : i < ys.length), WayV H ws[i] ys[i]
theorem WaysAt.mono {H H' : Hp} {ws : List V} {ys : List Wy} (k : ∀ a xs, H a = some (.tup xs) → H' a = some (.tup xs)) (h : WaysAt H ws ys) : WaysAt H' ws ys := ⟨h.1, fun i h1 h2 => (h.2 i h1 h2).mono k⟩
theorem WaysAt.snoc {H : Hp} {ws : List V} {ys : List Wy} {v : V} {y : Wy} (h : WaysAt H ws ys) (e : WayV H v y) : WaysAt H (ws ++ [v]) (ys ++ [y]) := by
  refine ⟨by rw [List.length_append, List.length_append, h.1]; rfl, fun i h1 h2 => ?_⟩
  by_cases hlt : i < ws.length
  · rw [List.getElem_append_left hlt, List.getElem_append_left (by have := h.1; omega)]
    exact h.2 i hlt (by have := h.1; omega)
  · have e2 : i = ws.length := by
      rw [List.length_append] at h1
      have : [v].length = 1 := rfl
      omega
    subst e2
    rw [List.getElem_append_right (Nat.le_refl _), List.getElem_append_right (by rw [h.1]; exact Nat.le_refl _)]
    simp only [Nat.sub_self, List.getElem_cons_zero, h.1]
    exact e
/-- the form (r, c, ways) at f -/
def FormAt (H : Hp) (f : Addr) (r c : Int) (ys : List Wy) : Prop := ∃ (wt : Addr) (ws : List V), H f = some (.tup [.int r, .int c, .ref wt]) ∧ H wt = some (.tup ws) ∧ WaysAt H ws ys
theorem FormAt.mono {H H' : Hp} {f : Addr} {r c : Int} {ys : List Wy} (k : ∀ a xs, H a = some (.tup xs) → H' a = some (.tup xs)) (h : FormAt H f r c ys) : FormAt H' f r c ys := by
  obtain ⟨wt, ws, e1, e2, e3⟩ := h
  exact ⟨wt, ws, k _ _ e1, k _ _ e2, e3.mono k⟩
/-- a shape of these breadths with the check's number m -/
def ShB (H : Hp) (sh : Addr) (bs : List Int) (m : Int) : Prop := ∃ (ft : Addr) (fr : List Addr), H sh = some (.tup [.ref ft, .int m]) ∧ H ft = some (.tup (fr.map V.ref)) ∧ fr.length = bs.length ∧ (∀ (i : Nat) (h1 : i < fr.length) (h2 : i < bs.length), ∃ nm kd, H fr[i] = some (.tup [nm, .int bs[i], kd])) ∧ 1 ≤ bs.length ∧ bs.length ≤ 12 ∧ ∀ b ∈ bs, 1 ≤ b ∧ b ≤ 40
theorem ShB.mono {H H' : Hp} {sh : Addr} {bs : List Int} {m : Int} (k : ∀ a xs, H a = some (.tup xs) → H' a = some (.tup xs)) (h : ShB H sh bs m) : ShB H' sh bs m := by
  obtain ⟨ft, fr, h1, h2, h3, h4, h5⟩ := h
  refine ⟨ft, fr, k _ _ h1, k _ _ h2, h3, fun i a b => ?_, h5⟩
  obtain ⟨nm, kd, e⟩ := h4 i a b
  exact ⟨nm, kd, k _ _ e⟩
def WsB (bs : List Int) (ys : List Wy) : Prop := ys.length = bs.length ∧ ∀ (i : Nat) (h1 : i < bs.length) (h2 : i < ys.length), WyOk bs[i] ys[i]
/-- a field's width by a way -/
def wW (b : Int) : Wy → Int
  | .keep => 0
  | .low w _ => w
  | .whole => b
theorem wW_ok {b : Int} (h0 : 1 ≤ b) (h1 : b ≤ 40) : ∀ {y : Wy}, WyOk b y → 0 ≤ wW b y ∧ wW b y ≤ 40
  | .keep, _ => ⟨by show (0 : Int) ≤ 0; decide, by show (0 : Int) ≤ 40; decide⟩
  | .low w d, h => ⟨by show 0 ≤ w; have := h.1; omega, by show w ≤ 40; have := h.2.1; omega⟩
  | .whole, _ => ⟨by show 0 ≤ b; omega, h1⟩
def Wds (bs : List Int) (ys : List Wy) : List Int := List.zipWith wW bs ys
theorem Wds_len {bs : List Int} {ys : List Wy} (h : ys.length = bs.length) : (Wds bs ys).length = bs.length := by
  unfold Wds
  rw [List.length_zipWith, h, Nat.min_self]
theorem Wds_get {bs : List Int} {ys : List Wy} {i : Nat} (h1 : i < bs.length) (h2 : i < ys.length) (h3 : i < (Wds bs ys).length) : (Wds bs ys)[i] = wW bs[i] ys[i] := by
  exact List.getElem_zipWith ..
theorem Wds_ok {bs : List Int} {ys : List Wy} (hb : ∀ b ∈ bs, 1 ≤ b ∧ b ≤ 40) (h : WsB bs ys) : ∀ w ∈ Wds bs ys, 0 ≤ w ∧ w ≤ 40 := by
  intro w hw
  obtain ⟨i, hi, rfl⟩ := List.mem_iff_getElem.mp hw
  have hl := Wds_len h.1
  have h1 : i < bs.length := by omega
  have h2 : i < ys.length := by have := h.1; omega
  rw [Wds_get h1 h2]
  have := hb bs[i] (List.getElem_mem h1)
  exact wW_ok this.1 this.2 (h.2 i h1 h2)
/-- the bits of values by widths, one text each -/
def PcL (vals ws : List Int) : List Str := List.zipWith (fun v w => Tx (v % 2 ^ w.toNat) w.toNat) vals ws
/-- texts one behind another -/
def cat (ts : List Str) : Str := ts.foldl (· ++ ·) (Str.ofString "")
theorem cat_aux : ∀ (ts : List Str) (z : Str), (ts.foldl (· ++ ·) z).cps.toList = z.cps.toList ++ (ts.map (·.cps.toList)).flatten
  | [], z => by simp
  | t :: r, z => by
    rw [List.foldl_cons, cat_aux r, PySem.W.KT.app_list]
    simp
theorem cat_list (ts : List Str) : (cat ts).cps.toList = (ts.map (·.cps.toList)).flatten := by
  unfold cat
  rw [cat_aux]
  rfl
theorem cat_snoc (ts : List Str) (t : Str) : cat (ts ++ [t]) = cat ts ++ t := by
  unfold cat
  rw [List.foldl_append]
  rfl
theorem joins_list : ∀ ts : List Str, (Str.join (Str.ofString "") ts).cps.toList = (ts.map (·.cps.toList)).flatten
  | [] => rfl
  | [t] => by
    show t.cps.toList = _
    simp
  | t :: d :: r => by
    show (t ++ Str.ofString "" ++ Str.join (Str.ofString "") (d :: r)).cps.toList = _
    rw [PySem.W.KT.app_list, PySem.W.KT.app_list, joins_list (d :: r)]
    show t.cps.toList ++ [] ++ _ = _
    simp
theorem join_cat (ts : List Str) : PySem.Txt.join (Str.ofString "") ts = cat ts := by
  refine str_ext ?_
  show (Builtin.Str.glued (Str.ofString "") ts).cps.toList = _
  rw [StrLaws.glued_eq_join, joins_list, cat_list]
theorem cat_len : ∀ ts : List Str, (cat ts).cps.size = (ts.map fun t => t.cps.size).sum := by
  intro ts
  rw [← Array.length_toList, cat_list, List.length_flatten, List.map_map]
  rfl
theorem sum_bound (ts : List Str) (h : ∀ t ∈ ts, t.cps.size ≤ 1000) : (ts.map fun t => t.cps.size).sum ≤ 1000 * ts.length := by
  induction ts with
  | nil => exact Nat.le_refl _
  | cons t r ih =>
    rw [List.map_cons, List.sum_cons, List.length_cons]
    have h1 := h t (by simp)
    have h2 := ih fun u hu => h u (List.mem_cons_of_mem _ hu)
    omega
theorem joinB (ts : List Str) (h : ∀ t ∈ ts, t.cps.size ≤ 1000) (hl : ts.length ≤ 1000) : JoinOk (Str.ofString "") ts = true := by
  refine joinOk_of ?_
  have z : (Str.ofString "").length = 0 := by decide
  rw [z, Nat.mul_zero, Nat.add_zero]
  have := sum_bound ts h
  exact Nat.le_trans this (by omega)
def wsum (k : Int) : List Int → Int
  | [] => 0
  | v :: r => k * v + wsum (k + 1) r
theorem wsum_snoc (v : Int) : ∀ (vs : List Int) (k : Int), wsum k (vs ++ [v]) = wsum k vs + (k + vs.length) * v
  | [], k => by simp [wsum]
  | a :: r, k => by
    rw [List.cons_append, wsum, wsum_snoc v r (k + 1), wsum, List.length_cons]
    push_cast
    rw [show k + 1 + (r.length : Int) = k + ((r.length : Int) + 1) by omega]
    omega
def spBreadths : Sp := fun vs H Q _ => ∃ (sh : Addr) (bs : List Int) (m : Int), vs = [.ref sh] ∧ ShB H sh bs m ∧ ∀ (l : Addr) (H' : Hp), Same H H' → H' l = some (.lst (bs.map V.int)) → Q (.ref l) H'
def spWidthOf : Sp := fun vs H Q _ => ∃ (v : V) (b : Int) (y : Wy), vs = [v, .int b] ∧ WayV H v y ∧ Q (.int (wW b y)) H
def spWidths : Sp := fun vs H Q _ => ∃ (sh f : Addr) (bs : List Int) (m r c : Int) (ys : List Wy), vs = [.ref sh, .ref f] ∧ ShB H sh bs m ∧ FormAt H f r c ys ∧ ys.length = bs.length ∧ ∀ (l : Addr) (H' : Hp), Same H H' → H' l = some (.lst ((Wds bs ys).map V.int)) → Q (.ref l) H'
def spPieces : Sp := fun vs H Q _ => ∃ (sh f hd : Addr) (bs : List Int) (m r c : Int) (ys : List Wy) (vals : List Int), vs = [.ref sh, .ref f, .ref hd] ∧ ShB H sh bs m ∧ FormAt H f r c ys ∧ WsB bs ys ∧ H hd = some (.tup (vals.map V.int)) ∧ vals.length = bs.length ∧ ∀ H', Same H H' → Q (.str (cat (PcL vals (Wds bs ys)))) H'
def spSizeOf : Sp := fun vs H Q _ => ∃ (sh f : Addr) (bs : List Int) (m r c : Int) (ys : List Wy), vs = [.ref sh, .ref f] ∧ ShB H sh bs m ∧ FormAt H f r c ys ∧ WsB bs ys ∧ ∀ H', Same H H' → Q (.int (Wds bs ys).sum) H'
def spCheckOf : Sp := fun vs H Q _ => ∃ (sh hd : Addr) (n m : Int) (bs vals : List Int), vs = [.ref sh, .int n, .ref hd] ∧ ShB H sh bs m ∧ 1 ≤ m ∧ H hd = some (.tup (vals.map V.int)) ∧ vals.length ≤ 12 ∧ (∀ v ∈ vals, 0 ≤ v ∧ v < 2 ^ 40) ∧ ∀ H', Same H H' → Q (.int ((n + wsum 2 vals) % m)) H'
section
variable {P : Program} {w : World} {K : PySem.W.Frag} {mg : Str → Option Value} {base : Heap}
theorem scBreadths : FnScope ["shape"] ["shape"] (defScope sBreadths) := ⟨rfl, rfl, rfl, by decide +kernel, rfl, by decide +kernel, by decide +kernel⟩
theorem ok_breadths {f : Addr} {fd : FuncData} (F : Fun K "breadths" "breadths" sBreadths f fd) (T : Txt mg) : FnOk P w K mg base CX0 1 f fd ["shape"] spBreadths := by
  refine F.ok scBreadths (fun vs H Q E h => ?_) (fun cdv A outer s H vs Q E hr h => ?_)
  · obtain ⟨_, _, _, rfl, _⟩ := h
    rfl
  · obtain ⟨sh, bs, m, rfl, hsh, q⟩ := h
    obtain ⟨ft, fr, e1, e2, hfl, e3, e4, e5, e6⟩ := id hsh
    refine ⟨_, (pss_one (ps_ret (pe_comp rfl rfl (xs := ["field"]) ⟨(by with_unfolding_all rfl), rfl, rfl, rfl, (by repeat (first | exact trivial | refine ⟨rfl, ?_⟩)), rfl⟩ (pi_tup (pe_ix ix_tup (pv 0) pe_int (fun _ _ => rfl))) (fun _ _ _ _ => (pg_name (i := 1) (by decide +kernel : (["shape", "field"] : List Str).Nodup) rfl (Or.inl rfl))) (fun _ _ _ _ => pif_nil) (fun _ _ _ _ => (pe_ix (ix_tupK (K := K) rfl) (pv 1) pe_int (fun _ _ => rfl)))))), ?_⟩
    refine ⟨_, rfl, sh, _, _, _, rfl, rfl, SqT.of e1, rfl, ft, rfl, ⟨_, SqT.of e2⟩, comp_tup (xs := fr.map V.ref) (fun j ys H1 => H1 = H ∧ ys = (bs.take j).map V.int) (by rw [List.length_map]; omega) ⟨rfl, by simp⟩ (fun j ys H1 ⟨z, _⟩ => by rw [z]; exact SqT.of e2) (fun j ys H1 ⟨_, z⟩ => by rw [z, List.length_map, List.length_take]; omega) ?_ ?_⟩
    · rintro j x ys H1 hx ⟨rfl, rfl⟩
      obtain ⟨hj, rfl⟩ := get_map hx
      have hjb : j < bs.length := by omega
      obtain ⟨nm, kv, f1⟩ := e3 j hj hjb
      refine yesG ⟨_, rfl, fr[j], _, _, _, rfl, rfl, SqT.of f1, rfl, rfl, ?_⟩
      rw [List.take_succ_eq_append_getElem hjb, List.map_append]
      rfl
    · rintro ys H1 ⟨rfl, rfl⟩ l hl
      have z : bs.take (fr.map V.ref).length = bs := List.take_of_length_le (by rw [List.length_map]; omega)
      refine q l _ (same_new (Same.refl _) hl) ?_
      rw [z]
      exact upd_same
theorem scWidthOf : FnScope ["way", "breadth"] ["way", "breadth"] (defScope sWidthOf) := ⟨rfl, rfl, rfl, by decide +kernel, rfl, by decide +kernel, by decide +kernel⟩
theorem ok_widthof {f : Addr} {fd : FuncData} (F : Fun K "width_of" "width_of" sWidthOf f fd) : FnOk P w K mg base CX0 1 f fd ["way", "breadth"] spWidthOf := by
  refine F.ok scWidthOf (fun vs H Q E h => ?_) (fun cdv A outer s H vs Q E hr h => ?_)
  · obtain ⟨_, _, _, rfl, _⟩ := h
    rfl
  · obtain ⟨v, b, y, rfl, hv, q⟩ := h
    refine ⟨_, (pss_cons (ps_if (pt_cmpR op_eq (pe_ix ix_tup (pv 0) pe_int (fun _ _ => rfl)) pe_str (nomark _))
      (pss_one (ps_ret pe_int))
      pss_nil)
      (pss_cons (ps_if (pt_cmpR op_eq (pe_ix ix_tup (pv 0) pe_int (fun _ _ => rfl)) pe_str (nomark _))
      (pss_one (ps_ret (pe_ix ix_tup (pv 0) pe_int (fun _ _ => rfl))))
      pss_nil)
      (pss_one (ps_ret (pv 1))))), ?_⟩
    cases y with
    | keep =>
      obtain ⟨t, rfl, ht⟩ := hv
      exact ⟨_, rfl, t, _, _, _, rfl, rfl, SqT.of ht, rfl, rfl, _, rfl, iteD rfl q⟩
    | whole =>
      obtain ⟨t, rfl, ht⟩ := hv
      exact ⟨_, rfl, t, _, _, _, rfl, rfl, SqT.of ht, rfl, rfl, _, rfl, iteDN (by decide) ⟨_, rfl, t, _, _, _, rfl, rfl, SqT.of ht, rfl, rfl, _, rfl, iteDN (by decide) ⟨_, rfl, q⟩⟩⟩
    | low wd d =>
      obtain ⟨t, rfl, ht⟩ := hv
      exact ⟨_, rfl, t, _, _, _, rfl, rfl, SqT.of ht, rfl, rfl, _, rfl, iteDN (by decide) ⟨_, rfl, t, _, _, _, rfl, rfl, SqT.of ht, rfl, rfl, _, rfl, iteD rfl ⟨_, rfl, t, _, _, _, rfl, rfl, SqT.of ht, rfl, q⟩⟩⟩
theorem scWidths : FnScope ["shape", "form"] ["shape", "form"] (defScope sWidths) := ⟨rfl, rfl, rfl, by decide +kernel, rfl, by decide +kernel, by decide +kernel⟩
theorem ok_widths {f : Addr} {fd : FuncData} (F : Fun K "widths" "widths" sWidths f fd) (T : Txt mg) {fBreadths fWidthOf : Addr} {fdBreadths fdWidthOf : FuncData} (FBreadths : Fun K "breadths" "breadths" sBreadths fBreadths fdBreadths) (bBreadths : Binds K fdBreadths ["shape"] []) (mBreadths : mg "breadths" = some (.ref fBreadths)) (FWidthOf : Fun K "width_of" "width_of" sWidthOf fWidthOf fdWidthOf) (bWidthOf : Binds K fdWidthOf ["way", "breadth"] []) (mWidthOf : mg "width_of" = some (.ref fWidthOf)) : FnOk P w K mg base CX0 2 f fd ["shape", "form"] spWidths := by
  have GBreadths : FnOk P w K mg base CX0 1 fBreadths fdBreadths ["shape"] spBreadths := ok_breadths FBreadths T
  have GWidthOf : FnOk P w K mg base CX0 1 fWidthOf fdWidthOf ["way", "breadth"] spWidthOf := ok_widthof FWidthOf
  refine F.ok scWidths (fun vs H Q E h => ?_) (fun cdv A outer s H vs Q E hr h => ?_)
  · obtain ⟨_, _, _, _, _, _, _, rfl, _⟩ := h
    rfl
  · obtain ⟨sh, fo, bs, m, r, c, ys, rfl, hsh, hfo, hyl, q⟩ := h
    obtain ⟨wt, ws, g1, g2, g3⟩ := id hfo
    refine ⟨_, (pss_one (ps_ret (pe_comp rfl rfl (xs := ["way", "breadth"]) ⟨(by with_unfolding_all rfl), rfl, rfl, rfl, (by repeat (first | exact trivial | refine ⟨rfl, ?_⟩)), rfl⟩ (pi_zip rfl T.zip (pe_ix ix_tup (pv 1) pe_int (fun _ _ => rfl)) (pe_call GBreadths (hr.mono (by decide)) rfl mBreadths FBreadths.kp bBreadths .nil pass0 (pa_cons (pv 0) pa_nil))) (fun _ _ _ _ => (pg_tupK (K := K) (n := 2) rfl rfl (pgs_cons (pg_name (i := 2) (by decide +kernel : (["shape", "form", "way", "breadth"] : List Str).Nodup) rfl (Or.inl rfl)) (pgs_cons (pg_name (i := 3) (by decide +kernel : (["shape", "form", "way", "breadth"] : List Str).Nodup) rfl (Or.inl rfl)) pgs_nil)) rfl)) (fun _ _ _ _ => pif_nil) (fun _ _ _ _ => (pe_call GWidthOf (hr.mono (by decide)) rfl mWidthOf FWidthOf.kp bWidthOf .nil pass0 (pa_cons (pv 2) (pa_cons (pv 3) pa_nil))))))), ?_⟩
    refine ⟨_, rfl, fo, _, _, _, rfl, rfl, SqT.of g1, rfl, _, rfl, sh, bs, m, rfl, hsh, fun l H1 s1 hl => ?_⟩
    have hb12 : bs.length ≤ 12 := by obtain ⟨_, _, _, _, _, _, _, h, _⟩ := hsh; exact h
    have hwl : ws.length = bs.length := by rw [g3.1, hyl]
    have hWl := Wds_len hyl
    refine ⟨wt, l, ws, _, rfl, s1 _ _ g2, hl, comp_z (xs := ws) (ys0 := bs.map V.int) (fun j zs H2 => Same H1 H2 ∧ zs = ((Wds bs ys).take j).map V.int) (by omega) (by rw [List.length_map]; omega) ⟨Same.refl _, by simp⟩ (fun j zs H2 ⟨z, _⟩ => ⟨z _ _ (s1 _ _ g2), z _ _ hl⟩) (fun j zs H2 ⟨_, z⟩ => by rw [z, List.length_map, List.length_take]; omega) ?_ ?_⟩
    · rintro j x y zs H2 U hx hy ⟨s2, rfl⟩ hU
      obtain ⟨hj, rfl⟩ := get_map hy
      obtain ⟨hw, rfl⟩ := List.getElem?_eq_some_iff.mp hx
      have s3 := same_new (o := .tup [ws[j], V.int bs[j]]) s2 hU
      have hjy : j < ys.length := by omega
      have hjW : j < (Wds bs ys).length := by omega
      refine ⟨U, [ws[j], V.int bs[j]], rfl, SqT.of upd_same, rfl, _, _, rfl, _, _, rfl, rfl, yesS ?_⟩
      refine ⟨_, rfl, _, rfl, ws[j], bs[j], ys[j], rfl, (g3.2 j hw hjy).mono (fun a xs e => s3 _ _ (s1 _ _ e)), s3, ?_⟩
      rw [List.take_succ_eq_append_getElem hjW, List.map_append, Wds_get hj hjy]
      rfl
    · rintro zs H2 ⟨s2, rfl⟩ p hp
      have z : (Wds bs ys).take ws.length = Wds bs ys := List.take_of_length_le (by omega)
      refine q p _ (s1.trans (same_new s2 hp)) ?_
      rw [z]
      exact upd_same
theorem scPieces : FnScope ["shape", "form", "head"] ["shape", "form", "head"] (defScope sPieces) := ⟨rfl, rfl, rfl, by decide +kernel, rfl, by decide +kernel, by decide +kernel⟩
theorem ok_pieces {f : Addr} {fd : FuncData} (F : Fun K "pieces" "pieces" sPieces f fd) (T : Txt mg) {fBitsOf fRestOf fBreadths fWidthOf fWidths : Addr} {fdBitsOf fdRestOf fdBreadths fdWidthOf fdWidths : FuncData} (FBitsOf : Fun K "bits_of" "bits_of" sBitsOf fBitsOf fdBitsOf) (bBitsOf : Binds K fdBitsOf ["number", "width"] []) (mBitsOf : mg "bits_of" = some (.ref fBitsOf)) (FRestOf : Fun K "rest_of" "rest_of" sRestOf fRestOf fdRestOf) (bRestOf : Binds K fdRestOf ["number", "width"] []) (mRestOf : mg "rest_of" = some (.ref fRestOf)) (FBreadths : Fun K "breadths" "breadths" sBreadths fBreadths fdBreadths) (bBreadths : Binds K fdBreadths ["shape"] []) (mBreadths : mg "breadths" = some (.ref fBreadths)) (FWidthOf : Fun K "width_of" "width_of" sWidthOf fWidthOf fdWidthOf) (bWidthOf : Binds K fdWidthOf ["way", "breadth"] []) (mWidthOf : mg "width_of" = some (.ref fWidthOf)) (FWidths : Fun K "widths" "widths" sWidths fWidths fdWidths) (bWidths : Binds K fdWidths ["shape", "form"] []) (mWidths : mg "widths" = some (.ref fWidths)) : FnOk P w K mg base CX0 3 f fd ["shape", "form", "head"] spPieces := by
  have GBitsOf : FnOk P w K mg base CX0 1 fBitsOf fdBitsOf ["number", "width"] spBitsOf := ok_bitsof FBitsOf T
  have GRestOf : FnOk P w K mg base CX0 1 fRestOf fdRestOf ["number", "width"] spRestOf := ok_restof FRestOf
  have GWidths : FnOk P w K mg base CX0 2 fWidths fdWidths ["shape", "form"] spWidths := ok_widths FWidths T FBreadths bBreadths mBreadths FWidthOf bWidthOf mWidthOf
  refine F.ok scPieces (fun vs H Q E h => ?_) (fun cdv A outer s H vs Q E hr h => ?_)
  · obtain ⟨_, _, _, _, _, _, _, _, _, rfl, _⟩ := h
    rfl
  · obtain ⟨sh, fo, hd, bs, m, r, c, ys, vals, rfl, hsh, hfo, hok, hhd, hvl, q⟩ := h
    refine ⟨_, (pss_one (ps_ret (pe_bm PySem.F.plainAttrs_str PySem.F.slot_str_join PySem.F.type_str_join mt_join pe_str (pa_cons (pe_comp rfl rfl (xs := ["value", "width"]) ⟨(by with_unfolding_all rfl), rfl, rfl, rfl, (by repeat (first | exact trivial | refine ⟨rfl, ?_⟩)), rfl⟩ (pi_zip rfl T.zip (pv 2) (pe_call GWidths (hr.mono (by decide)) rfl mWidths FWidths.kp bWidths .nil pass0 (pa_cons (pv 0) (pa_cons (pv 1) pa_nil)))) (fun _ _ _ _ => (pg_tupK (K := K) (n := 2) rfl rfl (pgs_cons (pg_name (i := 3) (by decide +kernel : (["shape", "form", "head", "value", "width"] : List Str).Nodup) rfl (Or.inl rfl)) (pgs_cons (pg_name (i := 4) (by decide +kernel : (["shape", "form", "head", "value", "width"] : List Str).Nodup) rfl (Or.inl rfl)) pgs_nil)) rfl)) (fun _ _ _ _ => pif_nil) (fun _ _ _ _ => (pe_call GBitsOf (hr.mono (by decide)) rfl mBitsOf FBitsOf.kp bBitsOf .nil pass0 (pa_cons (pe_call GRestOf (hr.mono (by decide)) rfl mRestOf FRestOf.kp bRestOf .nil pass0 (pa_cons (pv 3) (pa_cons (pv 4) pa_nil))) (pa_cons (pv 4) pa_nil))))) pa_nil)))), ?_⟩
    have hb12 : bs.length ≤ 12 := by obtain ⟨_, _, _, _, _, _, _, h, _⟩ := hsh; exact h
    have hWl := Wds_len hok.1
    have hWo : ∀ w ∈ Wds bs ys, 0 ≤ w ∧ w ≤ 40 := by obtain ⟨_, _, _, _, _, _, _, _, h⟩ := hsh; exact Wds_ok h hok
    have hPl : (PcL vals (Wds bs ys)).length = bs.length := by unfold PcL; rw [List.length_zipWith]; omega
    refine ⟨rfl, _, rfl, _, rfl, _, rfl, sh, fo, bs, m, r, c, ys, rfl, hsh, hfo, hok.1, fun l H1 s1 hl => ?_⟩
    refine ⟨hd, l, vals.map V.int, _, rfl, s1 _ _ hhd, hl, comp_z (xs := vals.map V.int) (ys0 := (Wds bs ys).map V.int) (fun j zs H2 => Same H1 H2 ∧ zs = ((PcL vals (Wds bs ys)).take j).map V.str) (by rw [List.length_map]; omega) (by rw [List.length_map, List.length_map]; omega) ⟨Same.refl _, by simp⟩ (fun j zs H2 ⟨z, _⟩ => ⟨z _ _ (s1 _ _ hhd), z _ _ hl⟩) (fun j zs H2 ⟨_, z⟩ => by rw [z, List.length_map, List.length_take]; omega) ?_ ?_⟩
    · rintro j x y zs H2 U hx hy ⟨s2, rfl⟩ hU
      obtain ⟨hj, rfl⟩ := get_map hy
      obtain ⟨hv, rfl⟩ := get_map hx
      have s3 := same_new (o := .tup [V.int vals[j], V.int (Wds bs ys)[j]]) s2 hU
      have hw := hWo _ (List.getElem_mem hj)
      have hjP : j < (PcL vals (Wds bs ys)).length := by omega
      refine ⟨U, [V.int vals[j], V.int (Wds bs ys)[j]], rfl, SqT.of upd_same, rfl, _, _, rfl, _, _, rfl, rfl, yesS ?_⟩
      refine ⟨_, rfl, _, rfl, vals[j], (Wds bs ys)[j], rfl, by omega, by omega, _, rfl, _, (Wds bs ys)[j], rfl, by omega, by omega, fun H4 s4 => ⟨s3.trans s4, ?_⟩⟩
      rw [List.take_succ_eq_append_getElem hjP, List.map_append]
      have e : (PcL vals (Wds bs ys))[j] = Tx (vals[j] % 2 ^ (Wds bs ys)[j].toNat) (Wds bs ys)[j].toNat := List.getElem_zipWith ..
      rw [e]
      rfl
    · rintro zs H2 ⟨s2, rfl⟩ p hp
      have z : (PcL vals (Wds bs ys)).take (vals.map V.int).length = PcL vals (Wds bs ys) := List.take_of_length_le (by rw [List.length_map]; omega)
      rw [z]
      refine ⟨_, p, PcL vals (Wds bs ys), rfl, rfl, SqL.of upd_same, joinB _ (fun t ht => ?_) (by omega), ?_⟩
      · obtain ⟨i, hi, rfl⟩ := List.mem_iff_getElem.mp ht
        have h1 : i < vals.length := by omega
        have h2 : i < (Wds bs ys).length := by omega
        have e : (PcL vals (Wds bs ys))[i] = Tx (vals[i] % 2 ^ (Wds bs ys)[i].toNat) (Wds bs ys)[i].toNat := List.getElem_zipWith ..
        rw [e, Tx_length]
        have := hWo _ (List.getElem_mem h2)
        omega
      · rw [join_cat]
        exact q _ (s1.trans (same_new s2 hp))
theorem scSizeOf : FnScope ["shape", "form"] ["shape", "form"] (defScope sSizeOf) := ⟨rfl, rfl, rfl, by decide +kernel, rfl, by decide +kernel, by decide +kernel⟩
theorem ok_sizeof {f : Addr} {fd : FuncData} (F : Fun K "size_of" "size_of" sSizeOf f fd) (T : Txt mg) {fBreadths fWidthOf fWidths : Addr} {fdBreadths fdWidthOf fdWidths : FuncData} (FBreadths : Fun K "breadths" "breadths" sBreadths fBreadths fdBreadths) (bBreadths : Binds K fdBreadths ["shape"] []) (mBreadths : mg "breadths" = some (.ref fBreadths)) (FWidthOf : Fun K "width_of" "width_of" sWidthOf fWidthOf fdWidthOf) (bWidthOf : Binds K fdWidthOf ["way", "breadth"] []) (mWidthOf : mg "width_of" = some (.ref fWidthOf)) (FWidths : Fun K "widths" "widths" sWidths fWidths fdWidths) (bWidths : Binds K fdWidths ["shape", "form"] []) (mWidths : mg "widths" = some (.ref fWidths)) : FnOk P w K mg base CX0 3 f fd ["shape", "form"] spSizeOf := by
  have GWidths : FnOk P w K mg base CX0 2 fWidths fdWidths ["shape", "form"] spWidths := ok_widths FWidths T FBreadths bBreadths mBreadths FWidthOf bWidthOf mWidthOf
  refine F.ok scSizeOf (fun vs H Q E h => ?_) (fun cdv A outer s H vs Q E hr h => ?_)
  · obtain ⟨_, _, _, _, _, _, _, rfl, _⟩ := h
    rfl
  · obtain ⟨sh, fo, bs, m, r, c, ys, rfl, hsh, hfo, hok, q⟩ := h
    refine ⟨_, (pss_one (ps_ret (pe_callB (call_sumL rfl) (by rfl) T.sum boot_sum (pa_cons (pe_call GWidths (hr.mono (by decide)) rfl mWidths FWidths.kp bWidths .nil pass0 (pa_cons (pv 0) (pa_cons (pv 1) pa_nil))) pa_nil)))), ?_⟩
    have hb12 : bs.length ≤ 12 := by obtain ⟨_, _, _, _, _, _, _, h, _⟩ := hsh; exact h
    have hWl := Wds_len hok.1
    have hWo : ∀ w ∈ Wds bs ys, 0 ≤ w ∧ w ≤ 40 := by obtain ⟨_, _, _, _, _, _, _, _, h⟩ := hsh; exact Wds_ok h hok
    exact ⟨_, rfl, _, rfl, sh, fo, bs, m, r, c, ys, rfl, hsh, hfo, hok.1, fun l H1 s1 hl => ⟨l, _, rfl, SqL.of hl, fun a ha => by have := hWo a ha; omega, by omega, q _ s1⟩⟩
end
end K
namespace K
open PySem PyProof.Rows L2 Mth
def WsOk (bs : List (Int × Kd)) (ys : List Wy) : Prop := ys.length = bs.length ∧ ∀ (i : Nat) (h1 : i < bs.length) (h2 : i < ys.length), WyOk bs[i].1 ys[i]
def FormOk (bs : List (Int × Kd)) (r c : Int) (ys : List Wy) : Prop := 1 ≤ r ∧ r ≤ 40 ∧ 1 ≤ c ∧ c ≤ 40 ∧ WsOk bs ys
def brs (bs : List (Int × Kd)) : List Int := bs.map fun b => b.1
theorem ShapeAt.shb {H : Hp} {sh : Addr} {bs : List (Int × Kd)} (h : ShapeAt H sh bs) : ∃ m, ShB H sh (brs bs) m := by
  obtain ⟨ft, fr, m, e1, e2, e3, e4, e5, e6⟩ := h
  refine ⟨m, ft, fr, e1, e2, by rw [e3.len]; simp [brs], fun i h1 h2 => ?_, by simpa [brs] using e4, by simpa [brs] using e5, fun b hb => ?_⟩
  · have hb : i < bs.length := by have := e3.len; omega
    obtain ⟨nm, kv, f1, _⟩ := e3.get i h1 hb
    refine ⟨nm, kv, ?_⟩
    have e : (brs bs)[i] = bs[i].1 := by simp [brs]
    rw [e]
    exact f1
  · obtain ⟨x, hx, rfl⟩ := List.mem_map.mp hb
    obtain ⟨i, hi, rfl⟩ := List.mem_iff_getElem.mp hx
    have := e6 i hi
    exact ⟨this.1, this.2.1⟩
theorem WsOk.wsb {bs : List (Int × Kd)} {ys : List Wy} (h : WsOk bs ys) : WsB (brs bs) ys := by
  refine ⟨by rw [h.1]; simp [brs], fun i h1 h2 => ?_⟩
  have hb : i < bs.length := by simpa [brs] using h1
  have e : (brs bs)[i] = bs[i].1 := by simp [brs]
  rw [e]
  exact h.2 i hb h2
end K
namespace K
open PySem PyProof.Rows L2 Mth
def spWay : Sp := fun vs H Q _ => ∃ (p qa : Addr) (b c : Int), vs = [.ref p, .int b] ∧ 1 ≤ b ∧ b ≤ 40 ∧ PotD H p qa c ∧ 0 ≤ c ∧ c < 2 ^ 30 ∧ ∀ (v : V) (y : Wy) (c' : Int) (H' : Hp), PotD H' p qa c' → c' ≤ c + 5 → 0 ≤ c' → But2 p qa H H' → WayV H' v y → WyOk b y → Q v H'
def spForm : Sp := fun vs H Q _ => ∃ (p qa sh : Addr) (bs : List (Int × Kd)) (c : Int), vs = [.ref p, .ref sh] ∧ PotD H p qa c ∧ 0 ≤ c ∧ c < 2 ^ 29 ∧ ShapeAt H sh bs ∧ ∀ (f : Addr) (r d : Int) (ys : List Wy) (c' : Int) (H' : Hp), PotD H' p qa c' → c' ≤ c + 70 → 0 ≤ c' → But2 p qa H H' → FormAt H' f r d ys → FormOk bs r d ys → Q (.ref f) H'
section
variable {P : Program} {w : World} {K : PySem.W.Frag} {mg : Str → Option Value} {base : Heap}
theorem scWay : FnScope ["_law_pot_here", "_law_breadth", "_law_way_here", "_law_width_here", "_law_most"] ["_law_pot_here", "_law_breadth"] (defScope sWay) := ⟨rfl, rfl, rfl, by decide +kernel, rfl, by decide +kernel, by decide +kernel⟩
set_option maxHeartbeats 4000000 in
theorem ok_way {f : Addr} {fd : FuncData} (F : Fun K "_law_way" "_law_way" sWay f fd) (T : Txt mg) {fPick : Addr} {fdPick : FuncData} (FPick : Fun K "_law_pick" "_law_pick" sPick fPick fdPick) (bPick : Binds K fdPick ["_law_pot_here", "_law_many"] []) (mPick : mg "_law_pick" = some (.ref fPick)) : FnOk P w K mg base CX0 2 f fd ["_law_pot_here", "_law_breadth"] spWay := by
  have GPick : FnOk P w K mg base CX0 1 fPick fdPick ["_law_pot_here", "_law_many"] spPick := ok_pick FPick
  refine F.ok scWay (fun vs H Q E h => ?_) (fun cdv A outer s H vs Q E hr h => ?_)
  · obtain ⟨_, _, _, _, rfl, _⟩ := h
    rfl
  · obtain ⟨p, qa, b, c, rfl, b0, b1, pot, hc0, hc, q⟩ := h
    refine ⟨_, (Hid.out (hs_cons (hs_set (i := 2) scWay.nd rfl (Or.inl rfl) ⟨(pe_call GPick (hr.mono (by decide)) rfl mPick FPick.kp bPick .nil pass0 (pa_cons (pv 0) (pa_cons pe_int pa_nil)))⟩)
      (hs_cons (hs_if (pt_cmpR op_lt (pv 2) pe_int (nomark _))
      (hs_one (hs_ret (he_ix ix_list (he_lst (ha_cons (he_tup (ha_cons ⟨pe_str⟩ ha_nil)) (ha_cons (he_tup (ha_cons ⟨pe_str⟩ ha_nil)) ha_nil))) ⟨(pv 2)⟩ (fun _ _ => rfl))))
      hs_nil)
      (hs_cons (hs_set (i := 3) scWay.nd rfl (Or.inl rfl) ⟨(pe_op op_add pe_int (pe_call GPick (hr.mono (by decide)) rfl mPick FPick.kp bPick .nil pass0 (pa_cons (pv 0) (pa_cons (pv 1) pa_nil))))⟩)
      (hs_cons (hs_set (i := 4) scWay.nd rfl (Or.inl rfl) ⟨(pe_op op_sub (pe_op op_shl pe_int (pv 3)) pe_int)⟩)
      (hs_one (hs_ret (he_tup (ha_cons ⟨pe_str⟩ (ha_cons ⟨(pv 3)⟩ (ha_cons (he_ix ix_list (he_lst (ha_cons ⟨pe_int⟩ (ha_cons ⟨(pv 4)⟩ (ha_cons ⟨(pe_call GPick (hr.mono (by decide)) rfl mPick FPick.kp bPick .nil pass0 (pa_cons (pv 0) (pa_cons (pe_op op_add (pv 4) pe_int) pa_nil)))⟩ (ha_cons ⟨(pe_callB (call_min2 rfl) (by rfl) T.min boot_min (pa_cons (pv 4) (pa_cons (pe_call GPick (hr.mono (by decide)) rfl mPick FPick.kp bPick .nil pass0 (pa_cons (pv 0) (pa_cons pe_int pa_nil))) pa_nil)))⟩ ha_nil))))) ⟨(pe_call GPick (hr.mono (by decide)) rfl mPick FPick.kp bPick .nil pass0 (pa_cons (pv 0) (pa_cons pe_int pa_nil)))⟩ (fun _ _ => rfl)) ha_nil))))))))))), ?_⟩
    refine ⟨_, rfl, p, qa, _, c, rfl, pot, by omega, by decide, by decide, fun w0 H1 a0 a1 pot1 k1 => ?_⟩
    refine ⟨_, rfl, _, _, rfl, rfl, _, rfl, ite2 (fun c1 => ?_) (fun c1 => ?_)⟩
    · have c1' : w0 < 2 := of_decide_eq_true c1
      refine ⟨(by show 1 ≤ sizeLine; decide), fun t1 h1 => ⟨(by show 1 ≤ sizeLine; decide), fun t2 h2 => ⟨(by show 2 ≤ sizeLine; decide), fun l hl => ?_⟩⟩⟩
      have pn := pd_new (o := .lst [.ref t1, .ref t2]) (pd_new (o := .tup [.str "whole"]) (pd_new (o := .tup [.str "keep"]) pot1 h1) h2) hl
      have bn := b2_new (o := .lst [.ref t1, .ref t2]) (b2_new (o := .tup [.str "whole"]) (b2_new (o := .tup [.str "keep"]) k1 h1) h2) hl
      have m2 := same_new (o := .tup [.str "whole"]) (Same.refl _) h2
      have m3 := same_new (o := .lst [.ref t1, .ref t2]) (Same.refl _) hl
      obtain ⟨z, hz, ez⟩ := atI_mem [V.ref t1, .ref t2] w0 a0 (by show w0 < 2; omega)
      refine ⟨_, rfl, l, _, _, _, rfl, rfl, SqL.of upd_same, ez, ?_⟩
      simp only [List.mem_cons, List.not_mem_nil, or_false] at hz
      rcases hz with rfl | rfl
      · exact q _ .keep _ _ pn (by omega) (by omega) bn ⟨t1, rfl, m3 _ _ (m2 _ _ upd_same)⟩ True.intro
      · exact q _ .whole _ _ pn (by omega) (by omega) bn ⟨t2, rfl, m3 _ _ upd_same⟩ True.intro
    · refine ⟨_, rfl, _, rfl, p, qa, _, _, rfl, pot1, by omega, by omega, by omega, fun d1 H2 e0 e1 pot2 k2 => ?_⟩
      refine ⟨_, _, rfl, rfl, ?_⟩
      have hp := two_pow_pos (1 + d1).toNat
      have h40 : (2 : Int) ^ (1 + d1).toNat ≤ 2 ^ 40 := two_pow_mono (by omega)
      refine ⟨_, rfl, _, _, rfl, rfl, ⟨by omega, by omega, by decide⟩, _, _, rfl, rfl, ?_⟩
      refine ⟨_, rfl, _, rfl, _, rfl, _, rfl, _, _, rfl, rfl, p, qa, _, _, rfl, pot2, by omega, by omega, by omega, fun d2 H3 f0 f1 pot3 k3 => ?_⟩
      refine ⟨_, rfl, _, rfl, p, qa, _, _, rfl, pot3, by omega, by decide, by decide, fun d3 H4 g0 g1 pot4 k4 => ?_⟩
      refine ⟨_, _, rfl, (by show 4 ≤ sizeLine; decide), fun l hl => ?_⟩
      refine ⟨_, rfl, p, qa, _, _, rfl, pd_new pot4 hl, by omega, by decide, by decide, fun d4 H5 i0 i1 pot5 k5 => ?_⟩
      obtain ⟨n1, n2⟩ := pd_ne pot4 hl
      obtain ⟨z, hz, ez⟩ := atI_ints [0, 1 * 2 ^ (1 + d1).toNat - 1, d2, if d3 < 1 * 2 ^ (1 + d1).toNat - 1 then d3 else 1 * 2 ^ (1 + d1).toNat - 1] d4 i0 i1
      refine ⟨l, _, _, _, rfl, rfl, SqL.of (k5 l _ upd_same n1 n2), ez, (by show 3 ≤ sizeLine; decide), fun t ht => ?_⟩
      refine q _ (.low (1 + d1) z) _ _ (pd_new pot5 ht) (by omega) (by omega) (b2_new (b2_trans (b2_new (b2_trans (b2_trans (b2_trans k1 k2) k3) k4) hl) k5) ht) ⟨t, rfl, upd_same⟩ ⟨by omega, by omega, ?_⟩
      simp only [List.mem_cons, List.not_mem_nil, or_false] at hz
      rcases hz with rfl | rfl | rfl | rfl
      · omega
      · omega
      · omega
      · split <;> omega
theorem scForm : FnScope ["_law_pot_here", "_law_shape_here", "_law_ways"] ["_law_pot_here", "_law_shape_here"] (defScope sForm) := ⟨rfl, rfl, rfl, by decide +kernel, rfl, by decide +kernel, by decide +kernel⟩
set_option maxHeartbeats 4000000 in
theorem ok_form {f : Addr} {fd : FuncData} (F : Fun K "_law_form" "_law_form" sForm f fd) (T : Txt mg) {fPick fWay : Addr} {fdPick fdWay : FuncData} (FPick : Fun K "_law_pick" "_law_pick" sPick fPick fdPick) (bPick : Binds K fdPick ["_law_pot_here", "_law_many"] []) (mPick : mg "_law_pick" = some (.ref fPick)) (FWay : Fun K "_law_way" "_law_way" sWay fWay fdWay) (bWay : Binds K fdWay ["_law_pot_here", "_law_breadth"] []) (mWay : mg "_law_way" = some (.ref fWay)) : FnOk P w K mg base CX0 3 f fd ["_law_pot_here", "_law_shape_here"] spForm := by
  have GPick : FnOk P w K mg base CX0 1 fPick fdPick ["_law_pot_here", "_law_many"] spPick := ok_pick FPick
  have GWay : FnOk P w K mg base CX0 2 fWay fdWay ["_law_pot_here", "_law_breadth"] spWay := ok_way FWay T FPick bPick mPick
  refine F.ok scForm (fun vs H Q E h => ?_) (fun cdv A outer s H vs Q E hr h => ?_)
  · obtain ⟨_, _, _, _, _, rfl, _⟩ := h
    rfl
  · obtain ⟨p, qa, sh, bs, c, rfl, pot, hc0, hc, hsh, q⟩ := h
    obtain ⟨ft, fr, m, e1, e2, e3, e4, e5, e6⟩ := id hsh
    refine ⟨_, (Hid.out (hs_cons (hs_set (i := 2) scForm.nd rfl (Or.inl rfl) ⟨(pe_callTy call_tuple_of (by rfl) T.tuple boot_tuple (pa_cons (pe_comp rfl rfl (xs := ["_law_field"]) ⟨(by with_unfolding_all rfl), rfl, rfl, rfl, (by repeat (first | exact trivial | refine ⟨rfl, ?_⟩)), rfl⟩ (pi_tup (pe_ix ix_tup (pv 1) pe_int (fun _ _ => rfl))) (fun _ _ _ _ => (pg_name (i := 3) (by decide +kernel : (["_law_pot_here", "_law_shape_here", "_law_ways", "_law_field"] : List Str).Nodup) rfl (Or.inl rfl))) (fun _ _ _ _ => pif_nil) (fun _ _ _ _ => (pe_call GWay (hr.mono (by decide)) rfl mWay FWay.kp bWay .nil pass0 (pa_cons (pv 0) (pa_cons (pe_ix (ix_tupK (K := K) rfl) (pv 3) pe_int (fun _ _ => rfl)) pa_nil))))) pa_nil))⟩)
      (hs_one (hs_ret (he_tup (ha_cons ⟨(pe_op op_add pe_int (pe_call GPick (hr.mono (by decide)) rfl mPick FPick.kp bPick .nil pass0 (pa_cons (pv 0) (pa_cons pe_int pa_nil))))⟩ (ha_cons ⟨(pe_op op_add pe_int (pe_call GPick (hr.mono (by decide)) rfl mPick FPick.kp bPick .nil pass0 (pa_cons (pv 0) (pa_cons pe_int pa_nil))))⟩ (ha_cons ⟨(pv 2)⟩ ha_nil)))))))), ?_⟩
    have hfl := e3.len
    refine ⟨_, rfl, sh, _, _, _, rfl, rfl, SqT.of e1, rfl, ft, rfl, ⟨_, SqT.of e2⟩, comp_tup (xs := fr.map V.ref) (fun j vs H1 => ∃ (ys : List Wy) (cj : Int), PotD H1 p qa cj ∧ 0 ≤ cj ∧ cj ≤ c + 5 * (j : Int) ∧ But2 p qa H H1 ∧ WaysAt H1 vs ys ∧ ys.length = j ∧ ∀ (i : Nat) (h1 : i < bs.length) (h2 : i < ys.length), WyOk bs[i].1 ys[i]) (by rw [List.length_map]; omega) ⟨[], c, pot, hc0, by omega, fun _ _ e _ _ => e, ⟨rfl, fun i h => (nomatch h)⟩, rfl, fun i _ h => (nomatch h)⟩ (fun j ys H1 ⟨_, _, _, _, _, k, _⟩ => SqT.of (b2_tup pot k _ _ e2)) (fun j vs H1 ⟨ys, _, _, _, _, _, w, z, _⟩ => by rw [w.1, z]; exact Nat.le_refl _) ?_ ?_⟩
    · rintro j x vs H1 hx ⟨ys, cj, pot1, cj0, cj1, k1, hw, hyl, hyo⟩
      obtain ⟨hj, rfl⟩ := get_map hx
      have hjb : j < bs.length := by omega
      obtain ⟨nm, kv, f1, f2⟩ := (e3.mono (b2_tup pot k1)).get j hj hjb
      obtain ⟨o0, o1, o2⟩ := e6 j hjb
      refine yesG ?_
      refine ⟨_, rfl, _, rfl, fr[j], _, _, _, rfl, rfl, SqT.of f1, rfl, p, qa, bs[j].1, cj, rfl, o0, o1, pot1, cj0, by omega, fun v y c' H2 pot2 hc2 hc20 k2 hv hy => ?_⟩
      refine ⟨ys ++ [y], c', pot2, hc20, by push_cast; omega, b2_trans k1 k2, (hw.mono (b2_tup pot1 k2)).snoc hv, by rw [List.length_append, hyl]; rfl, fun i h1 h2 => ?_⟩
      by_cases hlt : i < ys.length
      · rw [List.getElem_append_left hlt]
        exact hyo i h1 hlt
      · have e : i = j := by
          rw [List.length_append] at h2
          have : [y].length = 1 := rfl
          omega
        subst e
        rw [List.getElem_append_right (by omega)]
        simp only [hyl, Nat.sub_self, List.getElem_cons_zero]
        exact hy
    · rintro vs H1 ⟨ys, cj, pot1, cj0, cj1, k1, hw, hyl, hyo⟩
      rw [List.length_map] at cj1 hyl
      intro l hl
      refine ⟨l, _, rfl, .inl ⟨SqL.of upd_same, fun wt hwt => ?_⟩⟩
      have pot2 := pd_new (o := .tup vs) (pd_new (o := .lst vs) pot1 hl) hwt
      have k2 := b2_new (o := .tup vs) (b2_new (o := .lst vs) k1 hl) hwt
      have hw2 : WaysAt (upd (upd H1 l (.lst vs)) wt (.tup vs)) vs ys := hw.mono fun a xs e => (same_new (o := .tup vs) (same_new (o := .lst vs) (Same.refl _) hl) hwt) _ _ e
      refine ⟨_, rfl, p, qa, _, _, rfl, pot2, by omega, by decide, by decide, fun d1 H3 f0 f1 pot3 k3 => ?_⟩
      refine ⟨_, _, rfl, rfl, _, rfl, p, qa, _, _, rfl, pot3, by omega, by decide, by decide, fun d2 H4 g0 g1 pot4 k4 => ?_⟩
      refine ⟨_, _, rfl, rfl, _, rfl, (by show 3 ≤ sizeLine; decide), fun t ht => ?_⟩
      have k24 := b2_trans k3 k4
      have st := same_new (o := .tup [.int (1 + d1), .int (1 + d2), .ref wt]) (Same.refl H4) ht
      have mono : ∀ a xs, upd (upd H1 l (.lst vs)) wt (.tup vs) a = some (.tup xs) → upd H4 t (.tup [.int (1 + d1), .int (1 + d2), .ref wt]) a = some (.tup xs) := fun a xs e => st _ _ (b2_tup pot2 k24 _ _ e)
      refine q t (1 + d1) (1 + d2) ys _ _ (pd_new pot4 ht) (by omega) (by omega) (b2_new (b2_trans k2 k24) ht) ⟨wt, vs, upd_same, mono _ _ upd_same, hw2.mono mono⟩ ⟨by omega, by omega, by omega, by omega, by omega, hyo⟩
end
end K
namespace K
open PySem PyProof.Rows L2 Mth
theorem pe_never {X : Cx} {e : Expr} : PE X e (fun _ _ _ => False) := fun _ _ _ _ _ _ h => h.elim
/-- a number, a text or None -/
inductive Sc : V → Prop where
  | int (i : Int) : Sc (.int i)
  | str (z : Str) : Sc (.str z)
  | non : Sc .non
theorem kit_it {K : PySem.W.Frag} : PySem.W.kitOne K (.type "int") (.type "tuple") = some false := by rfl
theorem kit_is {K : PySem.W.Frag} : PySem.W.kitOne K (.type "int") (.type "str") = some false := by rfl
theorem kit_st {K : PySem.W.Frag} : PySem.W.kitOne K (.type "str") (.type "tuple") = some false := by rfl
theorem kit_ss {K : PySem.W.Frag} : PySem.W.kitOne K (.type "str") (.type "str") = some true := by rfl
theorem kit_nt {K : PySem.W.Frag} : PySem.W.kitOne K (.type "NoneType") (.type "tuple") = some false := by rfl
theorem kit_tt {K : PySem.W.Frag} : PySem.W.kitOne K (.type "tuple") (.type "tuple") = some true := by rfl
def spSame1 : Sp := fun vs H Q _ => ∃ x, vs = [x, x] ∧ Sc x ∧ Q (.bl true) H
def spSameT : Sp := fun vs H Q _ => ∃ (t1 t2 : Addr) (xs : List V), vs = [.ref t1, .ref t2] ∧ H t1 = some (.tup xs) ∧ H t2 = some (.tup xs) ∧ xs.length ≤ 1000 ∧ (∀ x ∈ xs, Sc x) ∧ ∀ H', Same H H' → Q (.bl true) H'
section
variable {P : Program} {w : World} {K : PySem.W.Frag} {mg : Str → Option Value} {base : Heap}
theorem scSame : FnScope ["_law_found", "_law_due"] ["_law_found", "_law_due"] (defScope sSame) := ⟨rfl, rfl, rfl, by decide +kernel, rfl, by decide +kernel, by decide +kernel⟩
theorem ok_same1 {f : Addr} {fd : FuncData} (F : Fun K "_law_same" "_law_same" sSame f fd) (T : Txt mg) : FnOk P w K mg base CX0 1 f fd ["_law_found", "_law_due"] spSame1 := by
  refine F.ok scSame (fun vs H Q E h => ?_) (fun cdv A outer s H vs Q E hr h => ?_)
  · obtain ⟨_, rfl, _⟩ := h
    rfl
  · obtain ⟨x, rfl, hx, q⟩ := h
    refine ⟨_, (pss_cons (ps_if (pt_val (pe_callB call_isi (by rfl) T.isi boot_isinstance (pa_cons (pv 1) (pa_cons (pe_bltn (v := .ty "tuple") (by rfl) T.tuple boot_tuple rfl) pa_nil))))
      (pss_cons (ps_if (PW.pt (pw_or (pt_not (pt_val (pe_callB call_isi (by rfl) T.isi boot_isinstance (pa_cons (pv 0) (pa_cons (pe_bltn (v := .ty "tuple") (by rfl) T.tuple boot_tuple rfl) pa_nil))))) (pw_or1 (pt_cmpR op_ne (pe_callB call_len_seq (by rfl) T.len PySem.boot_len (pa_cons (pv 0) pa_nil)) (pe_callB call_len_seq (by rfl) T.len PySem.boot_len (pa_cons (pv 1) pa_nil)) (nomark _)))))
      (pss_one (ps_ret pe_bl))
      pss_nil)
      (pss_one (ps_ret pe_never)))
      pss_nil)
      (pss_cons (ps_if (pt_cmpR op_isN (pv 1) pe_non (nomark _))
      (pss_one (ps_ret (pe_cmpR op_isN (pv 0) pe_non (nomark _))))
      pss_nil)
      (pss_cons (ps_if (pt_val (pe_callB call_isi (by rfl) T.isi boot_isinstance (pa_cons (pv 1) (pa_cons (pe_bltn (v := .ty "str") (by rfl) T.str boot_str rfl) pa_nil))))
      (pss_one (ps_ret (pe_and (pe_callB call_isi (by rfl) T.isi boot_isinstance (pa_cons (pv 0) (pa_cons (pe_bltn (v := .ty "str") (by rfl) T.str boot_str rfl) pa_nil))) (pe_one (pe_cmpR op_eq (pv 0) (pv 1) (nomark _))))))
      pss_nil)
      (pss_one (ps_ret (pe_and (pe_callB call_isi (by rfl) T.isi boot_isinstance (pa_cons (pv 0) (pa_cons (pe_bltn (v := .ty "int") (by rfl) T.int boot_int rfl) pa_nil))) (pe_and (pe_not (pe_callB call_isi (by rfl) T.isi boot_isinstance (pa_cons (pv 0) (pa_cons (pe_bltn (v := .ty "bool") (by rfl) T.bool boot_bool rfl) pa_nil)))) (pe_one (pe_cmpR op_eq (pv 0) (pv 1) (nomark _)))))))))), ?_⟩
    cases hx with
    | int i =>
      refine ⟨_, rfl, _, _, _, _, rfl, .int i, kit_it, _, rfl, iteF ?_⟩
      refine ⟨_, rfl, rfl, _, rfl, iteDN (by intro z; cases z) ?_⟩
      refine ⟨_, rfl, _, _, _, _, rfl, .int i, kit_is, _, rfl, iteF ?_⟩
      refine ⟨_, rfl, _, _, _, _, rfl, .int i, kit_ii, _, rfl, iteT ⟨_, rfl, _, _, _, _, rfl, .int i, kit_ib, _, rfl, _, rfl, iteT ⟨_, rfl, _, rfl, rfl, ?_⟩⟩⟩
      rw [decide_eq_true rfl]
      exact q
    | str z =>
      refine ⟨_, rfl, _, _, _, _, rfl, .str z, kit_st, _, rfl, iteF ?_⟩
      refine ⟨_, rfl, rfl, _, rfl, iteDN (by intro z; cases z) ?_⟩
      refine ⟨_, rfl, _, _, _, _, rfl, .str z, kit_ss, _, rfl, iteT ?_⟩
      refine ⟨_, rfl, _, _, _, _, rfl, .str z, kit_ss, _, rfl, iteT ⟨_, rfl, _, rfl, rfl, ?_⟩⟩
      rw [decide_eq_true rfl]
      exact q
    | non =>
      refine ⟨_, rfl, _, _, _, _, rfl, .non, kit_nt, _, rfl, iteF ?_⟩
      refine ⟨_, rfl, rfl, _, rfl, iteD rfl ?_⟩
      refine ⟨_, rfl, rfl, ?_⟩
      exact q
theorem ok_sameT {f : Addr} {fd : FuncData} (F : Fun K "_law_same" "_law_same" sSame f fd) (T : Txt mg) (bSame : Binds K fd ["_law_found", "_law_due"] []) (mSame : mg "_law_same" = some (.ref f)) : FnOk P w K mg base CX0 2 f fd ["_law_found", "_law_due"] spSameT := by
  have GSame : FnOk P w K mg base CX0 1 f fd ["_law_found", "_law_due"] spSame1 := ok_same1 F T
  have FSame := F
  refine F.ok scSame (fun vs H Q E h => ?_) (fun cdv A outer s H vs Q E hr h => ?_)
  · obtain ⟨_, _, _, rfl, _⟩ := h
    rfl
  · obtain ⟨t1, t2, xs, rfl, h1, h2, hl, hx, q⟩ := h
    refine ⟨_, (pss_cons (ps_if (pt_val (pe_callB call_isi (by rfl) T.isi boot_isinstance (pa_cons (pv 1) (pa_cons (pe_bltn (v := .ty "tuple") (by rfl) T.tuple boot_tuple rfl) pa_nil))))
      (pss_cons (ps_if (PW.pt (pw_or (pt_not (pt_val (pe_callB call_isi (by rfl) T.isi boot_isinstance (pa_cons (pv 0) (pa_cons (pe_bltn (v := .ty "tuple") (by rfl) T.tuple boot_tuple rfl) pa_nil))))) (pw_or1 (pt_cmpR op_ne (pe_callB call_len_seq (by rfl) T.len PySem.boot_len (pa_cons (pv 0) pa_nil)) (pe_callB call_len_seq (by rfl) T.len PySem.boot_len (pa_cons (pv 1) pa_nil)) (nomark _)))))
      (pss_one (ps_ret pe_bl))
      pss_nil)
      (pss_one (ps_ret (pe_callB (call_allB rfl) (by rfl) T.all boot_all (pa_cons (pe_comp rfl rfl (xs := ["_law_one", "_law_other"]) ⟨(by with_unfolding_all rfl), rfl, rfl, rfl, (by repeat (first | exact trivial | refine ⟨rfl, ?_⟩)), rfl⟩ (pi_zipT rfl T.zip (pv 0) (pv 1)) (fun _ _ _ _ => (pg_tupK (K := K) (n := 2) rfl rfl (pgs_cons (pg_name (i := 2) (by decide +kernel : (["_law_found", "_law_due", "_law_one", "_law_other"] : List Str).Nodup) rfl (Or.inl rfl)) (pgs_cons (pg_name (i := 3) (by decide +kernel : (["_law_found", "_law_due", "_law_one", "_law_other"] : List Str).Nodup) rfl (Or.inl rfl)) pgs_nil)) rfl)) (fun _ _ _ _ => pif_nil) (fun _ _ _ _ => (pe_call GSame (hr.mono (by decide)) rfl mSame FSame.kp bSame .nil pass0 (pa_cons (pv 2) (pa_cons (pv 3) pa_nil))))) pa_nil)))))
      pss_nil)
      (pss_cons (ps_if (pt_cmpR op_isN (pv 1) pe_non (nomark _))
      (pss_one (ps_ret (pe_cmpR op_isN (pv 0) pe_non (nomark _))))
      pss_nil)
      (pss_cons (ps_if (pt_val (pe_callB call_isi (by rfl) T.isi boot_isinstance (pa_cons (pv 1) (pa_cons (pe_bltn (v := .ty "str") (by rfl) T.str boot_str rfl) pa_nil))))
      (pss_one (ps_ret (pe_and (pe_callB call_isi (by rfl) T.isi boot_isinstance (pa_cons (pv 0) (pa_cons (pe_bltn (v := .ty "str") (by rfl) T.str boot_str rfl) pa_nil))) (pe_one (pe_cmpR op_eq (pv 0) (pv 1) (nomark _))))))
      pss_nil)
      (pss_one (ps_ret (pe_and (pe_callB call_isi (by rfl) T.isi boot_isinstance (pa_cons (pv 0) (pa_cons (pe_bltn (v := .ty "int") (by rfl) T.int boot_int rfl) pa_nil))) (pe_and (pe_not (pe_callB call_isi (by rfl) T.isi boot_isinstance (pa_cons (pv 0) (pa_cons (pe_bltn (v := .ty "bool") (by rfl) T.bool boot_bool rfl) pa_nil)))) (pe_one (pe_cmpR op_eq (pv 0) (pv 1) (nomark _)))))))))), ?_⟩
    refine ⟨_, rfl, _, _, _, _, rfl, .tup h2, kit_tt, _, rfl, iteT ?_⟩
    refine ⟨_, rfl, _, _, _, _, rfl, .tup h1, kit_tt, _, rfl, iteF ?_⟩
    refine ⟨_, rfl, t1, _, rfl, .inr (SqT.of h1), _, rfl, t2, _, rfl, .inr (SqT.of h2), rfl, _, rfl, iteNS rfl ?_⟩
    refine ⟨_, rfl, _, rfl, t1, t2, xs, xs, rfl, h1, h2, comp_zT (xs := xs) (ys0 := xs) (fun j ys H2 => Same H H2 ∧ ys = (List.replicate j true).map V.bl) (by omega) (Nat.le_refl _) ⟨Same.refl _, rfl⟩ (fun j ys H2 ⟨z, _⟩ => ⟨z _ _ h1, z _ _ h2⟩) (fun j ys H2 ⟨_, z⟩ => by rw [z, List.length_map, List.length_replicate]; exact Nat.le_refl _) ?_ ?_⟩
    · rintro j x y ys H2 U hx1 hy1 ⟨s2, rfl⟩ hU
      rw [hx1] at hy1
      cases Option.some.inj hy1
      refine ⟨U, [x, x], rfl, SqT.of upd_same, rfl, _, _, rfl, _, _, rfl, rfl, yesS ?_⟩
      refine ⟨_, rfl, _, rfl, x, rfl, hx x (List.mem_of_getElem? hx1), same_new s2 hU, ?_⟩
      rw [List.replicate_succ', List.map_append]
      rfl
    · rintro ys H2 ⟨s2, rfl⟩ p hp
      refine ⟨p, List.replicate xs.length true, rfl, SqL.of upd_same, ?_⟩
      rw [all_rep]
      exact q _ (same_new s2 hp)
end
end K
namespace K
open PySem PyProof.Rows L2 Mth
theorem kind_head {H : Hp} {v : V} {d : Kd} (h : KindV H v d) : ∃ t z xs, v = .ref t ∧ H t = some (.tup (.str z :: xs)) ∧ (z = "turn" → ∃ row r, d = .turn row ∧ xs = [.ref r] ∧ H r = some (.tup (row.map V.int))) := by
  cases d with
  | still => obtain ⟨t, rfl, h⟩ := h; exact ⟨t, _, [], rfl, h, fun e => absurd e (by decide)⟩
  | drawn => obtain ⟨t, rfl, h⟩ := h; exact ⟨t, _, [], rfl, h, fun e => absurd e (by decide)⟩
  | step x => obtain ⟨t, rfl, h⟩ := h; exact ⟨t, _, [.int x], rfl, h, fun e => absurd e (by decide)⟩
  | turn row => obtain ⟨t, r, rfl, h, h2⟩ := h; exact ⟨t, _, [.ref r], rfl, h, fun _ => ⟨row, r, rfl, rfl, h2⟩⟩
  | wth f x => obtain ⟨t, rfl, h⟩ := h; exact ⟨t, _, [.int (f : Int), .int x], rfl, h, fun e => absurd e (by decide)⟩
def spValue : Sp := fun vs H Q _ => ∃ (p qa fa : Addr) (i : Nat) (b c : Int) (d : Kd), vs = [.ref p, .ref fa] ∧ PotD H p qa c ∧ c < 2 ^ 30 ∧ FieldAt H fa b d ∧ 1 ≤ b ∧ b ≤ 40 ∧ KdOk i b d ∧ ∀ (v c' : Int) (H' : Hp), 0 ≤ v → v < 2 ^ b.toNat → PotD H' p qa c' → c' ≤ c + 5 → But2 p qa H H' → Q (.int v) H'
/-- a head of these fields -/
def HdOk (bs : List (Int × Kd)) (vals : List Int) : Prop := vals.length = bs.length ∧ ∀ (i : Nat) (h1 : i < vals.length) (h2 : i < bs.length), 0 ≤ vals[i] ∧ vals[i] < 2 ^ bs[i].1.toNat
def spHead : Sp := fun vs H Q _ => ∃ (p qa sh : Addr) (bs : List (Int × Kd)) (c : Int), vs = [.ref p, .ref sh] ∧ PotD H p qa c ∧ c < 2 ^ 29 ∧ ShapeAt H sh bs ∧ ∀ (hd : Addr) (vals : List Int) (c' : Int) (H' : Hp), PotD H' p qa c' → c' ≤ c + 70 → But2 p qa H H' → H' hd = some (.tup (vals.map V.int)) → HdOk bs vals → Q (.ref hd) H'
def spLExpected : Sp := fun vs H Q _ => ∃ (sh fo ah : Addr) (bs : List (Int × Kd)) (former ahead : List Int) (i : Nat) (hi : i < bs.length) (n : Nat), vs = [.ref sh, .int (i : Int), .ref fo, .ref ah, .int (n : Int)] ∧ n ≤ 1000 ∧ ShapeAt H sh bs ∧ H fo = some (.tup (former.map V.int)) ∧ HdOk bs former ∧ H ah = some (.tup (ahead.map V.int)) ∧ ahead.length = i ∧ ∀ v : Int, 0 ≤ v → v < 2 ^ bs[i].1.toNat → Q (.int v) H
def spWidthL : Sp := fun vs H Q _ => ∃ (fa : Addr) (nm v kd : V) (b : Int) (y : Wy), vs = [.ref fa, v] ∧ H fa = some (.tup [nm, .int b, kd]) ∧ WayV H v y ∧ Q (.int (wW b y)) H
section
variable {P : Program} {w : World} {K : PySem.W.Frag} {mg : Str → Option Value} {base : Heap}
theorem scValue : FnScope ["_law_pot_here", "_law_field", "_law_name", "_law_breadth", "_law_kind_here", "_law_power"] ["_law_pot_here", "_law_field"] (defScope sValue) := ⟨rfl, rfl, rfl, by decide +kernel, rfl, by decide +kernel, by decide +kernel⟩
set_option maxHeartbeats 4000000 in
theorem ok_value {f : Addr} {fd : FuncData} (F : Fun K "_law_value" "_law_value" sValue f fd) (T : Txt mg) {fPick : Addr} {fdPick : FuncData} (FPick : Fun K "_law_pick" "_law_pick" sPick fPick fdPick) (bPick : Binds K fdPick ["_law_pot_here", "_law_many"] []) (mPick : mg "_law_pick" = some (.ref fPick)) : FnOk P w K mg base CX0 2 f fd ["_law_pot_here", "_law_field"] spValue := by
  have GPick : FnOk P w K mg base CX0 1 fPick fdPick ["_law_pot_here", "_law_many"] spPick := ok_pick FPick
  refine F.ok scValue (fun vs H Q E h => ?_) (fun cdv A outer s H vs Q E hr h => ?_)
  · obtain ⟨_, _, _, _, _, _, _, rfl, _⟩ := h
    rfl
  · obtain ⟨p, qa, fa, i, b, c, d, rfl, pot, hc, ⟨nm, kv, f1, f2⟩, b0, b1', hko, q⟩ := h
    obtain ⟨t, z, xs, rfl, ht, htn⟩ := kind_head f2
    have hp := two_pow_pos b.toNat
    have h40 : (2 : Int) ^ b.toNat ≤ 2 ^ 40 := two_pow_mono (by omega)
    have h2 : (2 : Int) ^ 1 ≤ 2 ^ b.toNat := two_pow_mono (by omega)
    have h2' : (2 : Int) ^ 1 = 2 := by decide
    refine ⟨_, (pss_cons (ps_asg (pv 1) (pg_tup rfl (pgs_cons (pg_name (i := 2) scValue.nd rfl (Or.inl rfl)) (pgs_cons (pg_name (i := 3) scValue.nd rfl (Or.inl rfl)) (pgs_cons (pg_name (i := 4) scValue.nd rfl (Or.inl rfl)) pgs_nil)))))
      (pss_cons (ps_set (i := 5) scValue.nd rfl (Or.inl rfl) (pe_op op_shl pe_int (pv 3)))
      (pss_cons (ps_if (PW.pt (pw_and (pt_cmpR op_eq (pe_ix ix_tup (pv 4) pe_int (fun _ _ => rfl)) pe_str (nomark _)) (pw_and1 (pt_cmpR op_gt (pe_call GPick (hr.mono (by decide)) rfl mPick FPick.kp bPick .nil pass0 (pa_cons (pv 0) (pa_cons pe_int pa_nil))) pe_int (nomark _)))))
      (pss_one (ps_ret (pe_ix ix_tup (pe_ix ix_tup (pv 4) pe_int (fun _ _ => rfl)) (pe_call GPick (hr.mono (by decide)) rfl mPick FPick.kp bPick .nil pass0 (pa_cons (pv 0) (pa_cons (pe_callB call_len_seq (by rfl) T.len PySem.boot_len (pa_cons (pe_ix ix_tup (pv 4) pe_int (fun _ _ => rfl)) pa_nil)) pa_nil))) (fun _ _ => rfl))))
      pss_nil)
      (pss_one (ps_ret (pe_ix ix_list (pe_lst (pa_cons pe_int (pa_cons (pe_op op_sub (pv 5) pe_int) (pa_cons (pe_call GPick (hr.mono (by decide)) rfl mPick FPick.kp bPick .nil pass0 (pa_cons (pv 0) (pa_cons (pv 5) pa_nil))) (pa_cons (pe_call GPick (hr.mono (by decide)) rfl mPick FPick.kp bPick .nil pass0 (pa_cons (pv 0) (pa_cons (pe_callB (call_min2 rfl) (by rfl) T.min boot_min (pa_cons (pv 5) (pa_cons pe_int pa_nil))) pa_nil))) pa_nil))))) (pe_call GPick (hr.mono (by decide)) rfl mPick FPick.kp bPick .nil pass0 (pa_cons (pv 0) (pa_cons pe_int pa_nil))) (fun _ _ => rfl))))))), ?_⟩
    refine ⟨_, rfl, fa, [nm, .int b, .ref t], rfl, SqT.of f1, rfl, _, _, rfl, _, _, rfl, _, _, rfl, rfl, ?_⟩
    refine ⟨_, rfl, _, _, rfl, rfl, ⟨by omega, by omega, by decide⟩, ?_⟩
    refine ⟨_, rfl, t, _, _, _, rfl, rfl, SqT.of ht, atI0, rfl, _, rfl, ite2 (fun y1 => ?_) (fun y1 => ?_)⟩
    · obtain ⟨row, r, rfl, rfl, hrow⟩ := htn (V.str.inj (of_decide_eq_true y1))
      obtain ⟨ro1, ro2, ro3, ro4⟩ := hko
      refine ⟨_, rfl, p, qa, _, c, rfl, pot, by omega, by decide, by decide, fun e H1 x0 x1 pot1 k1 => ?_⟩
      refine ⟨_, _, rfl, rfl, _, rfl, ite2 (fun y2 => ?_) (fun y2 => ?_)⟩
      · have m1 := b2_tup pot k1
        have hlr : (row.map V.int).length = row.length := List.length_map ..
        refine ⟨_, rfl, t, _, _, _, rfl, rfl, SqT.of (m1 _ _ ht), atI_nat (j := 1) rfl, _, rfl, _, rfl, t, _, _, _, rfl, rfl, SqT.of (m1 _ _ ht), atI_nat (j := 1) rfl, r, _, rfl, .inr (SqT.of (m1 _ _ hrow)), p, qa, _, _, rfl, pot1, by omega, by omega, by omega, fun e2 H2 w0 w1 pot2 k2 => ?_⟩
        obtain ⟨v, hv, ev⟩ := atI_ints row e2 w0 (by rw [hlr] at w1; exact w1)
        have := ro4 v hv
        exact ⟨r, _, _, _, rfl, rfl, SqT.of (b2_tup pot1 k2 _ _ (m1 _ _ hrow)), ev, q v _ _ this.1 this.2 pot2 (by omega) (b2_trans k1 k2)⟩
      · refine ⟨_, rfl, _, _, rfl, rfl, _, rfl, _, rfl, p, qa, _, _, rfl, pot1, by omega, by omega, by omega, fun d1 G1 a0 a1 po1 kk1 => ?_⟩
        refine ⟨_, rfl, _, rfl, _, _, rfl, p, qa, _, _, rfl, po1, by omega, by split <;> omega, by split <;> omega, fun d2 G2 b0 b1 po2 kk2 => ⟨(by show 4 ≤ sizeLine; decide), fun l hl => ?_⟩⟩
        refine ⟨_, rfl, p, qa, _, _, rfl, pd_new po2 hl, by omega, by decide, by decide, fun d3 G3 e0 e1 po3 kk3 => ?_⟩
        obtain ⟨n1, n2⟩ := pd_ne po2 hl
        obtain ⟨zz, hzz, ezz⟩ := atI_ints [0, 1 * 2 ^ b.toNat - 1, d1, d2] d3 e0 e1
        refine ⟨l, _, _, _, rfl, rfl, SqL.of (kk3 l _ upd_same n1 n2), ezz, q zz _ _ ?_ ?_ po3 (by omega) (b2_trans k1 (b2_trans (b2_new (b2_trans kk1 kk2) hl) kk3))⟩
        · simp only [List.mem_cons, List.not_mem_nil, or_false] at hzz
          rcases hzz with rfl | rfl | rfl | rfl <;> omega
        · simp only [List.mem_cons, List.not_mem_nil, or_false] at hzz
          have : d2 < 2 ^ b.toNat := by split at b1 <;> omega
          rcases hzz with rfl | rfl | rfl | rfl <;> omega
    · refine iteF ?_
      refine ⟨_, rfl, _, _, rfl, rfl, _, rfl, _, rfl, p, qa, _, _, rfl, pot, by omega, by omega, by omega, fun d1 G1 a0 a1 po1 kk1 => ?_⟩
      refine ⟨_, rfl, _, rfl, _, _, rfl, p, qa, _, _, rfl, po1, by omega, by split <;> omega, by split <;> omega, fun d2 G2 b0 b1 po2 kk2 => ⟨(by show 4 ≤ sizeLine; decide), fun l hl => ?_⟩⟩
      refine ⟨_, rfl, p, qa, _, _, rfl, pd_new po2 hl, by omega, by decide, by decide, fun d3 G3 e0 e1 po3 kk3 => ?_⟩
      obtain ⟨n1, n2⟩ := pd_ne po2 hl
      obtain ⟨zz, hzz, ezz⟩ := atI_ints [0, 1 * 2 ^ b.toNat - 1, d1, d2] d3 e0 e1
      refine ⟨l, _, _, _, rfl, rfl, SqL.of (kk3 l _ upd_same n1 n2), ezz, q zz _ _ ?_ ?_ po3 (by omega) (b2_trans (b2_refl) (b2_trans (b2_new (b2_trans kk1 kk2) hl) kk3))⟩
      · simp only [List.mem_cons, List.not_mem_nil, or_false] at hzz
        rcases hzz with rfl | rfl | rfl | rfl <;> omega
      · simp only [List.mem_cons, List.not_mem_nil, or_false] at hzz
        have : d2 < 2 ^ b.toNat := by split at b1 <;> omega
        rcases hzz with rfl | rfl | rfl | rfl <;> omega
theorem scHead : FnScope ["_law_pot_here", "_law_shape_here"] ["_law_pot_here", "_law_shape_here"] (defScope sHead) := ⟨rfl, rfl, rfl, by decide +kernel, rfl, by decide +kernel, by decide +kernel⟩
theorem ok_head {f : Addr} {fd : FuncData} (F : Fun K "_law_head" "_law_head" sHead f fd) (T : Txt mg) {fPick fValue : Addr} {fdPick fdValue : FuncData} (FPick : Fun K "_law_pick" "_law_pick" sPick fPick fdPick) (bPick : Binds K fdPick ["_law_pot_here", "_law_many"] []) (mPick : mg "_law_pick" = some (.ref fPick)) (FValue : Fun K "_law_value" "_law_value" sValue fValue fdValue) (bValue : Binds K fdValue ["_law_pot_here", "_law_field"] []) (mValue : mg "_law_value" = some (.ref fValue)) : FnOk P w K mg base CX0 3 f fd ["_law_pot_here", "_law_shape_here"] spHead := by
  have GValue : FnOk P w K mg base CX0 2 fValue fdValue ["_law_pot_here", "_law_field"] spValue := ok_value FValue T FPick bPick mPick
  refine F.ok scHead (fun vs H Q E h => ?_) (fun cdv A outer s H vs Q E hr h => ?_)
  · obtain ⟨_, _, _, _, _, rfl, _⟩ := h
    rfl
  · obtain ⟨p, qa, sh, bs, c, rfl, pot, hc, hsh, q⟩ := h
    obtain ⟨ft, fr, m, e1, e2, e3, e4, e5, e6⟩ := id hsh
    have hfl := e3.len
    refine ⟨_, (pss_one (ps_ret (pe_callTy call_tuple_of (by rfl) T.tuple boot_tuple (pa_cons (pe_comp rfl rfl (xs := ["_law_field"]) ⟨(by with_unfolding_all rfl), rfl, rfl, rfl, (by repeat (first | exact trivial | refine ⟨rfl, ?_⟩)), rfl⟩ (pi_tup (pe_ix ix_tup (pv 1) pe_int (fun _ _ => rfl))) (fun _ _ _ _ => (pg_name (i := 2) (by decide +kernel : (["_law_pot_here", "_law_shape_here", "_law_field"] : List Str).Nodup) rfl (Or.inl rfl))) (fun _ _ _ _ => pif_nil) (fun _ _ _ _ => (pe_call GValue (hr.mono (by decide)) rfl mValue FValue.kp bValue .nil pass0 (pa_cons (pv 0) (pa_cons (pv 2) pa_nil))))) pa_nil)))), ?_⟩
    refine ⟨_, rfl, sh, _, _, _, rfl, rfl, SqT.of e1, rfl, ft, rfl, ⟨_, SqT.of e2⟩, comp_tup (xs := fr.map V.ref) (fun j vs H1 => ∃ (vals : List Int) (cj : Int), vs = vals.map V.int ∧ PotD H1 p qa cj ∧ cj ≤ c + 5 * (j : Int) ∧ But2 p qa H H1 ∧ vals.length = j ∧ ∀ (i : Nat) (h1 : i < vals.length) (h2 : i < bs.length), 0 ≤ vals[i] ∧ vals[i] < 2 ^ bs[i].1.toNat) (by rw [List.length_map]; omega) ⟨[], c, rfl, pot, by omega, b2_refl, rfl, fun i h => (nomatch h)⟩ (fun j ys H1 ⟨_, _, _, _, _, k, _⟩ => SqT.of (b2_tup pot k _ _ e2)) (fun j vs H1 ⟨vals, _, e, _, _, _, z, _⟩ => by rw [e, List.length_map, z]; exact Nat.le_refl _) ?_ ?_⟩
    · rintro j x vs H1 hx ⟨vals, cj, rfl, pot1, cj1, k1, hvl, hv⟩
      obtain ⟨hj, rfl⟩ := get_map hx
      have hjb : j < bs.length := by omega
      obtain ⟨o0, o1, o2⟩ := e6 j hjb
      refine yesG ?_
      refine ⟨_, rfl, _, rfl, p, qa, fr[j], j, bs[j].1, cj, bs[j].2, rfl, pot1, by omega, (e3.mono (b2_tup pot k1)).get j hj hjb, o0, o1, o2, fun v c' H2 v0 v1 pot2 hc2 k2 => ?_⟩
      refine ⟨vals ++ [v], c', by rw [List.map_append]; rfl, pot2, by push_cast; omega, b2_trans k1 k2, by rw [List.length_append, hvl]; rfl, fun i h1 h2 => ?_⟩
      by_cases hlt : i < vals.length
      · rw [List.getElem_append_left hlt]
        exact hv i hlt h2
      · have e : i = j := by
          rw [List.length_append] at h1
          have : [v].length = 1 := rfl
          omega
        subst e
        rw [List.getElem_append_right (by omega)]
        simp only [hvl, Nat.sub_self, List.getElem_cons_zero]
        exact ⟨v0, v1⟩
    · rintro vs H1 ⟨vals, cj, rfl, pot1, cj1, k1, hvl, hv⟩ l hl
      rw [List.length_map] at cj1 hvl
      exact ⟨l, _, rfl, .inl ⟨SqL.of upd_same, fun hd hhd => q hd vals _ _ (pd_new (pd_new pot1 hl) hhd) (by omega) (b2_new (b2_new k1 hl) hhd) upd_same ⟨by omega, hv⟩⟩⟩
theorem scWidth : FnScope ["_law_field", "_law_way_here"] ["_law_field", "_law_way_here"] (defScope sWidth) := ⟨rfl, rfl, rfl, by decide +kernel, rfl, by decide +kernel, by decide +kernel⟩
theorem ok_widthl {f : Addr} {fd : FuncData} (F : Fun K "_law_width" "_law_width" sWidth f fd) (T : Txt mg) : FnOk P w K mg base CX0 1 f fd ["_law_field", "_law_way_here"] spWidthL := by
  refine F.ok scWidth (fun vs H Q E h => ?_) (fun cdv A outer s H vs Q E hr h => ?_)
  · obtain ⟨_, _, _, _, _, _, rfl, _⟩ := h
    rfl
  · obtain ⟨fa, nm, v, kd, b, y, rfl, hfa, hv, q⟩ := h
    refine ⟨_, (pss_cons (ps_if (pt_cmpR op_eq (pe_ix ix_tup (pv 1) pe_int (fun _ _ => rfl)) pe_str (nomark _))
      (pss_one (ps_ret (pe_ix ix_tup (pv 1) pe_int (fun _ _ => rfl))))
      pss_nil)
      (pss_one (ps_ret (pe_op op_mul (pe_ix ix_tup (pv 0) pe_int (fun _ _ => rfl)) (pe_callTy call_int1 (by rfl) T.int boot_int (pa_cons (pe_cmpR op_eq (pe_ix ix_tup (pv 1) pe_int (fun _ _ => rfl)) pe_str (nomark _)) pa_nil)))))), ?_⟩
    cases y with
    | keep =>
      obtain ⟨t, rfl, ht⟩ := hv
      refine ⟨_, rfl, t, _, _, _, rfl, rfl, SqT.of ht, rfl, rfl, _, rfl, iteDN (by decide) ?_⟩
      refine ⟨_, rfl, fa, _, _, _, rfl, rfl, SqT.of hfa, rfl, _, rfl, t, _, _, _, rfl, rfl, SqT.of ht, rfl, rfl, .inr ⟨_, rfl, _, _, rfl, rfl, .inr ?_, ?_⟩⟩
      · rw [decide_eq_false (by decide)]
        decide
      · rw [decide_eq_false (by decide), if_neg Bool.false_ne_true]
        show Q (.int (b * 0)) H
        rw [Int.mul_zero]
        exact q
    | whole =>
      obtain ⟨t, rfl, ht⟩ := hv
      refine ⟨_, rfl, t, _, _, _, rfl, rfl, SqT.of ht, rfl, rfl, _, rfl, iteDN (by decide) ?_⟩
      refine ⟨_, rfl, fa, _, _, _, rfl, rfl, SqT.of hfa, rfl, _, rfl, t, _, _, _, rfl, rfl, SqT.of ht, rfl, rfl, .inr ⟨_, rfl, _, _, rfl, rfl, .inr ?_, ?_⟩⟩
      · rw [decide_eq_true rfl]
        decide
      · rw [decide_eq_true rfl, if_pos rfl]
        show Q (.int (b * 1)) H
        rw [Int.mul_one]
        exact q
    | low wd d =>
      obtain ⟨t, rfl, ht⟩ := hv
      exact ⟨_, rfl, t, _, _, _, rfl, rfl, SqT.of ht, rfl, rfl, _, rfl, iteD rfl ⟨_, rfl, t, _, _, _, rfl, rfl, SqT.of ht, rfl, q⟩⟩
end
end K
namespace K
open PySem PyProof.Rows L2 Mth
def tres (row : List Int) (v : Int) (n : Nat) : Int := if v ∈ row then row.getD ((row.idxOf v + n) % row.length) 0 else v
def exp (b : Int) (d : Kd) (i : Nat) (former ahead : List Int) (n : Nat) : Int := match d with
  | .still => former.getD i 0
  | .drawn => former.getD i 0
  | .step s => (former.getD i 0 + s * (n : Int)) % 2 ^ b.toNat
  | .turn row => tres row (former.getD i 0) n
  | .wth f s => (former.getD i 0 + s * (ahead.getD f 0 - former.getD f 0)) % 2 ^ b.toNat
theorem inV_ints (v : Int) : ∀ ns : List Int, inV (.int v) (ns.map V.int) = decide (v ∈ ns)
  | [] => rfl
  | a :: r => by
    have h := inV_ints v r
    unfold inV at h ⊢
    rw [List.map_cons, List.any_cons, h]
    by_cases e : v = a
    · subst e
      simp [eqV]
    · have e2 : ¬ a = v := fun z => e z.symm
      simp [eqV, e, e2]
theorem flat_ints (ns : List Int) : (ns.map V.int).all flatV = true := by simp [flatV]
theorem at_ints (ns : List Int) (i : Nat) (h : i < ns.length) : atI (ns.map V.int) (i : Int) = some (.int (ns.getD i 0)) := atI_nat (by simp [h])
theorem idx_facts {row : List Int} {v : Int} (nd : row.Nodup) (hv : v ∈ row) : ∃ h : row.idxOf v < row.length, row[row.idxOf v] = v ∧ ∀ m (hm : m < row.length), m < row.idxOf v → row[m] ≠ v := by
  have h : row.idxOf v < row.length := List.idxOf_lt_length_iff.mpr hv
  have e : row[row.idxOf v] = v := List.getElem_idxOf h
  refine ⟨h, e, fun m hm hlt z => ?_⟩
  have : m = row.idxOf v := (List.getElem_inj nd).mp (z.trans e.symm)
  omega
theorem idx_of {row : List Int} (nd : row.Nodup) {j : Nat} (h : j < row.length) : row.idxOf row[j] = j := by
  have hm := List.getElem_mem h
  obtain ⟨h2, e, _⟩ := idx_facts nd hm
  exact (List.getElem_inj nd).mp e
theorem tres_zero {row : List Int} {v : Int} (nd : row.Nodup) : tres row v 0 = v := by
  unfold tres
  split
  · rename_i h
    obtain ⟨h2, e, _⟩ := idx_facts nd h
    rw [Nat.add_zero, Nat.mod_eq_of_lt h2]
    simp [h2, e]
  · rfl
theorem tres_mem {row : List Int} {v : Int} {n : Nat} (hv : v ∈ row) : ∃ h : (row.idxOf v + n) % row.length < row.length, tres row v n = row[(row.idxOf v + n) % row.length] := by
  have hp : 0 < row.length := List.length_pos_of_mem hv
  have h := Nat.mod_lt (row.idxOf v + n) hp
  refine ⟨h, ?_⟩
  unfold tres
  rw [if_pos hv]
  simp [h]
theorem exp_ok {bs : List (Int × Kd)} {i : Nat} (hi : i < bs.length) (hk : KdOk i bs[i].1 bs[i].2) {former ahead : List Int} (hf : HdOk bs former) (n : Nat) : 0 ≤ exp bs[i].1 bs[i].2 i former ahead n ∧ exp bs[i].1 bs[i].2 i former ahead n < 2 ^ bs[i].1.toNat := by
  have hif : i < former.length := by rw [hf.1]; exact hi
  have hv := hf.2 i hif hi
  have eg : former.getD i 0 = former[i] := by simp [hif]
  have hp := two_pow_pos bs[i].1.toNat
  cases hd : bs[i].2 with
  | still => simp only [exp]; rw [eg]; exact hv
  | drawn => simp only [exp]; rw [eg]; exact hv
  | step s => simp only [exp]; exact ⟨Int.emod_nonneg _ (by omega), Int.emod_lt_of_pos _ hp⟩
  | turn row =>
    rw [hd] at hk
    simp only [exp]
    by_cases hm : former.getD i 0 ∈ row
    · obtain ⟨h2, e2⟩ := tres_mem (n := n) hm
      rw [e2]
      exact hk.2.2.2 _ (List.getElem_mem h2)
    · have e : tres row (former.getD i 0) n = former.getD i 0 := by unfold tres; rw [if_neg hm]
      rw [e, eg]
      exact hv
  | wth f s => simp only [exp]; exact ⟨Int.emod_nonneg _ (by omega), Int.emod_lt_of_pos _ hp⟩
def spLExp : Sp := fun vs H Q _ => ∃ (sh fo ah : Addr) (bs : List (Int × Kd)) (former ahead : List Int) (i : Nat) (hi : i < bs.length) (n : Nat), vs = [.ref sh, .int (i : Int), .ref fo, .ref ah, .int (n : Int)] ∧ n ≤ 1000 ∧ ShapeAt H sh bs ∧ H fo = some (.tup (former.map V.int)) ∧ HdOk bs former ∧ H ah = some (.tup (ahead.map V.int)) ∧ ahead.length = i ∧ Q (.int (exp bs[i].1 bs[i].2 i former ahead n)) H
def spGone : Sp := fun vs H Q _ => ∃ (p qa sh fo : Addr) (bs : List (Int × Kd)) (former : List Int) (n : Nat) (c : Int), vs = [.ref p, .ref sh, .ref fo, .int (n : Int)] ∧ PotD H p qa c ∧ c < 2 ^ 29 ∧ n ≤ 1000 ∧ ShapeAt H sh bs ∧ H fo = some (.tup (former.map V.int)) ∧ HdOk bs former ∧ ∀ (hd : Addr) (vals : List Int) (c' : Int) (H' : Hp), PotD H' p qa c' → c' ≤ c + 90 → But2 p qa H H' → H' hd = some (.tup (vals.map V.int)) → HdOk bs vals → Q (.ref hd) H'
section
variable {P : Program} {w : World} {K : PySem.W.Frag} {mg : Str → Option Value} {base : Heap}
theorem scLExpected : FnScope ["_law_shape_here", "_law_place", "_law_former", "_law_ahead", "_law_more", "_law_name", "_law_breadth", "_law_kind_here", "_law_value_here", "_law_far"] ["_law_shape_here", "_law_place", "_law_former", "_law_ahead", "_law_more"] (defScope sLExpected) := ⟨rfl, rfl, rfl, by decide +kernel, rfl, by decide +kernel, by decide +kernel⟩
set_option maxHeartbeats 4000000 in
theorem ok_lexpected {f : Addr} {fd : FuncData} (F : Fun K "_law_expected" "_law_expected" sLExpected f fd) (T : Txt mg) : FnOk P w K mg base CX0 1 f fd ["_law_shape_here", "_law_place", "_law_former", "_law_ahead", "_law_more"] spLExp := by
  refine F.ok scLExpected (fun vs H Q E h => ?_) (fun cdv A outer s H vs Q E hr h => ?_)
  · obtain ⟨_, _, _, _, _, _, _, _, _, rfl, _⟩ := h
    rfl
  · obtain ⟨sh, fo, ah, bs, former, ahead, i, hi, n, rfl, hn, hsh, hfo, hf, hah, hal, q⟩ := h
    obtain ⟨ft, fr, m, e1, e2, e3, e4, e5, e6⟩ := id hsh
    have hifr : i < fr.length := by rw [e3.len]; exact hi
    have hif : i < former.length := by rw [hf.1]; exact hi
    obtain ⟨nm, kv, f1, f2⟩ := e3.get i hifr hi
    obtain ⟨o0, o1, o2⟩ := e6 i hi
    have hv := hf.2 i hif hi
    have eg : former.getD i 0 = former[i] := by simp [hif]
    have hp := two_pow_pos bs[i].1.toNat
    have efr : atI (fr.map V.ref) (i : Int) = some (.ref fr[i]) := atI_nat (by simp [hifr])
    refine ⟨_, (pss_cons (ps_asg (pe_ix ix_tup (pe_ix ix_tup (pv 0) pe_int (fun _ _ => rfl)) (pv 1) (fun _ _ => rfl)) (pg_tup rfl (pgs_cons (pg_name (i := 5) scLExpected.nd rfl (Or.inl rfl)) (pgs_cons (pg_name (i := 6) scLExpected.nd rfl (Or.inl rfl)) (pgs_cons (pg_name (i := 7) scLExpected.nd rfl (Or.inl rfl)) pgs_nil)))))
      (pss_cons (ps_set (i := 8) scLExpected.nd rfl (Or.inl rfl) (pe_ix ix_tup (pv 2) (pv 1) (fun _ _ => rfl)))
      (pss_cons (ps_if (pt_cmpR op_eq (pe_ix ix_tup (pv 7) pe_int (fun _ _ => rfl)) pe_str (nomark _))
      (pss_one (ps_set (i := 8) scLExpected.nd rfl (Or.inl rfl) (pe_op op_add (pv 8) (pe_op op_mul (pv 4) (pe_ix ix_tup (pv 7) pe_int (fun _ _ => rfl))))))
      pss_nil)
      (pss_cons (ps_if (PW.pt (pw_and (pt_cmpR op_eq (pe_ix ix_tup (pv 7) pe_int (fun _ _ => rfl)) pe_str (nomark _)) (pw_and1 (pt_cmpR op_in_seq (pv 8) (pe_ix ix_tup (pv 7) pe_int (fun _ _ => rfl)) rfl))))
      (pss_one (ps_ret (pe_ix ix_tup (pe_ix ix_tup (pv 7) pe_int (fun _ _ => rfl)) (pe_op op_mod (pe_op op_add (pe_bmT PySem.F.slot_tuple_index PySem.F.type_tuple_index mt_tindex (pe_ix ix_tup (pv 7) pe_int (fun _ _ => rfl)) (pa_cons (pv 8) pa_nil)) (pv 4)) (pe_callB call_len_seq (by rfl) T.len PySem.boot_len (pa_cons (pe_ix ix_tup (pv 7) pe_int (fun _ _ => rfl)) pa_nil))) (fun _ _ => rfl))))
      pss_nil)
      (pss_cons (ps_if (pt_cmpR op_eq (pe_ix ix_tup (pv 7) pe_int (fun _ _ => rfl)) pe_str (nomark _))
      (pss_cons (ps_set (i := 9) scLExpected.nd rfl (Or.inl rfl) (pe_op op_sub (pe_ix ix_tup (pv 3) (pe_ix ix_tup (pv 7) pe_int (fun _ _ => rfl)) (fun _ _ => rfl)) (pe_ix ix_tup (pv 2) (pe_ix ix_tup (pv 7) pe_int (fun _ _ => rfl)) (fun _ _ => rfl))))
      (pss_one (ps_set (i := 8) scLExpected.nd rfl (Or.inl rfl) (pe_op op_add (pv 8) (pe_op op_mul (pe_ix ix_tup (pv 7) pe_int (fun _ _ => rfl)) (pv 9))))))
      pss_nil)
      (pss_one (ps_ret (pe_op op_mod (pv 8) (pe_op op_shl pe_int (pv 6)))))))))), ?_⟩
    refine ⟨_, rfl, sh, _, _, _, rfl, rfl, SqT.of e1, rfl, _, rfl, ft, _, _, _, rfl, rfl, SqT.of e2, efr, fr[i], [nm, .int bs[i].1, kv], rfl, SqT.of f1, rfl, _, _, rfl, _, _, rfl, _, _, rfl, rfl, ?_⟩
    refine ⟨_, rfl, _, rfl, fo, _, _, _, rfl, rfl, SqT.of hfo, at_ints former i hif, ?_⟩
    have keep : former.getD i 0 % (1 * 2 ^ bs[i].1.toNat) = former.getD i 0 := by rw [Int.one_mul, eg]; exact Int.emod_eq_of_lt hv.1 hv.2
    cases hd : bs[i].2 with
    | still =>
      rw [hd] at f2 q
      obtain ⟨t, rfl, ht⟩ := f2
      refine ⟨_, rfl, t, _, _, _, rfl, rfl, SqT.of ht, rfl, rfl, _, rfl, iteDN (by decide) ?_⟩
      refine ⟨_, rfl, t, _, _, _, rfl, rfl, SqT.of ht, rfl, rfl, _, rfl, iteDN (by decide) (iteF ?_)⟩
      refine ⟨_, rfl, t, _, _, _, rfl, rfl, SqT.of ht, rfl, rfl, _, rfl, iteDN (by decide) ?_⟩
      refine ⟨_, rfl, _, rfl, _, _, rfl, rfl, ⟨by omega, by omega, by decide⟩, _, _, rfl, rfl, (by show (0 : Int) < 1 * 2 ^ bs[i].1.toNat; omega), ?_⟩
      show Q (.int (former.getD i 0 % (1 * 2 ^ bs[i].1.toNat))) H
      rw [keep]
      exact q
    | drawn =>
      rw [hd] at f2 q
      obtain ⟨t, rfl, ht⟩ := f2
      refine ⟨_, rfl, t, _, _, _, rfl, rfl, SqT.of ht, rfl, rfl, _, rfl, iteDN (by decide) ?_⟩
      refine ⟨_, rfl, t, _, _, _, rfl, rfl, SqT.of ht, rfl, rfl, _, rfl, iteDN (by decide) (iteF ?_)⟩
      refine ⟨_, rfl, t, _, _, _, rfl, rfl, SqT.of ht, rfl, rfl, _, rfl, iteDN (by decide) ?_⟩
      refine ⟨_, rfl, _, rfl, _, _, rfl, rfl, ⟨by omega, by omega, by decide⟩, _, _, rfl, rfl, (by show (0 : Int) < 1 * 2 ^ bs[i].1.toNat; omega), ?_⟩
      show Q (.int (former.getD i 0 % (1 * 2 ^ bs[i].1.toNat))) H
      rw [keep]
      exact q
    | step x =>
      rw [hd] at f2 q
      obtain ⟨t, rfl, ht⟩ := f2
      refine ⟨_, rfl, t, _, _, _, rfl, rfl, SqT.of ht, rfl, rfl, _, rfl, iteD rfl ?_⟩
      refine ⟨_, rfl, _, rfl, _, rfl, t, _, _, _, rfl, rfl, SqT.of ht, rfl, _, _, rfl, rfl, .inl ⟨by omega, by omega⟩, _, _, rfl, rfl, ?_⟩
      refine ⟨_, rfl, t, _, _, _, rfl, rfl, SqT.of ht, rfl, rfl, _, rfl, iteDN (by decide) (iteF ?_)⟩
      refine ⟨_, rfl, t, _, _, _, rfl, rfl, SqT.of ht, rfl, rfl, _, rfl, iteDN (by decide) ?_⟩
      refine ⟨_, rfl, _, rfl, _, _, rfl, rfl, ⟨by omega, by omega, by decide⟩, _, _, rfl, rfl, (by show (0 : Int) < 1 * 2 ^ bs[i].1.toNat; omega), ?_⟩
      show Q (.int ((former.getD i 0 + (n : Int) * x) % (1 * 2 ^ bs[i].1.toNat))) H
      rw [Int.one_mul, Int.mul_comm]
      exact q
    | wth g x =>
      rw [hd] at f2 q o2
      obtain ⟨t, rfl, ht⟩ := f2
      obtain ⟨og, ox0, ox1⟩ := o2
      refine ⟨_, rfl, t, _, _, _, rfl, rfl, SqT.of ht, rfl, rfl, _, rfl, iteDN (by decide) ?_⟩
      refine ⟨_, rfl, t, _, _, _, rfl, rfl, SqT.of ht, rfl, rfl, _, rfl, iteDN (by decide) (iteF ?_)⟩
      refine ⟨_, rfl, t, _, _, _, rfl, rfl, SqT.of ht, rfl, rfl, _, rfl, iteD rfl ?_⟩
      refine ⟨_, rfl, _, rfl, t, _, _, _, rfl, rfl, SqT.of ht, rfl, ah, _, _, _, rfl, rfl, SqT.of hah, at_ints ahead g (by omega), _, rfl, _, rfl, t, _, _, _, rfl, rfl, SqT.of ht, rfl, fo, _, _, _, rfl, rfl, SqT.of hfo, at_ints former g (by omega), _, _, rfl, rfl, ?_⟩
      refine ⟨_, rfl, _, rfl, t, _, _, _, rfl, rfl, SqT.of ht, rfl, _, rfl, _, _, rfl, rfl, .inl ⟨by omega, by omega⟩, _, _, rfl, rfl, ?_⟩
      refine ⟨_, rfl, _, rfl, _, _, rfl, rfl, ⟨by omega, by omega, by decide⟩, _, _, rfl, rfl, (by show (0 : Int) < 1 * 2 ^ bs[i].1.toNat; omega), ?_⟩
      show Q (.int ((former.getD i 0 + x * (ahead.getD g 0 - former.getD g 0)) % (1 * 2 ^ bs[i].1.toNat))) H
      rw [Int.one_mul]
      exact q
    | turn row =>
      rw [hd] at f2 q o2
      obtain ⟨t, r, rfl, ht, hrow⟩ := f2
      obtain ⟨ro1, ro2, nd, ro4⟩ := o2
      refine ⟨_, rfl, t, _, _, _, rfl, rfl, SqT.of ht, rfl, rfl, _, rfl, iteDN (by decide) ?_⟩
      refine ⟨_, rfl, t, _, _, _, rfl, rfl, SqT.of ht, rfl, rfl, _, rfl, iteD rfl ?_⟩
      refine ⟨_, rfl, _, rfl, t, _, _, _, rfl, rfl, SqT.of ht, rfl, r, _, rfl, .inr (SqT.of hrow), rfl, flat_ints row, _, rfl, ?_⟩
      rw [inV_ints]
      by_cases hvm : former.getD i 0 ∈ row
      · rw [decide_eq_true hvm]
        refine iteT ?_
        obtain ⟨h1, x1, hno⟩ := idx_facts nd hvm
        obtain ⟨h2, x2⟩ := tres_mem (n := n) hvm
        have hml : (row.map V.int).length = row.length := List.length_map ..
        have ec : ((row.idxOf (former.getD i 0) : Nat) : Int) + (n : Int) = ((row.idxOf (former.getD i 0) + n : Nat) : Int) := by omega
        refine ⟨_, rfl, t, _, _, _, rfl, rfl, SqT.of ht, rfl, _, rfl, t, _, _, _, rfl, rfl, SqT.of ht, rfl, ⟨r, _, rfl, hrow⟩, _, rfl, r, row, _, row.idxOf (former.getD i 0), h1, rfl, rfl, hrow, x1, hno, _, rfl, _, _, rfl, rfl, _, rfl, t, _, _, _, rfl, rfl, SqT.of ht, rfl, r, _, rfl, .inr (SqT.of hrow), _, _, rfl, rfl, (by rw [hml]; omega), r, _, _, .int (tres row (former.getD i 0) n), rfl, rfl, SqT.of hrow, ?_, q⟩
        rw [hml, ec, ← Int.natCast_emod, x2]
        exact atI_nat (by simp [h2])
      · rw [decide_eq_false hvm]
        refine iteF ?_
        refine ⟨_, rfl, t, _, _, _, rfl, rfl, SqT.of ht, rfl, rfl, _, rfl, iteDN (by decide) ?_⟩
        refine ⟨_, rfl, _, rfl, _, _, rfl, rfl, ⟨by omega, by omega, by decide⟩, _, _, rfl, rfl, (by show (0 : Int) < 1 * 2 ^ bs[i].1.toNat; omega), ?_⟩
        show Q (.int (former.getD i 0 % (1 * 2 ^ bs[i].1.toNat))) H
        rw [keep]
        have e : exp bs[i].1 (.turn row) i former ahead n = former.getD i 0 := by show tres row (former.getD i 0) n = _; unfold tres; rw [if_neg hvm]
        rw [e] at q
        exact q
theorem scGone : FnScope ["_law_pot_here", "_law_shape_here", "_law_former", "_law_more", "_law_head_here", "_law_place", "_law_field", "_law_value_here", "_law_way_here"] ["_law_pot_here", "_law_shape_here", "_law_former", "_law_more"] (defScope sGone) := ⟨rfl, rfl, rfl, by decide +kernel, rfl, by decide +kernel, by decide +kernel⟩
set_option maxHeartbeats 4000000 in
theorem ok_gone {f : Addr} {fd : FuncData} (F : Fun K "_law_gone" "_law_gone" sGone f fd) (T : Txt mg) {fPick fValue fLExpected : Addr} {fdPick fdValue fdLExpected : FuncData} (FPick : Fun K "_law_pick" "_law_pick" sPick fPick fdPick) (bPick : Binds K fdPick ["_law_pot_here", "_law_many"] []) (mPick : mg "_law_pick" = some (.ref fPick)) (FValue : Fun K "_law_value" "_law_value" sValue fValue fdValue) (bValue : Binds K fdValue ["_law_pot_here", "_law_field"] []) (mValue : mg "_law_value" = some (.ref fValue)) (FLExpected : Fun K "_law_expected" "_law_expected" sLExpected fLExpected fdLExpected) (bLExpected : Binds K fdLExpected ["_law_shape_here", "_law_place", "_law_former", "_law_ahead", "_law_more"] []) (mLExpected : mg "_law_expected" = some (.ref fLExpected)) : FnOk P w K mg base CX0 3 f fd ["_law_pot_here", "_law_shape_here", "_law_former", "_law_more"] spGone := by
  have GPick : FnOk P w K mg base CX0 1 fPick fdPick ["_law_pot_here", "_law_many"] spPick := ok_pick FPick
  have GValue : FnOk P w K mg base CX0 2 fValue fdValue ["_law_pot_here", "_law_field"] spValue := ok_value FValue T FPick bPick mPick
  have GLExpected : FnOk P w K mg base CX0 1 fLExpected fdLExpected ["_law_shape_here", "_law_place", "_law_former", "_law_ahead", "_law_more"] spLExp := ok_lexpected FLExpected T
  refine F.ok scGone (fun vs H Q E h => ?_) (fun cdv A outer s H vs Q E hr h => ?_)
  · obtain ⟨_, _, _, _, _, _, _, _, rfl, _⟩ := h
    rfl
  · obtain ⟨p, qa, sh, fo, bs, former, n, c, rfl, pot, hc, hn, hsh, hfo, hf, q⟩ := h
    obtain ⟨ft, fr, m, e1, e2, e3, e4, e5, e6⟩ := id hsh
    have hfl := e3.len
    refine ⟨_, (pss_cons (ps_set (i := 4) scGone.nd rfl (Or.inl rfl) (pe_tup pa_nil))
      (pss_cons (ps_for PassesOwn.never rfl (pi_enumT rfl T.enumerate (pe_ix ix_tup (pv 1) pe_int (fun _ _ => rfl))) (pg_tup rfl (pgs_cons (pg_name (i := 5) scGone.nd rfl (Or.inl rfl)) (pgs_cons (pg_name (i := 6) scGone.nd rfl (Or.inl rfl)) pgs_nil)))
      (pss_cons (ps_set (i := 7) scGone.nd rfl (Or.inl rfl) (pe_call GLExpected (hr.mono (by decide)) rfl mLExpected FLExpected.kp bLExpected .nil pass0 (pa_cons (pv 1) (pa_cons (pv 5) (pa_cons (pv 2) (pa_cons (pv 4) (pa_cons (pv 3) pa_nil)))))))
      (pss_cons (ps_set (i := 8) scGone.nd rfl (Or.inl rfl) (pe_call GPick (hr.mono (by decide)) rfl mPick FPick.kp bPick .nil pass0 (pa_cons (pv 0) (pa_cons pe_int pa_nil))))
      (pss_cons (ps_if (pt_cmpR op_eq (pv 8) pe_int (nomark _))
      (pss_one (ps_set (i := 7) scGone.nd rfl (Or.inl rfl) (pe_op op_sub (pe_op op_add (pv 7) (pe_call GPick (hr.mono (by decide)) rfl mPick FPick.kp bPick .nil pass0 (pa_cons (pv 0) (pa_cons pe_int pa_nil)))) pe_int)))
      pss_nil)
      (pss_cons (ps_if (pt_cmpR op_eq (pv 8) pe_int (nomark _))
      (pss_one (ps_set (i := 7) scGone.nd rfl (Or.inl rfl) (pe_call GValue (hr.mono (by decide)) rfl mValue FValue.kp bValue .nil pass0 (pa_cons (pv 0) (pa_cons (pv 6) pa_nil)))))
      pss_nil)
      (pss_one (ps_set (i := 4) scGone.nd rfl (Or.inl rfl) (pe_op op_catA (pv 4) (pe_tup (pa_cons (pe_op op_mod (pv 7) (pe_op op_shl pe_int (pe_ix ix_tup (pv 6) pe_int (fun _ _ => rfl)))) pa_nil))))))))))
      (pss_one (ps_ret (pv 4))))), ?_⟩
    refine ⟨(by show 0 ≤ sizeLine; decide), fun hd0 hhd0 => ?_⟩
    have s0 := same_new (o := .tup []) (Same.refl H) hhd0
    refine ⟨_, rfl, sh, _, _, _, rfl, rfl, SqT.of (s0 _ _ e1), rfl, ft, fr.map V.ref, rfl, s0 _ _ e2, for_eS (fun a b e => by cases e; rfl) (xs := fr.map V.ref) (fun j σ H2 => ∃ (hd : Addr) (vals : List Int) (cj : Int) (v5 v6 v7 v8 : Option V), σ = [some (.ref p), some (.ref sh), some (.ref fo), some (.int (n : Int)), some (.ref hd), v5, v6, v7, v8] ∧ PotD H2 p qa cj ∧ cj ≤ c + 7 * (j : Int) ∧ But2 p qa H H2 ∧ H2 hd = some (.tup (vals.map V.int)) ∧ vals.length = j ∧ ∀ (i : Nat) (h1 : i < vals.length) (h2 : i < bs.length), 0 ≤ vals[i] ∧ vals[i] < 2 ^ bs[i].1.toNat) ⟨hd0, [], c, _, _, _, _, rfl, pd_same pot s0, by omega, b2_same b2_refl s0, upd_same, rfl, fun i h => (nomatch h)⟩ (fun j σ H2 _ ⟨_, _, _, _, _, _, _, _, _, _, k, _⟩ => b2_tup pot k _ _ e2) ?_ ?_⟩
    · rintro j x σ H2 U hx ⟨hd, vals, cj, v5, v6, v7, v8, rfl, pot2, cj1, k2, hhd, hvl, hv⟩ hU
      obtain ⟨hj, rfl⟩ := get_map hx
      have hjb : j < bs.length := by omega
      obtain ⟨o0, o1, o2⟩ := e6 j hjb
      have hp := two_pow_pos bs[j].1.toNat
      have sU := same_new (o := .tup [.int (j : Int), .ref fr[j]]) (Same.refl H2) hU
      have potU := pd_same pot2 sU
      have hhdU := sU _ _ hhd
      have mU : ∀ a xs, H a = some (.tup xs) → upd H2 U (.tup [.int (j : Int), .ref fr[j]]) a = some (.tup xs) := fun a xs e => sU _ _ (b2_tup pot k2 _ _ e)
      have fAU := (e3.mono mU).get j hj hjb
      obtain ⟨nm, kv, f1U, _⟩ := id fAU
      refine ⟨U, [.int (j : Int), .ref fr[j]], rfl, SqT.of upd_same, rfl, _, _, rfl, _, _, rfl, rfl, ?_⟩
      refine ⟨_, rfl, _, rfl, _, rfl, _, rfl, _, rfl, sh, fo, hd, bs, former, vals, j, hjb, n, rfl, hn, hsh.mono mU, mU _ _ hfo, hf, hhdU, hvl, ?_⟩
      generalize exp bs[j].1 bs[j].2 j former vals n = ev
      generalize upd H2 U (.tup [.int (j : Int), .ref fr[j]]) = HU at sU potU hhdU mU fAU f1U
      refine ⟨_, rfl, p, qa, _, cj, rfl, potU, by omega, by decide, by decide, fun w0 H3 a0 a1 pot3 k3 => ?_⟩
      refine ⟨_, rfl, rfl, _, rfl, ite2 (fun y1 => ?_) (fun y1 => ?_)⟩
      · refine ⟨_, rfl, _, rfl, p, qa, _, _, rfl, pot3, by omega, by decide, by decide, fun d H4 b0 b1 pot4 k4 => ⟨_, _, rfl, rfl, _, _, rfl, rfl, ?_⟩⟩
        refine ⟨_, rfl, rfl, _, rfl, ite2 (fun y2 => ?_) (fun y2 => ?_)⟩
        · refine ⟨_, rfl, _, rfl, p, qa, fr[j], j, bs[j].1, _, bs[j].2, rfl, pot4, by omega, (FieldAt.mono (b2_tup potU (b2_trans k3 k4)) fAU), o0, o1, o2, fun v9 c9 H8 v90 v91 pot8 hc8 k8 => ?_⟩
          refine ⟨_, rfl, _, rfl, _, rfl, fr[j], _, _, _, rfl, rfl, SqT.of (b2_tup potU (b2_trans (b2_trans k3 k4) k8) _ _ f1U), rfl, _, _, rfl, rfl, ⟨by omega, by omega, by decide⟩, _, _, rfl, rfl, (by show (0 : Int) < 1 * 2 ^ bs[j].1.toNat; omega), (by show 1 ≤ sizeLine; decide), fun t1 ht1 => ?_⟩
          have st1 := same_new (o := .tup [.int (v9 % (1 * 2 ^ bs[j].1.toNat))]) (Same.refl _) ht1
          refine ⟨hd, t1, _, _, rfl, rfl, st1 _ _ (b2_tup potU (b2_trans (b2_trans k3 k4) k8) _ _ hhdU), upd_same, (by rw [List.length_map]; show vals.length + 1 ≤ sizeLine; have := sizeLine_eq; omega), fun hd2 H9 hh9 k9 => ?_⟩
          have s9 : Same _ H9 := st1.trans k9
          refine ⟨hd2, vals ++ [v9 % (1 * 2 ^ bs[j].1.toNat)], _, _, _, _, _, rfl, pd_same pot8 s9, by push_cast; omega, b2_same (b2_trans (b2_same k2 sU) (b2_trans (b2_trans k3 k4) k8)) s9, ?_, by rw [List.length_append, hvl]; rfl, fun i h1 h2 => ?_⟩
          · rw [List.map_append]
            exact hh9
          · by_cases hlt : i < vals.length
            · rw [List.getElem_append_left hlt]
              exact hv i hlt h2
            · have e : i = j := by
                rw [List.length_append] at h1
                have : [v9 % (1 * 2 ^ bs[j].1.toNat)].length = 1 := rfl
                omega
              subst e
              rw [List.getElem_append_right (by omega)]
              simp only [hvl, Nat.sub_self, List.getElem_cons_zero, Int.one_mul]
              exact ⟨Int.emod_nonneg _ (by omega), Int.emod_lt_of_pos _ hp⟩
        · refine ⟨_, rfl, _, rfl, _, rfl, fr[j], _, _, _, rfl, rfl, SqT.of (b2_tup potU (b2_trans k3 k4) _ _ f1U), rfl, _, _, rfl, rfl, ⟨by omega, by omega, by decide⟩, _, _, rfl, rfl, (by show (0 : Int) < 1 * 2 ^ bs[j].1.toNat; omega), (by show 1 ≤ sizeLine; decide), fun t1 ht1 => ?_⟩
          have st1 := same_new (o := .tup [.int ((ev + d - 4) % (1 * 2 ^ bs[j].1.toNat))]) (Same.refl _) ht1
          refine ⟨hd, t1, _, _, rfl, rfl, st1 _ _ (b2_tup potU (b2_trans k3 k4) _ _ hhdU), upd_same, (by rw [List.length_map]; show vals.length + 1 ≤ sizeLine; have := sizeLine_eq; omega), fun hd2 H9 hh9 k9 => ?_⟩
          have s9 : Same _ H9 := st1.trans k9
          refine ⟨hd2, vals ++ [(ev + d - 4) % (1 * 2 ^ bs[j].1.toNat)], _, _, _, _, _, rfl, pd_same pot4 s9, by push_cast; omega, b2_same (b2_trans (b2_same k2 sU) (b2_trans k3 k4)) s9, ?_, by rw [List.length_append, hvl]; rfl, fun i h1 h2 => ?_⟩
          · rw [List.map_append]
            exact hh9
          · by_cases hlt : i < vals.length
            · rw [List.getElem_append_left hlt]
              exact hv i hlt h2
            · have e : i = j := by
                rw [List.length_append] at h1
                have : [(ev + d - 4) % (1 * 2 ^ bs[j].1.toNat)].length = 1 := rfl
                omega
              subst e
              rw [List.getElem_append_right (by omega)]
              simp only [hvl, Nat.sub_self, List.getElem_cons_zero, Int.one_mul]
              exact ⟨Int.emod_nonneg _ (by omega), Int.emod_lt_of_pos _ hp⟩
      · refine ⟨_, rfl, rfl, _, rfl, ite2 (fun y2 => ?_) (fun y2 => ?_)⟩
        · refine ⟨_, rfl, _, rfl, p, qa, fr[j], j, bs[j].1, _, bs[j].2, rfl, pot3, by omega, (FieldAt.mono (b2_tup potU k3) fAU), o0, o1, o2, fun v9 c9 H8 v90 v91 pot8 hc8 k8 => ?_⟩
          refine ⟨_, rfl, _, rfl, _, rfl, fr[j], _, _, _, rfl, rfl, SqT.of (b2_tup potU (b2_trans k3 k8) _ _ f1U), rfl, _, _, rfl, rfl, ⟨by omega, by omega, by decide⟩, _, _, rfl, rfl, (by show (0 : Int) < 1 * 2 ^ bs[j].1.toNat; omega), (by show 1 ≤ sizeLine; decide), fun t1 ht1 => ?_⟩
          have st1 := same_new (o := .tup [.int (v9 % (1 * 2 ^ bs[j].1.toNat))]) (Same.refl _) ht1
          refine ⟨hd, t1, _, _, rfl, rfl, st1 _ _ (b2_tup potU (b2_trans k3 k8) _ _ hhdU), upd_same, (by rw [List.length_map]; show vals.length + 1 ≤ sizeLine; have := sizeLine_eq; omega), fun hd2 H9 hh9 k9 => ?_⟩
          have s9 : Same _ H9 := st1.trans k9
          refine ⟨hd2, vals ++ [v9 % (1 * 2 ^ bs[j].1.toNat)], _, _, _, _, _, rfl, pd_same pot8 s9, by push_cast; omega, b2_same (b2_trans (b2_same k2 sU) (b2_trans k3 k8)) s9, ?_, by rw [List.length_append, hvl]; rfl, fun i h1 h2 => ?_⟩
          · rw [List.map_append]
            exact hh9
          · by_cases hlt : i < vals.length
            · rw [List.getElem_append_left hlt]
              exact hv i hlt h2
            · have e : i = j := by
                rw [List.length_append] at h1
                have : [v9 % (1 * 2 ^ bs[j].1.toNat)].length = 1 := rfl
                omega
              subst e
              rw [List.getElem_append_right (by omega)]
              simp only [hvl, Nat.sub_self, List.getElem_cons_zero, Int.one_mul]
              exact ⟨Int.emod_nonneg _ (by omega), Int.emod_lt_of_pos _ hp⟩
        · refine ⟨_, rfl, _, rfl, _, rfl, fr[j], _, _, _, rfl, rfl, SqT.of (b2_tup potU k3 _ _ f1U), rfl, _, _, rfl, rfl, ⟨by omega, by omega, by decide⟩, _, _, rfl, rfl, (by show (0 : Int) < 1 * 2 ^ bs[j].1.toNat; omega), (by show 1 ≤ sizeLine; decide), fun t1 ht1 => ?_⟩
          have st1 := same_new (o := .tup [.int (ev % (1 * 2 ^ bs[j].1.toNat))]) (Same.refl _) ht1
          refine ⟨hd, t1, _, _, rfl, rfl, st1 _ _ (b2_tup potU k3 _ _ hhdU), upd_same, (by rw [List.length_map]; show vals.length + 1 ≤ sizeLine; have := sizeLine_eq; omega), fun hd2 H9 hh9 k9 => ?_⟩
          have s9 : Same _ H9 := st1.trans k9
          refine ⟨hd2, vals ++ [ev % (1 * 2 ^ bs[j].1.toNat)], _, _, _, _, _, rfl, pd_same pot3 s9, by push_cast; omega, b2_same (b2_trans (b2_same k2 sU) k3) s9, ?_, by rw [List.length_append, hvl]; rfl, fun i h1 h2 => ?_⟩
          · rw [List.map_append]
            exact hh9
          · by_cases hlt : i < vals.length
            · rw [List.getElem_append_left hlt]
              exact hv i hlt h2
            · have e : i = j := by
                rw [List.length_append] at h1
                have : [ev % (1 * 2 ^ bs[j].1.toNat)].length = 1 := rfl
                omega
              subst e
              rw [List.getElem_append_right (by omega)]
              simp only [hvl, Nat.sub_self, List.getElem_cons_zero, Int.one_mul]
              exact ⟨Int.emod_nonneg _ (by omega), Int.emod_lt_of_pos _ hp⟩
    · rintro σ H2 ⟨hd, vals, cj, v5, v6, v7, v8, rfl, pot2, cj1, k2, hhd, hvl, hv⟩
      rw [List.length_map] at cj1 hvl
      exact ⟨_, rfl, q hd vals _ _ pot2 (by omega) k2 hhd ⟨by omega, hv⟩⟩
end
end K
namespace K
open PySem PyProof.Rows L2 Mth
def spLPieces : Sp := fun vs H Q _ => ∃ (sh f hd : Addr) (bs : List (Int × Kd)) (r c : Int) (ys : List Wy) (vals : List Int), vs = [.ref sh, .ref f, .ref hd] ∧ ShapeAt H sh bs ∧ FormAt H f r c ys ∧ WsOk bs ys ∧ H hd = some (.tup (vals.map V.int)) ∧ vals.length = bs.length ∧ ∀ H', Same H H' → Q (.str (cat (PcL vals (Wds (brs bs) ys)))) H'
def spRight : Sp := fun vs H Q _ => ∃ (sh f hd : Addr) (bs : List (Int × Kd)) (r c : Int) (ys : List Wy) (vals : List Int), vs = [.ref sh, .ref f, .ref hd] ∧ ShapeAt H sh bs ∧ FormAt H f r c ys ∧ WsOk bs ys ∧ H hd = some (.tup (vals.map V.int)) ∧ vals.length = bs.length ∧ ∀ H', Same H H' → Q (.bl true) H'
theorem pcl_len : ∀ (vals ws : List Int), vals.length = ws.length → (∀ w ∈ ws, 0 ≤ w) → ((((PcL vals ws).map fun t => t.cps.size).sum : Nat) : Int) = ws.sum
  | [], [], _, _ => rfl
  | v :: vs, w :: ws, h, hw => by
    have ih := pcl_len vs ws (by simpa using h) fun x hx => hw x (List.mem_cons_of_mem _ hx)
    have h0 := hw w (by simp)
    show (((Tx (v % 2 ^ w.toNat) w.toNat).cps.size + ((PcL vs ws).map fun t => t.cps.size).sum : Nat) : Int) = w + ws.sum
    rw [Tx_length]
    omega
theorem sum_le (ws : List Int) (k : Int) (h : ∀ w ∈ ws, w ≤ k) : ws.sum ≤ k * ws.length := by
  induction ws with
  | nil => simp
  | cons w r ih =>
    have h1 := h w (by simp)
    have h2 := ih fun x hx => h x (List.mem_cons_of_mem _ hx)
    rw [List.sum_cons, List.length_cons]
    push_cast
    rw [Int.mul_add]
    omega
section
variable {P : Program} {w : World} {K : PySem.W.Frag} {mg : Str → Option Value} {base : Heap}
theorem scLPieces : FnScope ["_law_shape_here", "_law_form_here", "_law_head_here", "_law_told", "_law_field", "_law_way_here", "_law_value_here", "_law_width_here"] ["_law_shape_here", "_law_form_here", "_law_head_here"] (defScope sLPieces) := ⟨rfl, rfl, rfl, by decide +kernel, rfl, by decide +kernel, by decide +kernel⟩
set_option maxHeartbeats 4000000 in
theorem ok_lpieces {f : Addr} {fd : FuncData} (F : Fun K "_law_pieces" "_law_pieces" sLPieces f fd) (T : Txt mg) {fBits fWidth : Addr} {fdBits fdWidth : FuncData} (FBits : Fun K "_law_bits" "_law_bits" sBits fBits fdBits) (bBits : Binds K fdBits ["_law_number", "_law_width_here"] []) (mBits : mg "_law_bits" = some (.ref fBits)) (FWidth : Fun K "_law_width" "_law_width" sWidth fWidth fdWidth) (bWidth : Binds K fdWidth ["_law_field", "_law_way_here"] []) (mWidth : mg "_law_width" = some (.ref fWidth)) : FnOk P w K mg base CX0 2 f fd ["_law_shape_here", "_law_form_here", "_law_head_here"] spLPieces := by
  have GBits : FnOk P w K mg base CX0 1 fBits fdBits ["_law_number", "_law_width_here"] spBits := ok_lbits FBits T
  have GWidth : FnOk P w K mg base CX0 1 fWidth fdWidth ["_law_field", "_law_way_here"] spWidthL := ok_widthl FWidth T
  refine F.ok scLPieces (fun vs H Q E h => ?_) (fun cdv A outer s H vs Q E hr h => ?_)
  · obtain ⟨_, _, _, _, _, _, _, _, rfl, _⟩ := h
    rfl
  · obtain ⟨sh, fo, hd, bs, r, c, ys, vals, rfl, hsh, hfo, hok, hhd, hvl, q⟩ := h
    obtain ⟨ft, fr, m, e1, e2, e3, e4, e5, e6⟩ := id hsh
    obtain ⟨wt, ws, g1, g2, g3⟩ := id hfo
    have hfl := e3.len
    have hwb := hok.wsb
    have hbl : (brs bs).length = bs.length := by simp [brs]
    have hWl := Wds_len hwb.1
    have hWo : ∀ w ∈ Wds (brs bs) ys, 0 ≤ w ∧ w ≤ 40 := by
      obtain ⟨_, _, _, _, _, _, _, _, _, h⟩ := hsh.shb
      exact Wds_ok h hwb
    have hPl : (PcL vals (Wds (brs bs) ys)).length = bs.length := by unfold PcL; rw [List.length_zipWith]; omega
    have hline := sizeLine_eq
    have hwl : ws.length = bs.length := by rw [g3.1, hok.1]
    refine ⟨_, (pss_cons (ps_set (i := 3) scLPieces.nd rfl (Or.inl rfl) pe_str)
      (pss_cons (ps_for PassesOwn.never rfl (pi_zip3 rfl T.zip (pe_ix ix_tup (pv 0) pe_int (fun _ _ => rfl)) (pe_ix ix_tup (pv 1) pe_int (fun _ _ => rfl)) (pv 2)) (pg_tup rfl (pgs_cons (pg_name (i := 4) scLPieces.nd rfl (Or.inl rfl)) (pgs_cons (pg_name (i := 5) scLPieces.nd rfl (Or.inl rfl)) (pgs_cons (pg_name (i := 6) scLPieces.nd rfl (Or.inl rfl)) pgs_nil))))
      (pss_cons (ps_set (i := 7) scLPieces.nd rfl (Or.inl rfl) (pe_call GWidth (hr.mono (by decide)) rfl mWidth FWidth.kp bWidth .nil pass0 (pa_cons (pv 4) (pa_cons (pv 5) pa_nil))))
      (pss_one (ps_set (i := 3) scLPieces.nd rfl (Or.inl rfl) (pe_op op_add_str (pv 3) (pe_call GBits (hr.mono (by decide)) rfl mBits FBits.kp bBits .nil pass0 (pa_cons (pe_op op_mod (pv 6) (pe_op op_shl pe_int (pv 7))) (pa_cons (pv 7) pa_nil))))))))
      (pss_one (ps_ret (pv 3))))), ?_⟩
    refine ⟨_, rfl, sh, _, _, _, rfl, rfl, SqT.of e1, rfl, _, rfl, fo, _, _, _, rfl, rfl, SqT.of g1, rfl, _, rfl, ft, wt, hd, fr.map V.ref, ws, vals.map V.int, rfl, e2, g2, hhd, for_z3 (xs := fr.map V.ref) (ys := ws) (zs := vals.map V.int) (by rw [List.length_map]; omega) (by rw [List.length_map, List.length_map]; omega) (fun j σ H2 => ∃ (v4 v5 v6 v7 : Option V), σ = [some (.ref sh), some (.ref fo), some (.ref hd), some (.str (cat ((PcL vals (Wds (brs bs) ys)).take j))), v4, v5, v6, v7] ∧ Same H H2) ⟨_, _, _, _, rfl, Same.refl H⟩ (fun j σ H2 _ ⟨_, _, _, _, _, s2⟩ => ⟨s2 _ _ e2, s2 _ _ g2, s2 _ _ hhd⟩) ?_ ?_⟩
    · rintro j x y z σ H2 U hx hy hz ⟨v4, v5, v6, v7, rfl, s2⟩ hU
      obtain ⟨hj, rfl⟩ := get_map hx
      obtain ⟨hw, rfl⟩ := List.getElem?_eq_some_iff.mp hy
      obtain ⟨hv, rfl⟩ := get_map hz
      have hjb : j < bs.length := by omega
      have hjy : j < ys.length := by have := hok.1; omega
      have hjr : j < (brs bs).length := by omega
      have hjW : j < (Wds (brs bs) ys).length := by omega
      have hjP : j < (PcL vals (Wds (brs bs) ys)).length := by omega
      have s3 := same_new (o := .tup [.ref fr[j], ws[j], .int vals[j]]) s2 hU
      obtain ⟨nm, kd, f1, _⟩ := e3.get j hj hjb
      refine ⟨U, [.ref fr[j], ws[j], .int vals[j]], rfl, SqT.of upd_same, rfl, _, _, rfl, _, _, rfl, _, _, rfl, rfl, ?_⟩
      generalize upd H2 U (.tup [.ref fr[j], ws[j], .int vals[j]]) = H3 at s3
      have hwd : wW bs[j].1 ys[j] = (Wds (brs bs) ys)[j] := by
        rw [Wds_get hjr hjy hjW]
        simp [brs]
      have hwo := hWo _ (List.getElem_mem hjW)
      have ePc : (PcL vals (Wds (brs bs) ys))[j] = Tx (vals[j] % 2 ^ (Wds (brs bs) ys)[j].toNat) (Wds (brs bs) ys)[j].toNat := List.getElem_zipWith ..
      have hlen : (cat ((PcL vals (Wds (brs bs) ys)).take j)).length ≤ 12000 := by
        have h1 := cat_len ((PcL vals (Wds (brs bs) ys)).take j)
        have h2 := sum_bound ((PcL vals (Wds (brs bs) ys)).take j) fun t ht => by
          obtain ⟨i, hi, rfl⟩ := List.mem_iff_getElem.mp (List.mem_of_mem_take ht)
          have g1 : i < vals.length := by omega
          have g2 : i < (Wds (brs bs) ys).length := by omega
          have e : (PcL vals (Wds (brs bs) ys))[i] = Tx (vals[i] % 2 ^ (Wds (brs bs) ys)[i].toNat) (Wds (brs bs) ys)[i].toNat := List.getElem_zipWith ..
          rw [e, Tx_length]
          have := hWo _ (List.getElem_mem g2)
          omega
        rw [List.length_take] at h2
        show (cat ((PcL vals (Wds (brs bs) ys)).take j)).cps.size ≤ 12000
        omega
      have hp := two_pow_pos (Wds (brs bs) ys)[j].toNat
      refine ⟨_, rfl, _, rfl, fr[j], nm, ws[j], kd, bs[j].1, ys[j], rfl, s3 _ _ f1, (g3.2 j hw hjy).mono (fun a xs e => s3 _ _ e), ?_⟩
      rw [hwd]
      refine ⟨_, rfl, _, rfl, _, rfl, _, _, rfl, rfl, ⟨by omega, by omega, by decide⟩, _, _, rfl, rfl, (by show (0 : Int) < 1 * 2 ^ (Wds (brs bs) ys)[j].toNat; omega), _, rfl, _, (Wds (brs bs) ys)[j], rfl, by omega, by omega, _, _, rfl, rfl, ?_, ?_⟩
      · have hT : (Tx (vals[j] % (1 * 2 ^ (Wds (brs bs) ys)[j].toNat)) (Wds (brs bs) ys)[j].toNat).length = (Wds (brs bs) ys)[j].toNat := Tx_length _ _
        rw [hT]
        omega
      · refine ⟨some (.ref fr[j]), some ws[j], some (.int vals[j]), some (.int (Wds (brs bs) ys)[j]), ?_, s3⟩
        rw [List.take_succ_eq_append_getElem hjP, cat_snoc, ePc, Int.one_mul]
        rfl
    · rintro σ H2 ⟨v4, v5, v6, v7, rfl, s2⟩
      rw [List.length_map, List.take_of_length_le (by omega)]
      exact ⟨_, rfl, q _ s2⟩
theorem scRight : FnScope ["_law_shape_here", "_law_form_here", "_law_head_here", "_law_due", "_law_again"] ["_law_shape_here", "_law_form_here", "_law_head_here"] (defScope sRight) := ⟨rfl, rfl, rfl, by decide +kernel, rfl, by decide +kernel, by decide +kernel⟩
theorem ok_right {f : Addr} {fd : FuncData} (F : Fun K "_law_right" "_law_right" sRight f fd) (T : Txt mg) {fBitsOf fRestOf fBreadths fWidthOf fWidths fPieces fSizeOf fBits fWidth fLPieces fSame : Addr} {fdBitsOf fdRestOf fdBreadths fdWidthOf fdWidths fdPieces fdSizeOf fdBits fdWidth fdLPieces fdSame : FuncData} (FBitsOf : Fun K "bits_of" "bits_of" sBitsOf fBitsOf fdBitsOf) (bBitsOf : Binds K fdBitsOf ["number", "width"] []) (mBitsOf : mg "bits_of" = some (.ref fBitsOf)) (FRestOf : Fun K "rest_of" "rest_of" sRestOf fRestOf fdRestOf) (bRestOf : Binds K fdRestOf ["number", "width"] []) (mRestOf : mg "rest_of" = some (.ref fRestOf)) (FBreadths : Fun K "breadths" "breadths" sBreadths fBreadths fdBreadths) (bBreadths : Binds K fdBreadths ["shape"] []) (mBreadths : mg "breadths" = some (.ref fBreadths)) (FWidthOf : Fun K "width_of" "width_of" sWidthOf fWidthOf fdWidthOf) (bWidthOf : Binds K fdWidthOf ["way", "breadth"] []) (mWidthOf : mg "width_of" = some (.ref fWidthOf)) (FWidths : Fun K "widths" "widths" sWidths fWidths fdWidths) (bWidths : Binds K fdWidths ["shape", "form"] []) (mWidths : mg "widths" = some (.ref fWidths)) (FPieces : Fun K "pieces" "pieces" sPieces fPieces fdPieces) (bPieces : Binds K fdPieces ["shape", "form", "head"] []) (mPieces : mg "pieces" = some (.ref fPieces)) (FSizeOf : Fun K "size_of" "size_of" sSizeOf fSizeOf fdSizeOf) (bSizeOf : Binds K fdSizeOf ["shape", "form"] []) (mSizeOf : mg "size_of" = some (.ref fSizeOf)) (FBits : Fun K "_law_bits" "_law_bits" sBits fBits fdBits) (bBits : Binds K fdBits ["_law_number", "_law_width_here"] []) (mBits : mg "_law_bits" = some (.ref fBits)) (FWidth : Fun K "_law_width" "_law_width" sWidth fWidth fdWidth) (bWidth : Binds K fdWidth ["_law_field", "_law_way_here"] []) (mWidth : mg "_law_width" = some (.ref fWidth)) (FLPieces : Fun K "_law_pieces" "_law_pieces" sLPieces fLPieces fdLPieces) (bLPieces : Binds K fdLPieces ["_law_shape_here", "_law_form_here", "_law_head_here"] []) (mLPieces : mg "_law_pieces" = some (.ref fLPieces)) (FSame : Fun K "_law_same" "_law_same" sSame fSame fdSame) (bSame : Binds K fdSame ["_law_found", "_law_due"] []) (mSame : mg "_law_same" = some (.ref fSame)) : FnOk P w K mg base CX0 4 f fd ["_law_shape_here", "_law_form_here", "_law_head_here"] spRight := by
  have GLPieces : FnOk P w K mg base CX0 2 fLPieces fdLPieces ["_law_shape_here", "_law_form_here", "_law_head_here"] spLPieces := ok_lpieces FLPieces T FBits bBits mBits FWidth bWidth mWidth
  have GPieces : FnOk P w K mg base CX0 3 fPieces fdPieces ["shape", "form", "head"] spPieces := ok_pieces FPieces T FBitsOf bBitsOf mBitsOf FRestOf bRestOf mRestOf FBreadths bBreadths mBreadths FWidthOf bWidthOf mWidthOf FWidths bWidths mWidths
  have GSizeOf : FnOk P w K mg base CX0 3 fSizeOf fdSizeOf ["shape", "form"] spSizeOf := ok_sizeof FSizeOf T FBreadths bBreadths mBreadths FWidthOf bWidthOf mWidthOf FWidths bWidths mWidths
  have GSame : FnOk P w K mg base CX0 1 fSame fdSame ["_law_found", "_law_due"] spSame1 := ok_same1 FSame T
  refine F.ok scRight (fun vs H Q E h => ?_) (fun cdv A outer s H vs Q E hr h => ?_)
  · obtain ⟨_, _, _, _, _, _, _, _, rfl, _⟩ := h
    rfl
  · obtain ⟨sh, fo, hd, bs, r, c, ys, vals, rfl, hsh, hfo, hok, hhd, hvl, q⟩ := h
    have hwb := hok.wsb
    have hbl : (brs bs).length = bs.length := by simp [brs]
    have hWl := Wds_len hwb.1
    have hb12 : bs.length ≤ 12 := by obtain ⟨_, _, _, _, _, _, _, h, _⟩ := hsh; exact h
    have hWo : ∀ w ∈ Wds (brs bs) ys, 0 ≤ w ∧ w ≤ 40 := by
      obtain ⟨_, _, _, _, _, _, _, _, _, h⟩ := hsh.shb
      exact Wds_ok h hwb
    have e4 : (cat (PcL vals (Wds (brs bs) ys))).length = ((PcL vals (Wds (brs bs) ys)).map fun t => t.cps.size).sum := cat_len _
    have e5 := pcl_len vals (Wds (brs bs) ys) (by omega) fun w h => (hWo w h).1
    have e6 := sum_le (Wds (brs bs) ys) 40 fun w h => (hWo w h).2
    have hline := sizeLine_eq
    refine ⟨_, (pss_cons (ps_set (i := 3) scRight.nd rfl (Or.inl rfl) (pe_call GLPieces (hr.mono (by decide)) rfl mLPieces FLPieces.kp bLPieces .nil pass0 (pa_cons (pv 0) (pa_cons (pv 1) (pa_cons (pv 2) pa_nil)))))
      (pss_cons (ps_for PassesOwn.never rfl (pi_range1 rfl T.range (pa_cons pe_int pa_nil)) (pg_name (i := 4) scRight.nd rfl (Or.inl rfl))
      (pss_one (ps_if (PW.pt (pw_or (pt_not (pt_val (pe_call GSame (hr.mono (by decide)) rfl mSame FSame.kp bSame .nil pass0 (pa_cons (pe_call GPieces (hr.mono (by decide)) rfl mPieces FPieces.kp bPieces .nil pass0 (pa_cons (pv 0) (pa_cons (pv 1) (pa_cons (pv 2) pa_nil)))) (pa_cons (pv 3) pa_nil))))) (pw_or1 (pt_not (pt_val (pe_call GSame (hr.mono (by decide)) rfl mSame FSame.kp bSame .nil pass0 (pa_cons (pe_call GSizeOf (hr.mono (by decide)) rfl mSizeOf FSizeOf.kp bSizeOf .nil pass0 (pa_cons (pv 0) (pa_cons (pv 1) pa_nil))) (pa_cons (pe_callB call_len_str (by rfl) T.len PySem.boot_len (pa_cons (pv 3) pa_nil)) pa_nil))))))))
      (pss_one (ps_ret pe_bl))
      pss_nil)))
      (pss_one (ps_ret pe_bl)))), ?_⟩
    refine ⟨_, rfl, _, rfl, _, rfl, sh, fo, hd, bs, r, c, ys, vals, rfl, hsh, hfo, hok, hhd, hvl, fun H1 s1 => ?_⟩
    refine ⟨_, rfl, by decide, by decide, for_range (n := 2) (fun i σ H2 => ∃ v4, σ = [some (.ref sh), some (.ref fo), some (.ref hd), some (.str (cat (PcL vals (Wds (brs bs) ys)))), v4] ∧ Same H H2) ⟨_, rfl, s1⟩ ?_ ?_⟩
    · rintro i σ H2 hi ⟨v4, rfl, s2⟩
      obtain ⟨m, hshb⟩ := (hsh.mono fun a xs e => s2 _ _ e).shb
      have hfo2 := hfo.mono fun a xs e => s2 _ _ e
      refine ⟨_, rfl, _, rfl, _, rfl, sh, fo, hd, brs bs, m, r, c, ys, vals, rfl, hshb, hfo2, hwb, s2 _ _ hhd, by omega, fun H3 s3 => ?_⟩
      refine ⟨_, rfl, _, rfl, .str _, _, rfl, iteF ?_⟩
      refine ⟨_, rfl, _, rfl, sh, fo, brs bs, m, r, c, ys, rfl, hshb.mono (fun a xs e => s3 _ _ e), hfo2.mono (fun a xs e => s3 _ _ e), hwb, fun H4 s4 => ?_⟩
      refine ⟨_, rfl, _, rfl, by omega, .int (Wds (brs bs) ys).sum, ?_, .int _, _, rfl, iteF ?_⟩
      · have : ((cat (PcL vals (Wds (brs bs) ys))).length : Int) = (Wds (brs bs) ys).sum := by omega
        rw [this]
        rfl
      · exact ⟨_, rfl, s2.trans (s3.trans s4)⟩
    · rintro σ H2 ⟨v4, rfl, s2⟩
      exact q _ s2
end
end K
namespace K
open PySem PyProof.Rows L2 Mth
theorem rep_ways {H : Hp} {v : V} {y : Wy} (h : WayV H v y) (n : Nat) : WaysAt H (List.replicate n v) (List.replicate n y) := by
  refine ⟨by rw [List.length_replicate, List.length_replicate], fun i h1 h2 => ?_⟩
  rw [List.getElem_replicate, List.getElem_replicate]
  exact h
theorem rep_ok {bs : List (Int × Kd)} {y : Wy} (h : ∀ b, WyOk b y) {n : Nat} (hn : n = bs.length) : WsOk bs (List.replicate n y) := by
  refine ⟨by rw [List.length_replicate, hn], fun i h1 h2 => ?_⟩
  rw [List.getElem_replicate]
  exact h _
section
variable {P : Program} {w : World} {K : PySem.W.Frag} {mg : Str → Option Value} {base : Heap}
theorem scLaw : FnScope ["_law_script", "_law_pot_here", "_law_turn", "_law_shape_here", "_law_head_here", "_law_forms", "_law_form_here", "_law_one"] ["_law_script"] (defScope sLaw) := ⟨rfl, rfl, rfl, by decide +kernel, rfl, by decide +kernel, by decide +kernel⟩
set_option maxHeartbeats 8000000 in
theorem ok_law {f : Addr} {fd : FuncData} (F : Fun K "law" "law" sLaw f fd) (T : Txt mg) {fBitsOf fRestOf fBreadths fWidthOf fWidths fPieces fSizeOf fPot fPick fKind fShape fValue fHead fLExpected fGone fWay fForm fBits fWidth fLPieces fSame fRight : Addr} {fdBitsOf fdRestOf fdBreadths fdWidthOf fdWidths fdPieces fdSizeOf fdPot fdPick fdKind fdShape fdValue fdHead fdLExpected fdGone fdWay fdForm fdBits fdWidth fdLPieces fdSame fdRight : FuncData} (FBitsOf : Fun K "bits_of" "bits_of" sBitsOf fBitsOf fdBitsOf) (bBitsOf : Binds K fdBitsOf ["number", "width"] []) (mBitsOf : mg "bits_of" = some (.ref fBitsOf)) (FRestOf : Fun K "rest_of" "rest_of" sRestOf fRestOf fdRestOf) (bRestOf : Binds K fdRestOf ["number", "width"] []) (mRestOf : mg "rest_of" = some (.ref fRestOf)) (FBreadths : Fun K "breadths" "breadths" sBreadths fBreadths fdBreadths) (bBreadths : Binds K fdBreadths ["shape"] []) (mBreadths : mg "breadths" = some (.ref fBreadths)) (FWidthOf : Fun K "width_of" "width_of" sWidthOf fWidthOf fdWidthOf) (bWidthOf : Binds K fdWidthOf ["way", "breadth"] []) (mWidthOf : mg "width_of" = some (.ref fWidthOf)) (FWidths : Fun K "widths" "widths" sWidths fWidths fdWidths) (bWidths : Binds K fdWidths ["shape", "form"] []) (mWidths : mg "widths" = some (.ref fWidths)) (FPieces : Fun K "pieces" "pieces" sPieces fPieces fdPieces) (bPieces : Binds K fdPieces ["shape", "form", "head"] []) (mPieces : mg "pieces" = some (.ref fPieces)) (FSizeOf : Fun K "size_of" "size_of" sSizeOf fSizeOf fdSizeOf) (bSizeOf : Binds K fdSizeOf ["shape", "form"] []) (mSizeOf : mg "size_of" = some (.ref fSizeOf)) (FPot : Fun K "_law_pot" "_law_pot" sPot fPot fdPot) (bPot : Binds K fdPot ["_law_script"] []) (mPot : mg "_law_pot" = some (.ref fPot)) (FPick : Fun K "_law_pick" "_law_pick" sPick fPick fdPick) (bPick : Binds K fdPick ["_law_pot_here", "_law_many"] []) (mPick : mg "_law_pick" = some (.ref fPick)) (FKind : Fun K "_law_kind" "_law_kind" sKind fKind fdKind) (bKind : Binds K fdKind ["_law_pot_here", "_law_place", "_law_breadth"] []) (mKind : mg "_law_kind" = some (.ref fKind)) (FShape : Fun K "_law_shape" "_law_shape" sShape fShape fdShape) (bShape : Binds K fdShape ["_law_pot_here"] []) (mShape : mg "_law_shape" = some (.ref fShape)) (FValue : Fun K "_law_value" "_law_value" sValue fValue fdValue) (bValue : Binds K fdValue ["_law_pot_here", "_law_field"] []) (mValue : mg "_law_value" = some (.ref fValue)) (FHead : Fun K "_law_head" "_law_head" sHead fHead fdHead) (bHead : Binds K fdHead ["_law_pot_here", "_law_shape_here"] []) (mHead : mg "_law_head" = some (.ref fHead)) (FLExpected : Fun K "_law_expected" "_law_expected" sLExpected fLExpected fdLExpected) (bLExpected : Binds K fdLExpected ["_law_shape_here", "_law_place", "_law_former", "_law_ahead", "_law_more"] []) (mLExpected : mg "_law_expected" = some (.ref fLExpected)) (FGone : Fun K "_law_gone" "_law_gone" sGone fGone fdGone) (bGone : Binds K fdGone ["_law_pot_here", "_law_shape_here", "_law_former", "_law_more"] []) (mGone : mg "_law_gone" = some (.ref fGone)) (FWay : Fun K "_law_way" "_law_way" sWay fWay fdWay) (bWay : Binds K fdWay ["_law_pot_here", "_law_breadth"] []) (mWay : mg "_law_way" = some (.ref fWay)) (FForm : Fun K "_law_form" "_law_form" sForm fForm fdForm) (bForm : Binds K fdForm ["_law_pot_here", "_law_shape_here"] []) (mForm : mg "_law_form" = some (.ref fForm)) (FBits : Fun K "_law_bits" "_law_bits" sBits fBits fdBits) (bBits : Binds K fdBits ["_law_number", "_law_width_here"] []) (mBits : mg "_law_bits" = some (.ref fBits)) (FWidth : Fun K "_law_width" "_law_width" sWidth fWidth fdWidth) (bWidth : Binds K fdWidth ["_law_field", "_law_way_here"] []) (mWidth : mg "_law_width" = some (.ref fWidth)) (FLPieces : Fun K "_law_pieces" "_law_pieces" sLPieces fLPieces fdLPieces) (bLPieces : Binds K fdLPieces ["_law_shape_here", "_law_form_here", "_law_head_here"] []) (mLPieces : mg "_law_pieces" = some (.ref fLPieces)) (FSame : Fun K "_law_same" "_law_same" sSame fSame fdSame) (bSame : Binds K fdSame ["_law_found", "_law_due"] []) (mSame : mg "_law_same" = some (.ref fSame)) (FRight : Fun K "_law_right" "_law_right" sRight fRight fdRight) (bRight : Binds K fdRight ["_law_shape_here", "_law_form_here", "_law_head_here"] []) (mRight : mg "_law_right" = some (.ref fRight)) :
    FnOk P w K mg base CX0 5 f fd ["_law_script"] (spLaw K) := by
  have GPot : FnOk P w K mg base CX0 1 fPot fdPot ["_law_script"] (spPotD K) := ok_potD FPot T
  have GShape : FnOk P w K mg base CX0 3 fShape fdShape ["_law_pot_here"] spShapeD := ok_shapeD FShape T FPick bPick mPick FKind bKind mKind
  have GHead : FnOk P w K mg base CX0 3 fHead fdHead ["_law_pot_here", "_law_shape_here"] spHead := ok_head FHead T FPick bPick mPick FValue bValue mValue
  have GForm : FnOk P w K mg base CX0 3 fForm fdForm ["_law_pot_here", "_law_shape_here"] spForm := ok_form FForm T FPick bPick mPick FWay bWay mWay
  have GGone : FnOk P w K mg base CX0 3 fGone fdGone ["_law_pot_here", "_law_shape_here", "_law_former", "_law_more"] spGone := ok_gone FGone T FPick bPick mPick FValue bValue mValue FLExpected bLExpected mLExpected
  have GRight : FnOk P w K mg base CX0 4 fRight fdRight ["_law_shape_here", "_law_form_here", "_law_head_here"] spRight := ok_right FRight T FBitsOf bBitsOf mBitsOf FRestOf bRestOf mRestOf FBreadths bBreadths mBreadths FWidthOf bWidthOf mWidthOf FWidths bWidths mWidths FPieces bPieces mPieces FSizeOf bSizeOf mSizeOf FBits bBits mBits FWidth bWidth mWidth FLPieces bLPieces mLPieces FSame bSame mSame
  refine F.ok scLaw (fun vs H Q E h => ?_) (fun cdv A outer s H vs Q E hr h => ?_)
  · obtain ⟨a, ns, rfl, _⟩ := h
    rfl
  · obtain ⟨a, ns, rfl, hS, hlen, k⟩ := h
    refine ⟨_, (Hid.out (hs_cons (hs_set (i := 1) scLaw.nd rfl (Or.inr rfl) ⟨(pe_call GPot (hr.mono (by decide)) rfl mPot FPot.kp bPot .nil pass0 (pa_cons (pv 0) pa_nil))⟩)
      (hs_cons (hs_for PassesOwn.never rfl (pi_range1 rfl T.range (pa_cons (pe_op op_add pe_int (pe_callB call_len_seq (by rfl) T.len PySem.boot_len (pa_cons (pe_slice sl_list (pv 0) po_none (po_some pe_int)) pa_nil))) pa_nil)) (pg_name (i := 2) scLaw.nd rfl (Or.inl rfl))
      (hs_cons (hs_set (i := 3) scLaw.nd rfl (Or.inr rfl) ⟨(pe_call GShape (hr.mono (by decide)) rfl mShape FShape.kp bShape .nil pass0 (pa_cons (pv 1) pa_nil))⟩)
      (hs_cons (hs_set (i := 4) scLaw.nd rfl (Or.inr rfl) ⟨(pe_call GHead (hr.mono (by decide)) rfl mHead FHead.kp bHead .nil pass0 (pa_cons (pv 1) (pa_cons (pv 3) pa_nil)))⟩)
      (hs_cons ⟨(ps_setC (i := 5) rfl rfl scLaw.nd rfl rfl (xs := ["_law_k"]) ⟨(by with_unfolding_all rfl), rfl, rfl, rfl, (by repeat (first | exact trivial | refine ⟨rfl, ?_⟩)), rfl⟩ (pi_range1 rfl T.range (pa_cons pe_int pa_nil)) (fun _ _ _ _ => (pg_name (i := 8) (by decide +kernel : (["_law_script", "_law_pot_here", "_law_turn", "_law_shape_here", "_law_head_here", "_law_forms", "_law_form_here", "_law_one", "_law_k"] : List Str).Nodup) rfl (Or.inl rfl))) (fun _ _ _ _ => pif_nil) (fun _ _ _ _ => (pe_call GForm (hr.mono (by decide)) rfl mForm FForm.kp bForm .nil pass0 (pa_cons (pv 1) (pa_cons (pv 3) pa_nil)))))⟩
      (hs_cons ⟨(ps_expr (pe_bm PySem.F.plainAttrs_list PySem.F.slot_list_extend PySem.F.type_list_extend mt_extend (pv 5) (pa_cons (pe_comp rfl rfl (xs := ["_law_way_here"]) ⟨(by with_unfolding_all rfl), rfl, rfl, rfl, (by repeat (first | exact trivial | refine ⟨rfl, ?_⟩)), rfl⟩ (pi_tup (pe_tup (pa_cons (pe_tup (pa_cons pe_str pa_nil)) (pa_cons (pe_tup (pa_cons pe_str pa_nil)) pa_nil)))) (fun _ _ _ _ => (pg_name (i := 8) (by decide +kernel : (["_law_script", "_law_pot_here", "_law_turn", "_law_shape_here", "_law_head_here", "_law_forms", "_law_form_here", "_law_one", "_law_way_here"] : List Str).Nodup) rfl (Or.inl rfl))) (fun _ _ _ _ => pif_nil) (fun _ _ _ _ => (pe_tup (pa_cons pe_int (pa_cons pe_int (pa_cons (pe_op op_mulT (pe_tup (pa_cons (pv 8) pa_nil)) (pe_callB (call_len_seqK (K := K) rfl) (by rfl) T.len PySem.boot_len (pa_cons (pv 4) pa_nil))) pa_nil)))))) pa_nil)))⟩
      (hs_one (hs_for PassesOwn.never rfl (pi_list (pv 5)) (pg_name (i := 6) scLaw.nd rfl (Or.inl rfl))
      (hs_one (hs_for PassesOwn.never rfl (pi_tup (pe_tup (pa_cons (pv 4) (pa_cons (pe_call GGone (hr.mono (by decide)) rfl mGone FGone.kp bGone .nil pass0 (pa_cons (pv 1) (pa_cons (pv 3) (pa_cons (pv 4) (pa_cons pe_int pa_nil))))) pa_nil)))) (pg_name (i := 7) scLaw.nd rfl (Or.inl rfl))
      (hs_one (hs_if (pt_not (pt_val (pe_call GRight (hr.mono (by decide)) rfl mRight FRight.kp bRight .nil pass0 (pa_cons (pv 3) (pa_cons (pv 6) (pa_cons (pv 7) pa_nil))))))
      (hs_one (hs_ret ⟨pe_bl⟩))
      hs_nil)))))))))))
      (hs_one (hs_ret ⟨pe_bl⟩))))), ?_⟩
    refine ⟨_, rfl, a, ns, rfl, hS, hlen, fun p qa H1 np nq pot1 s1 => ?_⟩
    refine ⟨_, rfl, _, rfl, a, _, rfl, s1.seq hS, fun sc hsc => ⟨sc, _, rfl, .inl (SqL.of upd_same), _, _, rfl, rfl, ?_⟩⟩
    have hcl : (cutV (ns.map V.int) none (some (12 : Int))).length ≤ 63 := by
      unfold cutV
      refine Nat.le_trans (List.length_take_le' _ _) ?_
      rw [List.length_drop, List.length_map]
      omega
    generalize (cutV (ns.map V.int) none (some (12 : Int))) = cut at hcl
    refine ⟨_, rfl, by omega, by omega, for_range (fun j σ H2 => ∃ (v2 v3 v4 v5 v6 v7 : Option V) (cj : Int), σ = [some (.ref a), some (.ref p), v2, v3, v4, v5, v6, v7] ∧ PotD H2 p qa cj ∧ cj ≤ 2000 * (j : Int)) ⟨_, _, _, _, _, _, 0, rfl, pd_new pot1 hsc, by decide⟩ ?_ ?_⟩
    · rintro j σ H2 hj ⟨v2, v3, v4, v5, v6, v7, cj, rfl, pot2, cj1⟩
      have cj0 := pd_nn pot2
      refine ⟨_, rfl, p, qa, cj, rfl, pot2, cj0, by omega, fun sh bs c3 H3 pot3 hc3 k3 hsh => ?_⟩
      refine ⟨_, rfl, _, rfl, p, qa, sh, bs, c3, rfl, pot3, by omega, hsh, fun hd vals c4 H4 pot4 hc4 k4 hhd hvals => ?_⟩
      have hsh4 := hsh.mono (b2_tup pot3 k4)
      have c40 := pd_nn pot4
      refine ⟨_, rfl, by decide, by decide, comp_range (k := 3) (fun i vs H5 => ∃ (gs : List Addr) (ci : Int), vs = gs.map V.ref ∧ gs.length = i ∧ PotD H5 p qa ci ∧ 0 ≤ ci ∧ ci ≤ c4 + 70 * (i : Int) ∧ But2 p qa H4 H5 ∧ ∀ g ∈ gs, ∃ r d ys, FormAt H5 g r d ys ∧ WsOk bs ys) (by decide) ⟨[], c4, rfl, rfl, pot4, c40, by omega, b2_refl, fun g h => (nomatch h)⟩ (fun i vs H5 ⟨gs, _, e, z, _⟩ => by rw [e, List.length_map, z]; exact Nat.le_refl _) ?_ ?_⟩
      · rintro i vs H5 hi ⟨gs, ci, rfl, hgl, pot5, ci0, ci1, k5, hgs⟩
        refine yesG ?_
        refine ⟨_, rfl, _, rfl, p, qa, sh, bs, ci, rfl, pot5, ci0, by omega, hsh4.mono (b2_tup pot4 k5), fun g r d ys c6 H6 pot6 hc6 c60 k6 hg hok => ?_⟩
        refine ⟨gs ++ [g], c6, by rw [List.map_append]; rfl, by rw [List.length_append, hgl]; rfl, pot6, c60, by push_cast; omega, b2_trans k5 k6, fun g' hg' => ?_⟩
        rcases List.mem_append.mp hg' with h | h
        · obtain ⟨r, d, ys, h1, h2⟩ := hgs g' h
          exact ⟨r, d, ys, h1.mono (b2_tup pot5 k6), h2⟩
        · rw [List.mem_singleton.mp h]
          exact ⟨r, d, ys, hg, hok.2.2.2.2⟩
      rintro vs H5 ⟨gs, c5, rfl, hgl, pot5, c50, c51, k5, hgs⟩ fl hfl
      obtain ⟨nf1, nf2⟩ := pd_ne pot5 hfl
      have u0 := same_new (o := .lst (gs.map V.ref)) (Same.refl H5) hfl
      have pot6 := pd_same pot5 u0
      have m46 : ∀ a xs, H4 a = some (.tup xs) → upd H5 fl (.lst (gs.map V.ref)) a = some (.tup xs) := fun a xs e => u0 _ _ (b2_tup pot4 k5 _ _ e)
      have hgs6 : ∀ g ∈ gs, ∃ r d ys, FormAt (upd H5 fl (.lst (gs.map V.ref))) g r d ys ∧ WsOk bs ys := fun g h => by
        obtain ⟨r, d, ys, h1, h2⟩ := hgs g h
        exact ⟨r, d, ys, h1.mono fun a xs e => u0 _ _ e, h2⟩
      have hfl6 : upd H5 fl (.lst (gs.map V.ref)) fl = some (.lst (gs.map V.ref)) := upd_same
      generalize upd H5 fl (.lst (gs.map V.ref)) = H6 at pot6 m46 hgs6 hfl6
      refine ⟨_, rfl, .inl ⟨rfl, _, SqL.of hfl6⟩, (by show 1 ≤ sizeLine; decide), fun t1 h1 => ⟨(by show 1 ≤ sizeLine; decide), fun t2 h2 => ⟨(by show 2 ≤ sizeLine; decide), fun t3 h3 => ?_⟩⟩⟩
      have u1 := same_new (o := .tup [.str "keep"]) (Same.refl H6) h1
      have u2 := same_new (o := .tup [.str "whole"]) (Same.refl _) h2
      have u3 := same_new (o := .tup [.ref t1, .ref t2]) (Same.refl _) h3
      have w1 : WayV _ (.ref t1) .keep := ⟨t1, rfl, u3 _ _ (u2 _ _ (upd_same (H := H6) (a := t1) (o := .tup [.str "keep"])))⟩
      have w2 : WayV _ (.ref t2) .whole := ⟨t2, rfl, u3 _ _ upd_same⟩
      have u13 := u1.trans (u2.trans u3)
      have ht3 : upd (upd (upd H6 t1 (.tup [.str "keep"])) t2 (.tup [.str "whole"])) t3 (.tup [.ref t1, .ref t2]) t3 = some (.tup [.ref t1, .ref t2]) := upd_same
      generalize upd (upd (upd H6 t1 (.tup [.str "keep"])) t2 (.tup [.str "whole"])) t3 (.tup [.ref t1, .ref t2]) = H7 at w1 w2 u13 ht3
      have hL : ((vals.map V.int).length : Int) = (bs.length : Int) := by rw [List.length_map, hvals.1]
      have hLn : ((vals.map V.int).length : Int).toNat = bs.length := by omega
      have hb : 1 ≤ bs.length ∧ bs.length ≤ 12 := by obtain ⟨_, _, _, _, _, _, h, h', _⟩ := hsh; exact ⟨h, h'⟩
      refine ⟨t3, rfl, ⟨_, SqT.of ht3⟩, comp_tup (xs := [.ref t1, .ref t2]) (fun i vs H8 => ∃ gs2 : List Addr, vs = gs2.map V.ref ∧ gs2.length = i ∧ Same H7 H8 ∧ ∀ g ∈ gs2, ∃ r d ys, FormAt H8 g r d ys ∧ WsOk bs ys) (by show 2 ≤ 1000000; decide) ⟨[], rfl, rfl, Same.refl _, fun g h => (nomatch h)⟩ (fun i vs H8 ⟨_, _, _, s, _⟩ => SqT.of (s _ _ ht3)) (fun i vs H8 ⟨gs2, e, z, _⟩ => by rw [e, List.length_map, z]; exact Nat.le_refl _) ?_ ?_⟩
      · rintro i x vs H8 hx ⟨gs2, rfl, hgl2, s8, hgs2⟩
        obtain ⟨y, hy, hyo⟩ : ∃ y, WayV H7 x y ∧ ∀ b, WyOk b y := by
          have hm := List.mem_of_getElem? hx
          simp only [List.mem_cons, List.not_mem_nil, or_false] at hm
          rcases hm with rfl | rfl
          · exact ⟨.keep, w1, fun _ => True.intro⟩
          · exact ⟨.whole, w2, fun _ => True.intro⟩
        refine yesG ?_
        refine ⟨_, rfl, (by show 1 ≤ sizeLine; decide), fun u hu => ?_⟩
        have v1 := same_new (o := .tup [x]) s8 hu
        refine ⟨_, rfl, hd, _, rfl, .inr (SqT.of (v1 _ _ (u13 _ _ (m46 _ _ hhd)))), u, x, _, rfl, rfl, upd_same, by omega, by omega, fun r8 H9 hr9 kp9 => ⟨(by show 3 ≤ sizeLine; decide), fun t ht => ?_⟩⟩
        have v2 := same_new (o := .tup [.int 1, .int 1, .ref r8]) (Same.refl H9) ht
        rw [hLn] at hr9
        have v9 : Same H7 _ := v1.trans (Same.trans kp9 v2)
        have v89 : Same H8 _ := (same_new (o := .tup [x]) (Same.refl H8) hu).trans (Same.trans kp9 v2)
        refine ⟨gs2 ++ [t], by rw [List.map_append]; rfl, by rw [List.length_append, hgl2]; rfl, v9, fun g hg => ?_⟩
        rcases List.mem_append.mp hg with h | h
        · obtain ⟨r, d, ys, q1, q2⟩ := hgs2 g h
          exact ⟨r, d, ys, q1.mono fun a xs e => v89 _ _ e, q2⟩
        · rw [List.mem_singleton.mp h]
          exact ⟨1, 1, _, ⟨r8, _, upd_same, v2 _ _ hr9, rep_ways (hy.mono fun a xs e => v9 _ _ e) _⟩, rep_ok hyo rfl⟩
      rintro vs H8 ⟨gs2, rfl, hgl2, s8, hgs2⟩ l9 hl9
      have v1 := same_new (o := .lst (gs2.map V.ref)) (Same.refl H8) hl9
      have s69 : Same H6 _ := u13.trans (s8.trans v1)
      have hl9' : upd H8 l9 (.lst (gs2.map V.ref)) l9 = some (.lst (gs2.map V.ref)) := upd_same
      have hgs9 : ∀ g ∈ gs2, ∃ r d ys, FormAt (upd H8 l9 (.lst (gs2.map V.ref))) g r d ys ∧ WsOk bs ys := fun g h => by
        obtain ⟨r, d, ys, q1, q2⟩ := hgs2 g h
        exact ⟨r, d, ys, q1.mono fun a xs e => v1 _ _ e, q2⟩
      generalize upd H8 l9 (.lst (gs2.map V.ref)) = H9 at v1 s69 hl9' hgs9
      refine ⟨fl, l9, _, _, rfl, rfl, s69 _ _ hfl6, hl9', (by rw [List.length_map, List.length_map, hgl, hgl2]; show 3 + 2 ≤ sizeLine; decide), ?_⟩
      rw [← List.map_append]
      have hfl9 := s69 _ _ hfl6
      have m10 : ∀ a xs, H9 a = some (.tup xs) → upd H9 fl (.lst ((gs ++ gs2).map V.ref)) a = some (.tup xs) := fun a xs e => by
        rw [upd_ne]
        · exact e
        · intro z
          rw [z, hfl9] at e
          cases e
      have pot10 : PotD (upd H9 fl (.lst ((gs ++ gs2).map V.ref))) p qa c5 := pd_upd (pd_same pot6 s69) nf1 nf2
      have hfl10 : upd H9 fl (.lst ((gs ++ gs2).map V.ref)) fl = some (.lst ((gs ++ gs2).map V.ref)) := upd_same
      have m410 : ∀ a xs, H4 a = some (.tup xs) → upd H9 fl (.lst ((gs ++ gs2).map V.ref)) a = some (.tup xs) := fun a xs e => m10 _ _ (s69 _ _ (m46 _ _ e))
      have hall : ∀ g ∈ gs ++ gs2, ∃ r d ys, FormAt (upd H9 fl (.lst ((gs ++ gs2).map V.ref))) g r d ys ∧ WsOk bs ys := fun g hg => by
        rcases List.mem_append.mp hg with h | h
        · obtain ⟨r, d, ys, q1, q2⟩ := hgs6 g h
          exact ⟨r, d, ys, q1.mono fun a xs e => m10 _ _ (s69 _ _ e), q2⟩
        · obtain ⟨r, d, ys, q1, q2⟩ := hgs9 g h
          exact ⟨r, d, ys, q1.mono m10, q2⟩
      generalize upd H9 fl (.lst ((gs ++ gs2).map V.ref)) = H10 at m10 pot10 hfl10 m410 hall
      have hgl5 : (gs ++ gs2).length = 5 := by rw [List.length_append, hgl, hgl2]; rfl
      refine ⟨_, rfl, fl, rfl, ⟨_, SqL.of hfl10⟩, for_list (xs := (gs ++ gs2).map V.ref) (fun i σ H11 => ∃ (v6 v7 : Option V) (ci : Int), σ = [some (.ref a), some (.ref p), some (.int (0 + (j : Int))), some (.ref sh), some (.ref hd), some (.ref fl), v6, v7] ∧ PotD H11 p qa ci ∧ ci ≤ c5 + 90 * (i : Int) ∧ But2 p qa H10 H11) ⟨_, _, c5, rfl, pot10, by omega, b2_refl⟩ (fun i σ H11 _ ⟨_, _, _, _, _, _, kk⟩ => SqL.of (kk _ _ hfl10 nf1 nf2)) ?_ ?_⟩
      · rintro i x σ H11 hx ⟨v6, v7, ci, rfl, pot11, ci1, k11⟩
        obtain ⟨hi, rfl⟩ := get_map hx
        obtain ⟨r, d, ys, q1, q2⟩ := hall _ (List.getElem_mem hi)
        have m11 := b2_tup pot10 k11
        have hsh11 := hsh4.mono fun a xs e => m11 _ _ (m410 _ _ e)
        have hhd11 := m11 _ _ (m410 _ _ hhd)
        have hfo11 := q1.mono m11
        refine ⟨_, rfl, _, rfl, _, rfl, _, rfl, p, qa, sh, hd, bs, vals, 1, ci, rfl, pot11, by omega, by decide, hsh11, hhd11, hvals, fun hd2 vals2 c12 H12 pot12 hc12 k12 hhd2 hvals2 => ⟨(by show 2 ≤ sizeLine; decide), fun tt htt => ?_⟩⟩
        have st := same_new (o := .tup [.ref hd, .ref hd2]) (Same.refl H12) htt
        have m12 := b2_tup pot11 k12
        have htt' : upd H12 tt (.tup [.ref hd, .ref hd2]) tt = some (.tup [.ref hd, .ref hd2]) := upd_same
        have pot13 := pd_same pot12 st
        have k13 : But2 p qa H10 _ := b2_same (b2_trans k11 k12) st
        have m13 : ∀ a xs, H11 a = some (.tup xs) → upd H12 tt (.tup [.ref hd, .ref hd2]) a = some (.tup xs) := fun a xs e => st _ _ (m12 _ _ e)
        have hhd2' := st _ _ hhd2
        generalize upd H12 tt (.tup [.ref hd, .ref hd2]) = H13 at htt' pot13 k13 m13 hhd2'
        refine ⟨tt, rfl, ⟨_, SqT.of htt'⟩, for_tup (xs := [.ref hd, .ref hd2]) (fun i2 σ H14 => ∃ (v7 : Option V), σ = [some (.ref a), some (.ref p), some (.int (0 + (j : Int))), some (.ref sh), some (.ref hd), some (.ref fl), some (.ref (gs ++ gs2)[i]), v7] ∧ Same H13 H14) ⟨_, rfl, Same.refl _⟩ (fun i2 σ H14 _ ⟨_, _, s14⟩ => SqT.of (s14 _ _ htt')) ?_ ?_⟩
        · rintro i2 x σ H14 hx2 ⟨v7, rfl, s14⟩
          obtain ⟨hdx, valsx, rfl, hhx, hvx⟩ : ∃ (hdx : Addr) (valsx : List Int), x = .ref hdx ∧ H13 hdx = some (.tup (valsx.map V.int)) ∧ valsx.length = bs.length := by
            have hm := List.mem_of_getElem? hx2
            simp only [List.mem_cons, List.not_mem_nil, or_false] at hm
            rcases hm with rfl | rfl
            · exact ⟨hd, vals, rfl, m13 _ _ hhd11, hvals.1⟩
            · exact ⟨hd2, vals2, rfl, hhd2', hvals2.1⟩
          exact ⟨_, rfl, _, rfl, _, rfl, sh, _, hdx, bs, r, d, ys, valsx, rfl, hsh11.mono (fun a xs e => s14 _ _ (m13 _ _ e)), hfo11.mono (fun a xs e => s14 _ _ (m13 _ _ e)), q2, s14 _ _ hhx, hvx, fun H15 s15 => ⟨_, rfl, iteF ⟨_, rfl, s14.trans s15⟩⟩⟩
        · rintro σ H14 ⟨v7, rfl, s14⟩
          exact ⟨_, _, c12, rfl, pd_same pot13 s14, by push_cast; omega, b2_same k13 s14⟩
      · rintro σ H11 ⟨v6, v7, ci, rfl, pot11, ci1, k11⟩
        rw [List.length_map, hgl5] at ci1
        exact ⟨_, _, _, _, _, _, ci, rfl, pot11, by push_cast at ci1 ⊢; omega⟩
    · rintro σ H2 ⟨v2, v3, v4, v5, v6, v7, cj, rfl, pot2, cj1⟩
      exact k _
end
end K
namespace K
open PySem PyProof.Rows L2
set_option maxHeartbeats 8000000 in
theorem all_mk {l : PySem.W.OpenLaw} {w : World} {K : PySem.W.Frag} {h : Heap} {mg : Str → Option Value} {fa f1 f2 f3 f4 f5 f6 f7 f8 f9 f10 f11 f12 f13 f14 f15 f16 f17 f18 f19 f20 f21 f22 f23 : Addr} (X : K.In h) (G : h.Ns mainGlobals mg) (hfa : mg "law" = some (.ref fa))
    {od1 an1 : Option Addr} {sl1 : Array (Option Value)} {oc1 kV1 dc1 pm1 cd1 ct1 : Value}
    {od2 an2 : Option Addr} {sl2 : Array (Option Value)} {oc2 kV2 dc2 pm2 cd2 ct2 : Value}
    {od3 an3 : Option Addr} {sl3 : Array (Option Value)} {oc3 kV3 dc3 pm3 cd3 ct3 : Value}
    {od4 an4 : Option Addr} {sl4 : Array (Option Value)} {oc4 kV4 dc4 pm4 cd4 ct4 : Value}
    {od5 an5 : Option Addr} {sl5 : Array (Option Value)} {oc5 kV5 dc5 pm5 cd5 ct5 : Value}
    {od6 an6 : Option Addr} {sl6 : Array (Option Value)} {oc6 kV6 dc6 pm6 cd6 ct6 : Value}
    {od7 an7 : Option Addr} {sl7 : Array (Option Value)} {oc7 kV7 dc7 pm7 cd7 ct7 : Value}
    {od8 an8 : Option Addr} {sl8 : Array (Option Value)} {oc8 kV8 dc8 pm8 cd8 ct8 : Value}
    {od9 an9 : Option Addr} {sl9 : Array (Option Value)} {oc9 kV9 dc9 pm9 cd9 ct9 : Value}
    {od10 an10 : Option Addr} {sl10 : Array (Option Value)} {oc10 kV10 dc10 pm10 cd10 ct10 : Value}
    {od11 an11 : Option Addr} {sl11 : Array (Option Value)} {oc11 kV11 dc11 pm11 cd11 ct11 : Value}
    {od12 an12 : Option Addr} {sl12 : Array (Option Value)} {oc12 kV12 dc12 pm12 cd12 ct12 : Value}
    {od13 an13 : Option Addr} {sl13 : Array (Option Value)} {oc13 kV13 dc13 pm13 cd13 ct13 : Value}
    {od14 an14 : Option Addr} {sl14 : Array (Option Value)} {oc14 kV14 dc14 pm14 cd14 ct14 : Value}
    {od15 an15 : Option Addr} {sl15 : Array (Option Value)} {oc15 kV15 dc15 pm15 cd15 ct15 : Value}
    {od16 an16 : Option Addr} {sl16 : Array (Option Value)} {oc16 kV16 dc16 pm16 cd16 ct16 : Value}
    {od17 an17 : Option Addr} {sl17 : Array (Option Value)} {oc17 kV17 dc17 pm17 cd17 ct17 : Value}
    {od18 an18 : Option Addr} {sl18 : Array (Option Value)} {oc18 kV18 dc18 pm18 cd18 ct18 : Value}
    {od19 an19 : Option Addr} {sl19 : Array (Option Value)} {oc19 kV19 dc19 pm19 cd19 ct19 : Value}
    {od20 an20 : Option Addr} {sl20 : Array (Option Value)} {oc20 kV20 dc20 pm20 cd20 ct20 : Value}
    {od21 an21 : Option Addr} {sl21 : Array (Option Value)} {oc21 kV21 dc21 pm21 cd21 ct21 : Value}
    {od22 an22 : Option Addr} {sl22 : Array (Option Value)} {oc22 kV22 dc22 pm22 cd22 ct22 : Value}
    {od23 an23 : Option Addr} {sl23 : Array (Option Value)} {oc23 kV23 dc23 pm23 cd23 ct23 : Value}
    (a1 : PySem.W.nsIn K mainGlobals "bits_of" = some (some (.ref f1))) (l1 : K.lookup f1 = some ⟨oc1, od1, .func (PySem.W.fnOf "bits_of" "bits_of" (defArgs sBitsOf) (defBody sBitsOf) (defScope sBitsOf) .none kV1 dc1 pm1 an1 cd1 ct1), sl1⟩) (c1 : PySem.W.codeIn K cd1 "bits_of" = true) (k1 : PySem.W.keepIn K (.ref f1) = true)
    (a2 : PySem.W.nsIn K mainGlobals "rest_of" = some (some (.ref f2))) (l2 : K.lookup f2 = some ⟨oc2, od2, .func (PySem.W.fnOf "rest_of" "rest_of" (defArgs sRestOf) (defBody sRestOf) (defScope sRestOf) .none kV2 dc2 pm2 an2 cd2 ct2), sl2⟩) (c2 : PySem.W.codeIn K cd2 "rest_of" = true) (k2 : PySem.W.keepIn K (.ref f2) = true)
    (a3 : PySem.W.nsIn K mainGlobals "breadths" = some (some (.ref f3))) (l3 : K.lookup f3 = some ⟨oc3, od3, .func (PySem.W.fnOf "breadths" "breadths" (defArgs sBreadths) (defBody sBreadths) (defScope sBreadths) .none kV3 dc3 pm3 an3 cd3 ct3), sl3⟩) (c3 : PySem.W.codeIn K cd3 "breadths" = true) (k3 : PySem.W.keepIn K (.ref f3) = true)
    (a4 : PySem.W.nsIn K mainGlobals "width_of" = some (some (.ref f4))) (l4 : K.lookup f4 = some ⟨oc4, od4, .func (PySem.W.fnOf "width_of" "width_of" (defArgs sWidthOf) (defBody sWidthOf) (defScope sWidthOf) .none kV4 dc4 pm4 an4 cd4 ct4), sl4⟩) (c4 : PySem.W.codeIn K cd4 "width_of" = true) (k4 : PySem.W.keepIn K (.ref f4) = true)
    (a5 : PySem.W.nsIn K mainGlobals "widths" = some (some (.ref f5))) (l5 : K.lookup f5 = some ⟨oc5, od5, .func (PySem.W.fnOf "widths" "widths" (defArgs sWidths) (defBody sWidths) (defScope sWidths) .none kV5 dc5 pm5 an5 cd5 ct5), sl5⟩) (c5 : PySem.W.codeIn K cd5 "widths" = true) (k5 : PySem.W.keepIn K (.ref f5) = true)
    (a6 : PySem.W.nsIn K mainGlobals "pieces" = some (some (.ref f6))) (l6 : K.lookup f6 = some ⟨oc6, od6, .func (PySem.W.fnOf "pieces" "pieces" (defArgs sPieces) (defBody sPieces) (defScope sPieces) .none kV6 dc6 pm6 an6 cd6 ct6), sl6⟩) (c6 : PySem.W.codeIn K cd6 "pieces" = true) (k6 : PySem.W.keepIn K (.ref f6) = true)
    (a7 : PySem.W.nsIn K mainGlobals "size_of" = some (some (.ref f7))) (l7 : K.lookup f7 = some ⟨oc7, od7, .func (PySem.W.fnOf "size_of" "size_of" (defArgs sSizeOf) (defBody sSizeOf) (defScope sSizeOf) .none kV7 dc7 pm7 an7 cd7 ct7), sl7⟩) (c7 : PySem.W.codeIn K cd7 "size_of" = true) (k7 : PySem.W.keepIn K (.ref f7) = true)
    (a8 : PySem.W.nsIn K mainGlobals "_law_pot" = some (some (.ref f8))) (l8 : K.lookup f8 = some ⟨oc8, od8, .func (PySem.W.fnOf "_law_pot" "_law_pot" (defArgs sPot) (defBody sPot) (defScope sPot) .none kV8 dc8 pm8 an8 cd8 ct8), sl8⟩) (c8 : PySem.W.codeIn K cd8 "_law_pot" = true) (k8 : PySem.W.keepIn K (.ref f8) = true)
    (a9 : PySem.W.nsIn K mainGlobals "_law_pick" = some (some (.ref f9))) (l9 : K.lookup f9 = some ⟨oc9, od9, .func (PySem.W.fnOf "_law_pick" "_law_pick" (defArgs sPick) (defBody sPick) (defScope sPick) .none kV9 dc9 pm9 an9 cd9 ct9), sl9⟩) (c9 : PySem.W.codeIn K cd9 "_law_pick" = true) (k9 : PySem.W.keepIn K (.ref f9) = true)
    (a10 : PySem.W.nsIn K mainGlobals "_law_kind" = some (some (.ref f10))) (l10 : K.lookup f10 = some ⟨oc10, od10, .func (PySem.W.fnOf "_law_kind" "_law_kind" (defArgs sKind) (defBody sKind) (defScope sKind) .none kV10 dc10 pm10 an10 cd10 ct10), sl10⟩) (c10 : PySem.W.codeIn K cd10 "_law_kind" = true) (k10 : PySem.W.keepIn K (.ref f10) = true)
    (a11 : PySem.W.nsIn K mainGlobals "_law_shape" = some (some (.ref f11))) (l11 : K.lookup f11 = some ⟨oc11, od11, .func (PySem.W.fnOf "_law_shape" "_law_shape" (defArgs sShape) (defBody sShape) (defScope sShape) .none kV11 dc11 pm11 an11 cd11 ct11), sl11⟩) (c11 : PySem.W.codeIn K cd11 "_law_shape" = true) (k11 : PySem.W.keepIn K (.ref f11) = true)
    (a12 : PySem.W.nsIn K mainGlobals "_law_value" = some (some (.ref f12))) (l12 : K.lookup f12 = some ⟨oc12, od12, .func (PySem.W.fnOf "_law_value" "_law_value" (defArgs sValue) (defBody sValue) (defScope sValue) .none kV12 dc12 pm12 an12 cd12 ct12), sl12⟩) (c12 : PySem.W.codeIn K cd12 "_law_value" = true) (k12 : PySem.W.keepIn K (.ref f12) = true)
    (a13 : PySem.W.nsIn K mainGlobals "_law_head" = some (some (.ref f13))) (l13 : K.lookup f13 = some ⟨oc13, od13, .func (PySem.W.fnOf "_law_head" "_law_head" (defArgs sHead) (defBody sHead) (defScope sHead) .none kV13 dc13 pm13 an13 cd13 ct13), sl13⟩) (c13 : PySem.W.codeIn K cd13 "_law_head" = true) (k13 : PySem.W.keepIn K (.ref f13) = true)
    (a14 : PySem.W.nsIn K mainGlobals "_law_expected" = some (some (.ref f14))) (l14 : K.lookup f14 = some ⟨oc14, od14, .func (PySem.W.fnOf "_law_expected" "_law_expected" (defArgs sLExpected) (defBody sLExpected) (defScope sLExpected) .none kV14 dc14 pm14 an14 cd14 ct14), sl14⟩) (c14 : PySem.W.codeIn K cd14 "_law_expected" = true) (k14 : PySem.W.keepIn K (.ref f14) = true)
    (a15 : PySem.W.nsIn K mainGlobals "_law_gone" = some (some (.ref f15))) (l15 : K.lookup f15 = some ⟨oc15, od15, .func (PySem.W.fnOf "_law_gone" "_law_gone" (defArgs sGone) (defBody sGone) (defScope sGone) .none kV15 dc15 pm15 an15 cd15 ct15), sl15⟩) (c15 : PySem.W.codeIn K cd15 "_law_gone" = true) (k15 : PySem.W.keepIn K (.ref f15) = true)
    (a16 : PySem.W.nsIn K mainGlobals "_law_way" = some (some (.ref f16))) (l16 : K.lookup f16 = some ⟨oc16, od16, .func (PySem.W.fnOf "_law_way" "_law_way" (defArgs sWay) (defBody sWay) (defScope sWay) .none kV16 dc16 pm16 an16 cd16 ct16), sl16⟩) (c16 : PySem.W.codeIn K cd16 "_law_way" = true) (k16 : PySem.W.keepIn K (.ref f16) = true)
    (a17 : PySem.W.nsIn K mainGlobals "_law_form" = some (some (.ref f17))) (l17 : K.lookup f17 = some ⟨oc17, od17, .func (PySem.W.fnOf "_law_form" "_law_form" (defArgs sForm) (defBody sForm) (defScope sForm) .none kV17 dc17 pm17 an17 cd17 ct17), sl17⟩) (c17 : PySem.W.codeIn K cd17 "_law_form" = true) (k17 : PySem.W.keepIn K (.ref f17) = true)
    (a18 : PySem.W.nsIn K mainGlobals "_law_bits" = some (some (.ref f18))) (l18 : K.lookup f18 = some ⟨oc18, od18, .func (PySem.W.fnOf "_law_bits" "_law_bits" (defArgs sBits) (defBody sBits) (defScope sBits) .none kV18 dc18 pm18 an18 cd18 ct18), sl18⟩) (c18 : PySem.W.codeIn K cd18 "_law_bits" = true) (k18 : PySem.W.keepIn K (.ref f18) = true)
    (a19 : PySem.W.nsIn K mainGlobals "_law_width" = some (some (.ref f19))) (l19 : K.lookup f19 = some ⟨oc19, od19, .func (PySem.W.fnOf "_law_width" "_law_width" (defArgs sWidth) (defBody sWidth) (defScope sWidth) .none kV19 dc19 pm19 an19 cd19 ct19), sl19⟩) (c19 : PySem.W.codeIn K cd19 "_law_width" = true) (k19 : PySem.W.keepIn K (.ref f19) = true)
    (a20 : PySem.W.nsIn K mainGlobals "_law_pieces" = some (some (.ref f20))) (l20 : K.lookup f20 = some ⟨oc20, od20, .func (PySem.W.fnOf "_law_pieces" "_law_pieces" (defArgs sLPieces) (defBody sLPieces) (defScope sLPieces) .none kV20 dc20 pm20 an20 cd20 ct20), sl20⟩) (c20 : PySem.W.codeIn K cd20 "_law_pieces" = true) (k20 : PySem.W.keepIn K (.ref f20) = true)
    (a21 : PySem.W.nsIn K mainGlobals "_law_same" = some (some (.ref f21))) (l21 : K.lookup f21 = some ⟨oc21, od21, .func (PySem.W.fnOf "_law_same" "_law_same" (defArgs sSame) (defBody sSame) (defScope sSame) .none kV21 dc21 pm21 an21 cd21 ct21), sl21⟩) (c21 : PySem.W.codeIn K cd21 "_law_same" = true) (k21 : PySem.W.keepIn K (.ref f21) = true)
    (a22 : PySem.W.nsIn K mainGlobals "_law_right" = some (some (.ref f22))) (l22 : K.lookup f22 = some ⟨oc22, od22, .func (PySem.W.fnOf "_law_right" "_law_right" (defArgs sRight) (defBody sRight) (defScope sRight) .none kV22 dc22 pm22 an22 cd22 ct22), sl22⟩) (c22 : PySem.W.codeIn K cd22 "_law_right" = true) (k22 : PySem.W.keepIn K (.ref f22) = true)
    (a23 : PySem.W.nsIn K mainGlobals "law" = some (some (.ref f23))) (l23 : K.lookup f23 = some ⟨oc23, od23, .func (PySem.W.fnOf "law" "law" (defArgs sLaw) (defBody sLaw) (defScope sLaw) .none kV23 dc23 pm23 an23 cd23 ct23), sl23⟩) (c23 : PySem.W.codeIn K cd23 "law" = true) (k23 : PySem.W.keepIn K (.ref f23) = true)
    (z1 : PySem.W.nsIn K mainGlobals "sum" = some none) (z2 : PySem.W.nsIn K mainGlobals "int" = some none) (z3 : PySem.W.nsIn K mainGlobals "range" = some none) (z4 : PySem.W.nsIn K mainGlobals "tuple" = some none) (z5 : PySem.W.nsIn K mainGlobals "enumerate" = some none) (z6 : PySem.W.nsIn K mainGlobals "zip" = some none) (z7 : PySem.W.nsIn K mainGlobals "isinstance" = some none) (z8 : PySem.W.nsIn K mainGlobals "str" = some none) (z9 : PySem.W.nsIn K mainGlobals "min" = some none) (z10 : PySem.W.nsIn K mainGlobals "all" = some none) (z11 : PySem.W.nsIn K mainGlobals "bool" = some none) (z12 : PySem.W.nsIn K mainGlobals "len" = some none) (z13 : PySem.W.nsIn K mainGlobals "reversed" = some none) :
    ∃ fd : FuncData, (∀ (s : Shared) (v : Value), BindsTo s fd ⟨[v], []⟩ [("_law_script", v)]) ∧ ∀ base : Heap, K.In base → base.Ns mainGlobals mg → FnOk l.prog w K mg base CX0 5 fa fd ["_law_script"] (spLaw K) := by
  have e := hfa.symm.trans (PySem.W.mg_of X G a23)
  cases e
  have T : Txt mg := ⟨PySem.W.mg_none_of X G z1, PySem.W.mg_none_of X G z2, PySem.W.mg_none_of X G z3, PySem.W.mg_none_of X G z4, PySem.W.mg_none_of X G z5, PySem.W.mg_none_of X G z6, PySem.W.mg_none_of X G z7, PySem.W.mg_none_of X G z8, PySem.W.mg_none_of X G z9, PySem.W.mg_none_of X G z10, PySem.W.mg_none_of X G z11, PySem.W.mg_none_of X G z12, PySem.W.mg_none_of X G z13⟩
  have F1 := fun_mk (st := sBitsOf) l1 c1 k1
  have F2 := fun_mk (st := sRestOf) l2 c2 k2
  have F3 := fun_mk (st := sBreadths) l3 c3 k3
  have F4 := fun_mk (st := sWidthOf) l4 c4 k4
  have F5 := fun_mk (st := sWidths) l5 c5 k5
  have F6 := fun_mk (st := sPieces) l6 c6 k6
  have F7 := fun_mk (st := sSizeOf) l7 c7 k7
  have F8 := fun_mk (st := sPot) l8 c8 k8
  have F9 := fun_mk (st := sPick) l9 c9 k9
  have F10 := fun_mk (st := sKind) l10 c10 k10
  have F11 := fun_mk (st := sShape) l11 c11 k11
  have F12 := fun_mk (st := sValue) l12 c12 k12
  have F13 := fun_mk (st := sHead) l13 c13 k13
  have F14 := fun_mk (st := sLExpected) l14 c14 k14
  have F15 := fun_mk (st := sGone) l15 c15 k15
  have F16 := fun_mk (st := sWay) l16 c16 k16
  have F17 := fun_mk (st := sForm) l17 c17 k17
  have F18 := fun_mk (st := sBits) l18 c18 k18
  have F19 := fun_mk (st := sWidth) l19 c19 k19
  have F20 := fun_mk (st := sLPieces) l20 c20 k20
  have F21 := fun_mk (st := sSame) l21 c21 k21
  have F22 := fun_mk (st := sRight) l22 c22 k22
  have F23 := fun_mk (st := sLaw) l23 c23 k23
  have b1 := F1.binds (ps := ["number", "width"]) fun _ _ _ _ _ _ us hl => match us, hl with | [_, _], _ => rfl
  have m1 := PySem.W.mg_of X G a1
  have b2 := F2.binds (ps := ["number", "width"]) fun _ _ _ _ _ _ us hl => match us, hl with | [_, _], _ => rfl
  have m2 := PySem.W.mg_of X G a2
  have b3 := F3.binds (ps := ["shape"]) fun _ _ _ _ _ _ us hl => match us, hl with | [_], _ => rfl
  have m3 := PySem.W.mg_of X G a3
  have b4 := F4.binds (ps := ["way", "breadth"]) fun _ _ _ _ _ _ us hl => match us, hl with | [_, _], _ => rfl
  have m4 := PySem.W.mg_of X G a4
  have b5 := F5.binds (ps := ["shape", "form"]) fun _ _ _ _ _ _ us hl => match us, hl with | [_, _], _ => rfl
  have m5 := PySem.W.mg_of X G a5
  have b6 := F6.binds (ps := ["shape", "form", "head"]) fun _ _ _ _ _ _ us hl => match us, hl with | [_, _, _], _ => rfl
  have m6 := PySem.W.mg_of X G a6
  have b7 := F7.binds (ps := ["shape", "form"]) fun _ _ _ _ _ _ us hl => match us, hl with | [_, _], _ => rfl
  have m7 := PySem.W.mg_of X G a7
  have b8 := F8.binds (ps := ["_law_script"]) fun _ _ _ _ _ _ us hl => match us, hl with | [_], _ => rfl
  have m8 := PySem.W.mg_of X G a8
  have b9 := F9.binds (ps := ["_law_pot_here", "_law_many"]) fun _ _ _ _ _ _ us hl => match us, hl with | [_, _], _ => rfl
  have m9 := PySem.W.mg_of X G a9
  have b10 := F10.binds (ps := ["_law_pot_here", "_law_place", "_law_breadth"]) fun _ _ _ _ _ _ us hl => match us, hl with | [_, _, _], _ => rfl
  have m10 := PySem.W.mg_of X G a10
  have b11 := F11.binds (ps := ["_law_pot_here"]) fun _ _ _ _ _ _ us hl => match us, hl with | [_], _ => rfl
  have m11 := PySem.W.mg_of X G a11
  have b12 := F12.binds (ps := ["_law_pot_here", "_law_field"]) fun _ _ _ _ _ _ us hl => match us, hl with | [_, _], _ => rfl
  have m12 := PySem.W.mg_of X G a12
  have b13 := F13.binds (ps := ["_law_pot_here", "_law_shape_here"]) fun _ _ _ _ _ _ us hl => match us, hl with | [_, _], _ => rfl
  have m13 := PySem.W.mg_of X G a13
  have b14 := F14.binds (ps := ["_law_shape_here", "_law_place", "_law_former", "_law_ahead", "_law_more"]) fun _ _ _ _ _ _ us hl => match us, hl with | [_, _, _, _, _], _ => rfl
  have m14 := PySem.W.mg_of X G a14
  have b15 := F15.binds (ps := ["_law_pot_here", "_law_shape_here", "_law_former", "_law_more"]) fun _ _ _ _ _ _ us hl => match us, hl with | [_, _, _, _], _ => rfl
  have m15 := PySem.W.mg_of X G a15
  have b16 := F16.binds (ps := ["_law_pot_here", "_law_breadth"]) fun _ _ _ _ _ _ us hl => match us, hl with | [_, _], _ => rfl
  have m16 := PySem.W.mg_of X G a16
  have b17 := F17.binds (ps := ["_law_pot_here", "_law_shape_here"]) fun _ _ _ _ _ _ us hl => match us, hl with | [_, _], _ => rfl
  have m17 := PySem.W.mg_of X G a17
  have b18 := F18.binds (ps := ["_law_number", "_law_width_here"]) fun _ _ _ _ _ _ us hl => match us, hl with | [_, _], _ => rfl
  have m18 := PySem.W.mg_of X G a18
  have b19 := F19.binds (ps := ["_law_field", "_law_way_here"]) fun _ _ _ _ _ _ us hl => match us, hl with | [_, _], _ => rfl
  have m19 := PySem.W.mg_of X G a19
  have b20 := F20.binds (ps := ["_law_shape_here", "_law_form_here", "_law_head_here"]) fun _ _ _ _ _ _ us hl => match us, hl with | [_, _, _], _ => rfl
  have m20 := PySem.W.mg_of X G a20
  have b21 := F21.binds (ps := ["_law_found", "_law_due"]) fun _ _ _ _ _ _ us hl => match us, hl with | [_, _], _ => rfl
  have m21 := PySem.W.mg_of X G a21
  have b22 := F22.binds (ps := ["_law_shape_here", "_law_form_here", "_law_head_here"]) fun _ _ _ _ _ _ us hl => match us, hl with | [_, _, _], _ => rfl
  have m22 := PySem.W.mg_of X G a22
  exact ⟨PySem.W.fnOf "law" "law" (defArgs sLaw) (defBody sLaw) (defScope sLaw) .none kV23 dc23 pm23 an23 cd23 ct23, fun s v => .of_eq rfl, fun base _ _ => ok_law F23 T F1 b1 m1 F2 b2 m2 F3 b3 m3 F4 b4 m4 F5 b5 m5 F6 b6 m6 F7 b7 m7 F8 b8 m8 F9 b9 m9 F10 b10 m10 F11 b11 m11 F12 b12 m12 F13 b13 m13 F14 b14 m14 F15 b15 m15 F16 b16 m16 F17 b17 m17 F18 b18 m18 F19 b19 m19 F20 b20 m20 F21 b21 m21 F22 b22 m22⟩
end K
open PySem PySem.W PyProof.Rows
set_option maxRecDepth 100000 in
set_option maxHeartbeats 0 in
theorem PySem.Challenge.cw_shorthead_k15_pieces_holds : PySem.Challenge.rw_shorthead_k15_pieces.Holds := by
  w_on; o_law; k_head; (case hw => w_witness2)
  k_fill
  refine L2.walk_ofK (l := PySem.Challenge.rw_shorthead_k15_pieces) (n := 63) (k := 5) (x := "_law_script") (CX := L2.CX0) (sp := K.spLaw) rfl (by decide) rfl ⟨rfl, by decide, by decide⟩ (fun w h Y => PySem.W.kIn_of Y) ?F ?S ?C
  case F =>
    intro w mg fa h KX G hmg
    refine' K.all_mk KX G hmg ?a1 ?l1 ?c1 ?k1 ?a2 ?l2 ?c2 ?k2 ?a3 ?l3 ?c3 ?k3 ?a4 ?l4 ?c4 ?k4 ?a5 ?l5 ?c5 ?k5 ?a6 ?l6 ?c6 ?k6 ?a7 ?l7 ?c7 ?k7 ?a8 ?l8 ?c8 ?k8 ?a9 ?l9 ?c9 ?k9 ?a10 ?l10 ?c10 ?k10 ?a11 ?l11 ?c11 ?k11 ?a12 ?l12 ?c12 ?k12 ?a13 ?l13 ?c13 ?k13 ?a14 ?l14 ?c14 ?k14 ?a15 ?l15 ?c15 ?k15 ?a16 ?l16 ?c16 ?k16 ?a17 ?l17 ?c17 ?k17 ?a18 ?l18 ?c18 ?k18 ?a19 ?l19 ?c19 ?k19 ?a20 ?l20 ?c20 ?k20 ?a21 ?l21 ?c21 ?k21 ?a22 ?l22 ?c22 ?k22 ?a23 ?l23 ?c23 ?k23 ?z1 ?z2 ?z3 ?z4 ?z5 ?z6 ?z7 ?z8 ?z9 ?z10 ?z11 ?z12 ?z13
    (case a1 => k_is)
    (case l1 => k_is)
    (case c1 => k_is)
    (case k1 => k_is)
    (case a2 => k_is)
    (case l2 => k_is)
    (case c2 => k_is)
    (case k2 => k_is)
    (case a3 => k_is)
    (case l3 => k_is)
    (case c3 => k_is)
    (case k3 => k_is)
    (case a4 => k_is)
    (case l4 => k_is)
    (case c4 => k_is)
    (case k4 => k_is)
    (case a5 => k_is)
    (case l5 => k_is)
    (case c5 => k_is)
    (case k5 => k_is)
    (case a6 => k_is)
    (case l6 => k_is)
    (case c6 => k_is)
    (case k6 => k_is)
    (case a7 => k_is)
    (case l7 => k_is)
    (case c7 => k_is)
    (case k7 => k_is)
    (case a8 => k_is)
    (case l8 => k_is)
    (case c8 => k_is)
    (case k8 => k_is)
    (case a9 => k_is)
    (case l9 => k_is)
    (case c9 => k_is)
    (case k9 => k_is)
    (case a10 => k_is)
    (case l10 => k_is)
    (case c10 => k_is)
    (case k10 => k_is)
    (case a11 => k_is)
    (case l11 => k_is)
    (case c11 => k_is)
    (case k11 => k_is)
    (case a12 => k_is)
    (case l12 => k_is)
    (case c12 => k_is)
    (case k12 => k_is)
    (case a13 => k_is)
    (case l13 => k_is)
    (case c13 => k_is)
    (case k13 => k_is)
    (case a14 => k_is)
    (case l14 => k_is)
    (case c14 => k_is)
    (case k14 => k_is)
    (case a15 => k_is)
    (case l15 => k_is)
    (case c15 => k_is)
    (case k15 => k_is)
    (case a16 => k_is)
    (case l16 => k_is)
    (case c16 => k_is)
    (case k16 => k_is)
    (case a17 => k_is)
    (case l17 => k_is)
    (case c17 => k_is)
    (case k17 => k_is)
    (case a18 => k_is)
    (case l18 => k_is)
    (case c18 => k_is)
    (case k18 => k_is)
    (case a19 => k_is)
    (case l19 => k_is)
    (case c19 => k_is)
    (case k19 => k_is)
    (case a20 => k_is)
    (case l20 => k_is)
    (case c20 => k_is)
    (case k20 => k_is)
    (case a21 => k_is)
    (case l21 => k_is)
    (case c21 => k_is)
    (case k21 => k_is)
    (case a22 => k_is)
    (case l22 => k_is)
    (case c22 => k_is)
    (case k22 => k_is)
    (case a23 => k_is)
    (case l23 => k_is)
    (case c23 => k_is)
    (case k23 => k_is)
    (case z1 => k_is)
    (case z2 => k_is)
    (case z3 => k_is)
    (case z4 => k_is)
    (case z5 => k_is)
    (case z6 => k_is)
    (case z7 => k_is)
    (case z8 => k_is)
    (case z9 => k_is)
    (case z10 => k_is)
    (case z11 => k_is)
    (case z12 => k_is)
    (case z13 => k_is)
  case S => exact fun _ _ a ns hl _ hS => ⟨a, ns, rfl, hS, hl, fun _ => rfl⟩
  case C => exact fun _ _ _ _ z => z
