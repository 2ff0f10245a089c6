import PyProof.Rows.All
import Wide.All
import OpenK.AllK
import Wide.FinOn
import Lean
import PyProof.EqAt
import PyProof.EqKinds
import PyProof.TupleCall
import PySem.Challenge.RW_shorthead_k51_pacts_written
set_option maxHeartbeats 16000000
noncomputable section
set_option Elab.async false
set_option linter.all false
set_option maxRecDepth 100000
namespace AutoP
theorem a0 (h : True := by first | exact .inl rfl | exact .inr rfl | assumption) : True := h
theorem a1 (h : True := by decide) : True := h
theorem a2 (h : True := by intro _; rfl) : True := h
theorem a3 (h : True := by rfl) : True := h
theorem a4 (h : True := by with_unfolding_all rfl) : True := h
theorem a5 (h : True := by intro _ _ z; simp [*] at z) : True := h
theorem a6 (h : True := by decide +kernel) : True := h
theorem a7 (h : True := by intro _ _; rfl) : True := h
theorem a8 (h : True := by repeat first | exact aNil_len | refine aCons_len ?_) : True := h
end AutoP
namespace L2
open PySem PySem.Spec PyProof.Rows
abbrev Key := Sum Int Str
def keyIs : Key -> Value -> Bool
 | .inl k, v => Value.isInt k v
 | .inr x, v => Value.isStrOf x v
def keyH (w : World) : Key -> Int
 | .inl k => hashInt k
 | .inr x => hashStr w x
theorem keyIs_shape : ∀ {k : Key} {v : Value}, keyIs k v = true -> (∃ i t, k = Sum.inl i /\ v = Value.int i t) ∨ (∃ x t, k = Sum.inr x /\ v = Value.str x t)
 | .inl i, v, h => by
  obtain ⟨t, e⟩ := Value.isInt_shape (k := i) (v := v) h
  exact .inl ⟨i, t, rfl, e⟩
 | .inr x, v, h => by
  obtain ⟨t, e⟩ := Value.isStrOf_shape (x := x) (v := v) h
  exact .inr ⟨x, t, rfl, e⟩
theorem keyIs_int (i : Int) (t : Tok) : keyIs (.inl i) (.int i t) = true := by simp [keyIs, Value.isInt]
theorem keyIs_str (x : Str) (t : Tok) : keyIs (.inr x) (.str x t) = true := by simp [keyIs, Value.isStrOf]
theorem key_ll (a b : Int) : decide ((Sum.inl a : Key) = Sum.inl b) = (a == b) := by
 by_cases e : a = b
 ·subst e; simp
 ·have h : ¬ (Sum.inl a : Key) = Sum.inl b := fun q => e (Sum.inl.inj q)
  rw [decide_eq_false h]
  exact (beq_eq_false_iff_ne.mpr e).symm
theorem key_rr (a b : Str) : decide ((Sum.inr a : Key) = Sum.inr b) = decide (a = b) := by
 by_cases e : a = b
 ·subst e; simp
 ·have h : ¬ (Sum.inr a : Key) = Sum.inr b := fun q => e (Sum.inr.inj q)
  rw [decide_eq_false h, decide_eq_false e]
theorem key_lr (a : Int) (b : Str) : decide ((Sum.inl a : Key) = Sum.inr b) = false := decide_eq_false (fun q => nomatch q)
theorem key_rl (a : Str) (b : Int) : decide ((Sum.inr a : Key) = Sum.inl b) = false := decide_eq_false (fun q => nomatch q)
def mixKind (prog : Program) (w : World) : PySem.KeyKind prog w Key where
 is := keyIs
 hash := keyH w
 inj := fun v a b ha hb => by
  rcases keyIs_shape ha with ⟨i, t, rfl, rfl⟩ | ⟨x, t, rfl, rfl⟩
  ·rcases keyIs_shape hb with ⟨j, u, rfl, e⟩ | ⟨y, u, rfl, e⟩
   ·injection e with e1 _; rw [e1]
   ·exact nomatch e
  ·rcases keyIs_shape hb with ⟨j, u, rfl, e⟩ | ⟨y, u, rfl, e⟩
   ·exact nomatch e
   ·injection e with e1 _; rw [e1]
 byValue := fun k v h => by
  rcases keyIs_shape h with ⟨i, t, rfl, rfl⟩ | ⟨x, t, rfl, rfl⟩ <;> rfl
 pyHash := fun hv h => by
  rcases keyIs_shape hv with ⟨i, t, rfl, rfl⟩ | ⟨x, t, rfl, rfl⟩
  ·exact wpAny_pyHash_int h
  ·exact wpAny_pyHash_str h
 eqBool := fun hu hv h => by
  rcases keyIs_shape hu with ⟨i, t, rfl, rfl⟩ | ⟨x, t, rfl, rfl⟩
  ·rcases keyIs_shape hv with ⟨j, u, rfl, rfl⟩ | ⟨y, u, rfl, rfl⟩
   ·rw [key_ll] at h; exact wpAny_eqBool_int h
   ·rw [key_lr] at h; exact SeqAt.EqAt.int_str i t y u _ _ _ _ h
  ·rcases keyIs_shape hv with ⟨j, u, rfl, rfl⟩ | ⟨y, u, rfl, rfl⟩
   ·rw [key_rl] at h; exact SeqAt.EqAt.str_int x t j u _ _ _ _ h
   ·rw [key_rr] at h; exact wpAny_eqBool_str h
 «strs» := fun k x t v h => by
  rcases keyIs_shape h with ⟨i, u, rfl, e⟩ | ⟨y, u, rfl, e⟩
  ·exact nomatch e
  ·injection e with e1 _
   subst e1
   cases v <;> rfl
theorem mixKind_int (prog : Program) (w : World) (i : Int) (t : Tok) : (mixKind prog w).is (.inl i) (.int i t) = true := keyIs_int i t
theorem mixKind_str (prog : Program) (w : World) (x : Str) (t : Tok) : (mixKind prog w).is (.inr x) (.str x t) = true := keyIs_str x t
inductive V where
 | non | bl (b : Bool) | int (i : Int) | str (x : Str) | byt (b : Array UInt8) | flt (b : UInt64) | ref (a : Addr) | ty (n : String)
 deriving DecidableEq
def RelV : V -> Value -> Prop
 | .non, u => u = Value.none
 | .bl b, u => u = Value.bool b
 | .int i, u => ∃ t, u = Value.int i t
 | .str x, u => ∃ t, u = Value.str x t
 | .byt b, u => ∃ t, u = Value.bytes b t
 | .flt b, u => ∃ t, u = Value.float b t
 | .ref a, u => u = Value.ref a
 | .ty n, u => u = Value.type n
abbrev Vals : List V -> List Value -> Prop := Paired RelV
theorem Vals.length {xs : List V} {us : List Value} (r : Vals xs us) : xs.length = us.length := Paired.length r
theorem Vals.get : ∀ {xs : List V} {us : List Value} {i : Nat} {x : V}, Vals xs us -> xs[i]? = some x -> ∃ u, us[i]? = some u /\ RelV x u
 | _, _, _, _, .nil, e => by simp at e
 | _, _, 0, _, .cons r _, e => by simp at e; subst e; exact ⟨_, rfl, r⟩
 | _, _, i + 1, x, .cons _ t, e => by
  obtain ⟨u, h1, h2⟩ := Vals.get (i := i) (x := x) t (by simpa using e)
  exact ⟨u, by simpa using h1, h2⟩
theorem Vals.set {x : V} {u : Value} (r : RelV x u) : ∀ {xs : List V} {us : List Value} (i : Nat), Vals xs us -> Vals (xs.set i x) (us.set i u)
 | _, _, _, .nil => .nil
 | _, _, 0, .cons _ t => .cons r t
 | _, _, i + 1, .cons q t => .cons q (Vals.set r i t)
theorem Vals.append : ∀ {xs ys : List V} {us ws : List Value}, Vals xs us -> Vals ys ws -> Vals (xs ++ ys) (us ++ ws)
 | _, _, _, _, .nil, s => s
 | _, _, _, _, .cons r t, s => .cons r (Vals.append t s)
theorem Vals.take : ∀ {xs : List V} {us : List Value} (n : Nat), Vals xs us -> Vals (xs.take n) (us.take n)
 | _, _, 0, _ => .nil
 | _, _, _ + 1, .nil => .nil
 | _, _, n + 1, .cons r t => .cons r (Vals.take n t)
theorem Vals.drop : ∀ {xs : List V} {us : List Value} (n : Nat), Vals xs us -> Vals (xs.drop n) (us.drop n)
 | _, _, 0, r => r
 | _, _, _ + 1, .nil => .nil
 | _, _, n + 1, .cons _ t => Vals.drop n t
def RelO : Option V -> Option Value -> Prop
 | some v, some u => RelV v u
 | none, none => True
 | _, _ => False
def KV {κ : Type} : List (κ × V) -> List (κ × Value) -> Prop := Paired fun (p : κ × V) (q : κ × Value) => p.1 = q.1 /\ RelV p.2 q.2
def kV : Key -> V
 | .inl i => .int i
 | .inr x => .str x
inductive HO where
 | lst (xs : List V)
 | tup (xs : List V)
 | dK (kvs : List (Key × V)) | dT (kvs : List (List Key × V))
 | set (S : Int -> Bool) (n : Nat)
 | ins (C dx : Addr) (fs : List (Str × V))
 | own (x : Addr)
 | xd (fs : List (Str × V))
 | met (f x : Addr)
 | rng (lo hi : Int)
 | frz (o : Obj) (u : HO)
 | tbl (ps : Array Value)
 | ext (φ : Heap -> Prop)
abbrev Hp := Addr -> Option HO
def upd (H : Hp) (a : Addr) (o : HO) : Hp := fun b => if b = a then some o else H b
theorem upd_same {H : Hp} {a : Addr} {o : HO} : upd H a o a = some o := by unfold upd; rw [if_pos rfl]
theorem upd_ne {H : Hp} {a b : Addr} {o : HO} (h : b ≠ a) : upd H a o b = H b := by unfold upd; rw [if_neg h]
theorem ne_of {H : Hp} {a b : Addr} {o u : HO} (h : H a = some o) (h' : H b = some u) (d : o ≠ u) : a ≠ b := by
 intro e; subst e; rw [h] at h'; exact d (Option.some.inj h')
theorem ne_of_none {H : Hp} {a b : Addr} {o : HO} (h : H a = some o) (h' : H b = none) : a ≠ b := by
 intro e; subst e; rw [h] at h'; cases h'
section
variable (P : Program) (w : World)
def NoD (h : Heap) (a : Addr) : Prop := ∃ o, h.get? a = some o /\ o.dict = none
def ObjOk (H : Hp) (h : Heap) (a : Addr) : HO -> Prop
 | .lst xs => xs.length <= sizeLine /\ ∃ (its : List Value) (n : Nat), Vals xs its /\ h.get? a = some { cls := .type "list", data := .seq its.toArray n }
 | .tup xs => xs.length <= sizeLine /\ ∃ its : List Value, Vals xs its /\ IsTup h a its.toArray /\ NoD h a
 | .dK kvs => kvs.length <= sizeLine /\ (a == sysModules) = false /\ ∃ vs, KV kvs vs /\ h.DictOf (mixKind P w) a vs
 | .dT kvs => kvs.length <= sizeLine /\ (a == sysModules) = false /\ ∃ xs : List (List Key × Addr × Value),
   Paired (fun (p : List Key × V) (q : List Key × Addr × Value) => p.1 = q.1 /\ H q.2.1 = some (.tup (p.1.map kV)) /\ RelV p.2 q.2.2) kvs xs ∧
   ∃ o es ep, h.get? a = some o /\ o.ExactDict /\ o.data = .dict es ep /\ es.toList = xs.map (entryOfKey (tupleKind (mixKind P w))) /\ (xs.map (·.1)).Nodup
 | .set S n => h.SetOf (intKind P w) a S n
 | .ins C dx fs => H dx = some (.own a) /\ fs.length <= 1000 /\ dx ≠ a /\ h.get? a = some (PySem.W.instObj C dx) ∧
   ∃ mA, h.Ns1 dx mA /\ (∀ f, RelO (fs.lookup f) (mA f)) /\ PySem.Within mA (fs.map (·.1))
 | .own _ => ∃ o, h.get? a = some o
 | .xd fs => ∃ mA, h.Ns1 a mA /\ ∀ f, RelO (fs.lookup f) (mA f)
 | .rng lo hi => ∃ t u v, h.get? a = some { cls := .type "range", data := .fields #[.int lo t, .int hi u, .int 1 v] }
 | .frz o u => h.get? a = some o /\ ObjOk H h a u
 | .tbl ps => h.get? a = some { cls := .none, data := .fields ps }
 | .met f x => h.get? a = some (PySem.W.methodObj (.ref f) (.ref x))
 | .ext φ => φ h /\ (∃ o, h.get? a = some o) /\ ∀ h1 h2 : Heap, φ h1 -> (∀ o, h1.get? a = some o -> h2.get? a = some o) -> φ h2
def HOk (H : Hp) (h : Heap) : Prop := ∀ a o, H a = some o -> ObjOk P w H h a o
end
section
variable {P : Program} {w : World} {H H' : Hp} {h h' : Heap} {a : Addr} {o : HO}
theorem ObjOk.lt (x : ObjOk P w H h a o) : a < h.objs.size := by
 cases o with
 | lst xs => obtain ⟨_, _, _, _, e⟩ := x; exact Heap.lt_size e
 | tup xs => obtain ⟨_, _, _, p, _⟩ := x; exact p.lt
 | dK kvs => obtain ⟨_, _, _, _, o, _, _, e, _⟩ := x; exact Heap.lt_size e
 | dT kvs => obtain ⟨_, _, _, _, o, _, _, e, _⟩ := x; exact Heap.lt_size e
 | set S n => obtain ⟨o, _, _, _, e, _⟩ := x; exact Heap.lt_size e
 | ins C dx fs => obtain ⟨_, _, _, e, _⟩ := x; exact Heap.lt_size e
 | own y => obtain ⟨_, e⟩ := x; exact Heap.lt_size e
 | xd fs => obtain ⟨_, ⟨_, _, _, e, _⟩, _⟩ := x; exact Heap.lt_size e
 | rng lo hi => obtain ⟨_, _, _, e⟩ := x; exact Heap.lt_size e
 | frz ob u => obtain ⟨e, _⟩ := x; exact Heap.lt_size e
 | tbl ps => exact Heap.lt_size (show h.get? a = some _ from x)
 | met f y => exact Heap.lt_size (show h.get? a = some _ from x)
 | ext φ => obtain ⟨_, ⟨_, e⟩, _⟩ := x; exact Heap.lt_size e
theorem Paired.mapP {α β : Type} {F G : α -> β -> Prop} : ∀ {l₁ : List α} {l₂ : List β}, Paired F l₁ l₂ -> (∀ a b, F a b -> G a b) -> Paired G l₁ l₂
 | _, _, .nil, _ => .nil
 | _, _, .cons r t, f => .cons (f _ _ r) (Paired.mapP t f)
theorem ObjOk.stay (x : ObjOk P w H h a o) (k : ∀ b u, (b = a ∨ H b = some (.own a)) -> h.get? b = some u -> h'.get? b = some u)
  (ho : ∀ b, H b = some (.own a) -> H' b = some (.own a)) (ht : ∀ b xs, H b = some (.tup xs) -> H' b = some (.tup xs)) : ObjOk P w H' h' a o := by
 induction o with
 | lst xs => obtain ⟨z, its, n, r, e⟩ := x; exact ⟨z, its, n, r, k _ _ (.inl rfl) e⟩
 | tup xs => obtain ⟨z, its, r, ⟨ob, e, c⟩, od, ed, dn⟩ := x; exact ⟨z, its, r, ⟨ob, k _ _ (.inl rfl) e, c⟩, od, k _ _ (.inl rfl) ed, dn⟩
 | dK kvs => obtain ⟨z, y, vs, r, ob, es, ep, e, c⟩ := x; exact ⟨z, y, vs, r, ob, es, ep, k _ _ (.inl rfl) e, c⟩
 | dT kvs =>
  obtain ⟨z, y, xs, r, ob, es, ep, e, c⟩ := x
  exact ⟨z, y, xs, Paired.mapP r fun p q z => ⟨z.1, ht _ _ z.2.1, z.2.2⟩, ob, es, ep, k _ _ (.inl rfl) e, c⟩
 | set S n => obtain ⟨ob, es, ep, t, e, c⟩ := x; exact ⟨ob, es, ep, t, k _ _ (.inl rfl) e, c⟩
 | ins C dx fs =>
  obtain ⟨d, z, ne, e, mA, ⟨od, es, ep, e2, c⟩, r⟩ := x
  exact ⟨ho _ d, z, ne, k _ _ (.inl rfl) e, mA, ⟨od, es, ep, k _ _ (.inr d) e2, c⟩, r⟩
 | own y => obtain ⟨ob, e⟩ := x; exact ⟨ob, k _ _ (.inl rfl) e⟩
 | xd fs => obtain ⟨mA, ⟨od, es, ep, e, c⟩, r⟩ := x; exact ⟨mA, ⟨od, es, ep, k _ _ (.inl rfl) e, c⟩, r⟩
 | rng lo hi => obtain ⟨t, u, v, e⟩ := x; exact ⟨t, u, v, k _ _ (.inl rfl) e⟩
 | frz ob u ih => obtain ⟨e, q⟩ := x; exact ⟨k _ _ (.inl rfl) e, ih q⟩
 | tbl ps =>
  have e : h.get? a = some { cls := .none, data := .fields ps } := x
  show h'.get? a = some { cls := .none, data := .fields ps }
  exact k a _ (.inl rfl) e
 | met f y =>
  have e : h.get? a = some (PySem.W.methodObj (.ref f) (.ref y)) := x
  show h'.get? a = some (PySem.W.methodObj (.ref f) (.ref y))
  exact k a _ (.inl rfl) e
 | ext φ => obtain ⟨p, ⟨o, e⟩, st⟩ := x; exact ⟨st _ _ p fun o q => k _ _ (.inl rfl) q, ⟨o, k _ _ (.inl rfl) e⟩, st⟩
theorem HOk.lt (x : HOk P w H h) (e : H a = some o) : a < h.objs.size := (x a o e).lt
theorem HOk.fresh (x : HOk P w H h) (e : h.objs.size <= a) : H a = none := by
 cases q : H a with
 | none => rfl
 | some u => exact absurd (Nat.lt_of_lt_of_le (x.lt q) e) (Nat.lt_irrefl _)
theorem HOk.kept (x : HOk P w H h) (k : ∀ b u, h.get? b = some u -> h'.get? b = some u) : HOk P w H h' := fun a o e =>
 (x a o e).stay (fun b u _ q => k b u q) (fun _ q => q) fun _ _ q => q
theorem HOk.laid (x : HOk P w H h) (k : ∀ b u, h.get? b = some u -> h'.get? b = some u) (hp : h.objs.size <= a) (new : ObjOk P w (upd H a o) h' a o) : HOk P w (upd H a o) h' := fun b u e => by
 have hn := x.fresh hp
 by_cases hb : b = a
 ·subst hb; rw [upd_same] at e; cases e; exact new
 ·rw [upd_ne hb] at e
  exact (x b u e).stay (fun c v _ q => k c v q) (fun c q => by rw [upd_ne (ne_of_none q hn)]; exact q) fun c xs q => by rw [upd_ne (ne_of_none q hn)]; exact q
end
def Rd (H : Hp) (a : Addr) (u : HO) : Prop := H a = some u ∨ ∃ o, H a = some (.frz o u)
theorem Rd.ok {P : Program} {w : World} {H : Hp} {h : Heap} {a : Addr} {u : HO} (r : Rd H a u) (x : HOk P w H h) : ObjOk P w H h a u := by
 rcases r with r | ⟨o, r⟩
 ·exact x a u r
 ·obtain ⟨_, q⟩ := x a _ r
  exact q
def Mut : Option HO -> Prop
 | some (.lst _) => True
 | some (.dK _) => True
 | some (.dT _) => True
 | some (.set _ _) => True
 | some (.ins _ _ _) => True
 | some (.ext _) => True
 | _ => False
section
variable {P : Program} {w : World} {H : Hp} {h h' : Heap} {x e : Addr} {o' : HO}
theorem HOk.write (ok : HOk P w H h) (mu : Mut (H x)) (he : e = x ∨ H e = some (.own x)) (k : ∀ b u, b ≠ e -> h.get? b = some u -> h'.get? b = some u) (heo : ∃ u, h'.get? e = some u)
  (new : ObjOk P w (upd H x o') h' x o') : HOk P w (upd H x o') h' := fun b u q => by
 have nown : ∀ c y, H c = some (.own y) -> c ≠ x := fun c y r z => by subst z; rw [r] at mu; exact mu
 have ntup : ∀ c xs, H c = some (.tup xs) -> c ≠ x := fun c xs r z => by subst z; rw [r] at mu; exact mu
 by_cases hb : b = x
 ·subst hb; rw [upd_same] at q; cases q; exact new
 ·rw [upd_ne hb] at q
  by_cases hbe : b = e
  ·have q' : H b = some (.own x) := by
    rcases he with z | z
    ·exact absurd (hbe.trans z) hb
    ·rw [hbe]; exact z
   rw [q] at q'; cases q'
   obtain ⟨v, hv⟩ := heo
   exact ⟨v, by rw [hbe]; exact hv⟩
  ·refine (ok b u q).stay (fun c v hc r => k c v ?_ r) (fun c r => by rw [upd_ne (nown c b r)]; exact r) fun c xs r => by rw [upd_ne (ntup c xs r)]; exact r
   rcases hc with rfl | hc
   ·exact hbe
   ·rintro rfl
    rcases he with z | z
    ·exact nown c b hc z
    ·rw [hc] at z; cases z; exact hb rfl
end
structure Un (fs ex : List Addr) (H H' : Hp) (h h' : Heap) : Prop where
 keep : ∀ b o, h.get? b = some o -> H b = none -> b ∉ fs -> b ∉ ex -> h'.get? b = some o
 slot : ∀ b o, h.get? b = some o -> H b = none -> b ∈ fs -> b ∉ ex -> ∃ sl, h'.get? b = some { o with slots := sl }
 free : ∀ b o, h.get? b = some o -> H b = none -> b ∉ ex -> H' b = none
 there : ∀ b o, h.get? b = some o -> b ∉ ex -> ∃ o', h'.get? b = some o'
 tups : ∀ b xs, H b = some (.tup xs) -> H' b = some (.tup xs)
 frzs : ∀ b o u, H b = some (.frz o u) -> H' b = some (.frz o u)
 tbls : ∀ b ps, H b = some (.tbl ps) -> ∃ more, H' b = some (.tbl (ps ++ more))
section
variable {fs fs' ex ex' : List Addr} {H H1 H2 : Hp} {h h1 h2 h' : Heap} {a x e : Addr} {o : HO}
theorem Un.any (u : Un fs ex H H1 h h1) {b : Addr} {ob : Obj} (q : h.get? b = some ob) (n : H b = none) (hx : b ∉ ex) : ∃ sl, h1.get? b = some { ob with slots := sl } := by
 by_cases hb : b ∈ fs
 ·exact u.slot b ob q n hb hx
 ·exact ⟨ob.slots, u.keep b ob q n hb hx⟩
theorem Un.kept (k : ∀ b u, h.get? b = some u -> h'.get? b = some u) : Un fs ex H H h h' :=
 ⟨fun b ob q _ _ _ => k b ob q, fun b ob q _ _ _ => ⟨ob.slots, k b ob q⟩, fun _ _ _ n _ => n, fun b ob q _ => ⟨ob, k b ob q⟩, fun _ _ q => q, fun _ _ _ q => q, fun _ ps q => ⟨#[], by rw [q]; simp⟩⟩
theorem Un.refl : Un fs ex H H h h := Un.kept fun _ _ q => q
theorem Un.laid (k : ∀ b u, h.get? b = some u -> h'.get? b = some u) (hp : h.objs.size <= a) (hn : H a = none) : Un fs ex H (upd H a o) h h' where
 keep := fun b u q _ _ _ => k b u q
 slot := fun b u q _ _ _ => ⟨u.slots, k b u q⟩
 free := fun b u q n _ => by rw [upd_ne (Nat.ne_of_lt (Nat.lt_of_lt_of_le (Heap.lt_size q) hp))]; exact n
 there := fun b u q _ => ⟨u, k b u q⟩
 tups := fun b xs q => by rw [upd_ne (ne_of_none q hn)]; exact q
 frzs := fun b u xs q => by rw [upd_ne (ne_of_none q hn)]; exact q
 tbls := fun b ps q => ⟨#[], by rw [upd_ne (ne_of_none q hn), q]; simp⟩
theorem Un.write (mu : Mut (H x)) (he : e = x ∨ H e = some (.own x)) (k : ∀ b u, b ≠ e -> h.get? b = some u -> h'.get? b = some u) (heo : ∃ u, h'.get? e = some u) : Un fs ex H (upd H x o) h h' := by
 have hx : ∀ b, H b = none -> b ≠ x := fun b n z => by subst z; rw [n] at mu; exact mu
 have hb : ∀ b, H b = none -> b ≠ e := fun b n z => by
  subst z
  rcases he with r | r
  ·exact hx b n r
  ·rw [n] at r; cases r
 have hm : ∀ b u, H b = some u -> ¬ Mut (some u) -> b ≠ x := fun b u q nm z => by subst z; rw [q] at mu; exact nm mu
 refine ⟨fun b u q n _ _ => k b u (hb b n) q, fun b u q n _ _ => ⟨u.slots, k b u (hb b n) q⟩, fun b u q n _ => by rw [upd_ne (hx b n)]; exact n, fun b u q _ => ?_,
  fun b xs q => by rw [upd_ne (hm b _ q fun z => z)]; exact q, fun b u xs q => by rw [upd_ne (hm b _ q fun z => z)]; exact q, fun b ps q => ⟨#[], by rw [upd_ne (hm b _ q fun z => z), q]; simp⟩⟩
 by_cases hbe : b = e
 ·subst hbe; exact heo
 ·exact ⟨u, k b u hbe q⟩
end
def trk (h : Heap) (H : Hp) : List Addr := (List.range h.objs.size).filter fun a => (H a).isSome
def hidT (h : Heap) (H : Hp) : Heap := PySem.W.hideAll h (trk h H)
theorem hidT_size (h : Heap) (H : Hp) : (hidT h H).objs.size = h.objs.size := PySem.W.hideAll_size _ _
theorem hidT_get {h : Heap} {H : Hp} {b : Addr} {o : Obj} (e : h.get? b = some o) (n : H b = none) : (hidT h H).get? b = some o :=
 PySem.W.hideAll_get _ e fun hm => by
  have q : (H b).isSome = true := (List.mem_filter.mp hm).2
  rw [n] at q; simp at q
theorem of_hidT {h : Heap} {H : Hp} {b : Addr} {o : Obj} (e : (hidT h H).get? b = some o) : h.get? b = some o /\ H b = none := by
 have e' : h.get? b = some o := PySem.W.of_hideAll (trk h H) e
 refine ⟨e', ?_⟩
 cases q : H b with
 | none => rfl
 | some x =>
  have hm : b ∈ trk h H := List.mem_filter.mpr ⟨List.mem_range.mpr (Heap.lt_size e'), by simp [q]⟩
  have z : (hidT h H).get? b = none := PySem.W.hideAll_none (trk h H) hm
  rw [z] at e; cases e
structure Mod (K : PySem.W.Frag) (mg : Str -> Option Value) (base : Heap) : Prop where
 kin : K.In base
 glob : base.Ns mainGlobals mg
 blt : ∃ mb, base.Ns builtinsNs mb /\ ∀ x : Str, x ≠ "__name__" -> mb x = bootBuiltins x
 nolimit : base.NoLimit
structure Cx where
 prog : Program
 w : World
 K : PySem.W.Frag
 mg : Str -> Option Value
 base : Heap
 A : Around
 N : List Str
 s₀ : Shared
 H₀ : Hp
 env : Env
 outer : List Env
 stack : List Env
 ex : List Addr
 fn : Str -> Bool
 calm : Bool
 pn : List (Addr × Obj)
 xe : Value -> Shared -> Prop
def frs (l : List Env) : List Addr := l.filterMap (·.frame)
abbrev Cx.fs (X : Cx) : List Addr := frs X.outer
def Vis (sc : Scope) (x : Str) : Prop := sc.names.lookup x = some .local ∨ sc.names.lookup x = some .cell ∨ sc.names.lookup x = some .free
def Loc (sc : Scope) (x : Str) : Prop := sc.names.lookup x = some .local ∨ sc.names.lookup x = some .cell
def Look (env : Env) (h : Heap) (m : Str -> Option Value) (x : Str) (u : Value) : Prop :=
 (env.kindOf x = some .local /\ m x = some u) ∨ ((env.kindOf x = some .cell ∨ env.kindOf x = some .free) /\ ∃ c, env.cells.lookup x = some c /\ h.IsCell c (some u))
structure Cx.Ok (X : Cx) : Prop where
 mod : Mod X.K X.mg X.base
 kind : X.env.scope.kind = .function
 glob : X.env.globals = mainGlobals
 blt : X.env.builtins = builtinsNs
 above : X.s₀.heap.objs.size <= X.env.locals
 inj : ∀ x y c, X.env.cells.lookup x = some c -> X.env.cells.lookup y = some c -> x = y
 has : ∀ x, (X.env.kindOf x = some .cell ∨ X.env.kindOf x = some .free) -> ∃ c, X.env.cells.lookup x = some c
 cab : ∀ x c, X.fn x = true -> X.env.cells.lookup x = some c -> X.s₀.heap.objs.size <= c
 hd : X.calm = true -> X.A.handled = none
 frames : X.A.frames = some X.stack
 stk : X.stack = X.outer ∨ (X.stack = X.env :: X.outer /\ X.env.frame = some X.env.locals)
 exf : ∀ b ∈ X.ex, b ≠ X.env.locals /\ ∀ x c, X.env.cells.lookup x = some c -> c ≠ b
 bs : ∀ b o, X.base.get? b = some o -> X.s₀.heap.get? b = some o /\ X.H₀ b = none
 bsz : X.base.objs.size <= X.s₀.heap.objs.size
 noex : ∀ b o, X.base.get? b = some o -> b ∉ X.ex
 exfs : ∀ b ∈ X.ex, b ∉ X.fs
 funs : X.s₀.heap.FunFrames X.base X.outer
 frf : ∀ b ∈ X.fs, X.H₀ b = none
structure Inv (X : Cx) (pins : List (Addr × Obj)) (σ : List (Option V)) (H : Hp) (s : Shared) : Prop where
 ok : X.Ok
 os : s.os = X.s₀.os
 bare : AllBare s.gens
 base : Un X.fs X.ex X.H₀ H X.s₀.heap s.heap
 loc : ∃ m, s.heap.Ns X.env.locals m /\ ∀ (i : Nat) (x : Str) (v : V), X.N[i]? = some x -> σ[i]? = some (some v) -> Vis X.env.scope x -> ∃ u, RelV v u /\ Look X.env s.heap m x u
 cell : ∀ x c, X.env.cells.lookup x = some c -> ∃ v, s.heap.IsCell c v
 free : H X.env.locals = none
 freeC : ∀ x c, X.env.cells.lookup x = some c -> H c = none
 pin : ∀ p ∈ X.pn ++ pins, s.heap.get? p.1 = some p.2 /\ H p.1 = none /\ p.1 ≠ X.env.locals /\ p.1 ∉ X.fs /\ ∀ v, p.2.data ≠ .cell v
 hok : HOk X.prog X.w H s.heap
 len : σ.length = X.N.length
section
variable {X : Cx} {pins : List (Addr × Obj)} {σ : List (Option V)} {H H' : Hp} {s : Shared} {h' : Heap}
theorem Cx.Ok.nofr (ok : X.Ok) {b : Addr} {o : Obj} (e : X.base.get? b = some o) : b ∉ X.fs := fun hb => by
 have := (ok.funs.mem hb).1
 rw [e] at this; cases this
theorem Inv.bs (I : Inv X pins σ H s) : ∀ b o, X.base.get? b = some o -> s.heap.get? b = some o /\ H b = none := fun b o e =>
 ⟨I.base.keep b o (I.ok.bs b o e).1 (I.ok.bs b o e).2 (I.ok.nofr e) (I.ok.noex b o e), I.base.free b o (I.ok.bs b o e).1 (I.ok.bs b o e).2 (I.ok.noex b o e)⟩
theorem Inv.bk (I : Inv X pins σ H s) : ∀ b o, X.base.get? b = some o -> s.heap.get? b = some o := fun b o e => (I.bs b o e).1
theorem Inv.mod (I : Inv X pins σ H s) : Mod X.K X.mg X.base := I.ok.mod
theorem Inv.kIn (I : Inv X pins σ H s) : X.K.In s.heap := I.ok.mod.kin.keeps I.bk
theorem Inv.lt (I : Inv X pins σ H s) : X.env.locals < s.heap.objs.size := let ⟨_, hn, _⟩ := I.loc; hn.lt
theorem Inv.sz (I : Inv X pins σ H s) : X.s₀.heap.objs.size <= s.heap.objs.size := Nat.le_trans I.ok.above (Nat.le_of_lt I.lt)
theorem Inv.nofs (I : Inv X pins σ H s) {a : Addr} (h : s.heap.objs.size <= a) : a ∉ X.fs := fun hb => by
 obtain ⟨_, o, ho, _⟩ := I.ok.funs.mem hb
 exact absurd (Nat.lt_of_lt_of_le (Heap.lt_size ho) (Nat.le_trans I.sz h)) (Nat.lt_irrefl _)
theorem Inv.cne (I : Inv X pins σ H s) : ∀ x c, X.env.cells.lookup x = some c -> c ≠ X.env.locals := fun x c e z => by
 obtain ⟨v, o, ho, hd⟩ := I.cell x c e
 obtain ⟨m, ⟨o', es, ep, ho', hd', _⟩, _⟩ := I.loc
 rw [z, ho'] at ho; cases ho; rw [hd'] at hd; cases hd
theorem Inv.funs (I : Inv X pins σ H s) : s.heap.FunFrames X.base X.outer := by
 have all : ∀ (l : List Env), (∀ b ∈ frs l, b ∈ X.fs) -> X.s₀.heap.FunFrames X.base l -> s.heap.FunFrames X.base l := by
  intro l
  induction l with
  | nil => intro _ _; trivial
  | cons env r ih =>
   intro hs hl
   obtain ⟨hk, ⟨L, o, hf, hn, ho, hd⟩, hr⟩ := hl
   have hL : L ∈ X.fs := hs L (by unfold frs; rw [List.filterMap_cons, hf]; exact List.mem_cons_self)
   obtain ⟨sl, e⟩ := I.base.slot L o ho (I.ok.frf L hL) hL fun z => I.ok.exfs L z hL
   exact ⟨hk, ⟨L, _, hf, hn, e, hd⟩, ih (fun b hb => hs b (by unfold frs; rw [List.filterMap_cons, hf]; exact List.mem_cons_of_mem _ hb)) hr⟩
 exact all X.outer (fun _ hb => hb) I.ok.funs
theorem Inv.stack (I : Inv X pins σ H s) : s.heap.FunFrames X.base X.stack := by
 rcases I.ok.stk with e | ⟨e, hf⟩
 ·rw [e]; exact I.funs
 ·rw [e]
  obtain ⟨m, hn, _⟩ := I.loc
  refine .cons (by rw [I.ok.kind]; decide) hf hn ?_ I.funs
  exact Heap.get?_none_of_le (Nat.le_trans I.ok.bsz I.ok.above)
theorem Inv.stkSub (I : Inv X pins σ H s) : ∀ b ∈ frs X.stack, b ∈ X.env.locals :: X.fs := fun b hb => by
 rcases I.ok.stk with e | ⟨e, hf⟩
 ·rw [e] at hb; exact List.mem_cons_of_mem _ hb
 ·rw [e] at hb
  unfold frs at hb
  rw [List.filterMap_cons, hf] at hb
  exact hb
theorem Inv.stkFree (I : Inv X pins σ H s) : ∀ b ∈ frs X.stack, H b = none := fun b hb => by
 rcases List.mem_cons.mp (I.stkSub b hb) with e | hb
 ·rw [e]; exact I.free
 ·obtain ⟨_, o, ho, _⟩ := I.ok.funs.mem hb
  exact I.base.free b o ho (I.ok.frf b hb) fun z => I.ok.exfs b z hb
theorem Inv.step {g' : Array GenState} {t' : Nat} {d' : Drawn} {ch : List Addr} (I : Inv X pins σ H s)
  (hch : ∀ b ∈ ch, (b ∈ X.ex ∨ X.s₀.heap.objs.size <= b) /\ b ≠ X.env.locals /\ (∀ x c, X.env.cells.lookup x = some c -> c ≠ b) /\ ∀ p ∈ X.pn ++ pins, p.1 ≠ b)
  (keep : ∀ b o, b ≠ X.env.locals -> b ∉ X.fs -> b ∉ ch -> s.heap.get? b = some o -> H b = none -> h'.get? b = some o)
  (slot : ∀ b o, b ≠ X.env.locals -> b ∈ X.fs -> b ∉ ch -> s.heap.get? b = some o -> H b = none -> ∃ sl, h'.get? b = some { o with slots := sl }) (free : ∀ b o, b ∉ ch -> s.heap.get? b = some o -> H b = none -> H' b = none)
  (there : ∀ b o, b ∉ ch -> s.heap.get? b = some o -> ∃ o', h'.get? b = some o')
  (tups : ∀ b xs, H b = some (.tup xs) -> H' b = some (.tup xs)) (frzs : ∀ b o u, H b = some (.frz o u) -> H' b = some (.frz o u)) (tbls : ∀ b ps, H b = some (.tbl ps) -> ∃ more, H' b = some (.tbl (ps ++ more)))
  (ns : ∀ m, s.heap.Ns X.env.locals m -> h'.Ns X.env.locals m) (hok : HOk X.prog X.w H' h') (hg : AllBare g') :
  Inv X pins σ H' { s with heap := h', gens := g', drawn := d', toks := t' } := by
 have neL : ∀ b o, X.s₀.heap.get? b = some o -> b ≠ X.env.locals := fun b o e => Nat.ne_of_lt (Nat.lt_of_lt_of_le (Heap.lt_size e) I.ok.above)
 have neC : ∀ b o, X.s₀.heap.get? b = some o -> b ∉ X.ex -> b ∉ ch := fun b o e hx hb => by
  rcases (hch b hb).1 with z | z
  ·exact hx z
  ·exact absurd (Nat.lt_of_lt_of_le (Heap.lt_size e) z) (Nat.lt_irrefl _)
 have cellK : ∀ x c, X.env.cells.lookup x = some c -> ∀ v, s.heap.IsCell c v -> h'.IsCell c v := fun x c e v ⟨o, ho, hd⟩ => by
  have nch : c ∉ ch := fun z => (hch c z).2.2.1 x c e rfl
  by_cases hc : c ∈ X.fs
  ·obtain ⟨sl, q⟩ := slot c o (I.cne x c e) hc nch ho (I.freeC x c e)
   exact ⟨_, q, hd⟩
  ·exact ⟨o, keep c o (I.cne x c e) hc nch ho (I.freeC x c e), hd⟩
 refine ⟨I.ok, I.os, hg, ⟨fun b o e n hb hx => ?_, fun b o e n hb hx => ?_, fun b o e n hx => ?_, fun b o e hx => ?_, fun b xs e => tups b xs (I.base.tups b xs e), fun b o xs e => frzs b o xs (I.base.frzs b o xs e), fun b ps e => ?_⟩, ?_, fun x c e => ?_, ?_, fun x c e => ?_, fun p hp => ?_, hok, I.len⟩
 ·exact keep b o (neL b o e) hb (neC b o e hx) (I.base.keep b o e n hb hx) (I.base.free b o e n hx)
 ·obtain ⟨sl, e1⟩ := I.base.slot b o e n hb hx
  obtain ⟨sl', e2⟩ := slot b _ (neL b o e) hb (neC b o e hx) e1 (I.base.free b o e n hx)
  exact ⟨sl', e2⟩
 ·obtain ⟨o', e1⟩ := I.base.there b o e hx
  exact free b o' (neC b o e hx) e1 (I.base.free b o e n hx)
 ·obtain ⟨o', e1⟩ := I.base.there b o e hx
  exact there b o' (neC b o e hx) e1
 ·obtain ⟨m1, e1⟩ := I.base.tbls b ps e
  obtain ⟨m2, e2⟩ := tbls b _ e1
  exact ⟨m1 ++ m2, by rw [e2, Array.append_assoc]⟩
 ·obtain ⟨m, hn, hl⟩ := I.loc
  refine ⟨m, ns m hn, fun i x v e1 e2 e3 => ?_⟩
  obtain ⟨u, r, l⟩ := hl i x v e1 e2 e3
  refine ⟨u, r, ?_⟩
  rcases l with l | ⟨k, c, e, z⟩
  ·exact .inl l
  ·exact .inr ⟨k, c, e, cellK x c e _ z⟩
 ·obtain ⟨v, z⟩ := I.cell x c e
  exact ⟨v, cellK x c e v z⟩
 ·obtain ⟨m, ⟨o, _, _, ho, _⟩, _⟩ := I.loc
  exact free _ o (fun z => (hch _ z).2.1 rfl) ho I.free
 ·obtain ⟨v, o, ho, hd⟩ := I.cell x c e
  exact free c o (fun z => (hch c z).2.2.1 x c e rfl) ho (I.freeC x c e)
 ·obtain ⟨e, n, ne, nf, d⟩ := I.pin p hp
  have nch : p.1 ∉ ch := fun z => (hch p.1 z).2.2.2 p hp rfl
  exact ⟨keep p.1 p.2 ne nf nch e n, free p.1 p.2 nch e n, ne, nf, d⟩
theorem Inv.un {t' : Nat} (I : Inv X pins σ H s) (u : Un X.fs [] H H' s.heap h') (hok : HOk X.prog X.w H' h') : Inv X pins σ H' { s with heap := h', toks := t' } := by
 obtain ⟨m, ⟨o, es, ep, ho, r⟩, _⟩ := id I.loc
 obtain ⟨sl, hL⟩ := u.any ho I.free (by simp)
 exact I.step (g' := s.gens) (d' := s.drawn) (ch := []) (fun _ z => nomatch z) (fun b o _ hb _ e n => u.keep b o e n hb (by simp)) (fun b o _ hb _ e n => u.slot b o e n hb (by simp)) (fun b o _ e n => u.free b o e n (by simp)) (fun b o _ e => u.there b o e (by simp)) u.tups u.frzs u.tbls (fun m' hm => by
  obtain ⟨o', es', ep', ho', r'⟩ := hm
  rw [ho] at ho'; cases ho'
  exact ⟨_, es', ep', hL, r'⟩) hok I.bare
theorem Inv.call {g' : Array GenState} {t' : Nat} {d' : Drawn} {ch : List Addr} (I : Inv X pins σ H s) (u : Un (frs X.stack) ch H H' s.heap h') (hok : HOk X.prog X.w H' h') (hg : AllBare g')
  (hch : ∀ b ∈ ch, (b ∈ X.ex ∨ X.s₀.heap.objs.size <= b) /\ b ≠ X.env.locals /\ (∀ x c, X.env.cells.lookup x = some c -> c ≠ b) /\ ∀ p ∈ X.pn ++ pins, p.1 ≠ b) :
  Inv X pins σ H' { s with heap := h', gens := g', drawn := d', toks := t' } := by
 obtain ⟨m, ⟨o, es, ep, ho, r⟩, _⟩ := id I.loc
 obtain ⟨sl, hL⟩ := u.any ho I.free fun z => (hch _ z).2.1 rfl
 exact I.step (ch := ch) hch (fun b o hL hb hc e n => u.keep b o e n (fun z => (List.mem_cons.mp (I.stkSub b z)).elim hL hb) hc) (fun b o _ _ hc e n => u.any e n hc) (fun b o hc e n => u.free b o e n hc) (fun b o hc e => u.there b o e hc) u.tups u.frzs u.tbls (fun m' hm => by
  obtain ⟨o', es', ep', ho', r'⟩ := hm
  rw [ho] at ho'; cases ho'
  exact ⟨_, es', ep', hL, r'⟩) hok hg
theorem Inv.turned {t' : Nat} {it : Addr} (I : Inv X pins σ H s) (k : ∀ b o, b ≠ it -> s.heap.get? b = some o -> h'.get? b = some o) (hn : H it = none) (hL : it ≠ X.env.locals)
  (h1 : it ∈ X.ex ∨ X.s₀.heap.objs.size <= it) (h2 : ∀ x c, X.env.cells.lookup x = some c -> c ≠ it) (h3 : ∀ p ∈ X.pn ++ pins, p.1 ≠ it) : Inv X pins σ H { s with heap := h', toks := t' } := by
 have nit : ∀ b u, H b = some u -> b ≠ it := fun b u e z => by rw [z, hn] at e; cases e
 refine I.step (g' := s.gens) (d' := s.drawn) (ch := [it]) (fun b hb => ?_) (fun b o _ _ hc e _ => k b o (fun z => hc (by simp [z])) e) (fun b o _ _ hc e _ => ⟨o.slots, k b o (fun z => hc (by simp [z])) e⟩) (fun _ _ _ _ n => n)
  (fun b o hc e => ⟨o, k b o (fun z => hc (by simp [z])) e⟩) (fun _ _ e => e) (fun _ _ _ e => e) (fun b ps e => ⟨#[], by rw [e]; simp⟩) (fun m hm => ?_) (fun b u e => ?_) I.bare
 ·have e : b = it := by simpa using hb
  subst e
  exact ⟨h1, hL, h2, h3⟩
 ·obtain ⟨o, es, ep, ho, r⟩ := hm
  exact ⟨o, es, ep, k _ o (Ne.symm hL) ho, r⟩
 ·refine (I.hok b u e).stay (fun c v hc q => k c v ?_ q) (fun _ q => q) fun _ _ q => q
  rcases hc with z | z
  ·rw [z]; exact nit b u e
  ·exact nit c _ z
theorem Inv.tok (I : Inv X pins σ H s) (t : Nat) : Inv X pins σ H { s with toks := t } := I.un (h' := s.heap) (t' := t) Un.refl I.hok
theorem Inv.kept {t' : Nat} (I : Inv X pins σ H s) (k : ∀ b u, s.heap.get? b = some u -> h'.get? b = some u) : Inv X pins σ H { s with heap := h', toks := t' } := I.un (Un.kept k) (I.hok.kept k)
theorem Inv.laid {a : Addr} {o : HO} {t' : Nat} (I : Inv X pins σ H s) (k : ∀ b u, s.heap.get? b = some u -> h'.get? b = some u) (hp : s.heap.objs.size <= a) (new : ObjOk X.prog X.w (upd H a o) h' a o) :
  Inv X pins σ (upd H a o) { s with heap := h', toks := t' } := I.un (Un.laid k hp (I.hok.fresh hp)) (I.hok.laid k hp new)
theorem Inv.write {x e : Addr} {o : HO} {t' : Nat} (I : Inv X pins σ H s) (mu : Mut (H x)) (he : e = x ∨ H e = some (.own x)) (k : ∀ b u, b ≠ e -> s.heap.get? b = some u -> h'.get? b = some u) (heo : ∃ u, h'.get? e = some u)
  (new : ObjOk X.prog X.w (upd H x o) h' x o) : Inv X pins σ (upd H x o) { s with heap := h', toks := t' } := I.un (Un.write mu he k heo) (I.hok.write mu he k heo new)
theorem Inv.pins_of {pins' : List (Addr × Obj)} (I : Inv X pins σ H s) (h : ∀ p ∈ pins', s.heap.get? p.1 = some p.2 /\ H p.1 = none /\ p.1 ≠ X.env.locals /\ p.1 ∉ X.fs /\ ∀ v, p.2.data ≠ .cell v) : Inv X pins' σ H s :=
 ⟨I.ok, I.os, I.bare, I.base, I.loc, I.cell, I.free, I.freeC, fun p hp => (List.mem_append.mp hp).elim (fun z => I.pin p (List.mem_append_left _ z)) (h p), I.hok, I.len⟩
theorem nodup_ix {N : List Str} (hN : N.Nodup) {i j : Nat} {x : Str} (a : N[i]? = some x) (b : N[j]? = some x) : i = j := by
 obtain ⟨h1, e1⟩ := List.getElem?_eq_some_iff.mp a
 obtain ⟨h2, e2⟩ := List.getElem?_eq_some_iff.mp b
 exact (List.getElem_inj hN).mp (e1.trans e2.symm)
theorem store_ok2 {M : Model} {A : Around} {E : Value -> Shared -> Prop} {i : Nat} {x : Str} {v : V} {u : Value} {Q : Unit -> Shared -> Prop} (I : Inv X pins σ H s) (hN : X.N.Nodup) (hi : X.N[i]? = some x) (hx : Loc X.env.scope x) (r : RelV v u)
  (h : ∀ s', Inv X pins (σ.set i (some v)) H s' -> (∃ a, Heap.SameBut a s.heap s'.heap /\ (a = X.env.locals ∨ X.env.cells.lookup x = some a)) -> Q () s') (hf : autoParam (X.fn x = true ∨ X.env.scope.names.lookup x = some .local) AutoP.a0._auto_1) : wpAny M A (storeName X.env x u) Q E s := by
 obtain ⟨m, hn, hl⟩ := id I.loc
 have hcls : (X.env.scope.kind == .class || (X.env.scope.kind == .module && X.env.locals != X.env.globals)) = false := by rw [I.ok.kind]; rfl
 have hiσ : i < σ.length := by rw [I.len]; exact (List.getElem?_eq_some_iff.mp hi).1
 have cne := I.cne
 have tracked : ∀ {a : Addr} {h' : Heap}, (∃ o, s.heap.get? a = some o /\ H a = none) -> Heap.SameBut a s.heap h' -> HOk X.prog X.w H h' := fun {a h'} ha hs b ob e => by
  obtain ⟨_, _, hfree⟩ := ha
  refine (I.hok b ob e).stay (fun c w' hc q => (hs.2 c ?_).trans q) (fun _ q => q) fun _ _ q => q
  rintro rfl
  rcases hc with rfl | hc
  ·rw [hfree] at e; cases e
  ·rw [hfree] at hc; cases hc
 rcases hx with hk | hk
 ·refine wpAny_storeName_local hk hn (fun h' hn' hs => ?_) hcls
  obtain ⟨oL, _, _, hoL, _⟩ := id hn
  refine h _ ⟨I.ok, I.os, I.bare, ⟨fun b o e n hb hx => ?_, fun b o e n hb hx => ?_, I.base.free, fun b o e hx => ?_, I.base.tups, I.base.frzs, I.base.tbls⟩, ⟨_, hn', fun j y v' e1 e2 e3 => ?_⟩, fun y c e => ?_, I.free, I.freeC, fun p hp => ?_, tracked ⟨oL, hoL, I.free⟩ hs, by simpa using I.len⟩ ⟨_, hs, .inl rfl⟩
  ·exact (hs.2 b (Nat.ne_of_lt (Nat.lt_of_lt_of_le (Heap.lt_size e) I.ok.above))).trans (I.base.keep b o e n hb hx)
  ·obtain ⟨sl, e1⟩ := I.base.slot b o e n hb hx
   exact ⟨sl, (hs.2 b (Nat.ne_of_lt (Nat.lt_of_lt_of_le (Heap.lt_size e) I.ok.above))).trans e1⟩
  ·obtain ⟨o', e1⟩ := I.base.there b o e hx
   exact ⟨o', (hs.2 b (Nat.ne_of_lt (Nat.lt_of_lt_of_le (Heap.lt_size e) I.ok.above))).trans e1⟩
  ·by_cases hj : j = i
   ·subst hj
    rw [hi] at e1; cases e1
    rw [List.getElem?_set_self hiσ] at e2
    cases e2
    exact ⟨u, r, .inl ⟨hk, by simp⟩⟩
   ·rw [List.getElem?_set_ne (Ne.symm hj)] at e2
    obtain ⟨u', r', q⟩ := hl j y v' e1 e2 e3
    refine ⟨u', r', ?_⟩
    rcases q with ⟨k, e⟩ | ⟨k, c, e, z⟩
    ·refine .inl ⟨k, ?_⟩
     have : y ≠ x := fun e => hj (nodup_ix hN e1 (e ▸ hi))
     simp [this, e]
    ·exact .inr ⟨k, c, e, z.sameBut hs (cne y c e)⟩
  ·obtain ⟨w', z⟩ := I.cell y c e
   exact ⟨w', z.sameBut hs (cne y c e)⟩
  ·obtain ⟨e, n, ne, nf, d⟩ := I.pin p hp
   exact ⟨(hs.2 p.1 ne).trans e, n, ne, nf, d⟩
 ·have hfn : X.fn x = true := by
   rcases hf with z | z
   ·exact z
   ·rw [z] at hk; cases hk
  obtain ⟨c, hc⟩ := I.ok.has x (.inl hk)
  obtain ⟨w', z⟩ := I.cell x c hc
  refine wpAny_storeName_cell I.ok.kind hk hc z (fun h' hc' hs => ?_)
  obtain ⟨oc, hoc, hocd⟩ := id z
  refine h { s with heap := h' } ⟨I.ok, I.os, I.bare, ⟨fun b o e n hb hx => ?_, fun b o e n hb hx => ?_, I.base.free, fun b o e hx => ?_, I.base.tups, I.base.frzs, I.base.tbls⟩, ⟨m, hn.sameBut hs (Ne.symm (cne x c hc)), fun j y v' e1 e2 e3 => ?_⟩, fun y c' e => ?_, I.free, I.freeC, fun p hp => ?_, tracked ⟨oc, hoc, I.freeC x c hc⟩ hs, by simpa using I.len⟩ ⟨c, hs, .inr hc⟩
  ·exact (hs.2 b (Nat.ne_of_lt (Nat.lt_of_lt_of_le (Heap.lt_size e) (I.ok.cab x c hfn hc)))).trans (I.base.keep b o e n hb hx)
  ·obtain ⟨sl, e1⟩ := I.base.slot b o e n hb hx
   exact ⟨sl, (hs.2 b (Nat.ne_of_lt (Nat.lt_of_lt_of_le (Heap.lt_size e) (I.ok.cab x c hfn hc)))).trans e1⟩
  ·obtain ⟨o', e1⟩ := I.base.there b o e hx
   exact ⟨o', (hs.2 b (Nat.ne_of_lt (Nat.lt_of_lt_of_le (Heap.lt_size e) (I.ok.cab x c hfn hc)))).trans e1⟩
  ·by_cases hj : j = i
   ·subst hj
    rw [hi] at e1; cases e1
    rw [List.getElem?_set_self hiσ] at e2
    cases e2
    exact ⟨u, r, .inr ⟨.inl hk, c, hc, hc'⟩⟩
   ·rw [List.getElem?_set_ne (Ne.symm hj)] at e2
    obtain ⟨u', r', q⟩ := hl j y v' e1 e2 e3
    refine ⟨u', r', ?_⟩
    rcases q with q | ⟨k, c', e, z'⟩
    ·exact .inl q
    ·refine .inr ⟨k, c', e, z'.sameBut hs ?_⟩
     rintro rfl
     exact hj (nodup_ix hN e1 (I.ok.inj _ _ _ e hc ▸ hi))
  ·by_cases hcc : c' = c
   ·subst hcc; exact ⟨_, hc'⟩
   ·obtain ⟨w2, z2⟩ := I.cell y c' e
    exact ⟨w2, z2.sameBut hs hcc⟩
  ·obtain ⟨e, n, ne, nf, d⟩ := I.pin p hp
   refine ⟨(hs.2 p.1 ?_).trans e, n, ne, nf, d⟩
   intro q
   rw [q, hoc] at e
   have q' : oc = p.2 := Option.some.inj e
   exact d w' (by rw [<- q']; exact hocd)
theorem store_ok {M : Model} {A : Around} {E : Value -> Shared -> Prop} {i : Nat} {x : Str} {v : V} {u : Value} {Q : Unit -> Shared -> Prop} (I : Inv X pins σ H s) (hN : X.N.Nodup) (hi : X.N[i]? = some x) (hx : Loc X.env.scope x) (r : RelV v u)
  (h : ∀ s', Inv X pins (σ.set i (some v)) H s' -> Q () s') (hf : autoParam (X.fn x = true ∨ X.env.scope.names.lookup x = some .local) AutoP.a0._auto_1) : wpAny M A (storeName X.env x u) Q E s :=
 store_ok2 I hN hi hx r (fun s' I' _ => h s' I') hf
theorem Inv.call' {s' : Shared} {ch : List Addr} (I : Inv X pins σ H s) (ho : s'.os = s.os) (u : Un (frs X.stack) ch H H' s.heap s'.heap) (hok : HOk X.prog X.w H' s'.heap) (hg : AllBare s'.gens)
  (hch : ∀ b ∈ ch, (b ∈ X.ex ∨ X.s₀.heap.objs.size <= b) /\ b ≠ X.env.locals /\ (∀ x c, X.env.cells.lookup x = some c -> c ≠ b) /\ ∀ p ∈ X.pn ++ pins, p.1 ≠ b) : Inv X pins σ H' s' := by
 obtain ⟨h', g', d', t', o'⟩ := s'
 have e : o' = s.os := ho
 subst e
 exact I.call (g' := g') (t' := t') (d' := d') u hok hg hch
end
abbrev XK := Value -> Option Addr -> Hp -> Prop
abbrev St := List (Option V)
abbrev VK := V -> Hp -> Prop
abbrev TE := St -> Hp -> VK -> Prop
abbrev TT := St -> Hp -> (Bool -> Hp -> Prop) -> Prop
abbrev TA := St -> Hp -> (List V -> Hp -> Prop) -> Prop
structure Ends where
 nx : St -> Hp -> Prop
 rt : VK
 bk : St -> Hp -> Prop := fun _ _ => False
 ct : St -> Hp -> Prop := fun _ _ => False
abbrev TS := Ends -> St -> Hp -> Prop
def EP (X : Cx) (pins : List (Addr × Obj)) (σ : St) (Q : VK) (u : Value) (s' : Shared) : Prop := ∃ v H', Inv X pins σ H' s' /\ RelV v u /\ Q v H'
def TP (X : Cx) (pins : List (Addr × Obj)) (σ : St) (Q : Bool -> Hp -> Prop) (b : Bool) (s' : Shared) : Prop := ∃ H', Inv X pins σ H' s' /\ Q b H'
def AP (X : Cx) (pins : List (Addr × Obj)) (σ : St) (Q : List V -> Hp -> Prop) (us : List Value) (s' : Shared) : Prop := ∃ vs H', Inv X pins σ H' s' /\ Vals vs us /\ Q vs H'
def SP (X : Cx) (pins : List (Addr × Obj)) (D : Ends) (f : Flow) (s' : Shared) : Prop :=
 match f with
 | .next => ∃ σ' H', Inv X pins σ' H' s' /\ D.nx σ' H'
 | .brk => ∃ σ' H', Inv X pins σ' H' s' /\ D.bk σ' H'
 | .cont => ∃ σ' H', Inv X pins σ' H' s' /\ D.ct σ' H'
 | .ret u => ∃ v σ' H', Inv X pins σ' H' s' /\ RelV v u /\ D.rt v H'
def PE (X : Cx) (e : Expr) (t : TE) : Prop :=
 ∀ (pins : List (Addr × Obj)) (s : Shared) (σ : St) (H : Hp) (Q : VK), Inv X pins σ H s -> t σ H Q -> wpAny (model X.prog X.w) X.A (eval e X.env) (EP X pins σ Q) X.xe s
def PT (X : Cx) (e : Expr) (t : TT) : Prop :=
 ∀ (pins : List (Addr × Obj)) (s : Shared) (σ : St) (H : Hp) (Q : Bool -> Hp -> Prop), Inv X pins σ H s -> t σ H Q -> wpAny (model X.prog X.w) X.A (isTrue e X.env (eval e X.env)) (TP X pins σ Q) X.xe s
def PW (X : Cx) (e : Expr) (t : TT) : Prop :=
 ∀ (whole : Sem Value) (pins : List (Addr × Obj)) (s : Shared) (σ : St) (H : Hp) (Q : Bool -> Hp -> Prop), Inv X pins σ H s -> t σ H Q -> wpAny (model X.prog X.w) X.A (isTrue e X.env whole) (TP X pins σ Q) X.xe s
theorem PW.pt {X : Cx} {e : Expr} {t : TT} (h : PW X e t) : PT X e t := h _
def PA (X : Cx) (es : List Expr) (t : TA) : Prop :=
 ∀ (pos : Pos) (pins : List (Addr × Obj)) (s : Shared) (σ : St) (H : Hp) (Q : List V -> Hp -> Prop), Inv X pins σ H s -> t σ H Q -> wpAny (model X.prog X.w) X.A (spliced (backTo pos (starEach es X.env))) (AP X pins σ Q) X.xe s
def PS (X : Cx) (st : Stmt) (t : TS) : Prop :=
 ∀ (pins : List (Addr × Obj)) (s : Shared) (σ : St) (H : Hp) (D : Ends), Inv X pins σ H s -> t D σ H -> wpAny (model X.prog X.w) X.A (exec st X.env) (SP X pins D) X.xe s
def PSs (X : Cx) (st : List Stmt) (t : TS) : Prop :=
 ∀ (pins : List (Addr × Obj)) (s : Shared) (σ : St) (H : Hp) (D : Ends), Inv X pins σ H s -> t D σ H -> wpAny (model X.prog X.w) X.A (execs st X.env) (SP X pins D) X.xe s
theorem thn {α : Type} {t : Sem α} {Q Q' : α -> Shared -> Prop} {M : Model} {A : Around} {E : Value -> Shared -> Prop} {s : Shared} (h : wpAny M A t Q E s) (hQ : ∀ a s, Q a s -> Q' a s) : wpAny M A t Q' E s := wpAny_mono h hQ fun _ _ x => x
section
variable {X : Cx}
def tVar (i : Nat) : TE := fun σ H Q => ∃ v, σ[i]? = some (some v) /\ Q v H
def tC (v : V) : TE := fun _ H Q => Q v H
theorem pe_var {i : Nat} {x : Str} {pos : Pos} (hN : X.N[i]? = some x) (hv : Vis X.env.scope x) (hd : autoParam ((x == ("__debug__" : Str)) = false) AutoP.a1._auto_1) (hcd : autoParam ((x == ("__classdict__" : Str)) = false) AutoP.a1._auto_1) : PE X (.Name x pos) (tVar i) := by
 intro pins s σ H Q I h
 obtain ⟨v, e, h⟩ := h
 obtain ⟨m, hn, hl⟩ := I.loc
 obtain ⟨u, r, l⟩ := hl i x v hN e hv
 have fin : EP X pins σ Q u s := ⟨v, H, I, r, h⟩
 rcases l with ⟨hk, hm⟩ | ⟨hk, c, hc, hcell⟩
 ·exact wpAny_Name (wpAny_loadName_local I.ok.kind hk hn hm fin) hd
 ·rcases hk with hk | hk
  ·exact wpAny_Name (wpAny_loadName_cell I.ok.kind hk hc hcell fin) hd
  ·exact wpAny_Name (wpAny_loadName_free I.ok.kind hk hc hcell fin hcd) hd
theorem pe_int {i j pos} : PE X (.Constant (.int i) j pos) (tC (.int i)) := fun _ _ _ H _ I h => wpAny_Constant_int ⟨.int i, H, I.tok _, ⟨_, rfl⟩, h⟩
theorem pe_bl {b j pos} : PE X (.Constant (.bool b) j pos) (tC (.bl b)) := fun _ _ _ H _ I h => Constant_bool ⟨.bl b, H, I, rfl, h⟩
theorem pe_non {j pos} : PE X (.Constant .none j pos) (tC .non) := fun _ _ _ H _ I h => Constant_none ⟨.non, H, I, rfl, h⟩
theorem pe_str {x j pos} : PE X (.Constant (.str x) j pos) (tC (.str x)) := fun _ _ _ H _ I h => Calls.Constant_str ⟨.str x, H, I.tok _, ⟨_, rfl⟩, h⟩
def Gl (X : Cx) (x : Str) : Prop := X.env.kindOf x = some .globalImplicit
theorem ld_glob {E : Value -> Shared -> Prop} {pins : List (Addr × Obj)} {s : Shared} {σ : St} {H : Hp} {x : Str} {u : Value} {pos : Pos} {Q : Value -> Shared -> Prop} (I : Inv X pins σ H s) (hg : Gl X x) (hm : X.mg x = some u) (h : Q u s)
  (hd : autoParam ((x == ("__debug__" : Str)) = false) AutoP.a1._auto_1) : wpAny (model X.prog X.w) X.A (eval (.Name x pos) X.env) Q E s :=
 Calls.Name_function_global I.ok.kind hg (Calls.loadGlobal_global (by rw [I.ok.glob]; exact I.mod.glob.keeps I.bk) hm h) hd
theorem ld_blt {E : Value -> Shared -> Prop} {pins : List (Addr × Obj)} {s : Shared} {σ : St} {H : Hp} {x : Str} {u : Value} {pos : Pos} {Q : Value -> Shared -> Prop} (I : Inv X pins σ H s) (hg : Gl X x) (hm : X.mg x = none) (hv : bootBuiltins x = some u) (h : Q u s)
  (hn : autoParam (x ≠ "__name__") AutoP.a1._auto_1) (hd : autoParam ((x == ("__debug__" : Str)) = false) AutoP.a1._auto_1) : wpAny (model X.prog X.w) X.A (eval (.Name x pos) X.env) Q E s := by
 obtain ⟨mb, h1, h2⟩ := I.mod.blt
 exact Calls.Name_function_global I.ok.kind hg (Calls.loadGlobal_builtin (by rw [I.ok.glob]; exact I.mod.glob.keeps I.bk) hm (by rw [I.ok.blt]; exact h1.keeps I.bk) ((h2 x hn).trans hv) h) hd
theorem pe_bltn {x : Str} {v : V} {u : Value} {pos : Pos} (hg : Gl X x) (hm : X.mg x = none) (hv : bootBuiltins x = some u) (r : RelV v u) (hn : autoParam (x ≠ "__name__") AutoP.a1._auto_1) (hd : autoParam ((x == ("__debug__" : Str)) = false) AutoP.a1._auto_1) : PE X (.Name x pos) (tC v) :=
 fun _ _ _ H _ I h => ld_blt I hg hm hv ⟨v, H, I, r, h⟩ hn hd
variable {a b : Expr} {ta tb : TE} {pos : Pos}
def tB (t : TE) : TT := fun σ H Q => t σ H fun x H1 => ∃ c, x = .bl c /\ Q c H1
theorem pt_val {e : Expr} {t : TE} (h : PE X e t) (he : autoParam (∀ whole, isTrue e X.env whole = (do let v <- whole; standAt e.pos; holding [v] (truthy v))) AutoP.a2._auto_1) : PT X e (tB t) := by
 intro pins s σ H Q I hw
 refine isTrue_plain (thn (h pins s σ H _ I hw) fun v s1 ⟨x, H1, I1, r1, q1⟩ => ?_) (he _)
 obtain ⟨d, rfl, q⟩ := q1
 cases r1
 exact wpAny_truthy_bool ⟨H1, I1, q⟩
variable {tA tB' : TT} {rest : List Expr}
def tAnd (t u : TT) : TT := fun σ H Q => t σ H fun c H1 => if c = true then u σ H1 Q else Q false H1
def tOr (t u : TT) : TT := fun σ H Q => t σ H fun c H1 => if c = true then Q true H1 else u σ H1 Q
def tNot (t : TT) : TT := fun σ H Q => t σ H fun c H1 => Q (!c) H1
theorem pw_and1 (ha : PT X a tA) : PW X (.BoolOp .And [a] pos) tA := by
 intro wh pins s σ H Q I h
 refine isTrue_and (thn (ha pins s σ H Q I h) fun c s1 e => ?_)
 cases c with
 | true => exact isTrue_and_nil e
 | false => exact e
theorem pw_or1 (ha : PT X a tA) : PW X (.BoolOp .Or [a] pos) tA := by
 intro wh pins s σ H Q I h
 refine isTrue_or (thn (ha pins s σ H Q I h) fun c s1 e => ?_)
 cases c with
 | false => exact isTrue_or_nil e
 | true => exact e
theorem pw_and (ha : PT X a tA) (hb : PW X (.BoolOp .And (b :: rest) pos) tB') : PW X (.BoolOp .And (a :: b :: rest) pos) (tAnd tA tB') := by
 intro wh pins s σ H Q I h
 refine isTrue_and (thn (ha pins s σ H _ I h) fun c s1 ⟨H1, I1, q1⟩ => ?_)
 cases c with
 | true => exact hb wh pins s1 σ H1 Q I1 q1
 | false => exact ⟨H1, I1, q1⟩
theorem pw_or (ha : PT X a tA) (hb : PW X (.BoolOp .Or (b :: rest) pos) tB') : PW X (.BoolOp .Or (a :: b :: rest) pos) (tOr tA tB') := by
 intro wh pins s σ H Q I h
 refine isTrue_or (thn (ha pins s σ H _ I h) fun c s1 ⟨H1, I1, q1⟩ => ?_)
 cases c with
 | true => exact ⟨H1, I1, q1⟩
 | false => exact hb wh pins s1 σ H1 Q I1 q1
theorem pt_not (ha : PT X a tA) : PT X (.UnaryOp .Not a pos) (tNot tA) := by
 intro pins s σ H Q I h
 exact isTrue_not (ha pins s σ H (fun c H1 => Q (!c) H1) I h)
def tAndV (ta tb : TE) : TE := fun σ H Q => ta σ H fun x H1 => ∃ c, x = .bl c /\ if c = true then tb σ H1 Q else Q (.bl false) H1
def tNotV (ta : TE) : TE := fun σ H Q => ta σ H fun x H1 => ∃ c, x = .bl c /\ Q (.bl (!c)) H1
theorem pe_one {op} {t : TE} (h : PE X a t) : PE X (.BoolOp op [a] pos) t := fun pins s σ H Q I hw => BoolOp_one (h pins s σ H Q I hw)
theorem pe_and (ha : PE X a ta) (hb : PE X (.BoolOp .And (b :: rest) pos) tb) : PE X (.BoolOp .And (a :: b :: rest) pos) (tAndV ta tb) := by
 intro pins s σ H Q I h
 refine BoolOp_and (thn (ha pins s σ H _ I h) fun v s1 ⟨x, H1, I1, r1, q1⟩ => ?_)
 obtain ⟨c, rfl, q1⟩ := q1
 cases r1
 refine wpAny_truthy_bool ?_
 cases c with
 | true => exact hb pins s1 σ H1 Q I1 q1
 | false => exact ⟨.bl false, H1, I1, rfl, q1⟩
theorem pe_not (ha : PE X a ta) : PE X (.UnaryOp .Not a pos) (tNotV ta) := by
 intro pins s σ H Q I h
 refine UnaryOp_ (thn (ha pins s σ H _ I h) fun v s1 ⟨x, H1, I1, r1, q1⟩ => ?_)
 obtain ⟨c, rfl, q1⟩ := q1
 cases r1
 exact not_of (wpAny_truthy_bool ⟨.bl (!c), H1, I1, rfl, q1⟩)
end
def SqL (K : PySem.W.Frag) (H : Hp) (a : Addr) (xs : List V) : Prop :=
 Rd H a (.lst xs) ∨
  ∃ (o : Obj) (its : Array Value) (n : Nat), K.lookup a = some o /\ o.cls = .type "list" /\ o.dict = none /\ o.data = .seq its n /\ its.size <= sizeLine /\ Vals xs its.toList
def SqT (K : PySem.W.Frag) (H : Hp) (a : Addr) (xs : List V) : Prop :=
 Rd H a (.tup xs) ∨
  ∃ (o : Obj) (its : Array Value) (n : Nat), K.lookup a = some o /\ o.cls = .type "tuple" /\ o.data = .seq its n /\ its.size <= sizeLine /\ Vals xs its.toList
def absV : Value -> Option V
 | .none => some .non
 | .bool b => some (.bl b)
 | .int i _ => some (.int i)
 | .str x _ => some (.str x)
 | .bytes b _ => some (.byt b)
 | .float b _ => some (.flt b)
 | .ref a => some (.ref a)
 | .type n => some (.ty n)
 | _ => none
theorem RelV.abs {x : V} {u : Value} (r : RelV x u) : absV u = some x := by
 cases x with
 | non => cases r; rfl
 | bl _ => cases r; rfl
 | int _ => obtain ⟨t, rfl⟩ := r; rfl
 | str _ => obtain ⟨t, rfl⟩ := r; rfl
 | byt _ => obtain ⟨t, rfl⟩ := r; rfl
 | flt _ => obtain ⟨t, rfl⟩ := r; rfl
 | ref _ => cases r; rfl
 | ty _ => cases r; rfl
theorem RelV.inj {x y : V} {u : Value} (r : RelV x u) (q : RelV y u) : x = y := Option.some.inj (r.abs.symm.trans q.abs)
theorem Vals.inj : ∀ {xs ys : List V} {us : List Value}, Vals xs us -> Vals ys us -> xs = ys
 | _, _, _, .nil, .nil => rfl
 | _, _, _, .cons r t, .cons r' t' => by rw [r.inj r', Vals.inj t t']
section
variable {X : Cx} {pins : List (Addr × Obj)} {σ : St} {H : Hp} {s : Shared} {a : Addr} {xs ys : List V}
theorem SqL.of {K : PySem.W.Frag} (h : H a = some (.lst xs)) : SqL K H a xs := .inl (.inl h)
theorem SqT.of {K : PySem.W.Frag} (h : H a = some (.tup xs)) : SqT K H a xs := .inl (.inl h)
theorem Inv.list (I : Inv X pins σ H s) (h : SqL X.K H a xs) : ∃ its : List Value, Vals xs its /\ PlainL s.heap a its.toArray /\ xs.length <= sizeLine := by
 rcases h with h | ⟨o, its, n, hk, hc, hd, hs, hz, r⟩
 ·obtain ⟨z, its, n, r, e⟩ := h.ok I.hok
  exact ⟨its, r, ⟨_, n, e, rfl, rfl, rfl⟩, z⟩
 ·refine ⟨its.toList, r, ⟨o, n, I.kIn a o hk, hc, hd, by simpa using hs⟩, ?_⟩
  have e := r.length
  simp only [Array.length_toList] at e
  omega
theorem Inv.tuple (I : Inv X pins σ H s) (h : SqT X.K H a xs) : ∃ its : List Value, Vals xs its /\ IsTup s.heap a its.toArray /\ xs.length <= sizeLine := by
 rcases h with h | ⟨o, its, n, hk, hc, hs, hz, r⟩
 ·obtain ⟨z, its, r, p, _⟩ := h.ok I.hok
  exact ⟨its, r, p, z⟩
 ·refine ⟨its.toList, r, ⟨o, I.kIn a o hk, hc, n, by simpa using hs⟩, ?_⟩
  have e := r.length
  simp only [Array.length_toList] at e
  omega
theorem Inv.list_inj (I : Inv X pins σ H s) (h : SqL X.K H a xs) (h' : SqL X.K H a ys) : xs = ys := by
 obtain ⟨its, r, ⟨o, n, e, _, _, d⟩, _⟩ := I.list h
 obtain ⟨its', r', ⟨o', n', e', _, _, d'⟩, _⟩ := I.list h'
 rw [e] at e'; cases e'
 rw [d] at d'
 injection d' with d1 _
 have : its = its' := by simpa using congrArg Array.toList d1
 subst this
 exact r.inj r'
theorem Inv.tuple_inj (I : Inv X pins σ H s) (h : SqT X.K H a xs) (h' : SqT X.K H a ys) : xs = ys := by
 obtain ⟨its, r, ⟨o, e, _, n, d⟩, _⟩ := I.tuple h
 obtain ⟨its', r', ⟨o', e', _, n', d'⟩, _⟩ := I.tuple h'
 rw [e] at e'; cases e'
 rw [d] at d'
 injection d' with d1 _
 have : its = its' := by simpa using congrArg Array.toList d1
 subst this
 exact r.inj r'
end
abbrev Cx.wish (X : Cx) (E : Value -> Shared -> Prop) : Cx := { X with xe := E }
abbrev Cx.nox (X : Cx) : Cx := X.wish fun _ _ => False
theorem Cx.Ok.wish {X : Cx} (ok : X.Ok) (E : Value -> Shared -> Prop) : (X.wish E).Ok :=
 ⟨ok.mod, ok.kind, ok.glob, ok.blt, ok.above, ok.inj, ok.has, ok.cab, ok.hd, ok.frames, ok.stk, ok.exf, ok.bs, ok.bsz, ok.noex, ok.exfs, ok.funs, ok.frf⟩
theorem Cx.Ok.unwish {X : Cx} {E : Value -> Shared -> Prop} (ok : (X.wish E).Ok) : X.Ok :=
 ⟨ok.mod, ok.kind, ok.glob, ok.blt, ok.above, ok.inj, ok.has, ok.cab, ok.hd, ok.frames, ok.stk, ok.exf, ok.bs, ok.bsz, ok.noex, ok.exfs, ok.funs, ok.frf⟩
section
variable {X : Cx} {pins : List (Addr × Obj)} {σ : St} {H : Hp} {s : Shared} {E : Value -> Shared -> Prop}
theorem Inv.wish (I : Inv X pins σ H s) (E : Value -> Shared -> Prop) : Inv (X.wish E) pins σ H s := ⟨I.ok.wish E, I.os, I.bare, I.base, I.loc, I.cell, I.free, I.freeC, I.pin, I.hok, I.len⟩
theorem Inv.unwish (I : Inv (X.wish E) pins σ H s) : Inv X pins σ H s := ⟨I.ok.unwish, I.os, I.bare, I.base, I.loc, I.cell, I.free, I.freeC, I.pin, I.hok, I.len⟩
theorem SP.unwish {D : Ends} {f : Flow} {s' : Shared} (h : SP (X.wish E) pins D f s') : SP X pins D f s' := by
 cases f with
 | next => obtain ⟨σ', H', I, q⟩ := h; exact ⟨σ', H', I.unwish, q⟩
 | brk => obtain ⟨σ', H', I, q⟩ := h; exact ⟨σ', H', I.unwish, q⟩
 | cont => obtain ⟨σ', H', I, q⟩ := h; exact ⟨σ', H', I.unwish, q⟩
 | ret u => obtain ⟨v, σ', H', I, r, q⟩ := h; exact ⟨v, σ', H', I.unwish, r, q⟩
theorem PSs.nox {st : List Stmt} {t : TS} (h : PSs X.nox st t) : PSs X st t := fun pins s σ H D I hw =>
 wpAny_mono (h pins s σ H D (I.wish _) hw) (fun _ _ q => q.unwish) fun _ _ z => False.elim z
end
section
variable {X : Cx} {st : Stmt} {rest : List Stmt} {t u : TS} {e : Expr} {te : TE} {pos : Pos}
def tNext : TS := fun D σ H => D.nx σ H
def tSeq (t u : TS) : TS := fun D σ H => t { D with nx := u D } σ H
theorem pss_nil : PSs X [] tNext := fun _ _ σ H _ I h => wpAny_execs_nil ⟨σ, H, I, h⟩
theorem pss_cons (h1 : PS X st t) (h2 : PSs X rest u) : PSs X (st :: rest) (tSeq t u) := by
 intro pins s σ H D I h
 refine wpAny_execs_cons (thn (h1 pins s σ H { D with nx := u D } I h) fun f s1 q => ?_)
 cases f with
 | next =>
  obtain ⟨σ', H', I', q⟩ := q
  exact h2 pins s1 σ' H' D I' q
 | ret v => exact q
 | brk => exact q
 | cont => exact q
theorem pss_one (h1 : PS X st t) : PSs X [st] t := by
 intro pins s σ H D I h
 refine wpAny_execs_cons (thn (h1 pins s σ H D I h) fun f s1 q => ?_)
 cases f with
 | next => exact wpAny_execs_nil q
 | ret v => exact q
 | brk => exact q
 | cont => exact q
theorem Inv.quiet {pins : List (Addr × Obj)} {σ : St} {H : Hp} {s : Shared} (I : Inv X pins σ H s) : interactive X.env = false := by simp [interactive, I.ok.kind]
def tDrop (te : TE) : TS := fun D σ H => te σ H fun _ H1 => D.nx σ H1
theorem ps_expr (he : PE X e te) (hs : autoParam (swapsWith e none pos.line X.env = pure false) AutoP.a3._auto_1) : PS X (.Expr e pos) (tDrop te) := by
 intro pins s σ H D I h
 exact wpAny_Expr_any (thn (he pins s σ H _ I h) fun v s1 ⟨x, H1, I1, r1, q1⟩ => ⟨σ, H1, I1, q1⟩) I.quiet hs
def tRet (te : TE) : TS := fun D σ H => te σ H D.rt
theorem ps_ret (he : PE X e te) : PS X (.Return (some e) pos) (tRet te) := by
 intro pins s σ H D I h
 exact wpAny_Return_some (thn (he pins s σ H _ I h) fun v s1 ⟨x, H1, I1, r1, q1⟩ => ⟨x, σ, H1, I1, r1, q1⟩)
def tIfS (c : TT) (t u : TS) : TS := fun D σ H => c σ H fun b H1 => if b = true then t D σ H1 else u D σ H1
theorem ps_if {c : Expr} {a b : List Stmt} {tc : TT} (hc : PT X c tc) (ha : PSs X a t) (hb : PSs X b u) : PS X (.If c a b pos) (tIfS tc t u) := by
 intro pins s σ H D I h
 refine wpAny_If (thn (hc pins s σ H _ I h) fun d s1 ⟨H1, I1, q1⟩ => ?_)
 cases d with
 | true => exact ha pins s1 σ H1 D I1 q1
 | false => exact hb pins s1 σ H1 D I1 q1
def tNever : TS := fun _ _ _ => False
theorem ps_never : PS X st tNever := fun _ _ _ _ _ _ h => h.elim
end
abbrev TG := V -> St -> Hp -> (St -> Hp -> Prop) -> Prop
abbrev TGs := List V -> St -> Hp -> (St -> Hp -> Prop) -> Prop
def PG (X : Cx) (target : Expr) (t : TG) : Prop :=
 ∀ (pins : List (Addr × Obj)) (s : Shared) (σ : St) (H : Hp) (v : V) (u : Value) (Q : St -> Hp -> Prop), Inv X pins σ H s -> RelV v u -> t v σ H Q →
  wpAny (model X.prog X.w) X.A (assign target X.env u) (fun _ s' => ∃ σ' H', Inv X pins σ' H' s' /\ Q σ' H') X.xe s
def PGs (X : Cx) (ts : List Expr) (t : TGs) : Prop :=
 ∀ (pins : List (Addr × Obj)) (s : Shared) (σ : St) (H : Hp) (vs : List V) (us : List Value) (Q : St -> Hp -> Prop), Inv X pins σ H s -> Vals vs us -> t vs σ H Q →
  wpAny (model X.prog X.w) X.A (assignInOrder ((assignEach ts X.env).map (·.2)) us) (fun _ s' => ∃ σ' H', Inv X pins σ' H' s' /\ Q σ' H') X.xe s
abbrev TSet := V -> V -> V -> Hp -> (Hp -> Prop) -> Prop
def PSet (X : Cx) (t : TSet) : Prop :=
 ∀ (pins : List (Addr × Obj)) (s : Shared) (σ : St) (H : Hp) (o i v : V) (ov iv u : Value) (Q : Hp -> Prop), Inv X pins σ H s -> RelV o ov -> RelV i iv -> RelV v u -> t o i v H Q →
  wpAny (model X.prog X.w) X.A (setItem ov iv u) (fun _ s' => ∃ H', Inv X pins σ H' s' /\ Q H') X.xe s
section
variable {X : Cx} {pos : Pos}
def gName (i : Nat) : TG := fun v σ H Q => Q (σ.set i (some v)) H
theorem pg_name {i : Nat} {x : Str} (hN : X.N.Nodup) (hi : X.N[i]? = some x) (hx : Loc X.env.scope x) (hf : autoParam (X.fn x = true ∨ X.env.scope.names.lookup x = some .local) AutoP.a0._auto_1) : PG X (.Name x pos) (gName i) := by
 intro pins s σ H v u Q I r h
 exact wpAny_assign_Name (store_ok I hN hi hx r (fun s' I' => ⟨_, H, I', h⟩) hf)
def gNil : TGs := fun vs σ H Q => vs = [] /\ Q σ H
def gCons (t : TG) (u : TGs) : TGs := fun vs σ H Q => ∃ v r, vs = v :: r /\ t v σ H fun σ' H' => u r σ' H' Q
theorem pgs_nil : PGs X [] gNil := by
 intro pins s σ H vs us Q I r h
 obtain ⟨e, h⟩ := h
 subst e
 cases r
 exact assignInOrder_nil ⟨σ, H, I, h⟩
theorem pgs_cons {e : Expr} {es : List Expr} {t : TG} {u : TGs} (h1 : PG X e t) (h2 : PGs X es u)
  (hs : autoParam ((assignEach (e :: es) X.env).map (·.2) = assign e X.env :: (assignEach es X.env).map (·.2)) AutoP.a3._auto_1) : PGs X (e :: es) (gCons t u) := by
 intro pins s σ H vs us Q I r h
 obtain ⟨v, vr, e1, h⟩ := h
 subst e1
 cases r with
 | cons r rr =>
  rw [hs]
  refine assignInOrder_cons (thn (h1 pins s σ H _ _ _ I r h) fun _ s1 ⟨σ1, H1, I1, q1⟩ => ?_)
  exact h2 pins s1 σ1 H1 _ _ Q I1 rr q1
def gTup (K : PySem.W.Frag) (n : Nat) (t : TGs) : TG := fun v σ H Q => ∃ a xs, v = .ref a /\ SqT K H a xs /\ xs.length = n /\ t xs σ H Q
theorem pg_tup {es : List Expr} {k : Nat} {t : TGs} {n : Nat} (hc : X.calm = true) (h : PGs X es t)
  (hn : autoParam ((assignEach es X.env).length = n) AutoP.a3._auto_1) (hst : autoParam ((assignEach es X.env).findIdx? (·.1) = none) AutoP.a3._auto_1) : PG X (.Tuple es k pos) (gTup X.K n t) := by
 intro pins s σ H v u Q I r hw
 obtain ⟨a, xs, e1, hq, hl, hw⟩ := hw
 subst e1
 cases r
 obtain ⟨its, rv, ht, hz⟩ := I.tuple hq
 refine assign_Tuple_tuple (I.ok.hd hc) ht (by simp [hn, <- hl, rv.length]) hst fun h' hx => ?_
 have I1 : Inv X pins σ H { s with heap := h' } := I.kept (t' := s.toks) fun b o e => hx b o (Nat.ne_of_lt (Heap.lt_size e)) e
 exact h pins _ σ H xs _ Q I1 (by simpa using rv) hw
def gSub (to ti : TE) (t : TSet) : TG := fun v σ H Q => to σ H fun o H1 => ti σ H1 fun i H2 => t o i v H2 fun H3 => Q σ H3
theorem pg_sub {o i : Expr} {to ti : TE} {t : TSet} (ho : PE X o to) (hi : PE X i ti) (hs : PSet X t)
  (ha : autoParam (∀ v, assign (.Subscript o i pos) X.env v = (do
   let ov <- holding [v] (eval o X.env)
   let iv <- holding [v, ov] (eval i X.env)
   standAt pos
   holding [v, ov, iv] (setItem ov iv v)
   release [v, ov, iv] [])) AutoP.a2._auto_1) : PG X (.Subscript o i pos) (gSub to ti t) := by
 intro pins s σ H v u Q I r h
 rw [ha]
 refine wpAny_bind (wpAny_holding (thn (ho pins s σ H _ I h) fun ov s1 ⟨x, H1, I1, r1, q1⟩ => ?_))
 refine wpAny_bind (wpAny_holding (thn (hi pins s1 σ H1 _ I1 q1) fun iv s2 ⟨y, H2, I2, r2, q2⟩ => ?_))
 refine wpAny_bind (wpAny_standAt (wpAny_bind (wpAny_holding (thn (hs pins s2 σ H2 x y v ov iv u _ I2 r1 r2 r q2) fun _ s3 ⟨H3, I3, q3⟩ => ?_))))
 exact wpAny_release ⟨σ, H3, I3, q3⟩
def tAsg (te : TE) (g : TG) : TS := fun D σ H => te σ H fun x H1 => g x σ H1 D.nx
theorem ps_asg {tg e : Expr} {te : TE} {g : TG} (he : PE X e te) (hg : PG X tg g) (hs : autoParam (swapsWithSole [tg] e pos.line X.env = pure false) AutoP.a3._auto_1) (hw : autoParam (swappedStores [tg] e X.env = pure none) AutoP.a3._auto_1)
  (h1 : autoParam ((assignEach [tg] X.env).map (·.2) = [assign tg X.env]) AutoP.a3._auto_1) : PS X (.Assign [tg] e pos) (tAsg te g) := by
 intro pins s σ H D I h
 refine wpAny_Assign_stores (thn (he pins s σ H _ I h) fun v s1 ⟨x, H1, I1, r1, q1⟩ => ?_) hs hw
 rw [h1]
 exact thn (hg pins s1 σ H1 x v _ I1 r1 q1) fun _ s2 q => q
theorem ps_set {i : Nat} {x : Str} {e : Expr} {te : TE} {pos' : Pos} (hN : X.N.Nodup) (hi : X.N[i]? = some x) (hx : Loc X.env.scope x) (he : PE X e te) (hs : autoParam (swapsWith e (some (.Name x pos')) pos.line X.env = pure false) AutoP.a3._auto_1) (hf : autoParam (X.fn x = true ∨ X.env.scope.names.lookup x = some .local) AutoP.a0._auto_1) :
  PS X (.Assign [.Name x pos'] e pos) (tAsg te (gName i)) := by
 intro pins s σ H D I h
 refine wpAny_Assign_Name (thn (he pins s σ H _ I h) fun v s1 ⟨y, H1, I1, r1, q1⟩ => ?_) hs
 exact store_ok I1 hN hi hx r1 (fun s2 I2 => ⟨_, H1, I2, q1⟩) hf
def tPar (i j : Nat) (ta : TA) : TS := fun D σ H => ta σ H fun vs H1 => ∃ v w, vs = [v, w] /\ D.nx ((σ.set i (some v)).set j (some w)) H1
theorem ps_par {i j : Nat} {x y : Str} {a b : Expr} {ta : TA} {px py pt : Pos} {kt k2 pt2} (hc : X.calm = true) (hN : X.N.Nodup) (hi : X.N[i]? = some x) (hj : X.N[j]? = some y) (hij : i ≠ j)
  (hx : X.env.scope.names.lookup x = some .local) (hy : X.env.scope.names.lookup y = some .local) (ha : PA X [a, b] ta)
  (hw : swappedStores [.Tuple [.Name x px, .Name y py] kt pt] (.Tuple [a, b] k2 pt2) X.env = pure (some [x, y]))
  (hs : autoParam (swapsWithSole [.Tuple [.Name x px, .Name y py] kt pt] (.Tuple [a, b] k2 pt2) pos.line X.env = pure false) AutoP.a3._auto_1) :
  PS X (.Assign [.Tuple [.Name x px, .Name y py] kt pt] (.Tuple [a, b] k2 pt2) pos) (tPar i j ta) := by
 intro pins s σ H D I h
 rw [exec_Assign_arm]
 refine wpAny_bind (wpAny_standAt ?_)
 rw [hs]
 refine wpAny_bind (wpAny_pure ?_)
 rw [if_neg (by decide)]
 refine wpAny_bind (Tuple_ (thn (ha _ pins s σ H _ I h) fun us s1 ⟨vs, H1, I1, r1, q1⟩ => ?_))
 obtain ⟨v, w, e1, q1⟩ := q1
 subst e1
 obtain ⟨u1, u2, rfl, rv, rw'⟩ : ∃ u1 u2, us = [u1, u2] /\ RelV v u1 /\ RelV w u2 := by
  cases r1 with
  | cons p q =>
   cases q with
   | cons p' q' =>
    cases q'
    exact ⟨_, _, rfl, p, p'⟩
 refine wpAny_newObj_type ?_ (by show 2 <= sizeLine; decide)
 have I2 : Inv X pins σ H1 { s1 with heap := s1.heap.push { cls := .type "tuple", data := .seq [u1, u2].toArray } } := I1.kept (t' := s1.toks) fun b o e => Heap.get?_push_of_some _ e
 rw [hw]
 refine wpAny_bind (wpAny_pure ?_)
 show wpAny (model X.prog X.w) X.A (do rule "assign.swapped-stores"; let items <- unpackItems (.ref s1.heap.objs.size) 2 none; assignInOrder [fun v => bindName X.env y v, fun v => bindName X.env x v] items.reverse; pure Flow.next) _ _ _
 refine wpAny_bind (wpAny_rule (wpAny_bind (unpackItems_tuple (items := #[u1, u2]) (I.ok.hd hc) (IsTup.new s1.heap _) fun h' hx' => ?_)))
 have I3 := I2.kept (h' := h') (t' := s1.toks) fun b o e => hx' b o (Nat.ne_of_lt (Heap.lt_size e)) e
 show wpAny _ _ (assignInOrder [fun v => bindName X.env y v, fun v => bindName X.env x v] [u2, u1] >>= fun _ => pure Flow.next) _ _ _
 refine wpAny_bind (assignInOrder_cons (wpAny_bindName (store_ok I3 hN hj (.inl hy) rw' (fun s2 I4 => ?_) (.inr hy))))
 refine assignInOrder_cons (wpAny_bindName (store_ok I4 hN hi (.inl hx) rv (fun s3 I5 => assignInOrder_nil (wpAny_pure ?_)) (.inr hx)))
 rw [List.set_comm _ _ (Ne.symm hij)] at I5
 exact ⟨_, H1, I5, q1⟩
end
section
variable {X : Cx} {pos : Pos}
def tWhile (c : TT) (tb : TS) : TS := fun D σ H => ∃ W : Nat -> St -> Hp -> Prop, (∃ m, W m σ H) /\ ∀ m σ H, W m σ H →
 c σ H fun b H1 => if b = true then ∃ N : St -> Hp -> Prop, (∀ σ' H', N σ' H' -> ∃ m', m' < m /\ W m' σ' H') /\ tb { D with nx := N, ct := N, bk := D.nx } σ H1 else D.nx σ H1
theorem ps_while {c : Expr} {body : List Stmt} {tc : TT} {tb : TS} (hp : PassesOwn (model X.prog X.w) X.A X.env X.xe) (hc : PT X c tc) (hb : PSs X body tb) : PS X (.While c body [] pos) (tWhile tc tb) := by
 intro pins s σ H D I h
 obtain ⟨W, ⟨m0, w0⟩, turn⟩ := h
 refine wpAny_While (codeAny_whileLoop (fun n s' => ∃ σ' H', Inv X pins σ' H' s' /\ W n σ' H') ?_ m0 ⟨σ, H, I, w0⟩)
 rintro n s1 ⟨σ1, H1, I1, w1⟩
 refine wpAny_passesOwn hp (thn (hc pins s1 σ1 H1 _ I1 (turn n σ1 H1 w1)) fun b s2 ⟨H2, I2, q2⟩ => ?_)
 cases b with
 | true =>
  obtain ⟨N, hN, q2⟩ := q2
  rw [if_pos rfl]
  refine wpAny_passesOwn hp (thn (hb pins s2 σ1 H2 _ I2 q2) fun f s3 q3 => ?_)
  cases f with
  | next =>
   obtain ⟨σ3, H3, I3, n3⟩ := q3
   obtain ⟨m', hm, w3⟩ := hN σ3 H3 n3
   exact ⟨m', hm, σ3, H3, I3, w3⟩
  | cont =>
   obtain ⟨σ3, H3, I3, n3⟩ := q3
   obtain ⟨m', hm, w3⟩ := hN σ3 H3 n3
   exact ⟨m', hm, σ3, H3, I3, w3⟩
  | brk => exact q3
  | ret v => exact q3
 | false =>
  rw [if_neg Bool.false_ne_true]
  exact wpAny_execs_nil ⟨σ1, H2, I2, q2⟩
end
structure It where
 go : Nat -> Hp -> Prop
 yld : Nat -> Hp -> V -> Hp -> Prop
 stop : Nat -> Hp -> Prop
def FpOk (X : Cx) (pins : List (Addr × Obj)) (H : Hp) (b : Addr) : Prop :=
 H b = none /\ b ≠ X.env.locals /\ b ∉ X.fs /\ (b ∈ X.ex ∨ X.s₀.heap.objs.size <= b) /\ (∀ x c, X.env.cells.lookup x = some c -> c ≠ b) /\ ∀ p ∈ X.pn ++ pins, p.1 ≠ b
theorem Inv.fpOk {X : Cx} {pins : List (Addr × Obj)} {σ : St} {H H' : Hp} {s : Shared} {b : Addr} (I : Inv X pins σ H s) (hb : s.heap.objs.size <= b) (hn : H' b = none) : FpOk X pins H' b := by
 refine ⟨hn, Nat.ne_of_gt (Nat.lt_of_lt_of_le I.lt hb), I.nofs hb, .inr (Nat.le_trans I.sz hb), fun x c e z => ?_, fun p hp z => ?_⟩
 ·obtain ⟨v, q⟩ := I.cell x c e
  exact absurd (Nat.lt_of_lt_of_le q.lt (by rw [z]; exact hb)) (Nat.lt_irrefl _)
 ·exact absurd (Nat.lt_of_lt_of_le (Heap.lt_size (I.pin p hp).1) (by rw [z]; exact hb)) (Nat.lt_irrefl _)
structure Turn (P : Program) (w : World) (K : PySem.W.Frag) (tg : Expr) (J : It) (fp : List Addr) (it : Addr) (tn : Nat -> Heap -> Prop) : Prop where
 mem : it ∈ fp
 obj : ∀ i h, tn i h -> ∀ b ∈ fp, ∃ o, h.get? b = some o /\ ∀ v, o.data ≠ .cell v
 keep : ∀ i h h', tn i h -> (∀ b ∈ fp, ∀ o, h.get? b = some o -> h'.get? b = some o) -> tn i h'
 item : ∀ (X : Cx), X.prog = P -> X.w = w -> X.K = K -> X.calm = true -> ∀ (i : Nat) (pins : List (Addr × Obj)) (s : Shared) (σ : St) (H : Hp) (E : Value -> Shared -> Prop), Inv X pins σ H s -> (∀ b ∈ fp, FpOk X pins H b) -> tn i s.heap -> J.go i H →
  wpAny (model P w) X.A (pyNext (.ref it)) (fun r s1 => ∃ u, r = some u ∧
   wpAny (model P w) X.A (letOwnedTupleGo tg (.ref it) u) (fun _ s2 => ∃ x H', Inv X pins σ H' s2 /\ RelV x u /\ J.yld i H x H' /\ tn (i + 1) s2.heap /\ ∀ b ∈ fp, H' b = none) E s1) E s
 done : ∀ (X : Cx), X.prog = P -> X.w = w -> X.K = K -> X.calm = true -> ∀ (i : Nat) (pins : List (Addr × Obj)) (s : Shared) (σ : St) (H : Hp) (E : Value -> Shared -> Prop), Inv X pins σ H s -> (∀ b ∈ fp, FpOk X pins H b) -> tn i s.heap -> J.stop i H →
  wpAny (model P w) X.A (pyNext (.ref it)) (fun r s1 => r = none /\ Inv X pins σ H s1) E s
 self : ∀ (A : Around) (i : Nat) (s : Shared) (Q : Value -> Shared -> Prop) (E : Value -> Shared -> Prop), tn i s.heap -> Q (.ref it) s -> wpAny (model P w) A (pyIter (.ref it)) Q E s
abbrev TI := St -> Hp -> (It -> Hp -> Prop) -> Prop
def PIE (X : Cx) (pins : List (Addr × Obj)) (σ : St) (tg : Expr) (R : It -> Hp -> Prop) (itv : Value) (s2 : Shared) : Prop :=
 ∃ (it : Addr) (fp : List Addr) (tn : Nat -> Heap -> Prop) (J : It) (H' : Hp), itv = .ref it /\ Inv X pins σ H' s2 /\ Turn X.prog X.w X.K tg J fp it tn /\ tn 0 s2.heap /\ (∀ b ∈ fp, FpOk X pins H' b) /\ R J H'
def PI (X : Cx) (tg iter : Expr) (wi : TI) : Prop :=
 ∀ (pins : List (Addr × Obj)) (s : Shared) (σ : St) (H : Hp) (R : It -> Hp -> Prop), Inv X pins σ H s -> wi σ H R →
  wpAny (model X.prog X.w) X.A (eval iter X.env) (fun v s1 => wpAny (model X.prog X.w) X.A (pyIter v) (PIE X pins σ tg R) X.xe s1) X.xe s
theorem go_of {M : Model} {A : Around} {E : Value -> Shared -> Prop} {s : Shared} {tg : Expr} {it : Addr} {u : Value} {o : Obj} {n : String} {vs : Array Value} {Q : Unit -> Shared -> Prop} (ho : s.heap.get? it = some o) (hc : o.cls = .type n) (hd : o.data = .fields vs)
    (hn : ["enumerate", "zip", "dict_itemiterator", "dict_reverseitemiterator", "odict_iterator", "itertools.zip_longest", "itertools.pairwise"].contains n = false) (hQ : Q () s) : wpAny M A (letOwnedTupleGo tg (.ref it) u) Q E s := by
  unfold letOwnedTupleGo
  cases tg <;> first
    | exact wpAny_pure hQ
    | (cases u <;> first
        | exact wpAny_pure hQ
        | (refine wpAny_bind (wpAny_load ho ?_)
           rw [hc, hd]
           show wpAny M A (if (["enumerate", "zip", "dict_itemiterator", "dict_reverseitemiterator", "odict_iterator", "itertools.zip_longest", "itertools.pairwise"].contains n && vs[0]? == some (rawInt _)) = true then _ else _) Q E s
           rw [if_neg (by intro h; rw [hn, Bool.false_and] at h; cases h)]
           exact wpAny_pure hQ))
def Itl (K : PySem.W.Frag) (a : Addr) : It :=
 ⟨fun i H => ∃ xs x, SqL K H a xs /\ xs[i]? = some x, fun i H x H' => H' = H /\ ∀ xs, SqL K H a xs -> xs[i]? = some x, fun i H => ∃ xs, SqL K H a xs /\ xs.length <= i⟩
def Itt (K : PySem.W.Frag) (a : Addr) : It :=
 ⟨fun i H => ∃ xs x, SqT K H a xs /\ xs[i]? = some x, fun i H x H' => H' = H /\ ∀ xs, SqT K H a xs -> xs[i]? = some x, fun i H => ∃ xs, SqT K H a xs /\ xs.length <= i⟩
def Itr (lo : Int) (n : Nat) : It := ⟨fun i _ => i < n, fun i H x H' => H' = H /\ x = .int (lo + i), fun i _ => n <= i⟩
theorem turn_list {P : Program} {w : World} {K : PySem.W.Frag} {tg : Expr} (a it : Addr) : Turn P w K tg (Itl K a) [it] it (fun i h => h.IsListIter it a i) where
 mem := by simp
 obj := fun i h st b hb => by
  have e : b = it := by simpa using hb
  subst e
  obtain ⟨o, e, c, d⟩ := st
  exact ⟨o, e, fun v z => by rw [d] at z; cases z⟩
 keep := fun i h h' st k => st.at fun o e => k it (by simp) o e
 item := by
  intro X hP hw hK hc i pins s σ H E I hf st hg
  subst hP hw hK
  obtain ⟨xs, x, hq, hx⟩ := hg
  obtain ⟨its, rv, p, hz⟩ := I.list hq
  obtain ⟨u, hu, ru⟩ := rv.get hx
  obtain ⟨f0, f1, f2, f3, f4, f5⟩ := hf it (by simp)
  refine wpAny_pyNext_list_item st p.isList (x := u) (by simpa using hu) fun h' st' sb => ?_
  have I1 : Inv X pins σ H { s with heap := h' } := I.turned (t' := s.toks) (fun b o hb e => (sb.2 b hb).trans e) f0 f1 f3 f4 f5
  obtain ⟨o, e, c, d⟩ := id st'
  exact ⟨u, rfl, go_of (s := { s with heap := h' }) e c d (by decide) ⟨x, H, I1, ru, ⟨rfl, fun ys hy => by rw [I.list_inj hy hq]; exact hx⟩, st', fun b hb => (hf b hb).1⟩⟩
 done := by
  intro X hP hw hK hc i pins s σ H E I hf st hg
  subst hP hw hK
  obtain ⟨xs, hq, hx⟩ := hg
  obtain ⟨its, rv, p, hz⟩ := I.list hq
  obtain ⟨f0, f1, f2, f3, f4, f5⟩ := hf it (by simp)
  have hl := rv.length
  exact wpAny_pyNext_list_end (I.ok.hd hc) st p.isList (by simp; omega) fun h' eb => ⟨rfl, I.turned (t' := s.toks) (fun b o hb e => eb b o hb e) f0 f1 f3 f4 f5⟩
 self := fun _ _ _ _ _ st h => wpAny_pyIter_listiter st h
theorem turn_tuple {P : Program} {w : World} {K : PySem.W.Frag} {tg : Expr} (a it : Addr) : Turn P w K tg (Itt K a) [it] it (fun i h => h.IsTupleIter it a i) where
 mem := by simp
 obj := fun i h st b hb => by
  have e : b = it := by simpa using hb
  subst e
  obtain ⟨o, e, c, d⟩ := st
  exact ⟨o, e, fun v z => by rw [d] at z; cases z⟩
 keep := fun i h h' st k => st.at fun o e => k it (by simp) o e
 item := by
  intro X hP hw hK hc i pins s σ H E I hf st hg
  subst hP hw hK
  obtain ⟨xs, x, hq, hx⟩ := hg
  obtain ⟨its, rv, p, hz⟩ := I.tuple hq
  obtain ⟨u, hu, ru⟩ := rv.get hx
  obtain ⟨f0, f1, f2, f3, f4, f5⟩ := hf it (by simp)
  refine wpAny_pyNext_tuple_item st (show s.heap.IsTuple a its.toArray from p) (x := u) (by simpa using hu) fun h' st' sb => ?_
  have I1 : Inv X pins σ H { s with heap := h' } := I.turned (t' := s.toks) (fun b o hb e => (sb.2 b hb).trans e) f0 f1 f3 f4 f5
  obtain ⟨o, e, c, d⟩ := id st'
  exact ⟨u, rfl, go_of (s := { s with heap := h' }) e c d (by decide) ⟨x, H, I1, ru, ⟨rfl, fun ys hy => by rw [I.tuple_inj hy hq]; exact hx⟩, st', fun b hb => (hf b hb).1⟩⟩
 done := by
  intro X hP hw hK hc i pins s σ H E I hf st hg
  subst hP hw hK
  obtain ⟨xs, hq, hx⟩ := hg
  obtain ⟨its, rv, p, hz⟩ := I.tuple hq
  obtain ⟨f0, f1, f2, f3, f4, f5⟩ := hf it (by simp)
  have hl := rv.length
  exact wpAny_pyNext_tuple_end (I.ok.hd hc) st (show s.heap.IsTuple a its.toArray from p) (by simp; omega) fun h' eb => ⟨rfl, I.turned (t' := s.toks) (fun b o hb e => eb b o hb e) f0 f1 f3 f4 f5⟩
 self := fun _ _ _ _ _ st h => wpAny_pyIter_tupleiter st h
theorem turn_range {P : Program} {w : World} {K : PySem.W.Frag} {tg : Expr} (it : Addr) (lo : Int) (n : Nat) : Turn P w K tg (Itr lo n) [it] it (fun i h => IsRangeIter h it (lo + (i : Nat) * 1) ((n : Int) - (i : Nat)) 1) where
 mem := by simp
 obj := fun i h st b hb => by
  have e : b = it := by simpa using hb
  subst e
  exact ⟨_, st, fun v z => by
   have z' : Data.fields _ = Data.cell v := z
   cases z'⟩
 keep := fun i h h' st k => k it (by simp) _ st
 item := by
  intro X hP hw hK hc i pins s σ H E I hf st hg
  subst hP hw hK
  obtain ⟨f0, f1, f2, f3, f4, f5⟩ := hf it (by simp)
  have W := Walks.range (prog := X.prog) (w := X.w) (I.ok.hd hc) it lo 1 n
  refine W.item i s _ _ hg st fun v h' tk hv st' kk => ?_
  obtain ⟨t, rfl⟩ := hv
  have I1 : Inv X pins σ H { s with heap := h', toks := tk } := I.turned (fun b o hb e => kk b o (by simpa using hb) e) f0 f1 f3 f4 f5
  refine ⟨_, rfl, go_of (s := { s with heap := h', toks := tk }) (n := "range_iterator") st' rfl rfl (by decide) ⟨.int (lo + i), H, I1, ⟨t, ?_⟩, ⟨rfl, rfl⟩, st', fun b hb => (hf b hb).1⟩⟩
  rw [Int.mul_one]
 done := by
  intro X hP hw hK hc i pins s σ H E I hf st hg
  subst hP hw hK
  obtain ⟨f0, f1, f2, f3, f4, f5⟩ := hf it (by simp)
  exact wpAny_pyNext_range_end (I.ok.hd hc) st (by have : n <= i := hg; omega) fun h' eb => ⟨rfl, I.turned (t' := s.toks) (fun b o hb e => eb b o hb e) f0 f1 f3 f4 f5⟩
 self := fun _ _ _ _ _ st h => wpAny_pyIter_rangeiter st h
section
variable {X : Cx} {tg : Expr}
def iList (K : PySem.W.Frag) (tl : TE) : TI := fun σ H R => tl σ H fun x H1 => ∃ a, x = .ref a /\ (∃ xs, SqL K H1 a xs) /\ R (Itl K a) H1
def iTup (K : PySem.W.Frag) (tl : TE) : TI := fun σ H R => tl σ H fun x H1 => ∃ a, x = .ref a /\ (∃ xs, SqT K H1 a xs) /\ R (Itt K a) H1
theorem pi_list {l : Expr} {tl : TE} (hl : PE X l tl) : PI X tg l (iList X.K tl) := by
 intro pins s σ H R I h
 refine thn (hl pins s σ H _ I h) fun v s1 ⟨x, H1, I1, r1, q1⟩ => ?_
 obtain ⟨a, e, ⟨xs, hq⟩, q⟩ := q1
 subst e
 cases r1
 obtain ⟨its, rv, p, hz⟩ := I1.list hq
 refine wpAny_pyIter_list p.isList ?_
 refine ⟨s1.heap.objs.size, [s1.heap.objs.size], _, _, H1, rfl, I1.kept (t' := s1.toks) fun b o e => Heap.get?_push_of_some _ e, turn_list a _, ⟨_, Heap.get?_push_size _ rfl, rfl, rfl⟩, fun b hb => ?_, q⟩
 have e : b = s1.heap.objs.size := by simpa using hb
 subst e
 exact I1.fpOk (Nat.le_refl _) (I1.hok.fresh (Nat.le_refl _))
theorem pi_tup {l : Expr} {tl : TE} (hl : PE X l tl) : PI X tg l (iTup X.K tl) := by
 intro pins s σ H R I h
 refine thn (hl pins s σ H _ I h) fun v s1 ⟨x, H1, I1, r1, q1⟩ => ?_
 obtain ⟨a, e, ⟨xs, hq⟩, q⟩ := q1
 subst e
 cases r1
 obtain ⟨its, rv, p, hz⟩ := I1.tuple hq
 refine wpAny_pyIter_tuple (show s1.heap.IsTuple a its.toArray from p) ?_
 refine ⟨s1.heap.objs.size, [s1.heap.objs.size], _, _, H1, rfl, I1.kept (t' := s1.toks) fun b o e => Heap.get?_push_of_some _ e, turn_tuple a _, ⟨_, Heap.get?_push_size _ rfl, rfl, rfl⟩, fun b hb => ?_, q⟩
 have e : b = s1.heap.objs.size := by simpa using hb
 subst e
 exact I1.fpOk (Nat.le_refl _) (I1.hok.fresh (Nat.le_refl _))
theorem range_it {pins : List (Addr × Obj)} {σ : St} {H : Hp} {s : Shared} {R : It -> Hp -> Prop} {E : Value -> Shared -> Prop} {lo hi : Int} {t u v : Tok} {tk : Nat} (I : Inv X pins σ H s) (h1 : -(2 ^ 62) <= lo) (h2 : lo < 2 ^ 62) (h3 : -(2 ^ 62) <= hi) (h4 : hi < 2 ^ 62)
  (q : R (Itr lo (hi - lo).toNat) H) : wpAny (model X.prog X.w) X.A (pyIter (.ref s.heap.objs.size)) (PIE X pins σ tg R) E { s with heap := s.heap.push { cls := .type "range", data := .fields #[.int lo t, .int hi u, .int 1 v] }, toks := tk } := by
 refine wpAny_pyIter_range (IsRange.new ..) (small_one h1 h2 h3 h4) ?_
 have I1 : Inv X pins σ H { s with heap := s.heap.push { cls := .type "range", data := .fields #[.int lo t, .int hi u, .int 1 v] }, toks := tk } := I.kept fun b o e => Heap.get?_push_of_some _ e
 refine ⟨(s.heap.push { cls := .type "range", data := .fields #[.int lo t, .int hi u, .int 1 v] }).objs.size, [(s.heap.push { cls := .type "range", data := .fields #[.int lo t, .int hi u, .int 1 v] }).objs.size], _, _, H, rfl,
  I1.kept (t' := tk) fun b o e => Heap.get?_push_of_some _ e, turn_range _ lo (hi - lo).toNat, ?_, fun b hb => ?_, q⟩
 ·have e1 : lo + ((0 : Nat) : Int) * 1 = lo := by simp
  have e2 : (((hi - lo).toNat : Nat) : Int) - ((0 : Nat) : Int) = Builtin.Range.rangeSize lo hi 1 := by rw [rangeSize_one]; split <;> omega
  show IsRangeIter _ _ (lo + ((0 : Nat) : Int) * 1) ((((hi - lo).toNat : Nat) : Int) - ((0 : Nat) : Int)) 1
  rw [e1, e2]
  exact Heap.get?_push_size _ rfl
 ·have e : b = (s.heap.push { cls := .type "range", data := .fields #[.int lo t, .int hi u, .int 1 v] }).objs.size := by simpa using hb
  subst e
  exact I1.fpOk (Nat.le_refl _) (I1.hok.fresh (Nat.le_refl _))
def iRng1 (ta : TA) : TI := fun σ H R => ta σ H fun vs H1 => ∃ j : Int, vs = [.int j] /\ -(2 ^ 62) <= j /\ j < 2 ^ 62 /\ R (Itr 0 j.toNat) H1
def iRng2 (ta : TA) : TI := fun σ H R => ta σ H fun vs H1 => ∃ i j : Int, vs = [.int i, .int j] /\ (-(2 ^ 62) <= i /\ i < 2 ^ 62 /\ -(2 ^ 62) <= j /\ j < 2 ^ 62) /\ R (Itr i (j - i).toNat) H1
theorem pi_range1 {a : Expr} {ta : TA} {p pos : Pos} (hg : Gl X "range") (hm : X.mg "range" = none) (ha : PA X [a] ta) (hs : autoParam (starEach [a] X.env = [(false, eval a X.env)]) AutoP.a3._auto_1) : PI X tg (.Call (.Name "range" p) [a] [] pos) (iRng1 ta) := by
 intro pins s σ H R I h
 refine Call_ (ld_blt I hg hm boot_range (PyProof.Rows.callWith_type1 (thn (ha pos pins s σ H _ I h) fun us s1 ⟨vs, H1, I1, r1, q1⟩ => ?_) hs rfl))
 obtain ⟨j, e, q1, q2, q⟩ := q1
 subst e
 cases r1 with
 | cons r rr =>
  cases rr
  obtain ⟨t, rfl⟩ := r
  exact call_range_1 (range_it I1 (by omega) (by omega) q1 q2 (by simpa using q))
theorem pi_range2 {a b : Expr} {ta : TA} {p pos : Pos} (hg : Gl X "range") (hm : X.mg "range" = none) (ha : PA X [a, b] ta) (hs : autoParam (starEach [a, b] X.env = [(false, eval a X.env), (false, eval b X.env)]) AutoP.a3._auto_1) (hs2 : autoParam (starEach [b] X.env = [(false, eval b X.env)]) AutoP.a3._auto_1) :
  PI X tg (.Call (.Name "range" p) [a, b] [] pos) (iRng2 ta) := by
 intro pins s σ H R I h
 refine Call_ (ld_blt I hg hm boot_range (PyProof.Rows.callWith_type1 (thn (ha pos pins s σ H _ I h) fun us s1 ⟨vs, H1, I1, r1, q1⟩ => ?_) (by rw [hs, hs2]) (by rw [hs2]; rfl)))
 obtain ⟨i, j, e, ⟨q1, q2, q3, q4⟩, q⟩ := q1
 subst e
 cases r1 with
 | cons r rr =>
  cases rr with
  | cons r' rr =>
   cases rr
   obtain ⟨t, rfl⟩ := r
   obtain ⟨t', rfl⟩ := r'
   exact call_range_2 (range_it I1 q1 q2 q3 q4 q)
def tFor (wi : TI) (g : TG) (tb : TS) : TS := fun D σ H => wi σ H fun J H1 => ∃ W : Nat -> Nat -> St -> Hp -> Prop, (∃ m, W 0 m σ H1) /\ ∀ i m σ H, W i m σ H →
 (J.stop i H /\ D.nx σ H) ∨ (J.go i H /\ ∃ N : St -> Hp -> Prop, (∀ σ' H', N σ' H' -> ∃ m', m' < m /\ W (i + 1) m' σ' H') /\ ∀ x H', J.yld i H x H' -> g x σ H' fun σ2 H2 => tb { D with nx := N, ct := N, bk := D.nx } σ2 H2)
def pinsAt (fp : List Addr) (h : Heap) : List (Addr × Obj) := fp.filterMap fun b => (h.get? b).map fun o => (b, o)
theorem mem_pinsAt {fp : List Addr} {h : Heap} {b : Addr} {o : Obj} (hb : b ∈ fp) (e : h.get? b = some o) : (b, o) ∈ pinsAt fp h := List.mem_filterMap.mpr ⟨b, hb, by rw [e]; rfl⟩
theorem of_pinsAt {fp : List Addr} {h : Heap} {p : Addr × Obj} (hp : p ∈ pinsAt fp h) : p.1 ∈ fp /\ h.get? p.1 = some p.2 := by
 obtain ⟨b, hb, e⟩ := List.mem_filterMap.mp hp
 cases q : h.get? b with
 | none => rw [q] at e; cases e
 | some o =>
  rw [q] at e
  have e' : (b, o) = p := Option.some.inj e
  subst e'
  exact ⟨hb, q⟩
theorem Inv.pinned {pins : List (Addr × Obj)} {σ : St} {H : Hp} {s : Shared} {fp : List Addr} (I : Inv X pins σ H s) (hf : ∀ b ∈ fp, FpOk X pins H b) (ho : ∀ b ∈ fp, ∃ o, s.heap.get? b = some o /\ ∀ v, o.data ≠ .cell v) : Inv X (pins ++ pinsAt fp s.heap) σ H s :=
 I.pins_of fun p hp => (List.mem_append.mp hp).elim (fun z => I.pin p (List.mem_append_right _ z)) fun z => by
  obtain ⟨hb, e⟩ := of_pinsAt z
  obtain ⟨f0, f1, f2, _⟩ := hf p.1 hb
  obtain ⟨o, e', d⟩ := ho p.1 hb
  rw [e] at e'; cases e'
  exact ⟨e, f0, f1, f2, d⟩
theorem Inv.unpinned {pins pl : List (Addr × Obj)} {σ : St} {H : Hp} {s : Shared} (I : Inv X (pins ++ pl) σ H s) : Inv X pins σ H s := I.pins_of fun p hp => I.pin p (List.mem_append_right _ (List.mem_append_left _ hp))
theorem ps_for {iter : Expr} {body : List Stmt} {wi : TI} {g : TG} {tb : TS} {pos : Pos} (hp : PassesOwn (model X.prog X.w) X.A X.env X.xe) (hc : X.calm = true) (hi : PI X tg iter wi) (hg : PG X tg g) (hb : PSs X body tb)
  (hs : autoParam (∀ x, foldedSetIterable iter X.env x = pure x) AutoP.a2._auto_1) : PS X (.For tg iter body [] pos) (tFor wi g tb) := by
 intro pins s σ H D I h
 refine wpAny_For (thn (hi pins s σ H _ I h) fun v s1 h1 => thn h1 fun itv s2 h2 => ?_) hs
 obtain ⟨it, fp, tn, J, H2, e, I2, T, st2, f2, W, ⟨m0, w0⟩, turn⟩ := h2
 subst e
 have stat : ∀ {H' : Hp}, (∀ b ∈ fp, H' b = none) -> ∀ b ∈ fp, FpOk X pins H' b := fun hn b hb => ⟨hn b hb, (f2 b hb).2⟩
 refine codeAny_forLoop_any (fun n s' => ∃ i σ' H', Inv X pins σ' H' s' /\ tn i s'.heap /\ (∀ b ∈ fp, H' b = none) /\ W i n σ' H') ?_ m0 ⟨0, σ, H2, I2, st2, fun b hb => (f2 b hb).1, w0⟩
 rintro n s3 ⟨i, σ3, H3, I3, st3, fr3, w3⟩
 rcases turn i n σ3 H3 w3 with ⟨stop, qn⟩ | ⟨go, N, hN, step⟩
 ·refine wpAny_passesOwn hp (thn (T.done X rfl rfl rfl hc i pins s3 σ3 H3 X.xe I3 (stat fr3) st3 stop) fun r s4 ⟨hr, I4⟩ => ?_)
  subst hr
  exact wpAny_execs_nil ⟨σ3, H3, I4, qn⟩
 ·refine wpAny_passesOwn hp (thn (T.item X rfl rfl rfl hc i pins s3 σ3 H3 X.xe I3 (stat fr3) st3 go) fun r s4 ⟨u, hr, h4⟩ => ?_)
  subst hr
  refine wpAny_passesOwn hp (thn h4 fun _ s5 ⟨x, H5, I5, r5, y5, st5, fr5⟩ => ?_)
  have I5' := I5.pinned (stat fr5) (T.obj _ _ st5)
  refine wpAny_passesOwn hp (thn (hg _ s5 σ3 H5 x u _ I5' r5 (step x H5 y5)) fun _ s6 ⟨σ6, H6, I6, q6⟩ => ?_)
  refine wpAny_passesOwn hp (thn (hb _ s6 σ6 H6 _ I6 q6) fun f s7 q7 => ?_)
  have again : ∀ {σ7 : St} {H7 : Hp}, Inv X (pins ++ pinsAt fp s5.heap) σ7 H7 s7 -> N σ7 H7 -> ∃ m, m < n /\ ∃ i σ' H', Inv X pins σ' H' s7 /\ tn i s7.heap /\ (∀ b ∈ fp, H' b = none) /\ W i m σ' H' := fun {σ7 H7} I7 n7 => by
   obtain ⟨m', hm, w7⟩ := hN σ7 H7 n7
   refine ⟨m', hm, i + 1, σ7, H7, I7.unpinned, T.keep _ _ _ st5 fun b hb o e => (I7.pin (b, o) (List.mem_append_right _ (List.mem_append_right _ (mem_pinsAt hb e)))).1, fun b hb => ?_, w7⟩
   obtain ⟨o, e, d⟩ := T.obj _ _ st5 b hb
   exact (I7.pin (b, o) (List.mem_append_right _ (List.mem_append_right _ (mem_pinsAt hb e)))).2.1
  cases f with
  | next => obtain ⟨σ7, H7, I7, n7⟩ := q7; exact again I7 n7
  | cont => obtain ⟨σ7, H7, I7, n7⟩ := q7; exact again I7 n7
  | brk => obtain ⟨σ7, H7, I7, q7⟩ := q7; exact ⟨σ7, H7, I7.unpinned, q7⟩
  | ret v => obtain ⟨x7, σ7, H7, I7, r7, q7⟩ := q7; exact ⟨x7, σ7, H7, I7.unpinned, r7, q7⟩
end
abbrev R2 := V -> V -> Hp -> VK -> Prop
def OpR (X : Cx) (f : Value -> Value -> Sem Value) (r : R2) : Prop :=
 ∀ (pins : List (Addr × Obj)) (s : Shared) (σ : St) (H : Hp) (x y : V) (v u : Value) (Q : VK), Inv X pins σ H s -> RelV x v -> RelV y u -> r x y H Q →
  wpAny (model X.prog X.w) X.A (f v u) (EP X pins σ Q) X.xe s
def UnR (X : Cx) (f : Value -> Sem Value) (r : V -> Hp -> VK -> Prop) : Prop :=
 ∀ (pins : List (Addr × Obj)) (s : Shared) (σ : St) (H : Hp) (x : V) (v : Value) (Q : VK), Inv X pins σ H s -> RelV x v -> r x H Q →
  wpAny (model X.prog X.w) X.A (f v) (EP X pins σ Q) X.xe s
def CallR (X : Cx) (f : Value) (r : List V -> Hp -> VK -> Prop) : Prop :=
 ∀ (pins : List (Addr × Obj)) (s : Shared) (σ : St) (H : Hp) (xs : List V) (us : List Value) (Q : VK), Inv X pins σ H s -> Vals xs us -> r xs H Q →
  wpAny (model X.prog X.w) X.A (call f us) (EP X pins σ Q) X.xe s
def tOp (r : R2) (ta tb : TE) : TE := fun σ H Q => ta σ H fun x H1 => tb σ H1 fun y H2 => r x y H2 Q
def tUn (r : V -> Hp -> VK -> Prop) (ta : TE) : TE := fun σ H Q => ta σ H fun x H1 => r x H1 Q
def rI (C : Int -> Int -> Prop) (g : Int -> Int -> V) : R2 := fun x y H Q => ∃ i j, x = .int i /\ y = .int j /\ C i j /\ Q (g i j) H
def rI0 (g : Int -> Int -> V) : R2 := fun x y H Q => ∃ i j, x = .int i /\ y = .int j /\ Q (g i j) H
def rU (g : Int -> V) : V -> Hp -> VK -> Prop := fun x H Q => ∃ i, x = .int i /\ Q (g i) H
section
variable {X : Cx} {a b c : Expr} {ta tb tc : TE} {pos : Pos}
theorem binT (ha : PE X a ta) (hb : PE X b tb) {pins : List (Addr × Obj)} {s : Shared} {σ : St} {H : Hp} {R : V -> V -> Hp -> Prop} (I : Inv X pins σ H s)
  (h : ta σ H fun x H1 => tb σ H1 fun y H2 => R x y H2) {Q : Value -> Shared -> Prop} {f : Value -> Value -> Sem Value}
  (hf : ∀ v u s2 x y H2, Inv X pins σ H2 s2 -> RelV x v -> RelV y u -> R x y H2 -> wpAny (model X.prog X.w) X.A (f v u) Q X.xe s2) :
  wpAny (model X.prog X.w) X.A (eval a X.env) (fun v s₁ => wpAny (model X.prog X.w) X.A (eval b X.env) (fun u s₂ => wpAny (model X.prog X.w) X.A (f v u) Q X.xe s₂) X.xe s₁) X.xe s := by
 refine thn (ha pins s σ H _ I h) fun v s1 ⟨x, H1, I1, r1, q1⟩ => ?_
 refine thn (hb pins s1 σ H1 _ I1 q1) fun u s2 ⟨y, H2, I2, r2, q2⟩ => ?_
 exact hf v u s2 x y H2 I2 r1 r2 q2
theorem pe_op {op : Operator} {r : R2} (ho : OpR X (binaryOp op) r) (ha : PE X a ta) (hb : PE X b tb) : PE X (.BinOp a op b pos) (tOp r ta tb) := by
 intro pins s σ H Q I h
 exact wpAny_BinOp (binT ha hb I h fun v u s2 x y H2 I2 rx ry q => ho pins s2 σ H2 x y v u Q I2 rx ry q)
theorem pe_un {op : UnaryOp} {r : V -> Hp -> VK -> Prop} (ho : UnR X (unaryOp op) r) (ha : PE X a ta) : PE X (.UnaryOp op a pos) (tUn r ta) := by
 intro pins s σ H Q I h
 exact UnaryOp_ (thn (ha pins s σ H _ I h) fun v s1 ⟨x, H1, I1, r1, q1⟩ => ho pins s1 σ H1 x v Q I1 r1 q1)
theorem opI {f : Value -> Value -> Sem Value} {C : Int -> Int -> Prop} {g : Int -> Int -> Int}
  (rule : ∀ (i j : Int) (t u : Tok) (s : Shared) (Q : Value -> Shared -> Prop) (E : Value -> Shared -> Prop), C i j -> Q (.int (g i j) s.toks) { s with toks := s.toks + 1 } -> wpAny (model X.prog X.w) X.A (f (.int i t) (.int j u)) Q E s) :
  OpR X f (rI C fun i j => .int (g i j)) := by
 intro pins s σ H x y v u Q I rx ry h
 obtain ⟨i, j, rfl, rfl, hc, q⟩ := h
 obtain ⟨t, rfl⟩ := rx
 obtain ⟨t', rfl⟩ := ry
 exact rule i j t t' s _ _ hc ⟨.int (g i j), H, I.tok _, ⟨_, rfl⟩, q⟩
theorem opI0 {f : Value -> Value -> Sem Value} {g : Int -> Int -> Int}
  (rule : ∀ (i j : Int) (t u : Tok) (s : Shared) (Q : Value -> Shared -> Prop) (E : Value -> Shared -> Prop), Q (.int (g i j) s.toks) { s with toks := s.toks + 1 } -> wpAny (model X.prog X.w) X.A (f (.int i t) (.int j u)) Q E s) :
  OpR X f (rI0 fun i j => .int (g i j)) := by
 intro pins s σ H x y v u Q I rx ry h
 obtain ⟨i, j, rfl, rfl, q⟩ := h
 obtain ⟨t, rfl⟩ := rx
 obtain ⟨t', rfl⟩ := ry
 exact rule i j t t' s _ _ ⟨.int (g i j), H, I.tok _, ⟨_, rfl⟩, q⟩
theorem opB0 {f : Value -> Value -> Sem Value} {g : Int -> Int -> Bool}
  (rule : ∀ (i j : Int) (t u : Tok) (s : Shared) (Q : Value -> Shared -> Prop) (E : Value -> Shared -> Prop), Q (.bool (g i j)) s -> wpAny (model X.prog X.w) X.A (f (.int i t) (.int j u)) Q E s) :
  OpR X f (rI0 fun i j => .bl (g i j)) := by
 intro pins s σ H x y v u Q I rx ry h
 obtain ⟨i, j, rfl, rfl, q⟩ := h
 obtain ⟨t, rfl⟩ := rx
 obtain ⟨t', rfl⟩ := ry
 exact rule i j t t' s _ _ ⟨.bl (g i j), H, I, rfl, q⟩
def CPow (i j : Int) : Prop := 0 <= j /\ j <= 1000000 /\ i.natAbs < 2 ^ 64
def CMul (i j : Int) : Prop := (-(2 ^ 64) < i /\ i < 2 ^ 64) ∨ (-(2 ^ 64) < j /\ j < 2 ^ 64)
theorem CMul.ok {i j : Int} (h : CMul i j) : IntMulOk i j := by
 rcases h with ⟨h1, h2⟩ | ⟨h1, h2⟩
 ·exact .of_left (intBits_le_64 h1 h2)
 ·exact .of_right (intBits_le_64 h1 h2)
theorem op_add : OpR X (binaryOp .Add) (rI0 fun i j => .int (i + j)) := opI0 fun _ _ _ _ _ _ _ q => add_int q
theorem op_sub : OpR X (binaryOp .Sub) (rI0 fun i j => .int (i - j)) := opI0 fun _ _ _ _ _ _ _ q => sub_int q
theorem op_mul : OpR X (binaryOp .Mult) (rI CMul fun i j => .int (i * j)) := opI fun _ _ _ _ _ _ _ hc q => mul_int q hc.ok
theorem op_mod : OpR X (binaryOp .Mod) (rI (fun _ j => 0 < j) fun i j => .int (i % j)) := opI fun i j _ _ _ _ _ hc q => by
 have h1 : (0 : Int) < j := hc
 exact mod_int' (by omega) (by rw [Int.fmod_eq_emod_of_nonneg i (by omega)]; exact q)
theorem op_pow : OpR X (binaryOp .Pow) (rI CPow fun i j => .int (i ^ j.toNat)) := opI fun _ _ _ _ _ _ _ hc q => pow_int_small hc.1 hc.2.1 hc.2.2 q
theorem op_shl : OpR X (binaryOp .LShift) (rI CPow fun i j => .int (i * 2 ^ j.toNat)) := opI fun _ _ _ _ _ _ _ hc q => lshift_int_small hc.1 hc.2.1 hc.2.2 q
theorem unI {f : Value -> Sem Value} {g : Int -> Int}
  (rule : ∀ (i : Int) (t : Tok) (s : Shared) (Q : Value -> Shared -> Prop) (E : Value -> Shared -> Prop), Q (.int (g i) s.toks) { s with toks := s.toks + 1 } -> wpAny (model X.prog X.w) X.A (f (.int i t)) Q E s) :
  UnR X f (rU fun i => .int (g i)) := by
 intro pins s σ H x v Q I rx h
 obtain ⟨i, rfl, q⟩ := h
 obtain ⟨t, rfl⟩ := rx
 exact rule i t s _ _ ⟨.int (g i), H, I.tok _, ⟨_, rfl⟩, q⟩
theorem un_neg : UnR X (unaryOp .USub) (rU fun i => .int (-i)) := unI fun _ _ _ _ _ q => neg_int q
end
def scal : V -> V -> Bool
 | .non, .non => true | .non, .int _ => true | .int _, .non => true | .non, .bl _ => true | .bl _, .non => true | .non, .str _ => true | .str _, .non => true
 | .int _, .int _ => true | .bl _, .bl _ => true | .str _, .str _ => true | .byt _, .byt _ => true
 | .int _, .str _ => true | .str _, .int _ => true | .bl _, .str _ => true | .str _, .bl _ => true
 | _, _ => false
def rEq : R2 := fun x y H Q => scal x y = true /\ Q (.bl (decide (x = y))) H
def rNe : R2 := fun x y H Q => scal x y = true /\ Q (.bl (!decide (x = y))) H
theorem dec_int {i j : Int} : decide (V.int i = V.int j) = (i == j) := by
 rw [Bool.eq_iff_iff]
 simp
theorem dec_bl {i j : Bool} : decide (V.bl i = V.bl j) = (i == j) := by
 rw [Bool.eq_iff_iff]
 simp
theorem dec_str {i j : Str} : decide (V.str i = V.str j) = (i == j) := by
 rw [Bool.eq_iff_iff]
 simp
theorem dec_byt {i j : Array UInt8} : decide (V.byt i = V.byt j) = (i.toList == j.toList) := by
 rw [Bool.eq_iff_iff]
 cases i
 cases j
 simp
section
variable {X : Cx} {a b c : Expr} {ta tb tc : TE} {pos : Pos}
theorem fin_bl {pins : List (Addr × Obj)} {σ : St} {H : Hp} {s : Shared} {Q : VK} {k k' : Bool} (I : Inv X pins σ H s) (q : Q (.bl k) H) (e : k = k') : EP X pins σ Q (.bool k') s := by
 subst e
 exact ⟨.bl k, H, I, rfl, q⟩
theorem op_eq : OpR X (compareOp .Eq) rEq := by
 intro pins s σ H x y v u Q I rx ry h
 obtain ⟨hs, q⟩ := h
 cases x with
 | non =>
  cases rx
  cases y with
  | non => cases ry; exact PySem.EqNone.eq_none_none (fin_bl I q (by simp))
  | bl j => cases ry; exact PySem.EqNone.eq_none_bool (fin_bl I q (by simp))
  | int j => obtain ⟨t', rfl⟩ := ry; exact PySem.EqNone.eq_none_int (fin_bl I q (by simp))
  | str j => obtain ⟨t', rfl⟩ := ry; exact PySem.EqNone.eq_none_str (fin_bl I q (by simp))
  | _ => exact absurd (show false = true from hs) Bool.false_ne_true
 | bl i =>
  cases rx
  cases y with
  | non => cases ry; exact PySem.EqNone.eq_bool_none (fin_bl I q (by simp))
  | bl j => cases ry; exact eq_bool (fin_bl I q dec_bl)
  | str j => obtain ⟨t', rfl⟩ := ry; exact PySem.EqMixed.eq_bool_str (fin_bl I q (by simp))
  | _ => exact absurd (show false = true from hs) Bool.false_ne_true
 | int i =>
  obtain ⟨t, rfl⟩ := rx
  cases y with
  | non => cases ry; exact PySem.EqNone.eq_int_none (fin_bl I q (by simp))
  | int j => obtain ⟨t', rfl⟩ := ry; exact eq_int (fin_bl I q dec_int)
  | str j => obtain ⟨t', rfl⟩ := ry; exact PySem.EqMixed.eq_int_str (fin_bl I q (by simp))
  | _ => exact absurd (show false = true from hs) Bool.false_ne_true
 | str i =>
  obtain ⟨t, rfl⟩ := rx
  cases y with
  | non => cases ry; exact PySem.EqNone.eq_str_none (fin_bl I q (by simp))
  | bl j => cases ry; exact PySem.EqMixed.eq_str_bool (fin_bl I q (by simp))
  | int j => obtain ⟨t', rfl⟩ := ry; exact PySem.EqMixed.eq_str_int (fin_bl I q (by simp))
  | str j => obtain ⟨t', rfl⟩ := ry; exact eq_str (fin_bl I q dec_str)
  | _ => exact absurd (show false = true from hs) Bool.false_ne_true
 | byt i =>
  obtain ⟨t, rfl⟩ := rx
  cases y with
  | byt j => obtain ⟨t', rfl⟩ := ry; exact PySem.W.eq_bytes (fin_bl I q dec_byt)
  | _ => exact absurd (show false = true from hs) Bool.false_ne_true
 | _ => cases y <;> exact absurd (show false = true from hs) Bool.false_ne_true
theorem op_ne : OpR X (compareOp .NotEq) rNe := by
 intro pins s σ H x y v u Q I rx ry h
 obtain ⟨hs, q⟩ := h
 cases x with
 | non =>
  cases rx
  cases y with
  | non => cases ry; exact PySem.EqNone.ne_none_none (fin_bl I q (by simp))
  | bl j => cases ry; exact PySem.EqNone.ne_none_bool (fin_bl I q (by simp))
  | int j => obtain ⟨t', rfl⟩ := ry; exact PySem.EqNone.ne_none_int (fin_bl I q (by simp))
  | str j => obtain ⟨t', rfl⟩ := ry; exact PySem.EqNone.ne_none_str (fin_bl I q (by simp))
  | _ => exact absurd (show false = true from hs) Bool.false_ne_true
 | bl i =>
  cases rx
  cases y with
  | non => cases ry; exact PySem.EqNone.ne_bool_none (fin_bl I q (by simp))
  | bl j => cases ry; exact ne_bool (fin_bl I q (congrArg not dec_bl))
  | str j => obtain ⟨t', rfl⟩ := ry; exact PySem.EqMixed.ne_bool_str (fin_bl I q (by simp))
  | _ => exact absurd (show false = true from hs) Bool.false_ne_true
 | int i =>
  obtain ⟨t, rfl⟩ := rx
  cases y with
  | non => cases ry; exact PySem.EqNone.ne_int_none (fin_bl I q (by simp))
  | int j => obtain ⟨t', rfl⟩ := ry; exact ne_int (fin_bl I q (congrArg not dec_int))
  | str j => obtain ⟨t', rfl⟩ := ry; exact PySem.EqMixed.ne_int_str (fin_bl I q (by simp))
  | _ => exact absurd (show false = true from hs) Bool.false_ne_true
 | str i =>
  obtain ⟨t, rfl⟩ := rx
  cases y with
  | non => cases ry; exact PySem.EqNone.ne_str_none (fin_bl I q (by simp))
  | bl j => cases ry; exact PySem.EqMixed.ne_str_bool (fin_bl I q (by simp))
  | int j => obtain ⟨t', rfl⟩ := ry; exact PySem.EqMixed.ne_str_int (fin_bl I q (by simp))
  | str j => obtain ⟨t', rfl⟩ := ry; exact ne_str (fin_bl I q (congrArg not dec_str))
  | _ => exact absurd (show false = true from hs) Bool.false_ne_true
 | byt i =>
  obtain ⟨t, rfl⟩ := rx
  cases y with
  | byt j => obtain ⟨t', rfl⟩ := ry; exact PySem.W.ne_bytes (fin_bl I q (congrArg not dec_byt))
  | _ => exact absurd (show false = true from hs) Bool.false_ne_true
 | _ => cases y <;> exact absurd (show false = true from hs) Bool.false_ne_true
theorem op_lt : OpR X (compareOp .Lt) (rI0 fun i j => .bl (decide (i < j))) := opB0 fun _ _ _ _ _ _ _ q => lt_int q
theorem op_le : OpR X (compareOp .LtE) (rI0 fun i j => .bl (decide (i <= j))) := opB0 fun _ _ _ _ _ _ _ q => le_int q
theorem op_gt : OpR X (compareOp .Gt) (rI0 fun i j => .bl (decide (j < i))) := opB0 fun _ _ _ _ _ _ _ q => gt_int q
theorem op_ge : OpR X (compareOp .GtE) (rI0 fun i j => .bl (decide (j <= i))) := opB0 fun _ _ _ _ _ _ _ q => ge_int q
theorem op_lt_str : OpR X (compareOp .Lt) (fun x y H Q => ∃ i j, x = .str i /\ y = .str j /\ Q (.bl (decide (i.cps.toList < j.cps.toList))) H) := by
 intro pins s σ H x y v u Q I rx ry h
 obtain ⟨i, j, rfl, rfl, q⟩ := h
 obtain ⟨t, rfl⟩ := rx
 obtain ⟨t', rfl⟩ := ry
 exact lt_str (fin_bl I q rfl)
theorem op_in_str : OpR X (compareOp .In) (fun x y H Q => ∃ i j, x = .str i /\ y = .str j /\ Q (.bl (!(Builtin.Str.occurrences j i 0 j.length 1).isEmpty)) H) := by
 intro pins s σ H x y v u Q I rx ry h
 obtain ⟨i, j, rfl, rfl, q⟩ := h
 obtain ⟨t, rfl⟩ := rx
 obtain ⟨t', rfl⟩ := ry
 exact in_str (fin_bl I q rfl)
theorem op_isN : OpR X (compareOp .Is) (fun x y H Q => y = .non /\ Q (.bl (decide (x = .non))) H) := by
 intro pins s σ H x y v u Q I rx ry h
 obtain ⟨rfl, q⟩ := h
 cases ry
 refine is_none_gen (fin_bl I q ?_)
 cases x <;> first
  | (cases rx; rfl)
  | (obtain ⟨t, rfl⟩ := rx; rfl)
theorem OpR.or {f : Value -> Value -> Sem Value} {r r' : R2} (h : OpR X f r) (h' : OpR X f r') : OpR X f (fun x y H Q => r x y H Q ∨ r' x y H Q) := by
 intro pins s σ H x y v u Q I rx ry q
 rcases q with q | q
 ·exact h pins s σ H x y v u Q I rx ry q
 ·exact h' pins s σ H x y v u Q I rx ry q
theorem nomark (b : Expr) {op : CmpOp} (h : autoParam (op ≠ .In) AutoP.a1._auto_1) (h2 : autoParam (op ≠ .NotIn) AutoP.a1._auto_1) : behindInMarks op b = false := by
 have e1 : (op == CmpOp.In) = false := by cases op <;> first | rfl | exact absurd rfl h
 have e2 : (op == CmpOp.NotIn) = false := by cases op <;> first | rfl | exact absurd rfl h2
 cases b <;> simp [behindInMarks, e1, e2]
theorem pe_cmpR {op : CmpOp} {r : R2} (ho : OpR X (compareOp op) r) (ha : PE X a ta) (hb : PE X b tb) (hm : behindInMarks op b = false) : PE X (.Compare a [op] [b] pos) (tOp r ta tb) := by
 intro pins s σ H Q I h
 exact wpAny_Compare1 (binT ha hb I h fun v u s2 x y H2 I2 rx ry q => ho pins s2 σ H2 x y v u Q I2 rx ry q) hm
def tTest (t : TE) : TT := fun σ H Q => t σ H fun x H' => ∃ k, x = .bl k /\ Q k H'
theorem pt_cmpR {op : CmpOp} {r : R2} (ho : OpR X (compareOp op) r) (ha : PE X a ta) (hb : PE X b tb) (hm : behindInMarks op b = false) : PT X (.Compare a [op] [b] pos) (tTest (tOp r ta tb)) := by
 intro pins s σ H Q I h
 refine wpAny_isTrue_Compare1 (thn (ha pins s σ H _ I h) fun v s1 ⟨x, H1, I1, r1, q1⟩ => thn (hb pins s1 σ H1 _ I1 q1) fun u s2 ⟨y, H2, I2, r2, q2⟩ =>
  thn (ho pins s2 σ H2 x y v u _ I2 r1 r2 q2) fun c s3 ⟨z, H3, I3, r3, k, e, q3⟩ => ?_) hm
 subst e
 cases r3
 exact wpAny_truthy_bool ⟨H3, I3, q3⟩
def tChain (r r' : R2) (ta tb tc : TE) : TE := fun σ H Q => ta σ H fun x H1 => tb σ H1 fun y H2 => r x y H2 fun z H3 => ∃ k, z = .bl k ∧
 (if k = true then tc σ H3 fun w' H4 => r' y w' H4 Q else Q (.bl false) H3)
theorem pe_chain {op op' : CmpOp} {r r' : R2} (ho : OpR X (compareOp op) r) (ho' : OpR X (compareOp op') r') (ha : PE X a ta) (hb : PE X b tb) (hc : PE X c tc)
  (hm : autoParam (lastMarks [op, op'] [b, c] = false) AutoP.a4._auto_1) : PE X (.Compare a [op, op'] [b, c] pos) (tChain r r' ta tb tc) := by
 intro pins s σ H Q I h
 refine Compare_chain (thn (ha pins s σ H _ I h) fun v s1 ⟨x, H1, I1, r1, q1⟩ => chain_link (thn (hb pins s1 σ H1 _ I1 q1) fun u s2 ⟨y, H2, I2, r2, q2⟩ =>
  thn (ho pins s2 σ H2 x y v u _ I2 r1 r2 q2) fun d s3 ⟨z, H3, I3, r3, k, e, q3⟩ => ?_)) hm
 subst e
 cases r3
 refine wpAny_truthy_bool ?_
 cases k with
 | false => exact ite_ff ⟨.bl false, H3, I3, rfl, q3⟩
 | true => exact ite_tt (chain_last (thn (hc pins s3 σ H3 _ I3 q3) fun w' s4 ⟨z', H4, I4, r4, q4⟩ => ho' pins s4 σ H4 y z' u w' Q I4 r2 r4 q4))
theorem pt_chain {op op' : CmpOp} {r r' : R2} (ho : OpR X (compareOp op) r) (ho' : OpR X (compareOp op') r') (ha : PE X a ta) (hb : PE X b tb) (hc : PE X c tc)
  (hm : autoParam (lastMarks [op, op'] [b, c] = false) AutoP.a4._auto_1) : PT X (.Compare a [op, op'] [b, c] pos) (tTest (tChain r r' ta tb tc)) := by
 intro pins s σ H Q I h
 refine isTrue_chain (thn (ha pins s σ H _ I h) fun v s1 ⟨x, H1, I1, r1, q1⟩ => test_link (thn (hb pins s1 σ H1 _ I1 q1) fun u s2 ⟨y, H2, I2, r2, q2⟩ =>
  thn (ho pins s2 σ H2 x y v u _ I2 r1 r2 q2) fun d s3 ⟨z, H3, I3, r3, k, e, q3⟩ => ?_)) hm
 subst e
 cases r3
 refine wpAny_truthy_bool ?_
 cases k with
 | false =>
  obtain ⟨k', e', q'⟩ := q3
  cases e'
  exact ite_ff ⟨H3, I3, q'⟩
 | true =>
  refine ite_tt (test_last (thn (hc pins s3 σ H3 _ I3 q3) fun w' s4 ⟨z', H4, I4, r4, q4⟩ => thn (ho' pins s4 σ H4 y z' u w' _ I4 r2 r4 q4) fun d' s5 ⟨z2, H5, I5, r5, k2, e2, q5⟩ => ?_))
  subst e2
  cases r5
  exact wpAny_truthy_bool ⟨H5, I5, q5⟩
theorem line63 : (sizeLine : Nat) < 2 ^ 63 := by rw [sizeLine_eq]; decide
theorem op_add_str : OpR X (binaryOp .Add) (fun x y H Q => ∃ i j, x = .str i /\ y = .str j /\ i.length + j.length <= sizeLine /\ Q (.str (i ++ j)) H) := by
 intro pins s σ H x y v u Q I rx ry h
 obtain ⟨i, j, rfl, rfl, hz, q⟩ := h
 obtain ⟨t, rfl⟩ := rx
 obtain ⟨t', rfl⟩ := ry
 exact add_str (fun t' tk => ⟨.str (i ++ j), H, I.tok _, ⟨_, rfl⟩, q⟩) hz
theorem vals1 {x : V} {us : List Value} (r : Vals [x] us) : ∃ u, us = [u] /\ RelV x u := by
 cases r with
 | cons r1 r2 => cases r2; exact ⟨_, rfl, r1⟩
theorem vals2 {x y : V} {us : List Value} (r : Vals [x, y] us) : ∃ u w', us = [u, w'] /\ RelV x u /\ RelV y w' := by
 cases r with
 | cons r1 r2 =>
  cases r2 with
  | cons r3 r4 => cases r4; exact ⟨_, _, rfl, r1, r3⟩
theorem call_abs : CallR X (.builtin "abs") (fun xs H Q => ∃ i, xs = [.int i] /\ Q (.int (if i < 0 then -i else i)) H) := by
 intro pins s σ H xs us Q I r h
 obtain ⟨i, rfl, q⟩ := h
 obtain ⟨u, rfl, t, rfl⟩ := vals1 r
 exact call_abs_int fun u tk => ⟨.int (if i < 0 then -i else i), H, I.tok _, ⟨_, rfl⟩, q⟩
theorem call_min2 (hc : X.calm = true) : CallR X (.builtin "min") (fun xs H Q => ∃ i j, xs = [.int i, .int j] /\ Q (.int (if j < i then j else i)) H) := by
 intro pins s σ H xs us Q I r h
 obtain ⟨i, j, rfl, q⟩ := h
 obtain ⟨u, w', rfl, ⟨t, rfl⟩, ⟨t', rfl⟩⟩ := vals2 r
 refine min_two_ints (I.ok.hd hc) fun h' tk k => ⟨_, H, I.kept k, ?_, q⟩
 by_cases hj : j < i
 ·rw [if_pos hj, if_pos hj]; exact ⟨_, rfl⟩
 ·rw [if_neg hj, if_neg hj]; exact ⟨_, rfl⟩
theorem call_int1 : CallR X (.type "int") (fun xs H Q => (∃ i, xs = [.int i] /\ Q (.int i) H) ∨ ∃ k, xs = [.bl k] /\ Q (.int (if k then 1 else 0)) H) := by
 intro pins s σ H xs us Q I r h
 rcases h with ⟨i, rfl, q⟩ | ⟨k, rfl, q⟩
 ·obtain ⟨u, rfl, t, rfl⟩ := vals1 r
  exact call_int_int ⟨.int i, H, I, ⟨_, rfl⟩, q⟩
 ·obtain ⟨u, rfl, r1⟩ := vals1 r
  cases r1
  exact call_int_bool ⟨.int (if k then 1 else 0), H, I.tok _, ⟨_, rfl⟩, q⟩
theorem call_str_int : CallR X (.type "str") (fun xs H Q => ∃ i, xs = [.int i] /\ i.natAbs.log2 < 1920 /\ Q (.str (toString i)) H) := by
 intro pins s σ H xs us Q I r h
 obtain ⟨i, rfl, hz, q⟩ := h
 obtain ⟨u, rfl, t, rfl⟩ := vals1 r
 exact PySem.P.str_of_int hz ⟨.str _, H, I.tok _, ⟨_, rfl⟩, q⟩
end
structure ObjM (h : Heap) (x dx C : Addr) (mA : Str -> Option Value) : Prop where
 obj : h.get? x = some (PySem.W.instObj C dx)
 ns : h.Ns1 dx mA
 ne : dx ≠ x
theorem lookIn_ns {h : Heap} {dx : Addr} {mA : Str -> Option Value} (n : h.Ns1 dx mA) : ∃ od, h.get? dx = some od /\ ∀ name, PySem.W.lookIn name od = some (mA name) := by
 obtain ⟨o, es, ep, ho, hd, hk, _, hm⟩ := n
 refine ⟨o, ho, fun name => ?_⟩
 have e := hm name
 unfold nsFind findBy at e
 rw [<- Array.find?_toList] at e
 unfold PySem.W.lookIn
 rw [hd]
 dsimp only
 split
 ·rename_i y q
  rw [q] at e
  exact congrArg some e
 ·rename_i q
  rw [q] at e
  have a : es.toList.any (·.refKey) = false := by
   rw [List.any_eq_false]
   intro y hy
   obtain ⟨z, t, hkey⟩ := hk y (Array.mem_toList_iff.mp hy)
   simp [DictEntry.refKey, hkey]
  have a' : ¬ es.toList.any (·.refKey) = true := by rw [a]; exact Bool.false_ne_true
  rw [if_neg a']
  exact congrArg some e
theorem ObjM.look {h : Heap} {x dx C : Addr} {mA : Str -> Option Value} (I : ObjM h x dx C mA) : ∃ od, PySem.W.InstAt h x (PySem.W.instObj C dx) C (some od) /\ ∀ name, PySem.W.lookIn name od = some (mA name) :=
 let ⟨od, ho, hl⟩ := lookIn_ns I.ns
 ⟨od, ⟨I.obj, rfl, rfl, ho⟩, hl⟩
section
variable {prog : Program} {w : World} {A : Around} {E : Value -> Shared -> Prop} {s : Shared} {K : PySem.W.Frag} {x dx C f : Addr} {mA : Str -> Option Value} {name : Str} {v : Value}
end
theorem RelO.some_of {v : V} {o : Option Value} (r : RelO (some v) o) : ∃ u, o = some u /\ RelV v u := by
 cases o with
 | none => exact (show False from r).elim
 | some u => exact ⟨u, rfl, r⟩
section
variable {P : Program} {w : World} {H H' : Hp} {h h' : Heap} {a C dx : Addr} {fs fs' : List (Str × V)}
theorem ins_get (hok : HOk P w H h) (e : H a = some (.ins C dx fs)) : ∃ mA, ObjM h a dx C mA /\ (∀ f, RelO (fs.lookup f) (mA f)) /\ PySem.Within mA (fs.map (·.1)) /\ fs.length <= 1000 /\ H dx = some (.own a) := by
 obtain ⟨d, z, ne, ob, mA, n, r, q⟩ := (show ObjOk P w H h a (.ins C dx fs) from hok a _ e)
 exact ⟨mA, ⟨ob, n, ne⟩, r, q, z, d⟩
end
structure Cls (K : PySem.W.Frag) (C : Addr) : Prop where
 pg : PySem.W.plainGet K C Str.empty = true
 hd : PySem.W.hasDictIn K C = true
 po : PySem.W.plainOver K C = true
 sa : PySem.W.findIn K (.ref C) "__setattr__" = some (some (.builtin "object.__setattr__"))
theorem Cls.get {K : PySem.W.Frag} {C : Addr} (c : Cls K C) (f : Str) : PySem.W.plainGet K C f = true := c.pg
section
variable {X : Cx} {pins : List (Addr × Obj)} {σ : St} {H : Hp} {s : Shared} {a C dx : Addr} {fs : List (Str × V)} {f : Str} {v : V} {A : Around} {E : Value -> Shared -> Prop}
end
section
variable {X : Cx} {pins : List (Addr × Obj)} {σ : St} {H : Hp} {s : Shared} {A : Around} {E : Value -> Shared -> Prop} {Q : Value -> Shared -> Prop} {c : Value} {b : Bool}
inductive TyOf (K : PySem.W.Frag) (H : Hp) : V -> Value -> Prop where
 | non : TyOf K H .non (.type "NoneType")
 | bl (x : Bool) : TyOf K H (.bl x) (.type "bool")
 | int (i : Int) : TyOf K H (.int i) (.type "int")
 | str (x : Str) : TyOf K H (.str x) (.type "str")
 | flt (x : UInt64) : TyOf K H (.flt x) (.type "float")
 | lst {a : Addr} {xs : List V} (e : H a = some (.lst xs)) : TyOf K H (.ref a) (.type "list")
 | frz {a : Addr} {o : Obj} {xs : List V} (e : H a = some (.frz o (.lst xs))) : TyOf K H (.ref a) (.type "list")
 | tup {a : Addr} {xs : List V} (e : H a = some (.tup xs)) : TyOf K H (.ref a) (.type "tuple")
 | dK {a : Addr} {kvs : List (Key × V)} (e : H a = some (.dK kvs)) : TyOf K H (.ref a) (.type "dict")
 | dT {a : Addr} {kvs : List (List Key × V)} (e : H a = some (.dT kvs)) : TyOf K H (.ref a) (.type "dict")
 | ins {a C dx : Addr} {fs : List (Str × V)} (e : H a = some (.ins C dx fs)) (cl : Cls K C) (ha : PySem.W.findIn K (.ref C) "__class__" = some (some (.builtin "object.__class__")))
   (hn : PySem.W.specialIn K (.builtin "object.__class__") "__get__" = some (some (.builtin "getset_descriptor.__get__"))) (htk : PySem.W.takesIn K (.builtin "object.__class__") = some true)
   (hm : PySem.W.mroIn K C (.type "object") = some true) : TyOf K H (.ref a) (.ref C)
theorem isinst_ok {x : V} {u t : Value} (I : Inv X pins σ H s) (rx : RelV x u) (ty : TyOf X.K H x t) (e : PySem.W.kitOne X.K t c = some b) (h : ∀ tk, Q (.bool b) { s with toks := tk }) :
  wpAny (model X.prog X.w) A (call (.builtin "isinstance") [u, c]) Q E s := by
 cases ty with
 | non => cases (show u = Value.none from rx); exact PySem.W.kia_one PySem.W.kitx_none I.kIn True.intro e (fun z => nomatch z) h
 | bl y => cases (show u = Value.bool y from rx); exact PySem.W.kia_one PySem.W.kitx_bool I.kIn True.intro e (fun z => nomatch z) h
 | int i => obtain ⟨t, q⟩ := (show ∃ t, u = Value.int i t from rx); cases q; exact PySem.W.kia_one PySem.W.kitx_int I.kIn True.intro e (fun z => nomatch z) h
 | str y => obtain ⟨t, q⟩ := (show ∃ t, u = Value.str y t from rx); cases q; exact PySem.W.kia_one PySem.W.kitx_str I.kIn True.intro e (fun z => nomatch z) h
 | flt y => obtain ⟨t, q⟩ := (show ∃ t, u = Value.float y t from rx); cases q; exact PySem.W.kia_one PySem.W.kitx_float I.kIn True.intro e (fun z => nomatch z) h
 | @lst a xs ea =>
  cases (show u = Value.ref a from rx)
  obtain ⟨_, _, n, _, h1⟩ := (show ObjOk X.prog X.w H s.heap a (.lst xs) from I.hok a _ ea)
  exact PySem.W.kia_one PySem.W.kitx_list I.kIn ⟨_, h1, rfl⟩ e (fun z => nomatch z) h
 | @frz a ob xs ea =>
  cases (show u = Value.ref a from rx)
  obtain ⟨_, _, _, n, _, h1⟩ := (show ObjOk X.prog X.w H s.heap a (.frz ob (.lst xs)) from I.hok a _ ea)
  exact PySem.W.kia_one PySem.W.kitx_list I.kIn ⟨_, h1, rfl⟩ e (fun z => nomatch z) h
 | @tup a xs ea =>
  cases (show u = Value.ref a from rx)
  obtain ⟨_, _, _, p, _⟩ := (show ObjOk X.prog X.w H s.heap a (.tup xs) from I.hok a _ ea)
  obtain ⟨o, h1, h2, _⟩ := p
  exact PySem.W.kia_one PySem.W.kitx_tuple I.kIn ⟨o, h1, h2⟩ e (fun z => nomatch z) h
 | @dK a kvs ea =>
  cases (show u = Value.ref a from rx)
  obtain ⟨_, _, vs, _, p⟩ := (show ObjOk X.prog X.w H s.heap a (.dK kvs) from I.hok a _ ea)
  obtain ⟨o, es, ep, h1, h2, _⟩ := p
  exact PySem.W.kia_one PySem.W.kitx_dict I.kIn ⟨o, h1, h2.1⟩ e (fun z => nomatch z) h
 | @dT a kvs ea =>
  cases (show u = Value.ref a from rx)
  obtain ⟨_, _, xs, _, o, es, ep, h1, h2, _⟩ := (show ObjOk X.prog X.w H s.heap a (.dT kvs) from I.hok a _ ea)
  exact PySem.W.kia_one PySem.W.kitx_dict I.kIn ⟨o, h1, h2.1⟩ e (fun z => nomatch z) h
 | @ins a C dx fs ea cl ha hn htk hm =>
  cases (show u = Value.ref a from rx)
  obtain ⟨mA, O, _⟩ := ins_get I.hok ea
  obtain ⟨od, J, _⟩ := O.look
  exact PySem.W.kia_one (PySem.W.kitx_own (cl.get _) cl.hd ha hn htk hm) I.kIn J e (fun z => nomatch z) h
end
structure Room (k : Nat) (A : Around) : Prop where
 hd : A.handled = none
 dp : A.depth + 3 * k + 5 < recursionLimit
 un : A.units + 16 * k + 200 < cLine
 gd : A.guards = some []
theorem Room.mono {j k : Nat} {A : Around} (r : Room k A) (h : j <= k) : Room j A := ⟨r.hd, by have := r.dp; omega, by have := r.un; omega, r.gd⟩
theorem Room.deeper {k : Nat} {A : Around} (r : Room (k + 1) A) (env : Env) : Room k (A.deeper env) :=
 ⟨r.hd, by have := r.dp; show A.depth + 1 + 3 * k + 5 < _; omega, by have := r.un; show A.units + 3 + 16 * k + 200 < _; omega, r.gd⟩
theorem Room.depth {k : Nat} {A : Around} (r : Room k A) : A.depth < recursionLimit := by have := r.dp; omega
theorem Room.units {k : Nat} {A : Around} (r : Room k A) : A.units + 64 < cLine := by have := r.un; omega
def tNil : TA := fun _ H Q => Q [] H
def tCons (ta : TE) (tr : TA) : TA := fun σ H Q => ta σ H fun x H1 => tr σ H1 fun xs H2 => Q (x :: xs) H2
section
variable {X : Cx} {e : Expr} {es : List Expr} {te : TE} {t : TA} {pos : Pos}
theorem pa_nil : PA X [] tNil := fun _ _ _ _ H Q I h => Calls.spliced_nil ⟨[], H, I, .nil, h⟩
theorem pa_cons (ha : PE X e te) (hr : PA X es t) (hs : autoParam (starEach (e :: es) X.env = (false, eval e X.env) :: starEach es X.env) AutoP.a3._auto_1) : PA X (e :: es) (tCons te t) := by
 intro pos pins s σ H Q I h
 rw [hs]
 show wpAny _ _ (spliced ((false, eval e X.env) :: backTo pos (starEach es X.env))) _ _ s
 refine Calls.spliced_cons (thn (ha pins s σ H _ I h) fun u s1 ⟨x, H1, I1, r1, q1⟩ => ?_)
 exact thn (hr pos pins s1 σ H1 _ I1 q1) fun us s2 ⟨xs, H2, I2, r2, q2⟩ => ⟨x :: xs, H2, I2, .cons r1 r2, q2⟩
def tTup (t : TA) : TE := fun σ H Q => t σ H fun xs H1 => xs.length <= sizeLine /\ ∀ p, H1 p = none -> Q (.ref p) (upd H1 p (.tup xs))
def tLst (t : TA) : TE := fun σ H Q => t σ H fun xs H1 => xs.length <= sizeLine /\ ∀ p, H1 p = none -> Q (.ref p) (upd H1 p (.lst xs))
theorem pe_tup {x1} (h : PA X es t) : PE X (.Tuple es x1 pos) (tTup t) := by
 intro pins s σ H Q I hq
 refine wpAny_Tuple_spliced (thn (h pos pins s σ H _ I hq) fun us s1 ⟨xs, H1, I1, r, z, q⟩ => ⟨by rw [<- r.length]; exact z, ?_⟩)
 have hf : H1 s1.heap.objs.size = none := I1.hok.fresh (Nat.le_refl _)
 refine ⟨.ref s1.heap.objs.size, upd H1 s1.heap.objs.size (.tup xs), I1.laid (t' := s1.toks) (fun b u e => Heap.get?_push_of_some _ e) (Nat.le_refl _) ?_, rfl, q _ hf⟩
 exact ⟨z, us, r, ⟨_, Heap.get?_push_size _ rfl, rfl, _, rfl⟩, _, Heap.get?_push_size _ rfl, rfl⟩
theorem pe_lst (h : PA X es t) : PE X (.List es pos) (tLst t) := by
 intro pins s σ H Q I hq
 refine wpAny_List_spliced (thn (h pos pins s σ H _ I hq) fun us s1 ⟨xs, H1, I1, r, z, q⟩ => ⟨by rw [<- r.length]; exact z, ?_⟩)
 have hf : H1 s1.heap.objs.size = none := I1.hok.fresh (Nat.le_refl _)
 refine ⟨.ref s1.heap.objs.size, upd H1 s1.heap.objs.size (.lst xs), I1.laid (t' := s1.toks) (fun b u e => Heap.get?_push_of_some _ e) (Nat.le_refl _) ?_, rfl, q _ hf⟩
 exact ⟨z, us, 0, r, Heap.get?_push_size _ rfl⟩
end
abbrev Sp := List V -> Hp -> VK -> XK -> Prop
abbrev CXT := List Env -> Hp -> Shared -> XK -> Value -> Shared -> Prop
structure Env0 (P : Program) (w : World) (K : PySem.W.Frag) (mg : Str -> Option Value) (base : Heap) (A : Around) (outer : List Env) (s : Shared) (H : Hp) : Prop where
 frames : A.frames = some outer
 mod : Mod K mg base
 bs : ∀ b o, base.get? b = some o -> s.heap.get? b = some o /\ H b = none
 bsz : base.objs.size <= s.heap.objs.size
 funs : s.heap.FunFrames base outer
 frf : ∀ b ∈ frs outer, H b = none
 hok : HOk P w H s.heap
 bare : AllBare s.gens
def CE (outer : List Env) (P : Program) (w : World) (H : Hp) (s : Shared) (Q : VK) (u : Value) (s' : Shared) : Prop :=
 ∃ v H', s'.os = s.os /\ AllBare s'.gens /\ Un (frs outer) [] H H' s.heap s'.heap /\ HOk P w H' s'.heap /\ RelV v u /\ Q v H'
def CR (CX : CXT) (outer : List Env) (P : Program) (w : World) (H : Hp) (s : Shared) (Q : VK) (E : XK) (r : Result) (s' : Shared) : Prop :=
 match r with
 | .ok (.ret u) => CE outer P w H s Q u s'
 | .ok _ => False
 | .error e => CX outer H s E e s'
structure FnOk (P : Program) (w : World) (K : PySem.W.Frag) (mg : Str -> Option Value) (base : Heap) (CX : CXT) (k : Nat) (f : Addr) (fd : FuncData) (ps : List Str) (sp : Sp) : Prop where
 len : ∀ vs H Q E, sp vs H Q E -> vs.length = ps.length
 run : ∀ (A : Around) (outer : List Env) (s : Shared) (H : Hp) (args : Args) (us : List Value) (vs : List V) (Q : VK) (E : XK), Room k A -> Env0 P w K mg base A outer s H -> BindsTo s fd args (ps.zip us) -> Vals vs us -> sp vs H Q E →
  codeAny (model P w) A (.call (.ref f) args) (CR CX outer P w H s Q E) s
theorem FnOk.imp {P : Program} {w : World} {K : PySem.W.Frag} {mg : Str -> Option Value} {base : Heap} {CX : CXT} {k : Nat} {f : Addr} {fd : FuncData} {ps : List Str} {sp sp' : Sp} (F : FnOk P w K mg base CX k f fd ps sp)
  (h : ∀ vs H Q E, sp' vs H Q E -> sp vs H Q E) : FnOk P w K mg base CX k f fd ps sp' :=
 ⟨fun vs H Q E q => F.len vs H Q E (h _ _ _ _ q), fun A outer s H args us vs Q E hr he hb hv hs => F.run A outer s H args us vs Q E hr he hb hv (h _ _ _ _ hs)⟩
section
variable {X : Cx} {pins : List (Addr × Obj)} {σ : St} {H : Hp} {s s' : Shared}
theorem Inv.env0 (I : Inv X pins σ H s) : Env0 X.prog X.w X.K X.mg X.base X.A X.stack s H :=
 ⟨I.ok.frames, I.ok.mod, I.bs, Nat.le_trans I.ok.bsz I.sz, I.stack, I.stkFree, I.hok, I.bare⟩
theorem Inv.after {Q : VK} {u : Value} (I : Inv X pins σ H s) (h : CE X.stack X.prog X.w H s Q u s') : EP X pins σ Q u s' := by
 obtain ⟨v, H', os, bare, un, hok, r, q⟩ := h
 obtain ⟨hh, g, d, t, os'⟩ := s'
 obtain rfl : os' = s.os := os
 exact ⟨v, H', I.call (h' := hh) (g' := g) (d' := d) (t' := t) (ch := []) un hok bare (fun b z => absurd z (by simp)), r, q⟩
end
def tCall (sp : Sp) (dvs : List V) (E : XK) (t : TA) : TE := fun σ H Q => t σ H fun vs H1 => sp (vs ++ dvs) H1 Q E
def Binds (K : PySem.W.Frag) (fd : FuncData) (ps : List Str) (ds : List Value) : Prop :=
 ∀ (s : Shared) (us : List Value), K.In s.heap -> (us ++ ds).length = ps.length -> BindsTo s fd ⟨us, []⟩ (ps.zip (us ++ ds))
theorem Binds.all {K : PySem.W.Frag} {fd : FuncData} {ps : List Str} (h : ∀ us : List Value, us.length = ps.length -> bindArgs fd ⟨us, []⟩ = pure (ps.zip us)) : Binds K fd ps [] := fun s us _ hl => by
 rw [List.append_nil] at hl ⊢
 exact .of_eq (h us hl)
def Passes (CX : CXT) (X : Cx) (E : XK) : Prop := ∀ (pins : List (Addr × Obj)) (σ : St) (H : Hp) (s : Shared) (e : Value) (s' : Shared), Inv X pins σ H s -> CX X.stack H s E e s' -> X.xe e s'
section
variable {X : Cx} {CX : CXT} {k : Nat} {f C : Addr} {fd : FuncData} {ps : List Str} {sp : Sp} {dvs : List V} {ds : List Value} {E : XK} {x m : Str} {p pos apos : Pos} {e o : Expr} {es : List Expr} {ta : TE} {t : TA}
theorem run_fn {pins : List (Addr × Obj)} {σ : St} {H : Hp} {s : Shared} {Q : VK} {us : List Value} {vs : List V} (F : FnOk X.prog X.w X.K X.mg X.base CX k f fd ps sp) (hr : Room k X.A) (hb : Binds X.K fd ps ds) (hd : Vals dvs ds) (hx : Passes CX X E)
  (I : Inv X pins σ H s) (r : Vals vs us) (h : sp (vs ++ dvs) H Q E) : wpAny (model X.prog X.w) X.A (call (.ref f) us) (EP X pins σ Q) X.xe s := by
 have r2 : Vals (vs ++ dvs) (us ++ ds) := r.append hd
 have hl : (us ++ ds).length = ps.length := by rw [<- r2.length]; exact F.len _ _ _ _ h
 refine wpAny_call (codeAny_mono (F.run X.A X.stack s H ⟨us, []⟩ (us ++ ds) (vs ++ dvs) Q E hr I.env0 (hb s us I.kIn hl) r2 h) fun r s' hq => ?_)
 cases r with
 | error e => exact hx pins σ H s e s' I hq
 | ok fl =>
  cases fl with
  | ret u => exact I.after hq
  | next => exact False.elim hq
  | brk => exact False.elim hq
  | cont => exact False.elim hq
theorem pe_call (F : FnOk X.prog X.w X.K X.mg X.base CX k f fd ps sp) (hr : Room k X.A) (hg : Gl X x) (hm : X.mg x = some (.ref f)) (hk : PySem.W.keepIn X.K (.ref f) = true) (hb : Binds X.K fd ps ds) (hd : Vals dvs ds) (hx : Passes CX X E)
  (ha : PA X (e :: es) t) (hdb : autoParam ((x == ("__debug__" : Str)) = false) AutoP.a1._auto_1) (he : autoParam (starEach (e :: es) X.env = (false, eval e X.env) :: starEach es X.env) AutoP.a3._auto_1) (hpl : autoParam ((backTo pos (starEach es X.env)).any (·.1) = false) AutoP.a3._auto_1) :
  PE X (.Call (.Name x p) (e :: es) [] pos) (tCall sp dvs E t) := by
 intro pins s σ H Q I h
 refine wpAny_Call_Name_kw (ld_glob I hg hm ?_ hdb)
 refine PySem.W.callWith_K (h₀ := X.base) I.ok.mod.kin hk (thn (ha pos pins s σ H _ I h) fun us s1 ⟨vs, H1, I1, r, q⟩ => ⟨I1.kIn, ?_⟩) he hpl
 exact run_fn F hr hb hd hx I1 r q
end
structure FnScope (N P : List Str) (sc : Scope) : Prop where
 kind : sc.kind = .function
 co : sc.isCoroutine = false
 gen : sc.isGenerator = false
 nd : N.Nodup
 pre : N.take P.length = P
 par : ∀ x ∈ P, sc.names.lookup x = some .local ∨ sc.names.lookup x = some .cell
 nofree : ∀ y ∈ sc.names, y.2 ≠ .free
theorem bindL_out {kindOf : Str -> Option NameKind} {x : Str} : ∀ {binds : List (Str × Value)} {m : Str -> Option Value}, (∀ v, (x, v) ∉ binds) -> bindL kindOf binds m x = m x
 | [], _, _ => rfl
 | (n, v) :: r, m, h => by
  unfold bindL
  rw [bindL_out fun w hw => h w (List.mem_cons_of_mem _ hw)]
  split
  ·have : x ≠ n := by rintro rfl; exact h v List.mem_cons_self
   simp [this]
  ·rfl
theorem bindC_out {kindOf : Str -> Option NameKind} {x : Str} : ∀ {binds : List (Str × Value)} {m : Str -> Option Value}, (∀ v, (x, v) ∉ binds) -> bindC kindOf binds m x = m x
 | [], _, _ => rfl
 | (n, v) :: r, m, h => by
  unfold bindC
  rw [bindC_out fun w hw => h w (List.mem_cons_of_mem _ hw)]
  split
  ·rfl
  ·have : x ≠ n := by rintro rfl; exact h v List.mem_cons_self
   simp [this]
theorem bindL_get {kindOf : Str -> Option NameKind} {x : Str} {v : Value} : ∀ {P : List Str} {vs : List Value} {i : Nat} {m : Str -> Option Value}, P.Nodup -> P[i]? = some x -> vs[i]? = some v -> kindOf x = some .local →
  bindL kindOf (P.zip vs) m x = some v
 | [], _, _, _, _, h, _, _ => by simp at h
 | _ :: _, [], _, _, _, _, h, _ => by simp at h
 | p :: P, w :: vs, 0, m, nd, h1, h2, hk => by
  simp at h1 h2; subst h1; subst h2
  show bindL kindOf ((p, w) :: P.zip vs) m p = _
  unfold bindL
  rw [bindL_out fun v hv => (List.nodup_cons.mp nd).1 (List.of_mem_zip hv).1, if_pos hk]
  simp
 | p :: P, w :: vs, i + 1, m, nd, h1, h2, hk => by
  show bindL kindOf ((p, w) :: P.zip vs) m x = _
  unfold bindL
  exact bindL_get (i := i) (List.nodup_cons.mp nd).2 (by simpa using h1) (by simpa using h2) hk
theorem bindC_get {kindOf : Str -> Option NameKind} {x : Str} {v : Value} : ∀ {P : List Str} {vs : List Value} {i : Nat} {m : Str -> Option Value}, P.Nodup -> P[i]? = some x -> vs[i]? = some v -> kindOf x ≠ some .local →
  bindC kindOf (P.zip vs) m x = some v
 | [], _, _, _, _, h, _, _ => by simp at h
 | _ :: _, [], _, _, _, _, h, _ => by simp at h
 | p :: P, w :: vs, 0, m, nd, h1, h2, hk => by
  simp at h1 h2; subst h1; subst h2
  show bindC kindOf ((p, w) :: P.zip vs) m p = _
  unfold bindC
  rw [bindC_out fun v hv => (List.nodup_cons.mp nd).1 (List.of_mem_zip hv).1, if_neg hk]
  simp
 | p :: P, w :: vs, i + 1, m, nd, h1, h2, hk => by
  show bindC kindOf ((p, w) :: P.zip vs) m x = _
  unfold bindC
  exact bindC_get (i := i) (List.nodup_cons.mp nd).2 (by simpa using h1) (by simpa using h2) hk
def start (N : List Str) (vs : List V) : St := vs.map some ++ List.replicate (N.length - vs.length) none
def cxOf (CX : CXT) (P : Program) (w : World) (K : PySem.W.Frag) (mg : Str -> Option Value) (base : Heap) (N : List Str) (qual : Str) (scope : Scope) (f : Addr) (cd : Value) (A : Around) (outer : List Env) (s : Shared) (H : Hp) (E : XK) : Cx where
 prog := P
 w := w
 K := K
 mg := mg
 base := base
 A := A.deeper (envOfC qual scope s.heap.objs.size f cd)
 N := N
 s₀ := s
 H₀ := H
 env := envOfC qual scope s.heap.objs.size f cd
 outer := outer
 stack := envOfC qual scope s.heap.objs.size f cd :: outer
 ex := []
 calm := true
 fn := fun _ => true
 pn := []
 xe := fun e s' => wpAny (model P w) (A.deeper (envOfC qual scope s.heap.objs.size f cd)) (leaving (envOfC qual scope s.heap.objs.size f cd) e) (fun _ s'' => CX outer H s E e s'') (fun e' s'' => CX outer H s E e' s'') s'
theorem cell_has {sc : Scope} {n : Nat} {x : Str} (h : sc.names.lookup x = some .cell) : ∃ c, (cellsFrom n sc.names []).lookup x = some c := by
 have q := PySem.W.cellsFrom_some sc.names n [] (.inl h)
 exact Option.isSome_iff_exists.mp q
theorem inv_start {CX : CXT} {P : Program} {w : World} {K : PySem.W.Frag} {mg : Str -> Option Value} {base : Heap} {N ps : List Str} {qual : Str} {scope : Scope} {f : Addr} {cd : Value} {A : Around} {outer : List Env} {s s1 : Shared} {H : Hp} {E : XK} {us : List Value} {vs : List V}
  (S : FnScope N ps scope) (hd : A.handled = none) (e0 : Env0 P w K mg base A outer s H) (hl : vs.length = ps.length) (r : Vals vs us)
  (x : InCallC s s.heap.objs.size (bindL (envOfC qual scope s.heap.objs.size f cd).kindOf (ps.zip us) fun _ => none) (cellsFrom (s.heap.objs.size + 1) scope.names []) (bindC (envOfC qual scope s.heap.objs.size f cd).kindOf (ps.zip us) fun _ => none) s1) :
  Inv (cxOf CX P w K mg base N qual scope f cd A outer s H E) [] (start N vs) H s1 := by
 have hpl : ps.length <= N.length := by have := congrArg List.length S.pre; rw [List.length_take] at this; omega
 obtain ⟨h1, tk, rfl, hk⟩ := x.done
 have noA : ∀ b : Addr, b ∉ (cxOf CX P w K mg base N qual scope f cd A outer s H E).ex := fun b z => absurd (show b ∈ ([] : List Addr) from z) (by simp)
 refine ⟨⟨e0.mod, S.kind, rfl, rfl, Nat.le_refl _, fun y z c h1 h2 => ?_, fun y hy => ?_, fun y c _ h => ?_, fun _ => hd, Around.frames_deeper e0.frames, .inr ⟨rfl, rfl⟩, fun b z => absurd z (noA b), e0.bs, e0.bsz, fun b _ _ => noA b, fun b z => absurd z (noA b), e0.funs, e0.frf⟩,
  rfl, e0.bare, Un.kept hk, ⟨_, x.toInCall.ns, fun i y v h1 h2 h3 => ?_⟩, fun y c h => ⟨_, x.cell y c h⟩, e0.hok.fresh (Nat.le_refl _), fun y c h => ?_, fun p hp => absurd (show p ∈ ([] : List (Addr × Obj)) from hp) (by simp), e0.hok.kept hk, ?_⟩
 ·exact name_of_addr x.apart (PySem.mem_of_lookup h1) (PySem.mem_of_lookup h2)
 ·have hy : scope.names.lookup y = some .cell ∨ scope.names.lookup y = some .free := hy
  rcases hy with hy | hy
  ·exact cell_has hy
  ·exact absurd rfl (S.nofree _ (PySem.mem_of_lookup hy))
 ·exact Nat.le_of_lt (x.above y c (PySem.mem_of_lookup h))
 ·have hi : i < vs.length := by
   unfold start at h2
   by_cases hi : i < vs.length
   ·exact hi
   ·rw [List.getElem?_append_right (by simpa using hi)] at h2
    rw [List.getElem?_replicate] at h2
    split at h2 <;> cases h2
  have ha : vs[i]? = some v := by
   unfold start at h2
   rw [List.getElem?_append_left (by simpa using hi), List.getElem?_map] at h2
   cases e : vs[i]? with
   | none => rw [e] at h2; cases h2
   | some a => rw [e] at h2; cases h2; rfl
  obtain ⟨u, hu, rv⟩ := r.get ha
  have hp : ps[i]? = some y := by
   rw [<- S.pre, List.getElem?_take_of_lt (by omega)]; exact h1
  have ndP : ps.Nodup := by rw [<- S.pre]; exact S.nd.sublist (List.take_sublist _ _)
  refine ⟨u, rv, ?_⟩
  rcases S.par y (List.mem_of_getElem? hp) with k | k
  ·exact .inl ⟨k, bindL_get ndP hp hu k⟩
  ·obtain ⟨c, e⟩ := cell_has (n := s.heap.objs.size + 1) k
   refine .inr ⟨.inl k, c, e, ?_⟩
   have q := x.cell y c e
   rw [bindC_get ndP hp hu (by show scope.names.lookup y ≠ _; rw [k]; decide)] at q
   exact q
 ·exact e0.hok.fresh (Nat.le_of_lt (x.above y c (PySem.mem_of_lookup h)))
 ·unfold start
  show _ = N.length
  rw [List.length_append, List.length_map, List.length_replicate]
  omega
theorem fn_of {CX : CXT} {P : Program} {w : World} {K : PySem.W.Frag} {mg : Str -> Option Value} {base : Heap} {k : Nat} {f : Addr} {name qual : Str} {params : Arguments} {body : List Stmt} {scope : Scope} {dV kV doc pm cdv ct oc : Value} {an od : Option Addr}
  {osl : Array (Option Value)} {N ps : List Str} {sp : Sp} (lk : K.lookup f = some ⟨oc, od, .func (PySem.W.fnOf name qual params body scope dV kV doc pm an cdv ct), osl⟩) (hcd : PySem.W.codeIn K cdv qual = true) (S : FnScope N ps scope)
  (len : ∀ vs H Q E, sp vs H Q E -> vs.length = ps.length)
  (hbody : ∀ (A : Around) (outer : List Env) (s : Shared) (H : Hp) (vs : List V) (Q : VK) (E : XK), Room k (A.deeper (envOfC qual scope s.heap.objs.size f cdv)) -> sp vs H Q E →
   ∃ t, PSs (cxOf CX P w K mg base N qual scope f cdv A outer s H E) body t /\ t { nx := fun _ H' => Q .non H', rt := Q } (start N vs) H) :
  FnOk P w K mg base CX (k + 1) f (PySem.W.fnOf name qual params body scope dV kV doc pm an cdv ct) ps sp := by
 refine ⟨len, fun A outer s H args us vs Q E hr e0 hb r hsp => ?_⟩
 have hl := len _ _ _ _ hsp
 have KX : K.In s.heap := e0.mod.kin.keeps fun b o e => (e0.bs b o e).1
 have lim : s.heap.NoLimit := e0.mod.nolimit.keeps fun b o e => (e0.bs b o e).1
 have hkind : ∀ y ∈ ps.zip us, scope.names.lookup y.1 = some .local ∨ (scope.names.lookup y.1 = some .cell /\ ((cellsFrom (s.heap.objs.size + 1) scope.names []).lookup y.1).isSome = true) := fun ⟨n, v⟩ hy => by
  rcases S.par n (List.of_mem_zip hy).1 with q | q
  ·exact .inl q
  ·exact .inr ⟨q, PySem.W.cellsFrom_some _ _ _ (.inl q)⟩
 refine codeAny_call_function hr.depth (KX _ _ lk) rfl S.co S.gen rfl (PySem.W.codeRec_of KX hcd) (hb _ _ _ _ ?_)
 refine wpAny_newFunctionEnv_cells S.kind hkind fun env he s1 x => ?_
 subst he
 refine ⟨lim.keeps x.toInCall.keep, codeAny_func ?_⟩
 obtain ⟨t, ht, hq⟩ := hbody A outer s H vs Q E (hr.deeper _) hsp
 have I : Inv (cxOf CX P w K mg base N qual scope f cdv A outer s H E) [] (start N vs) H s1 := inv_start S hr.hd e0 hl r x
 refine wpAny_mono (ht [] s1 (start N vs) H _ I hq) (fun fl s' hs => ?_) fun e s' hs => hs
 have fin : ∀ {σ' : St} {H' : Hp} {v : V} {u : Value}, Inv (cxOf CX P w K mg base N qual scope f cdv A outer s H E) [] σ' H' s' -> RelV v u -> Q v H' -> CE outer P w H s Q u s' :=
  fun {σ' H' v u} J rv q => ⟨v, H', J.os, J.bare, J.base, J.hok, rv, q⟩
 cases fl with
 | ret u =>
  obtain ⟨v, σ', H', J, rv, q⟩ := hs
  exact fin J rv q
 | next =>
  obtain ⟨σ', H', J, q⟩ := hs
  exact fin (v := V.non) (u := Value.none) J rfl q
 | brk =>
  obtain ⟨_, _, _, q⟩ := hs
  exact False.elim q
 | cont =>
  obtain ⟨_, _, _, q⟩ := hs
  exact False.elim q
section
variable {X : Cx} {x : Str} {p pos : Pos} {e : Expr} {es : List Expr} {t : TA} {id T : String} {r : List V -> Hp -> VK -> Prop}
def tCB (r : List V -> Hp -> VK -> Prop) (t : TA) : TE := fun σ H Q => t σ H fun vs H1 => r vs H1 Q
theorem pe_callB (hc : CallR X (.builtin id) r) (hg : Gl X x) (hm : X.mg x = none) (hv : bootBuiltins x = some (.builtin id)) (ha : PA X (e :: es) t) (hn : autoParam (x ≠ "__name__") AutoP.a1._auto_1) (hdb : autoParam ((x == ("__debug__" : Str)) = false) AutoP.a1._auto_1)
  (he : autoParam (starEach (e :: es) X.env = (false, eval e X.env) :: starEach es X.env) AutoP.a3._auto_1) (hpl : autoParam ((backTo pos (starEach es X.env)).any (·.1) = false) AutoP.a3._auto_1) : PE X (.Call (.Name x p) (e :: es) [] pos) (tCB r t) := by
 intro pins s σ H Q I h
 refine wpAny_Call_Name_kw (ld_blt I hg hm hv ?_ hn hdb)
 exact PyProof.Rows.callWith_builtin1 (thn (ha pos pins s σ H _ I h) fun us s1 ⟨vs, H1, I1, r1, q1⟩ => hc pins s1 σ H1 vs us Q I1 r1 q1) he hpl
theorem pe_callTy (hc : CallR X (.type T) r) (hg : Gl X x) (hm : X.mg x = none) (hv : bootBuiltins x = some (.type T)) (ha : PA X (e :: es) t) (hn : autoParam (x ≠ "__name__") AutoP.a1._auto_1) (hdb : autoParam ((x == ("__debug__" : Str)) = false) AutoP.a1._auto_1)
  (he : autoParam (starEach (e :: es) X.env = (false, eval e X.env) :: starEach es X.env) AutoP.a3._auto_1) (hpl : autoParam ((backTo pos (starEach es X.env)).any (·.1) = false) AutoP.a3._auto_1) : PE X (.Call (.Name x p) (e :: es) [] pos) (tCB r t) := by
 intro pins s σ H Q I h
 refine wpAny_Call_Name_kw (ld_blt I hg hm hv ?_ hn hdb)
 exact PyProof.Rows.callWith_type1 (thn (ha pos pins s σ H _ I h) fun us s1 ⟨vs, H1, I1, r1, q1⟩ => hc pins s1 σ H1 vs us Q I1 r1 q1) he hpl
end
end L2
namespace HT
open PySem PyProof.Rows
section
open PySem.SeqAt
open PySem.AutoSeq1 (wpAny_loadPart')
open PySem.MeetsSeq PySem.MeetsSeq2 PySem.MeetsSeq3
end
section
variable {prog : Program} {w : World} {A : Around} {E : Value -> Shared -> Prop} {s : Shared}
theorem cat_tup {t b : Addr} {vs ws : List Value} {Q : Value -> Shared -> Prop} (ht : IsTup s.heap t vs.toArray) (hb : IsTup s.heap b ws.toArray) (hv : vs ≠ [])
  (h1 : ws = [] -> Q (.ref t) s) (h2 : ws ≠ [] -> Q (.ref s.heap.objs.size) { s with heap := s.heap.push { cls := .type "tuple", data := .seq (vs ++ ws).toArray } })
  (hsz : vs.length + ws.length <= sizeLine) : wpAny (model prog w) A (binaryOp .Add (.ref t) (.ref b)) Q E s := by
 obtain ⟨⟨cls, dd, data, sl⟩, ho, hc, n, hd⟩ := id ht
 obtain ⟨⟨cls2, dd2, data2, sl2⟩, ho2, hc2, n2, hd2⟩ := id hb
 simp only at hc hd hc2 hd2
 subst hc hd hc2 hd2
 have e : vs.toArray ++ ws.toArray = (vs ++ ws).toArray := by simp
 by_cases hw : ws = []
 ·exact concat_meets ⟨_, ho, rfl⟩ ⟨_, ho2, rfl⟩ noFill_tuple_add seq_tuple_add PySem.F.slot_tuple_add PySem.F.entry_tuple_add (PySem.F.args_tuple_add_2 _ _)
   (tuple_addW1 t b vs.toArray ws.toArray n n2 dd dd2 sl sl2 (by simpa using hv) (by simp [hw])) ⟨ho, ho2, h1 hw⟩
 ·refine concat_meets ⟨_, ho, rfl⟩ ⟨_, ho2, rfl⟩ noFill_tuple_add seq_tuple_add PySem.F.slot_tuple_add PySem.F.entry_tuple_add (PySem.F.args_tuple_add_2 _ _)
   (tuple_addW2 t b vs.toArray ws.toArray n n2 dd dd2 sl sl2 (by simpa using hv) (by simpa using hw) (by rw [List.size_toArray, List.size_toArray]; exact hsz)) ⟨ho, ho2, ?_⟩
  rw [e]
  exact h2 hw
def sIx (n d : Nat) : Option Int -> Nat
 | none => d
 | some v => if v < 0 then (v + (n : Int)).toNat else min v.toNat n
theorem sIx_none (n d : Nat) : sIx n d none = d := rfl
theorem sIx_nat (n d k : Nat) : sIx n d (some (k : Int)) = min k n := by
 show (if (k : Int) < 0 then ((k : Int) + (n : Int)).toNat else min (k : Int).toNat n) = min k n
 rw [if_neg (by omega), Int.toNat_natCast]
theorem sIx_le (n d : Nat) (hd : d <= n) (o : Option Int) : sIx n d o <= n := by
 cases o with
 | none => exact hd
 | some v =>
  show (if v < 0 then (v + (n : Int)).toNat else min v.toNat n) <= n
  by_cases hv : v < 0
  ·rw [if_pos hv]; omega
  ·rw [if_neg hv]; exact Nat.min_le_right _ _
theorem clip_eq (v : Int) (n d : Nat) : (if v < 0 then max (v + (n : Int)) 0 else min v (n : Int)) = ((sIx n d (some v) : Nat) : Int) := by
 show (if v < 0 then max (v + (n : Int)) 0 else min v (n : Int)) = (((if v < 0 then (v + (n : Int)).toNat else min v.toNat n) : Nat) : Int)
 by_cases hv : v < 0
 ·simp only [if_pos hv]; omega
 ·simp only [if_neg hv]; omega
theorem adjust_gen (lo hi : Option Int) (n : Nat) : Builtin.Slice.sliceAdjust lo hi 1 (n : Int) = (((sIx n 0 lo : Nat) : Int), ((sIx n n hi : Nat) : Int)) := by
 have h1 : ¬ ((1 : Int) < 0) := by omega
 unfold Builtin.Slice.sliceAdjust
 simp only [h1, if_false]
 refine Prod.ext ?_ ?_
 ·cases lo with
  | none => rfl
  | some v => exact clip_eq v n 0
 ·cases hi with
  | none => rfl
  | some v => exact clip_eq v n n
theorem places_gen (i j : Nat) : Builtin.Slice.slicePlaces (i : Int) (j : Int) 1 = j - i := by
 unfold Builtin.Slice.slicePlaces
 have h1 : (1 : Int) > 0 := by omega
 simp only [h1, if_true, Int.ediv_one]
 split <;> omega
theorem slicePart_ {v : Value} {o : Option Int} {Q : Option Int -> Shared -> Prop} (p : IsPart v o) (h : Q o s) : wpAny (model prog w) A (Builtin.Slice.slicePartIndex v) Q E s := by
 cases p with
 | none => exact slicePart_none h
 | int i t => exact slicePart_int h
theorem sliceApplied_gen {sl : Addr} {vl vu : Value} {lo hi : Option Int} {n : Nat} {Q : Int × Int × Nat -> Shared -> Prop} (hs : s.heap.IsSliceOf sl vl vu .none) (pl : IsPart vl lo) (pu : IsPart vu hi)
  (h : Q (((sIx n 0 lo : Nat) : Int), 1, sIx n n hi - sIx n 0 lo) s) : wpAny (model prog w) A (Builtin.Slice.sliceApplied (.ref sl) (pure (n : Int))) Q E s := by
 obtain ⟨os, hos, hcs, hds⟩ := id hs
 unfold Builtin.Slice.sliceApplied Builtin.Slice.sliceFields
 refine wpAny_bind (wpAny_bind (wpAny_field hos hds (x := vl) rfl (wpAny_bind (wpAny_field hos hds (x := vu) rfl (wpAny_bind (wpAny_field hos hds (x := .none) rfl (wpAny_pure ?_)))))))
 refine wpAny_bind (slicePart_none ?_)
 show wpAny _ _ (if ((1 : Int) == 0) = true then _ else _) _ _ s
 rw [if_neg (by decide)]
 refine wpAny_bind (slicePart_ pl (wpAny_bind (slicePart_ pu (wpAny_bind (wpAny_pure ?_)))))
 show wpAny _ _ (match Builtin.Slice.sliceAdjust lo hi 1 (n : Int) with | (lo, hi) => pure (lo, (1 : Int), Builtin.Slice.slicePlaces lo hi 1)) _ _ s
 rw [adjust_gen lo hi n]
 show wpAny _ _ (pure (((sIx n 0 lo : Nat) : Int), (1 : Int), Builtin.Slice.slicePlaces ((sIx n 0 lo : Nat) : Int) ((sIx n n hi : Nat) : Int) 1)) _ _ s
 rw [places_gen]
 exact wpAny_pure h
theorem pick_gen (xs : Array Value) (i k : Nat) : ((List.range k).filterMap fun (m : Nat) => xs[((i : Int) + (m : Int) * 1).toNat]?).toArray = ((xs.toList.drop i).take k).toArray := by
 have e : (fun (m : Nat) => xs[((i : Int) + (m : Int) * 1).toNat]?) = fun m => xs[i + m]? := by
  funext m
  have : ((i : Int) + (m : Int) * 1).toNat = i + m := by omega
  rw [this]
 rw [e]
 have := pick_run xs i k
 rw [List.filterMap_map] at this
 have e2 : ((fun x => xs[x]?) ∘ fun x => i + x) = fun m => xs[i + m]? := rfl
 rw [e2] at this
 rw [this]
theorem getItem_tuple_cut {t sl : Addr} {items : Array Value} {vl vu : Value} {lo hi : Option Int} {Q : Value -> Shared -> Prop} (ht : IsTup s.heap t items) (hs : s.heap.IsSliceOf sl vl vu .none) (pl : IsPart vl lo) (pu : IsPart vu hi)
  (hw : ¬ (sIx items.size 0 lo = 0 /\ sIx items.size items.size hi = items.size))
  (h : Q (.ref s.heap.objs.size) { s with heap := s.heap.push { cls := .type "tuple", data := .seq ((items.toList.drop (sIx items.size 0 lo)).take (sIx items.size items.size hi - sIx items.size 0 lo)).toArray } })
  (hsz : items.size <= sizeLine) : wpAny (model prog w) A (getItem (.ref t) (.ref sl)) Q E s := by
 have htake : sizeOk (.seq ((items.toList.drop (sIx items.size 0 lo)).take (sIx items.size items.size hi - sIx items.size 0 lo)).toArray) := by
  show ((items.toList.drop (sIx items.size 0 lo)).take (sIx items.size items.size hi - sIx items.size 0 lo)).toArray.size <= sizeLine
  rw [List.size_toArray, List.length_take, List.length_drop, Array.length_toList]
  omega
 have hj : sIx items.size items.size hi <= items.size := sIx_le _ _ (Nat.le_refl _) hi
 obtain ⟨os, hos, hcs, hds⟩ := id hs
 have hTs : s.TypeIs (.ref sl) "slice" := ⟨os, hos, hcs⟩
 unfold getItem
 try with_reducible refine wpAny_holding ?_
 first | refine wpAny_bind (wpAny_pure ?_) | skip
 refine wpAny_bind (wpAny_sequenceKey ht.typeIs (by decide) ?_)
 refine wpAny_bind (wpAny_callSpecial?_slot (name := Str.ofString "__getitem__") ht.typeIs PyProof.Rows.slot_tuple_getitem
  (wpAny_call_entry PyProof.Rows.slot_tuple_getitem ht.typeIs entry_tuple_getitem ?_ (args_tuple_getitem _ _)))
 show wpAny _ _ (Builtin.Tuple.tupleItemsOf (.ref t) >>= _) _ _ s
 refine wpAny_bind (tupleItemsOf_ ht ?_)
 refine wpAny_bind (wpAny_typeOf hTs ?_)
 rw [if_pos (by decide)]
 refine wpAny_bind (sliceApplied_gen hs pl pu ?_)
 have hno : ¬ ((((sIx items.size 0 lo : Nat) : Int) == 0 && (1 : Int) == 1 && (sIx items.size items.size hi - sIx items.size 0 lo) == items.size) = true) := by
  intro q
  rw [Bool.and_eq_true, Bool.and_eq_true] at q
  have q1 : ((sIx items.size 0 lo : Nat) : Int) = 0 := eq_of_beq q.1.1
  have q2 : sIx items.size items.size hi - sIx items.size 0 lo = items.size := eq_of_beq q.2
  exact hw ⟨by omega, by omega⟩
 show wpAny _ _ (if (((sIx items.size 0 lo : Nat) : Int) == 0 && (1 : Int) == 1 && (sIx items.size items.size hi - sIx items.size 0 lo) == items.size) = true then _ else _) _ _ s
 rw [if_neg hno, pick_gen]
 first
  | exact wpAny_bind (m := Builtin.Tuple.tupleExact _) (wpAny_newObj_type (wpAny_pure ⟨_, rfl, wpAny_pure h⟩) htake)
  | exact wpAny_bind (m := Builtin.Tuple.tupleExact _) (wpAny_newObj_type (wpAny_bind (wpAny_pure (wpAny_pure ⟨_, rfl, wpAny_pure h⟩))) htake)
  | exact wpAny_bind (wpAny_bind (m := Builtin.Tuple.tupleExact _) (wpAny_newObj_type (wpAny_pure (wpAny_pure ⟨_, rfl, wpAny_pure h⟩)) htake))
  | exact wpAny_bind (wpAny_bind (m := Builtin.Tuple.tupleExact _) (wpAny_newObj_type (wpAny_pure ⟨_, rfl, wpAny_pure h⟩) htake))
end
end HT
namespace L2
open PySem PySem.Spec PyProof.Rows
abbrev TO := St -> Hp -> (Option Int -> Hp -> Prop) -> Prop
def PO (X : Cx) (e : Option Expr) (t : TO) : Prop :=
 ∀ (pins : List (Addr × Obj)) (s : Shared) (σ : St) (H : Hp) (Q : Option Int -> Hp -> Prop), Inv X pins σ H s -> t σ H Q →
  wpAny (model X.prog X.w) X.A (evalPart e X.env) (fun u s' => ∃ o H', Inv X pins σ H' s' /\ IsPart u o /\ Q o H') X.xe s
def tNoPart : TO := fun _ H Q => Q none H
def tPart (t : TE) : TO := fun σ H Q => t σ H fun x H1 => ∃ i, x = .int i /\ Q (some i) H1
section
variable {X : Cx} {e : Expr} {te : TE} {lo hi : Option Expr} {tl th : TO} {pos p2 : Pos}
theorem po_none : PO X none tNoPart := by
 intro pins s σ H Q I h
 rw [evalPart_none]
 exact wpAny_pure ⟨none, H, I, .none, h⟩
theorem po_some (h : PE X e te) : PO X (some e) (tPart te) := by
 intro pins s σ H Q I hw
 rw [evalPart_some]
 refine thn (h pins s σ H _ I hw) fun u s1 ⟨x, H1, I1, r1, q1⟩ => ?_
 obtain ⟨i, rfl, q⟩ := q1
 obtain ⟨t, rfl⟩ := r1
 exact ⟨some i, H1, I1, .int i t, q⟩
def SlR (X : Cx) (r : V -> Option Int -> Option Int -> Hp -> VK -> Prop) : Prop :=
 ∀ (pins : List (Addr × Obj)) (s : Shared) (σ : St) (H : Hp) (x : V) (v vl vu : Value) (lo hi : Option Int) (sl : Addr) (Q : VK), Inv X pins σ H s -> RelV x v -> s.heap.IsSliceOf sl vl vu .none -> IsPart vl lo -> IsPart vu hi -> r x lo hi H Q →
  ∃ T id, typeLookup (.type T) "__getitem__" = pure (some (.builtin id)) /\ s.TypeIs v T /\ wpAny (model X.prog X.w) X.A (getItem v (.ref sl)) (EP X pins σ Q) X.xe s
theorem SlR.or {r r' : V -> Option Int -> Option Int -> Hp -> VK -> Prop} (h : SlR X r) (h' : SlR X r') : SlR X (fun x lo hi H Q => r x lo hi H Q ∨ r' x lo hi H Q) := by
 intro pins s σ H x v vl vu lo hi sl Q I rx hs pl pu q
 rcases q with q | q
 ·exact h pins s σ H x v vl vu lo hi sl Q I rx hs pl pu q
 ·exact h' pins s σ H x v vl vu lo hi sl Q I rx hs pl pu q
def tSl (r : V -> Option Int -> Option Int -> Hp -> VK -> Prop) (te : TE) (tl th : TO) : TE := fun σ H Q => te σ H fun x H1 => tl σ H1 fun l H2 => th σ H2 fun u H3 => r x l u H3 Q
theorem pe_slice {r : V -> Option Int -> Option Int -> Hp -> VK -> Prop} (hr : SlR X r) (he : PE X e te) (hl : PO X lo tl) (hu : PO X hi th) : PE X (.Subscript e (.Slice lo hi none p2) pos) (tSl r te tl th) := by
 intro pins s σ H Q I h
 refine Subscript_ (thn (he pins s σ H _ I h) fun v s1 ⟨x, H1, I1, r1, q1⟩ => ?_)
 refine wpAny_Slice (thn (hl pins s1 σ H1 _ I1 q1) fun vl s2 ⟨l, H2, I2, pl, q2⟩ => thn (hu pins s2 σ H2 _ I2 q2) fun vu s3 ⟨u, H3, I3, pu, q3⟩ => ?_)
 rw [evalPart_none]
 refine wpAny_pure ?_
 have I4 : Inv X pins σ H3 { s3 with heap := s3.heap.push { cls := .type "slice", data := .fields #[vl, vu, .none] } } := I3.kept (t' := s3.toks) fun b ob q => Heap.get?_push_of_some _ q
 obtain ⟨T, id, hT, ht, hg⟩ := hr pins { s3 with heap := s3.heap.push { cls := .type "slice", data := .fields #[vl, vu, .none] } } σ H3 x v vl vu l u s3.heap.objs.size Q I4 r1 (Heap.IsSliceOf.new ..) pl pu q3
 show wpAny (model X.prog X.w) X.A (subscriptTail e (.Slice lo hi none p2) v (.ref s3.heap.objs.size)) (EP X pins σ Q) X.xe { s3 with heap := s3.heap.push { cls := .type "slice", data := .fields #[vl, vu, .none] } }
 exact tail_any (ops := [.ref s3.heap.objs.size, v]) ht hT hg (by with_unfolding_all rfl)
def cutV (xs : List V) (lo hi : Option Int) : List V := (xs.drop (HT.sIx xs.length 0 lo)).take (HT.sIx xs.length xs.length hi - HT.sIx xs.length 0 lo)
theorem cutV_length (xs : List V) (lo hi : Option Int) : (cutV xs lo hi).length <= xs.length := by
 unfold cutV
 rw [List.length_take, List.length_drop]
 omega
def rSlT (K : PySem.W.Frag) : V -> Option Int -> Option Int -> Hp -> VK -> Prop := fun x lo hi H Q => ∃ a xs, x = .ref a /\ SqT K H a xs ∧
 ¬ (HT.sIx xs.length 0 lo = 0 /\ HT.sIx xs.length xs.length hi = xs.length) /\ ∀ p, H p = none -> Q (.ref p) (upd H p (.tup (cutV xs lo hi)))
theorem sl_tup : SlR X (rSlT X.K) := by
 intro pins s σ H x v vl vu lo hi sl Q I rx hs pl pu h
 obtain ⟨a, xs, rfl, hx, hw, q⟩ := h
 cases rx
 obtain ⟨its, r, ht, hz⟩ := I.tuple hx
 have hlen : its.toArray.size = xs.length := by rw [List.size_toArray]; exact r.length.symm
 refine ⟨"tuple", _, PyProof.Rows.slot_tuple_getitem.lookup, ht.typeIs, ?_⟩
 refine HT.getItem_tuple_cut ht hs pl pu (by rw [hlen]; exact hw) ?_ (by rw [hlen]; exact hz)
 rw [hlen]
 refine ⟨.ref s.heap.objs.size, _, I.laid (t' := s.toks) (o := .tup (cutV xs lo hi)) (fun b ob q => Heap.get?_push_of_some _ q) (Nat.le_refl _) ?_, rfl, q _ (I.hok.fresh (Nat.le_refl _))⟩
 exact ⟨Nat.le_trans (cutV_length xs lo hi) hz, _, (r.drop (HT.sIx xs.length 0 lo)).take (HT.sIx xs.length xs.length hi - HT.sIx xs.length 0 lo), IsTup.new _ _, _, Heap.get?_push_size _ rfl, rfl⟩
def rCatT (K : PySem.W.Frag) : R2 := fun x y H Q => ∃ a b xs ys, x = .ref a /\ y = .ref b /\ SqT K H a xs /\ SqT K H b ys /\ xs ≠ [] /\ xs.length + ys.length <= sizeLine ∧
 (ys = [] -> Q (.ref a) H) /\ (ys ≠ [] -> ∀ p, H p = none -> Q (.ref p) (upd H p (.tup (xs ++ ys))))
theorem Vals.nil_iff {xs : List V} {us : List Value} (r : Vals xs us) : us = [] ↔ xs = [] := by
 cases r with
 | nil => simp
 | cons _ _ => simp
theorem op_catT : OpR X (binaryOp .Add) (rCatT X.K) := by
 intro pins s σ H x y v u Q I rx ry h
 obtain ⟨a, b, xs, ys, rfl, rfl, ha, hb, hx, hz, q1, q2⟩ := h
 cases rx
 cases ry
 obtain ⟨its, r1, p1, _⟩ := I.tuple ha
 obtain ⟨its2, r2, p2, _⟩ := I.tuple hb
 refine HT.cat_tup p1 p2 (fun z => hx (r1.nil_iff.mp z)) (fun z => ⟨.ref a, H, I, rfl, q1 (r2.nil_iff.mp z)⟩) (fun z => ?_) (by rw [<- r1.length, <- r2.length]; exact hz)
 refine ⟨.ref s.heap.objs.size, _, I.laid (t' := s.toks) (o := .tup (xs ++ ys)) (fun b ob q => Heap.get?_push_of_some _ q) (Nat.le_refl _) ?_, rfl, q2 (fun w => z (r2.nil_iff.mpr w)) _ (I.hok.fresh (Nat.le_refl _))⟩
 exact ⟨by rw [List.length_append]; exact hz, _, r1.append r2, IsTup.new _ _, _, Heap.get?_push_size _ rfl, rfl⟩
end
def ixN (n : Nat) (i : Int) : Option Nat := if 0 <= i then (if i < n then some i.toNat else none) else if -(n : Int) <= i then some (i + n).toNat else none
def atI {α : Type} (xs : List α) (i : Int) : Option α := (ixN xs.length i).bind fun j => xs[j]?
theorem ixN_seq {n : Nat} {i : Int} {j : Nat} (h : ixN n i = some j) : seqIndex? i n = some j /\ j < n /\ -(n : Int) <= i /\ i < n := by
 unfold ixN at h
 by_cases h0 : 0 <= i
 ·rw [if_pos h0] at h
  by_cases h1 : i < n
  ·rw [if_pos h1] at h
   have e : i.toNat = j := Option.some.inj h
   exact ⟨by rw [seqIndex_of h0 h1, e], by omega, by omega, h1⟩
  ·rw [if_neg h1] at h; cases h
 ·rw [if_neg h0] at h
  by_cases h1 : -(n : Int) <= i
  ·rw [if_pos h1] at h
   have e : (i + n).toNat = j := Option.some.inj h
   exact ⟨by rw [seqIndex_neg (by omega) h1, e], by omega, h1, by omega⟩
  ·rw [if_neg h1] at h; cases h
theorem atI_get {α : Type} {xs : List α} {i : Int} {v : α} (h : atI xs i = some v) : ∃ j, seqIndex? i xs.length = some j /\ xs[j]? = some v /\ j < xs.length /\ -(xs.length : Int) <= i /\ i < xs.length := by
 unfold atI at h
 cases e : ixN xs.length i with
 | none => rw [e] at h; cases h
 | some j =>
  rw [e] at h
  obtain ⟨h1, h2, h3, h4⟩ := ixN_seq e
  exact ⟨j, h1, h, h2, h3, h4⟩
def PlainIx (b : Expr) : Prop := ∀ o i, subscripted b false o i = operate [o, i] (getItem o i)
def IxR (X : Cx) (r : R2) : Prop :=
 ∀ (value slice : Expr) (pins : List (Addr × Obj)) (s : Shared) (σ : St) (H : Hp) (x y : V) (v u : Value) (Q : VK), Inv X pins σ H s -> RelV x v -> RelV y u -> r x y H Q →
  subscripted slice false v u = operate [v, u] (getItem v u) -> wpAny (model X.prog X.w) X.A (subscriptTail value slice v u) (EP X pins σ Q) X.xe s
def MtR (X : Cx) (id : String) (r : V -> List V -> Hp -> VK -> Prop) : Prop :=
 ∀ (pins : List (Addr × Obj)) (s : Shared) (σ : St) (H : Hp) (x : V) (xs : List V) (v : Value) (us : List Value) (Q : VK), Inv X pins σ H s -> RelV x v -> Vals xs us -> r x xs H Q →
  wpAny (model X.prog X.w) X.A (call (.builtin id) (v :: us)) (EP X pins σ Q) X.xe s
section
variable {X : Cx} {a b : Expr} {ta tb : TE} {pos : Pos}
theorem IxR.or {r r' : R2} (h : IxR X r) (h' : IxR X r') : IxR X (fun x y H Q => r x y H Q ∨ r' x y H Q) := by
 intro value slice pins s σ H x y v u Q I rx ry q hs
 rcases q with q | q
 ·exact h value slice pins s σ H x y v u Q I rx ry q hs
 ·exact h' value slice pins s σ H x y v u Q I rx ry q hs
theorem pe_ix {r : R2} (hr : IxR X r) (ha : PE X a ta) (hb : PE X b tb) (hs : PlainIx b) : PE X (.Subscript a b pos) (tOp r ta tb) := by
 intro pins s σ H Q I h
 exact Subscript_ (binT ha hb I h fun v u s2 x y H2 I2 rx ry q => hr a b pins s2 σ H2 x y v u Q I2 rx ry q (hs _ _))
def rIxL (K : PySem.W.Frag) : R2 := fun x y H Q => ∃ p xs i v, x = .ref p /\ y = .int i /\ SqL K H p xs /\ atI xs i = some v /\ Q v H
def rIxT (K : PySem.W.Frag) : R2 := fun x y H Q => ∃ p xs i v, x = .ref p /\ y = .int i /\ SqT K H p xs /\ atI xs i = some v /\ Q v H
def rIxS : R2 := fun x y H Q => ∃ z i c, x = .str z /\ y = .int i /\ z.length <= sizeLine /\ atI z.cps.toList i = some c /\ Q (.str ⟨#[c]⟩) H
theorem ix_list : IxR X (rIxL X.K) := by
 intro value slice pins s σ H x y v u Q I rx ry h hs
 obtain ⟨p, xs, i, z, rfl, rfl, hq, he, q⟩ := h
 cases rx
 obtain ⟨t, rfl⟩ := ry
 obtain ⟨its, r, pl, hz⟩ := I.list hq
 obtain ⟨j, h1, h2, h3, h4, h5⟩ := atI_get he
 obtain ⟨w, ew, rw'⟩ := r.get h2
 have hl := r.length
 have hn := line63
 have fin : EP X pins σ Q w s := ⟨z, H, I, rw', q⟩
 by_cases h0 : 0 <= i
 ·have hj : i.toNat = j := by
   rw [seqIndex_of h0 h5] at h1
   exact Option.some.inj h1
  exact item_listR pl.isList h0 (by omega) (by rw [hj]; simpa using ew) fin hs
 ·have hj : (i + (its.toArray.size : Int)).toNat = j := by
   rw [seqIndex_neg (by omega) h4] at h1
   rw [List.size_toArray, <- hl]
   exact Option.some.inj h1
  exact subscriptTail_builtinR (x := w) pl.isList.typeIs slot_list_getitem.lookup
   (wpAny_getItem_list_neg (Q := fun r s' => r = w /\ EP X pins σ Q r s') pl.isList (by omega) (by rw [List.size_toArray] <;> omega) (by omega) (by rw [hj]; simpa using ew) ⟨rfl, fin⟩) hs
theorem ix_tup : IxR X (rIxT X.K) := by
 intro value slice pins s σ H x y v u Q I rx ry h hs
 obtain ⟨p, xs, i, z, rfl, rfl, hq, he, q⟩ := h
 cases rx
 obtain ⟨t, rfl⟩ := ry
 obtain ⟨its, r, pl, hz⟩ := I.tuple hq
 obtain ⟨j, h1, h2, h3, h4, h5⟩ := atI_get he
 obtain ⟨w, ew, rw'⟩ := r.get h2
 have hl := r.length
 have hn := line63
 have fin : EP X pins σ Q w s := ⟨z, H, I, rw', q⟩
 exact subscriptTail_builtinR (x := w) pl.typeIs slot_tuple_getitem.lookup
  (getItem_tuple (j := j) (Q := fun r s' => r = w /\ EP X pins σ Q r s') pl (by omega) (by omega) (by rw [List.size_toArray, <- hl]; exact h1) (by simpa using ew) ⟨rfl, fin⟩) hs
theorem ix_str : IxR X rIxS := by
 intro value slice pins s σ H x y v u Q I rx ry h hs
 obtain ⟨z, i, c, rfl, rfl, hz, he, q⟩ := h
 obtain ⟨t, rfl⟩ := rx
 obtain ⟨t', rfl⟩ := ry
 obtain ⟨j, h1, h2, h3, h4, h5⟩ := atI_get he
 have hl : z.cps.toList.length = z.length := by simp [Str.length]
 rw [hl] at h1 h4 h5
 have hn := line63
 exact tail_any (typeIs_str s z t) slot_str_getitem.lookup (getItem_str (c := c) (by
  have e1 : decide (i < -(2 ^ 63 : Int)) = false := decide_eq_false (by omega)
  have e2 : decide (i ≥ 2 ^ 63) = false := decide_eq_false (by omega)
  rw [e1, e2, Bool.or_false]) (by rw [h1]; simpa using h2) ⟨.str ⟨#[c]⟩, H, I.tok _, ⟨_, rfl⟩, q⟩) hs
def rIx (K : PySem.W.Frag) : R2 := fun x y H Q => rIxL K x y H Q ∨ rIxT K x y H Q ∨ rIxS x y H Q
theorem ix_seq : IxR X (rIx X.K) := ix_list.or (ix_tup.or ix_str)
theorem mapSeq_set (its : List Value) (n j : Nat) (u : Value) : Obj.mapSeq (·.setIfInBounds j u) { cls := .type "list", data := .seq its.toArray n } = { cls := .type "list", data := .seq (its.set j u).toArray n } := by
 simp [Obj.mapSeq]
theorem Inv.lst {pins : List (Addr × Obj)} {σ : St} {H : Hp} {s : Shared} {p : Addr} {xs : List V} (I : Inv X pins σ H s) (h : H p = some (.lst xs)) :
  ∃ (its : List Value) (n : Nat), Vals xs its /\ s.heap.get? p = some { cls := .type "list", data := .seq its.toArray n } /\ xs.length <= sizeLine := by
 obtain ⟨z, its, n, r, e⟩ := I.hok p _ h
 exact ⟨its, n, r, e, z⟩
theorem Inv.lstUpd {pins : List (Addr × Obj)} {σ : St} {H : Hp} {s : Shared} {p : Addr} {xs ys : List V} {its its' : List Value} {n n' : Nat} {f : Obj -> Obj} (I : Inv X pins σ H s) (h : H p = some (.lst xs))
  (ho : s.heap.get? p = some { cls := .type "list", data := .seq its.toArray n }) (hf : f { cls := .type "list", data := .seq its.toArray n } = { cls := .type "list", data := .seq its'.toArray n' }) (r : Vals ys its') (hz : ys.length <= sizeLine) (t : Nat) :
  Inv X pins σ (upd H p (.lst ys)) { s with heap := s.heap.update p f, toks := t } := by
 have e : (s.heap.update p f).get? p = some { cls := .type "list", data := .seq its'.toArray n' } := by
  rw [Heap.get?_update_self f ho (by rw [hf] <;> rfl), hf]
 refine I.write (x := p) (e := p) (by rw [h]; trivial) (.inl rfl) (fun b u hb q => (Heap.get?_update_other _ _ (Ne.symm hb)).trans q) ⟨_, e⟩ ?_
 exact ⟨hz, its', n', r, e⟩
def rSetL : V -> V -> V -> Hp -> (Hp -> Prop) -> Prop := fun o i v H Q => ∃ p xs k j, o = .ref p /\ i = .int k /\ H p = some (.lst xs) /\ ixN xs.length k = some j /\ Q (upd H p (.lst (xs.set j v)))
theorem set_list : PSet X rSetL := by
 intro pins s σ H o i v ov iv u Q I ro ri rv h
 obtain ⟨p, xs, k, j, rfl, rfl, hp, hj, q⟩ := h
 cases ro
 obtain ⟨t, rfl⟩ := ri
 obtain ⟨its, n, r, ho, hz⟩ := I.lst hp
 obtain ⟨h1, h2, h3, h4⟩ := ixN_seq hj
 have hl := r.length
 have hn := line63
 have I' : Inv X pins σ (upd H p (.lst (xs.set j v))) { s with heap := s.heap.update p (Obj.mapSeq (·.setIfInBounds j u)) } :=
  I.lstUpd hp ho (mapSeq_set its n j u) (r.set rv j) (by rw [List.length_set]; exact hz) s.toks
 by_cases h0 : 0 <= k
 ·have hk : k.toNat = j := by
   rw [seqIndex_of h0 h4] at h1
   exact Option.some.inj h1
  exact PySem.W.ki_setAt ho h0 (by omega) (by rw [List.size_toArray, <- hl]; exact h4) (by rw [hk]; exact ⟨_, I', q⟩)
 ·have hk : (k + (its.toArray.size : Int)).toNat = j := by
   rw [seqIndex_neg (by omega) h3] at h1
   rw [List.size_toArray, <- hl]
   exact Option.some.inj h1
  exact PySem.W.ki_setBack ho (by omega) (by rw [List.size_toArray, <- hl]; exact h3) (by omega) (by rw [hk]; exact ⟨_, I', q⟩)
theorem slice_bounds (lo hi : Option Int) (n : Nat) : (sliceBounds lo hi none n).1 = ((HT.sIx n 0 lo : Nat) : Int) /\ (sliceBounds lo hi none n).2.1 = ((HT.sIx n n hi : Nat) : Int) /\ (sliceBounds lo hi none n).2.2 = 1 := by
 refine ⟨?_, ?_, rfl⟩
 ·cases lo with
  | none => simp [sliceBounds, HT.sIx]
  | some i =>
   simp only [sliceBounds, HT.sIx, Option.getD_none, show (1 : Int) > 0 by decide, if_true]
   by_cases h : i < 0
   ·simp only [h, if_true] <;> omega
   ·simp only [h, if_false] <;> omega
 ·cases hi with
  | none => simp [sliceBounds, HT.sIx]
  | some i =>
   simp only [sliceBounds, HT.sIx, Option.getD_none, show (1 : Int) > 0 by decide, if_true]
   by_cases h : i < 0
   ·simp only [h, if_true] <;> omega
   ·simp only [h, if_false] <;> omega
theorem slicePick_cut (its : List Value) (lo hi : Option Int) : slicePick its.toArray lo hi none = ((its.drop (HT.sIx its.length 0 lo)).take (HT.sIx its.length its.length hi - HT.sIx its.length 0 lo)).toArray := by
 obtain ⟨h1, h2, h3⟩ := slice_bounds lo hi its.toArray.size
 unfold slicePick
 rw [h1, h2, h3]
 simp only [sliceRange_one, pick_run, List.size_toArray] <;> rfl
def rSlL (K : PySem.W.Frag) : V -> Option Int -> Option Int -> Hp -> VK -> Prop := fun x lo hi H Q => ∃ a xs, x = .ref a /\ SqL K H a xs /\ ∀ p, H p = none -> Q (.ref p) (upd H p (.lst (cutV xs lo hi)))
theorem sl_list : SlR X (rSlL X.K) := by
 intro pins s σ H x v vl vu lo hi sl Q I rx hs pl pu h
 obtain ⟨a, xs, rfl, hx, q⟩ := h
 cases rx
 obtain ⟨its, r, ht, hz⟩ := I.list hx
 have hlen := r.length
 refine ⟨"list", _, slot_list_getitem.lookup, ht.isList.typeIs, ?_⟩
 refine wpAny_getItem_list_slice ht.isList hs pl pu .none (by simp) ?_ (by rw [List.size_toArray] <;> omega)
 rw [slicePick_cut, <- hlen]
 refine ⟨.ref s.heap.objs.size, _, I.laid (t' := s.toks) (o := .lst (cutV xs lo hi)) (fun b ob q => Heap.get?_push_of_some _ q) (Nat.le_refl _) ?_, rfl, q _ (I.hok.fresh (Nat.le_refl _))⟩
 exact ⟨Nat.le_trans (cutV_length xs lo hi) hz, _, 0, (r.drop (HT.sIx xs.length 0 lo)).take (HT.sIx xs.length xs.length hi - HT.sIx xs.length 0 lo), Heap.get?_push_size _ rfl⟩
def flatV : V -> Bool
 | .non => true
 | .bl _ => true
 | .int _ => true
 | .str _ => true
 | _ => false
def eqV : V -> V -> Bool
 | .non, .non => true
 | .bl a, .bl b => a == b
 | .bl a, .int b => (if a then 1 else 0) == b
 | .int a, .bl b => a == (if b then 1 else 0)
 | .int a, .int b => a == b
 | .str a, .str b => a == b
 | _, _ => false
theorem eqAt_V {A : Around} {s : Shared} {y x : V} {u v : Value} (ry : RelV y u) (rx : RelV x v) (fy : flatV y = true) (fx : flatV x = true) : SeqAt.EqAt A s u v (eqV y x) := by
 cases y with
 | non =>
  cases ry
  cases x with
  | non => cases rx; exact SeqAt.EqAt.same _
  | bl b => cases rx; exact SeqAt.EqAt.none_bool b
  | int b => obtain ⟨t, rfl⟩ := rx; exact SeqAt.EqAt.none_int b t
  | str b => obtain ⟨t, rfl⟩ := rx; exact SeqAt.EqAt.none_str b t
  | _ => exact absurd (show false = true from fx) Bool.false_ne_true
 | bl a =>
  cases ry
  cases x with
  | non => cases rx; exact SeqAt.EqAt.bool_none a
  | bl b => cases rx; exact SeqAt.EqAt.bool_bool a b
  | int b => obtain ⟨t, rfl⟩ := rx; exact SeqAt.EqAt.bool_int a b t
  | str b => obtain ⟨t, rfl⟩ := rx; exact SeqAt.EqAt.bool_str a b t
  | _ => exact absurd (show false = true from fx) Bool.false_ne_true
 | int a =>
  obtain ⟨t', rfl⟩ := ry
  cases x with
  | non => cases rx; exact SeqAt.EqAt.int_none a t'
  | bl b => cases rx; exact SeqAt.EqAt.int_bool a t' b
  | int b => obtain ⟨t, rfl⟩ := rx; exact SeqAt.EqAt.int_int a t' b t
  | str b => obtain ⟨t, rfl⟩ := rx; exact SeqAt.EqAt.int_str a t' b t
  | _ => exact absurd (show false = true from fx) Bool.false_ne_true
 | str a =>
  obtain ⟨t', rfl⟩ := ry
  cases x with
  | non => cases rx; exact SeqAt.EqAt.str_none a t'
  | bl b => cases rx; exact SeqAt.EqAt.str_bool a t' b
  | int b => obtain ⟨t, rfl⟩ := rx; exact SeqAt.EqAt.str_int a t' b t
  | str b => obtain ⟨t, rfl⟩ := rx; exact SeqAt.EqAt.str_str a t' b t
  | _ => exact absurd (show false = true from fx) Bool.false_ne_true
 | _ => exact absurd (show false = true from fy) Bool.false_ne_true
def eqU (x : V) (u : Value) : Bool := match u with
 | .none => eqV .non x
 | .bool b => eqV (.bl b) x
 | .int i _ => eqV (.int i) x
 | .str z _ => eqV (.str z) x
 | _ => false
theorem eqU_of {x y : V} {u : Value} (r : RelV y u) (f : flatV y = true) : eqU x u = eqV y x := by
 cases y with
 | non => cases r; rfl
 | bl b => cases r; rfl
 | int i => obtain ⟨t, rfl⟩ := r; rfl
 | str z => obtain ⟨t, rfl⟩ := r; rfl
 | _ => exact absurd (show false = true from f) Bool.false_ne_true
theorem mem_eqAt {A : Around} {s : Shared} {x : V} {v : Value} (rx : RelV x v) (fx : flatV x = true) : ∀ {xs : List V} {us : List Value}, Vals xs us -> xs.all flatV = true -> ∀ u ∈ us, SeqAt.EqAt A s u v (eqU x u)
 | _, _, .nil, _ => fun u hu => by cases hu
 | y :: xs, u :: us, .cons r t, f => fun u' hu => by
  rw [List.all_cons, Bool.and_eq_true] at f
  rcases List.mem_cons.mp hu with rfl | hu
  ·rw [eqU_of r f.1]; exact eqAt_V r rx f.1 fx
  ·exact mem_eqAt rx fx t f.2 u' hu
theorem call_len_seq : CallR X (.builtin "len") (fun xs H Q => ∃ p ys, xs = [.ref p] /\ (SqL X.K H p ys ∨ SqT X.K H p ys) /\ Q (.int ys.length) H) := by
 intro pins s σ H xs us Q I r h
 obtain ⟨p, ys, rfl, hq, q⟩ := h
 obtain ⟨u, rfl, rx⟩ := vals1 r
 cases rx
 have hn := line63
 rcases hq with hq | hq
 ·obtain ⟨its, r', pl, hz⟩ := I.list hq
  have hlen := r'.length
  exact Calls.call_len_list pl.isList (by simp only [List.size_toArray] <;> omega) ⟨.int ys.length, H, I.tok _, ⟨s.toks + 1, by rw [List.size_toArray, hlen]⟩, q⟩
 ·obtain ⟨its, r', pl, hz⟩ := I.tuple hq
  have hlen := r'.length
  exact len_tuple pl (by simp only [List.size_toArray] <;> omega) ⟨.int ys.length, H, I.tok _, ⟨s.toks + 1, by rw [List.size_toArray, hlen]⟩, q⟩
theorem call_len_str : CallR X (.builtin "len") (fun xs H Q => ∃ z, xs = [.str z] /\ z.length <= sizeLine /\ Q (.int z.length) H) := by
 intro pins s σ H xs us Q I r h
 obtain ⟨z, rfl, hz, q⟩ := h
 obtain ⟨u, rfl, t, rfl⟩ := vals1 r
 have hn := line63
 exact len_str (by omega) ⟨.int z.length, H, I.tok _, ⟨_, rfl⟩, q⟩
theorem CallR.or {f : Value} {r r' : List V -> Hp -> VK -> Prop} (h : CallR X f r) (h' : CallR X f r') : CallR X f (fun xs H Q => r xs H Q ∨ r' xs H Q) := by
 intro pins s σ H xs us Q I rs q
 rcases q with q | q
 ·exact h pins s σ H xs us Q I rs q
 ·exact h' pins s σ H xs us Q I rs q
theorem call_tuple_of : CallR X (.type "tuple") (fun xs H Q => ∃ p ys, xs = [.ref p] /\ ((SqL X.K H p ys /\ ∀ l, H l = none -> Q (.ref l) (upd H l (.tup ys))) ∨ (SqT X.K H p ys /\ Q (.ref p) H))) := by
 intro pins s σ H xs us Q I r h
 obtain ⟨p, ys, rfl, h⟩ := h
 obtain ⟨u, rfl, rx⟩ := vals1 r
 cases rx
 rcases h with ⟨hq, q⟩ | ⟨hq, q⟩
 ·obtain ⟨its, r', pl, hz⟩ := I.list hq
  have hlen := r'.length
  refine call_tuple_list pl.isList (fun h' kp => ?_) (by simp only [List.size_toArray] <;> omega)
  have I1 : Inv X pins σ H { s with heap := h' } := I.kept (t' := s.toks) kp
  have I2 : Inv X pins σ (upd H h'.objs.size (.tup ys)) { s with heap := h'.push { cls := .type "tuple", data := .seq its.toArray } } :=
   I1.laid (t' := s.toks) (fun b o e => Heap.get?_push_of_some _ e) (Nat.le_refl _) (show ObjOk X.prog X.w _ _ _ (.tup ys) from ⟨hz, its, r', IsTup.new _ _, _, Heap.get?_push_size _ rfl, rfl⟩)
  exact ⟨.ref h'.objs.size, _, I2, rfl, q _ (I1.hok.fresh (Nat.le_refl _))⟩
 ·obtain ⟨its, r', pl, hz⟩ := I.tuple hq
  exact call_tuple_same pl ⟨.ref p, H, I, rfl, q⟩
def tyV (K : PySem.W.Frag) (T : String) (x : V) (H : Hp) : Prop := match x with
 | .str _ => T = "str"
 | .int _ => T = "int"
 | .ref p => (T = "list" /\ ∃ xs, SqL K H p xs) ∨ (T = "tuple" /\ ∃ o, K.lookup p = some o /\ o.cls = .type "tuple" /\ o.dict = none) ∨
   (T = "dict" /\ ((∃ kvs, H p = some (.dK kvs)) ∨ ∃ kvs, H p = some (.dT kvs))) ∨ (T = "set" /\ ∃ S n, H p = some (.set S n))
 | _ => False
theorem tyV_is {pins : List (Addr × Obj)} {σ : St} {H : Hp} {s : Shared} {T : String} {x : V} {v : Value} (I : Inv X pins σ H s) (r : RelV x v) (ty : tyV X.K T x H) :
  s.TypeIs v T /\ ∀ a, v = .ref a -> ∃ ob, s.heap.get? a = some ob /\ ob.dict = none := by
 cases x with
 | str z =>
  obtain ⟨t, rfl⟩ := r
  cases (show T = "str" from ty)
  exact ⟨typeIs_str s z t, fun _ e => nomatch e⟩
 | int i =>
  obtain ⟨t, rfl⟩ := r
  cases (show T = "int" from ty)
  exact ⟨typeIs_int s i t, fun _ e => nomatch e⟩
 | ref p =>
  cases r
  rcases ty with ⟨rfl, xs, hq⟩ | ⟨rfl, o, hk, hc, hd⟩ | ⟨rfl, hk⟩ | ⟨rfl, S, n, hk⟩
  ·obtain ⟨its, _, pl, _⟩ := I.list hq
   refine ⟨pl.isList.typeIs, fun a e => ?_⟩
   cases e
   obtain ⟨o, n, e, c, hd, _⟩ := pl
   exact ⟨o, e, hd⟩
  ·refine ⟨⟨o, I.kIn p o hk, hc⟩, fun a e => ?_⟩
   cases e
   exact ⟨o, I.kIn _ o hk, hd⟩
  ·have z : ∃ o, s.heap.get? p = some o /\ o.ExactDict := by
    rcases hk with ⟨kvs, hk⟩ | ⟨kvs, hk⟩
    ·obtain ⟨_, _, _, _, o, _, _, e, ex, _⟩ := I.hok p _ hk
     exact ⟨o, e, ex⟩
    ·obtain ⟨_, _, _, _, o, _, _, e, ex, _⟩ := I.hok p _ hk
     exact ⟨o, e, ex⟩
   obtain ⟨o, e, ex⟩ := z
   refine ⟨⟨o, e, ex.1⟩, fun a e2 => ?_⟩
   cases e2
   exact ⟨o, e, ex.2.1⟩
  ·obtain ⟨o, _, _, _, e, ex, _⟩ := I.hok p _ hk
   refine ⟨⟨o, e, ex.1⟩, fun a e2 => ?_⟩
   cases e2
   exact ⟨o, e, ex.2.1⟩
 | _ => exact False.elim ty
def tBM (K : PySem.W.Frag) (T : String) (r : V -> List V -> Hp -> VK -> Prop) (to : TE) (t : TA) : TE := fun σ H Q => to σ H fun x H1 => tyV K T x H1 /\ t σ H1 fun xs H2 => r x xs H2 Q
variable {o e : Expr} {es : List Expr} {to : TE} {t : TA} {name : Str} {apos cpos : Pos} {T id : String} {r : V -> List V -> Hp -> VK -> Prop}
theorem pe_bm (pa : PlainAttrs T) (slot : Slot T name id) (hty : typeOf (.builtin id) = pure (.type "method_descriptor")) (hm : MtR X id r) (ho : PE X o to) (ha : PA X (e :: es) t)
  (hbase : autoParam (attributeBase o name X.env (eval o X.env) = eval o X.env) AutoP.a3._auto_1)
  (hfew : autoParam (((backTo cpos (starEach (e :: es) X.env)).all (fun x => !x.1) && (backToKw cpos (keywordEach [] X.env)).all (fun x => x.1.isSome)
   && decide ((e :: es).length + ([] : List Keyword).length + (if ([] : List Keyword).isEmpty then 0 else 1) < 30)) = true) AutoP.a3._auto_1)
  (hline : autoParam ((apos.endLine == cpos.line) = true) AutoP.a3._auto_1) (hs : autoParam (starEach (e :: es) X.env = (false, eval e X.env) :: starEach es X.env) AutoP.a3._auto_1) (hplain : autoParam ((backTo cpos (starEach es X.env)).any (·.1) = false) AutoP.a3._auto_1) :
  PE X (.Call (.Attribute o name apos) (e :: es) [] cpos) (tBM X.K T r to t) := by
 intro pins s σ H Q I h
 refine wpAny_Call_method_late hbase hfew hline rfl (thn (ho pins s σ H _ I h) fun v s1 ⟨x, H1, I1, r1, ty, q1⟩ => ?_)
 obtain ⟨h1, h2⟩ := tyV_is I1 r1 ty
 refine ⟨T, id, pa, slot, hty, h1, h2, ?_⟩
 have hA := ha cpos pins s1 σ H1 _ I1 q1
 rw [hs] at hA ⊢
 refine Calls.callWith_builtin (by show (false || (backTo cpos (starEach es X.env)).any (·.1)) = false; rw [hplain] <;> rfl) (Calls.evalArgs_plain ?_)
 exact thn hA fun us s2 ⟨vs, H2, I2, r2, q2⟩ => hm pins s2 σ H2 x vs v us Q I2 r1 r2 q2
/- xs.append(e), list.index on a module's tuple .. are MtR facts of 06m -/
end
def MtM (X : Cx) (id : String) (r : V -> List V -> Hp -> VK -> Prop) : Prop :=
 ∀ (pins : List (Addr × Obj)) (s : Shared) (σ : St) (H : Hp) (x : V) (xs : List V) (v : Value) (us : List Value) (Q : VK), Inv X pins σ H s -> RelV x v -> Vals xs us -> r x xs H Q →
  wpAny (model X.prog X.w) X.A (call (.builtin id) (v :: us)) (EP X pins σ Q) X.xe s
theorem Vals.one : ∀ {x : V} {us : List Value}, Vals [x] us -> ∃ u, us = [u] /\ RelV x u
 | _, _, .cons r .nil => ⟨_, rfl, r⟩
theorem Vals.eraseIdx : ∀ {xs : List V} {us : List Value} (i : Nat), Vals xs us -> Vals (xs.eraseIdx i) (us.eraseIdx i)
 | _, _, _, .nil => .nil
 | _, _, 0, .cons _ t => t
 | _, _, i + 1, .cons r t => .cons r (Vals.eraseIdx i t)
theorem len_erase {α : Type} : ∀ (l : List α) (i : Nat), (l.eraseIdx i).length <= l.length
 | [], _ => Nat.le_refl _
 | _ :: _, 0 => Nat.le_succ _
 | _ :: r, i + 1 => Nat.succ_le_succ (len_erase r i)
section
variable {X : Cx} {pins : List (Addr × Obj)} {σ : St} {H : Hp} {s : Shared} {l b : Addr} {xs ys zs : List V}
theorem Inv.lset {its its' : List Value} {n : Nat} {f : Array Value -> Array Value} {t' : Nat} (I : Inv X pins σ H s) (hH : H l = some (.lst xs))
  (e : s.heap.get? l = some { cls := .type "list", data := .seq its.toArray n }) (hf : f its.toArray = its'.toArray) (hv : Vals ys its') (hz : ys.length <= sizeLine) :
  Inv X pins σ (upd H l (.lst ys)) { s with heap := s.heap.update l (Obj.mapSeq f), toks := t' } := by
 have q := PySem.IsL.update e f
 rw [hf] at q
 refine I.write (x := l) (e := l) (by rw [hH]; exact trivial) (.inl rfl) (fun b' u hb hu => (Heap.get?_update_other s.heap (Obj.mapSeq f) (Ne.symm hb)).trans hu) ⟨_, q⟩ ?_
 exact ⟨hz, its', _, hv, q⟩
theorem Inv.lnew {its : List Value} {t' : Nat} (I : Inv X pins σ H s) (hv : Vals ys its) (hz : ys.length <= sizeLine) :
  Inv X pins σ (upd H s.heap.objs.size (.lst ys)) { s with heap := s.heap.push { cls := .type "list", data := .seq its.toArray }, toks := t' } :=
 I.laid (fun _ _ q => Heap.get?_push_of_some _ q) (Nat.le_refl _) ⟨hz, its, 0, hv, Heap.get?_push_size _ rfl⟩
theorem Inv.fresh (I : Inv X pins σ H s) : H s.heap.objs.size = none := I.hok.fresh (Nat.le_refl _)
theorem Inv.lstM (I : Inv X pins σ H s) (hH : H l = some (.lst xs)) : xs.length <= sizeLine /\ ∃ (its : List Value) (n : Nat), Vals xs its /\ xs.length = its.length /\ s.heap.get? l = some { cls := .type "list", data := .seq its.toArray n } := by
 obtain ⟨z, its, n, r, e⟩ := I.hok l _ hH
 exact ⟨z, its, n, r, r.length, e⟩
end
section
variable {X : Cx}
def rAppend : V -> List V -> Hp -> VK -> Prop := fun x vs H Q => ∃ l xs y, x = .ref l /\ vs = [y] /\ H l = some (.lst xs) /\ xs.length < sizeLine /\ Q .non (upd H l (.lst (xs ++ [y])))
theorem mt_append : MtM X "list.append" rAppend := by
 intro pins s σ H x vs v us Q I rx rv h
 obtain ⟨l, xs, y, rfl, rfl, hH, hz, q⟩ := h
 cases rx
 obtain ⟨u, rfl, ru⟩ := rv.one
 obtain ⟨z, its, n, r, hl, e⟩ := I.lstM hH
 refine call_meets F.slot_list_append ⟨_, e, rfl⟩ F.entry_list_append (F.args_list_append_2 _ _) (PySem.list_append l its.toArray n u (by rw [List.size_toArray]; omega)) ⟨e, ?_⟩
 refine ⟨.non, _, I.lset (its' := its ++ [u]) hH e (by simp) (r.append (.cons ru .nil)) ?_, rfl, q⟩
 rw [List.length_append, List.length_singleton]
 omega
def rPopAt : V -> List V -> Hp -> VK -> Prop := fun x vs H Q => ∃ l xs i k y, x = .ref l /\ vs = [.int i] /\ H l = some (.lst xs) /\ -(2 ^ 63) <= i /\ i < 2 ^ 63 /\ seqIndex? i xs.length = some k /\ xs[k]? = some y /\ Q y (upd H l (.lst (xs.eraseIdx k)))
theorem mt_popAt : MtM X "list.pop" rPopAt := by
 intro pins s σ H x vs v us Q I rx rv h
 obtain ⟨l, xs, i, k, y, rfl, rfl, hH, h1, h2, hk, hy, q⟩ := h
 cases rx
 obtain ⟨u, rfl, ru⟩ := rv.one
 obtain ⟨t, rfl⟩ := ru
 obtain ⟨z, its, n, r, hl, e⟩ := I.lstM hH
 obtain ⟨w, hw, rw'⟩ := r.get hy
 refine call_meets F.slot_list_pop ⟨_, e, rfl⟩ F.entry_list_pop (F.args_list_pop_2 _ _)
  (MeetsSeq.list_pop_at l its.toArray n i t k w (fitsIndex_both h1 h2) (by rw [List.size_toArray, <- hl]; exact hk) (by rw [<- Array.getElem?_toList]; exact hw) (by rw [List.size_toArray]; omega)) ⟨e, ?_⟩
 refine ⟨y, _, I.lset (its' := its.eraseIdx k) hH e ?_ (r.eraseIdx k) ?_, rw', q⟩
 ·show its.toArray.eraseIdxIfInBounds k = (its.eraseIdx k).toArray
  rw [List.eraseIdxIfInBounds_toArray]
 ·have := len_erase xs k
  omega
end
end L2
namespace Att
open PySem PySem.W PySem.Calls PyProof.Rows
theorem ints_of_wellAll {P : Params} {h : Heap} : ∀ (ns : List Int) (vs : List Value), WellAll P h vs (ns.map WData.int) -> IntsAre vs ns := by
 intro ns
 induction ns with
 | nil =>
  intro vs w
  rw [List.map_nil] at w
  cases w
  exact .nil
 | cons n ns ih =>
  intro vs w
  rw [List.map_cons] at w
  cases w with
  | cons a b =>
   cases a
   exact .cons _ _ (ih _ b)
theorem script_of {l : OpenLaw} {n : Nat} (hn : l.most = some n) {P : Params} {h : Heap} {args : List WData} {vals : List Value}
  (hpre : l.row.toRowW.claim.pre args = true) (hwl : WellAll P h vals args) :
  ∃ a vs ns, vals = [Value.ref a] /\ args = [WData.list (ns.map WData.int)] /\ h.get? a = some { cls := .type "list", data := .seq vs.toArray } /\ IntsAre vs ns /\ ns.length <= n := by
 have hsh : WShape.hasAll [] args [.list .int] = true := (pre_splitW hpre).1
 have hc : l.pre.holds [] { args := args } = true := (pre_splitW hpre).2
 obtain ⟨d, r, rfl, h1, h2⟩ := hasAllW_cons hsh
 obtain rfl := hasAllW_nil h2
 obtain ⟨xs, rfl, h3⟩ := hasW_list h1
 obtain ⟨ns, rfl⟩ := items_int h3
 have hlen : ns.length <= n := by
  unfold OpenLaw.pre at hc
  have h4 : (WTm.not (.lt (.lit (.int (n : Int))) (.len (.arg 0)))).holds [] { args := [.list (ns.map .int)] } = true := by
   have h4 := (holds_andW hc).1
   rw [hn] at h4
   exact h4
  have h5 := condW_of h4 (w_not (w_lt w_lit (w_len_list (w_arg rfl))))
  rw [List.length_map] at h5
  refine Nat.le_of_not_lt fun q => ?_
  have q' : (n : Int) < ((ns.length : Nat) : Int) := by omega
  first
   | (rw [decide_eq_true q'] at h5; exact absurd h5 (by decide))
   | (simp at h5; omega)
 cases hwl with
 | cons w1 w2 =>
  cases w2
  cases w1 with
  | list ho hall => exact ⟨_, _, ns, rfl, rfl, ho, ints_of_wellAll ns _ hall, hlen⟩
theorem post_true (l : OpenLaw) (args : List WData) : l.row.toRowW.claim.post args (.bool true) args = true :=
 postW_of (r := l.row.toRowW) (X := (true == true))
  (show WShape.has [] (.bool true) .bool = true by first | rfl | decide | simp [WShape.has, WShape.arms, WShape.armsAll])
  (show (WTm.eq .res (.lit (.bool true))).value [] { args := args, res := some (.bool true), after := args } = some (.bool (true == true)) from w_eq_bool (w_res rfl) w_lit) rfl
theorem attach_call {l : OpenLaw} {n : Nat} {q : Program} {loose : List Str} {XP : (Str -> Option Value) -> Heap -> Prop} {YP : World -> Heap -> Prop} {d : DefRec}
  (hn : l.most = some n) (hdf : d.params.defaults = [])
  (call : ∀ (w : World) (s₀ s₁ : Shared) (mg mb : Str -> Option Value) (fa : Addr) (o : Obj) (pm cd doc : Value) (a : Addr) (vs : List Value) (ns : List Int),
   Ground q loose [] XP w s₀ mg mb s₁.heap -> YP w s₁.heap →
   s₁.heap.get? fa = some o -> o.data = .func (docDef d.name d.params d.body d.scope pm cd doc) -> s₁.heap.CodeRec cd d.name -> mg d.name = some (.ref fa) →
   s₁.heap.get? a = some { cls := .type "list", data := .seq vs.toArray } -> IntsAre vs ns -> ns.length <= n -> s₁.gens = #[] →
   codeAny (model l.prog w) callerA (.call (.ref fa) ⟨[.ref a], []⟩) (fun r s' => r = .ok (.ret (.bool true)) /\ OldK s₁.heap s'.heap /\ s'.os = s₁.os /\ AllBare s'.gens) s₁) :
  WalkO q loose XP YP l.row.toRowW d [] (fun f vs => PySem.call f vs) := by
 intro w s₀ s₁ mg mb G Y fa o pm cd doc dV kV ho hd hcd hD hmg hg args vals as hpre hlay hrd hwl hlo
 obtain rfl : dV = .none := Dflts.none hD hdf
 obtain rfl : kV = .none := Dflts.noKw hD
 obtain ⟨a, vs, ns, rfl, rfl, hobj, hints, hlen⟩ := script_of hn hpre hwl
 refine enter_call (codeAny_mono (call w s₀ s₁ mg mb fa o pm cd doc a vs ns G Y ho (fd_plain hd) hcd hmg hobj hints hlen hg) fun r s' hq => ?_)
 obtain ⟨rfl, h2, h3, h4⟩ := hq
 exact ⟨.inl ⟨.bool true, .bool true, [], rfl, fun _ => rfl, .bool true, post_true l _, fun _ => ⟨List.Pairwise.nil, fun _ hm => (nomatch hm)⟩⟩, h2, h3, h4⟩
section
variable {prog : Program} {w : World} {A : Around} {E : Value -> Shared -> Prop} {s : Shared} {K : Frag}
end
end Att
namespace L2
open PySem PySem.Spec PyProof.Rows
theorem vals_ints : ∀ {vs : List Value} {ns : List Int}, IntsAre vs ns -> Vals (ns.map V.int) vs
 | _, _, .nil => .nil
 | _, _, .cons n t h => .cons ⟨t, rfl⟩ (vals_ints h)
def Only (H : Hp) : Prop := ∀ b, H b = none ∨ ∃ o xs, H b = some (.frz o (.lst xs))
theorem law_call {P : Program} {w : World} {K : PySem.W.Frag} {mg mb : Str -> Option Value} {CX : CXT} {k : Nat} {fa a : Addr} {fd : FuncData} {x : Str} {sp : Sp} {s₁ : Shared} {vs : List Value} {ns : List Int}
  (KX : K.In s₁.heap) (hns : s₁.heap.Ns mainGlobals mg) (hb : s₁.heap.Ns builtinsNs mb) (hbb : ∀ x : Str, x ≠ "__name__" -> mb x = bootBuiltins x) (hlim : s₁.heap.NoLimit) (hg : s₁.gens = #[])
  (ha : s₁.heap.get? a = some { cls := .type "list", data := .seq vs.toArray }) (hi : IntsAre vs ns) (hl : ns.length <= sizeLine) (hr : Room k callerA)
  (F : ∀ base : Heap, K.In base -> base.Ns mainGlobals mg -> FnOk P w K mg base CX k fa fd [x] sp) (hbind : ∀ (s : Shared) (u : Value), BindsTo s fd ⟨[u], []⟩ [(x, u)])
  (hsp : ∀ H : Hp, Only H -> SqL K H a (ns.map V.int) -> sp [.ref a] H (fun v _ => v = .bl true) fun _ _ _ => False)
  (hCX : ∀ H e s', CX [] H s₁ (fun _ _ _ => False) e s' -> False) :
  codeAny (model P w) callerA (.call (.ref fa) ⟨[.ref a], []⟩) (fun r s' => r = .ok (.ret (.bool true)) /\ OldK s₁.heap s'.heap /\ s'.os = s₁.os /\ AllBare s'.gens) s₁ := by
 have rv := vals_ints hi
 have lenV := hi.length
 have core : ∀ H : Hp, Only H -> SqL K H a (ns.map V.int) -> HOk P w H s₁.heap -> (∀ b, H b ≠ none -> b = a) -> (H a ≠ none -> K.lookup a = none) →
   codeAny (model P w) callerA (.call (.ref fa) ⟨[.ref a], []⟩) (fun r s' => r = .ok (.ret (.bool true)) /\ OldK s₁.heap s'.heap /\ s'.os = s₁.os /\ AllBare s'.gens) s₁ := by
  intro H hO hS hok hA hK
  have base_of : ∀ {b : Addr} {o : Obj}, s₁.heap.get? b = some o -> H b = none -> (hidT s₁.heap H).get? b = some o := fun e n => hidT_get e n
  have noA : ∀ {b : Addr} {o : Obj} {es : Array DictEntry} {ep : Nat}, s₁.heap.get? b = some o -> o.data = .dict es ep -> H b = none := fun {b o es ep} e d => by
   cases q : H b with
   | none => rfl
   | some u =>
    have e' : b = a := hA b (by rw [q]; simp)
    subst e'
    rw [ha] at e; cases e
    have d' : Data.seq vs.toArray _ = Data.dict es ep := d
    cases d'
  have nsK : ∀ {b : Addr} {m : Str -> Option Value}, s₁.heap.Ns b m -> (hidT s₁.heap H).Ns b m := fun {b m} ⟨o, es, ep, e, d, r⟩ => ⟨o, es, ep, base_of e (noA e d), d, r⟩
  have hKb : K.In (hidT s₁.heap H) := fun b o e => base_of (KX b o e) (by
   cases q : H b with
   | none => rfl
   | some u =>
    have e' : b = a := hA b (by rw [q]; simp)
    subst e'
    rw [hK (by rw [q]; simp)] at e; cases e)
  have hM : Mod K mg (hidT s₁.heap H) := ⟨hKb, nsK hns, ⟨mb, nsK hb, hbb⟩, let ⟨mc, h1, h2⟩ := hlim; ⟨mc, nsK h1, h2⟩⟩
  have e0 : Env0 P w K mg (hidT s₁.heap H) callerA [] s₁ H := ⟨rfl, hM, fun b o e => of_hidT e, Nat.le_of_eq (hidT_size _ _), trivial, fun b hb => absurd (show b ∈ ([] : List Addr) from hb) (by simp), hok, .of_eq hg⟩
  refine codeAny_mono ((F _ hKb (nsK hns)).run callerA [] s₁ H ⟨[.ref a], []⟩ [.ref a] [.ref a] _ _ hr e0 (hbind s₁ (.ref a)) (.cons rfl .nil) (hsp H hO hS)) fun r s' h => ?_
  cases r with
  | error e => exact (hCX H e s' h).elim
  | ok fl =>
   cases fl with
   | next => exact False.elim h
   | brk => exact False.elim h
   | cont => exact False.elim h
   | ret u =>
    obtain ⟨v, H', os, bare, un, hok', r', q⟩ := h
    have q' : v = .bl true := q
    subst q'
    obtain rfl : u = Value.bool true := r'
    refine ⟨rfl, OldK.of_keep fun b o e => ?_, os, bare⟩
    cases q : H b with
    | none => exact un.keep b o e q (by intro z; exact absurd (show b ∈ ([] : List Addr) from z) (by simp)) (by simp)
    | some u =>
     rcases hO b with z | ⟨ob, xs, z⟩
     ·rw [q] at z; cases z
     ·have z2 := un.frzs b ob _ z
      obtain ⟨e1, _⟩ := hok b _ z
      obtain ⟨e2, _⟩ := hok' b _ z2
      rw [e] at e1; cases e1
      exact e2
 cases hk : K.lookup a with
 | some o =>
  have e := KX a o hk
  rw [ha] at e
  cases e
  refine core (fun _ => none) (fun _ => .inl rfl) (.inr ⟨_, vs.toArray, _, hk, rfl, rfl, rfl, by rw [List.size_toArray, lenV]; exact hl, by simpa using rv⟩) (fun b u z => by have z' : (none : Option HO) = some u := z; cases z') (fun b z => absurd rfl z) fun z => absurd rfl z
 | none =>
  refine core (fun b => if b = a then some (.frz { cls := .type "list", data := .seq vs.toArray } (.lst (ns.map V.int))) else none) (fun b => ?_) (.inl (.inr ⟨{ cls := .type "list", data := .seq vs.toArray }, if_pos rfl⟩)) (fun b u z => ?_) (fun b z => ?_) fun _ => hk
  ·by_cases hb : b = a
   ·exact .inr ⟨_, _, if_pos hb⟩
   ·exact .inl (if_neg hb)
  ·by_cases hb : b = a
   ·have z' := (if_pos hb).symm.trans z
    cases z'
    subst hb
    exact ⟨ha, by rw [List.length_map]; exact hl, vs, _, rv, ha⟩
   ·have z' := (if_neg hb).symm.trans z
    cases z'
  ·by_cases hb : b = a
   ·exact hb
   ·exact absurd (if_neg hb) z
theorem walk_of {l : PySem.W.OpenLaw} {n k : Nat} {q : Program} {loose : List Str} {XP : (Str -> Option Value) -> Heap -> Prop} {YP : World -> Heap -> Prop} {d : DefRec} {K : Params -> PySem.W.Frag} {CX : World -> CXT} {sp : World -> Sp} {x : Str}
  (hn : l.most = some n) (hn2 : n <= sizeLine) (hdf : d.params.defaults = []) (hr : Room k callerA)
  (hY : ∀ (w : World) (h : Heap), YP w h -> (K w.params).In h)
  (F : ∀ (w : World) (mg : Str -> Option Value) (fa : Addr) (h : Heap), (K w.params).In h -> h.Ns mainGlobals mg -> mg d.name = some (.ref fa) →
   ∃ fd : FuncData, (∀ (s : Shared) (u : Value), BindsTo s fd ⟨[u], []⟩ [(x, u)]) ∧
    ∀ base : Heap, (K w.params).In base -> base.Ns mainGlobals mg -> FnOk l.prog w (K w.params) mg base (CX w) k fa fd [x] (sp w))
  (hsp : ∀ (w : World) (H : Hp) (a : Addr) (ns : List Int), ns.length <= n -> Only H -> SqL (K w.params) H a (ns.map V.int) -> sp w [.ref a] H (fun v _ => v = .bl true) fun _ _ _ => False)
  (hCX : ∀ (w : World) (H : Hp) (s : Shared) (e : Value) (s' : Shared), CX w [] H s (fun _ _ _ => False) e s' -> False) :
  PySem.W.WalkO q loose XP YP l.row.toRowW d [] (fun f vs => PySem.call f vs) := by
 refine Att.attach_call hn hdf fun w s₀ s₁ mg mb fa o pm cd doc a vs ns G Y ho hd hcd hmg hobj hints hlen hg => ?_
 have KX := hY w _ Y
 obtain ⟨fd, hb, hF⟩ := F w mg fa _ KX G.T.g hmg
 exact law_call KX G.T.g G.T.b G.T.builtins G.T.nolimit hg hobj hints (Nat.le_trans hlen hn2) hr hF hb (fun H hO hS => hsp w H a ns hlen hO hS) fun H e s' => hCX w H s₁ e s'
theorem walk_ofK {l : PySem.W.OpenLaw} {n k : Nat} {q : Program} {loose : List Str} {XP : (Str -> Option Value) -> Heap -> Prop} {YP : World -> Heap -> Prop} {d : DefRec} {K : Params -> PySem.W.Frag} {CX : CXT} {sp : PySem.W.Frag -> Sp} {x : Str}
  (hn : l.most = some n) (hn2 : n <= sizeLine) (hdf : d.params.defaults = []) (hr : Room k callerA)
  (hY : ∀ (w : World) (h : Heap), YP w h -> (K w.params).In h)
  (F : ∀ (w : World) (mg : Str -> Option Value) (fa : Addr) (h : Heap), (K w.params).In h -> h.Ns mainGlobals mg -> mg d.name = some (.ref fa) →
   ∃ fd : FuncData, (∀ (s : Shared) (u : Value), BindsTo s fd ⟨[u], []⟩ [(x, u)]) ∧
    ∀ base : Heap, (K w.params).In base -> base.Ns mainGlobals mg -> FnOk l.prog w (K w.params) mg base CX k fa fd [x] (sp (K w.params)))
  (hsp : ∀ (K : PySem.W.Frag) (H : Hp) (a : Addr) (ns : List Int), ns.length <= n -> Only H -> SqL K H a (ns.map V.int) -> sp K [.ref a] H (fun v _ => v = .bl true) fun _ _ _ => False)
  (hCX : ∀ (H : Hp) (s : Shared) (e : Value) (s' : Shared), CX [] H s (fun _ _ _ => False) e s' -> False) :
  PySem.W.WalkO q loose XP YP l.row.toRowW d [] (fun f vs => PySem.call f vs) :=
 walk_of (K := K) (CX := fun _ => CX) (sp := fun w => sp (K w.params)) hn hn2 hdf hr hY F (fun w H a ns h1 h2 h3 => hsp (K w.params) H a ns h1 h2 h3) fun _ H s e s' => hCX H s e s'
end L2
/- THE LAST THEOREM (shape; LID, My.* are yours):
   My.Adr: a structure of the addresses that your layer names (classes, functions); My.Txt K t: a structure (Prop) of the equations over K;
   My.txt_mk : {K} {implicit addresses ..} (e1 : nsIn K mainGlobals "law" = some (some (.ref f))) (e2 : K.lookup f = some ⟨oc, od, .func (fnOf "law" "law" params body scope dV kV doc pm an cdv ct), sl⟩) (e3 : codeIn K cdv "law" = true) .. : ∃ t, My.Txt K t
(the tactic k_is has no namespace: write k_is) -/
namespace L2
open PySem PySem.Spec PyProof.Rows
def defArgs (s : Stmt) : Arguments := match s with
 | .FunctionDef _ a _ _ _ _ _ _ _ _ => a
 | _ => { posonlyargs := [], args := [], vararg := none, kwonlyargs := [], kw_defaults := [], kwarg := none, defaults := [] }
def defBody (s : Stmt) : List Stmt := match s with
 | .FunctionDef _ _ b _ _ _ _ _ _ _ => b
 | _ => []
def zak (s : Stmt) : Scope := match s with
 | .FunctionDef _ _ _ _ _ _ sc _ _ _ => sc
 | _ => { kind := .function, names := [], isGenerator := false, isCoroutine := false }
abbrev CX0 : CXT := fun _ _ _ _ _ _ => False
abbrev E0 : XK := fun _ _ _ => False
theorem pass0 {X : Cx} : Passes CX0 X E0 := fun _ _ _ _ _ _ _ h => h.elim
structure Fun (K : PySem.W.Frag) (x qual : Str) (st : Stmt) (f : Addr) (fd : FuncData) : Prop where
 ex : ∃ (oc : Value) (od : Option Addr) (kV doc pm : Value) (an : Option Addr) (cdv ct : Value) (osl : Array (Option Value)),
  fd = PySem.W.fnOf x qual (defArgs st) (defBody st) (zak st) .none kV doc pm an cdv ct /\ K.lookup f = some ⟨oc, od, .func fd, osl⟩ /\ PySem.W.codeIn K cdv qual = true
 kp : PySem.W.keepIn K (.ref f) = true
section
variable {P : Program} {w : World} {K : PySem.W.Frag} {mg : Str -> Option Value} {base : Heap}
theorem Fun.ok {x qual : Str} {st : Stmt} {f : Addr} {fd : FuncData} {N ps : List Str} {k : Nat} {sp : Sp} (F : Fun K x qual st f fd) (S : FnScope N ps (zak st)) (len : ∀ vs H Q E, sp vs H Q E -> vs.length = ps.length)
  (hbody : ∀ (cdv : Value) (A : Around) (outer : List Env) (s : Shared) (H : Hp) (vs : List V) (Q : VK) (E : XK), Room k (A.deeper (envOfC qual (zak st) s.heap.objs.size f cdv)) -> sp vs H Q E →
   ∃ t, PSs (cxOf CX0 P w K mg base N qual (zak st) f cdv A outer s H E).nox (defBody st) t /\ t { nx := fun _ H' => Q .non H', rt := Q } (start N vs) H) : FnOk P w K mg base CX0 (k + 1) f fd ps sp := by
 obtain ⟨oc, od, kV, doc, pm, an, cdv, ct, osl, rfl, lk, hcd⟩ := F.ex
 refine fn_of lk hcd S len fun A outer s H vs Q E hr hsp => ?_
 obtain ⟨t, h, q⟩ := hbody cdv A outer s H vs Q E hr hsp
 exact ⟨t, h.nox, q⟩
theorem Fun.binds {x qual : Str} {st : Stmt} {f : Addr} {fd : FuncData} {ps : List Str} (F : Fun K x qual st f fd)
  (h : ∀ (kV doc pm : Value) (an : Option Addr) (cdv ct : Value) (us : List Value), us.length = ps.length -> bindArgs (PySem.W.fnOf x qual (defArgs st) (defBody st) (zak st) .none kV doc pm an cdv ct) ⟨us, []⟩ = pure (ps.zip us)) : Binds K fd ps [] := by
 obtain ⟨oc, od, kV, doc, pm, an, cdv, ct, osl, rfl, lk, hcd⟩ := F.ex
 exact .all (h kV doc pm an cdv ct)
end
theorem hu_of {A : Around} {k : Nat} (hr : Room k A) : A.units + 1 < cLine := Nat.lt_of_le_of_lt (Nat.add_le_add_left (by decide : 1 <= 64) _) hr.units
def Same (H H' : Hp) : Prop := ∀ b o, H b = some o -> H' b = some o
theorem Same.refl (H : Hp) : Same H H := fun _ _ h => h
end L2
set_option autoImplicit false
namespace MD
open PySem PySem.Spec PyProof.Rows L2
def Kof (n : Nat) (h : Heap) : PySem.W.Frag := (List.range n).filterMap fun a => (h.get? a).map fun o => (a, o)
abbrev FnT := Option (Str × Str × Arguments × List Stmt × Scope)
def valNone (v : Value) : Bool := match v with
 | .none => true
 | _ => false
def fnV (K : PySem.W.Frag) (f : Addr) : FnT × Bool := match K.lookup f with
 | some ⟨_, _, .func ⟨x, q, ps, .stmts b, sc, gl, [], dv, _, _, _, _, cd, _, bl⟩, _⟩ => (some (x, q, ps, b, sc), Nat.beq gl mainGlobals && Nat.beq bl builtinsNs && valNone dv && PySem.W.codeIn K cd q)
 | _ => (none, false)
def viewOf (keep : List Nat) (p : Program) : Program := { p with main := { p.main with body := keep.filterMap fun i => p.main.body[i]? } }
end MD
set_option autoImplicit false
namespace K51
open PySem PyProof.Rows L2 MD
def top (i : Nat) : Stmt := PySem.Challenge.pw_shorthead_k51_pacts_written.main.body.getD i (.Pass ⟨0, 0, 0, 0⟩)
abbrev sIsWhole : Stmt := top 4
abbrev sIsBetween : Stmt := top 5
abbrev sIsValue : Stmt := top 6
abbrev sIsRow : Stmt := top 7
abbrev sIsWorded : Stmt := top 8
abbrev sIsShape : Stmt := top 10
abbrev sAreFields : Stmt := top 11
abbrev sIsField : Stmt := top 12
abbrev sIsName : Stmt := top 13
abbrev sIsKind : Stmt := top 14
abbrev sIsTurn : Stmt := top 15
abbrev sBreadths : Stmt := top 16
abbrev sIsForm : Stmt := top 18
abbrev sAreWays : Stmt := top 19
abbrev sIsWay : Stmt := top 20
abbrev sIsWide : Stmt := top 22
abbrev sAreForms : Stmt := top 23
abbrev sIsRoad : Stmt := top 24
abbrev sShowPact : Stmt := top 26
abbrev sShowField : Stmt := top 27
abbrev sShowForm : Stmt := top 28
abbrev sShowWay : Stmt := top 29
abbrev sShowWords : Stmt := top 30
abbrev sReadPact : Stmt := top 31
abbrev sShapeRead : Stmt := top 32
abbrev sFormsRead : Stmt := top 33
abbrev sNumbersRead : Stmt := top 34
abbrev sFieldRead : Stmt := top 35
abbrev sKindRead : Stmt := top 36
abbrev sFormRead : Stmt := top 37
abbrev sWayRead : Stmt := top 38
abbrev sNumberRead : Stmt := top 39
abbrev sSignedRead : Stmt := top 40
abbrev sLawPot : Stmt := top 42
abbrev sLawDraw : Stmt := top 43
abbrev sLawOf : Stmt := top 44
abbrev sLawSize : Stmt := top 45
abbrev sLawNames : Stmt := top 46
abbrev sLawValue : Stmt := top 47
abbrev sLawKind : Stmt := top 48
abbrev sLawShape : Stmt := top 49
abbrev sLawWay : Stmt := top 50
abbrev sLawForm : Stmt := top 51
abbrev sLawRoad : Stmt := top 52
abbrev sLawPact : Stmt := top 53
abbrev sLawWayWord : Stmt := top 54
abbrev sLawRows : Stmt := top 55
abbrev sLawSame : Stmt := top 56
abbrev sLaw : Stmt := top 57
def nms : List Str := (["is_whole", "is_between", "is_value", "is_row", "is_worded", "is_shape", "are_fields", "is_field", "is_name", "is_kind", "is_turn", "breadths", "is_form", "are_ways", "is_way", "is_wide", "are_forms", "is_road", "show_pact", "show_field", "show_form", "show_way", "show_words", "read_pact", "shape_read", "forms_read", "numbers_read", "field_read", "kind_read", "form_read"] : List (Str)) ++ (["way_read", "number_read", "signed_read", "_law_pot", "_law_draw", "_law_of", "_law_size", "_law_names", "_law_value", "_law_kind", "_law_shape", "_law_way", "_law_form", "_law_road", "_law_pact", "_law_way_word", "_law_rows", "_law_same", "law", "ValueError", "enumerate", "all", "range", "tuple", "int", "min", "isinstance", "bool", "str", "len"] : List (Str)) ++ (["list", "set", "abs", "zip"] : List (Str))
def nmsE : List (Option (Option Value)) := ([some (some (.ref 53)), some (some (.ref 60)), some (some (.ref 67)), some (some (.ref 74)), some (some (.ref 81)), some (some (.ref 88)), some (some (.ref 93)), some (some (.ref 100)), some (some (.ref 105)), some (some (.ref 112)), some (some (.ref 117)), some (some (.ref 122)), some (some (.ref 129)), some (some (.ref 134)), some (some (.ref 141)), some (some (.ref 148)), some (some (.ref 153)), some (some (.ref 160)), some (some (.ref 165)), some (some (.ref 172)), some (some (.ref 177)), some (some (.ref 184)), some (some (.ref 189)), some (some (.ref 194)), some (some (.ref 201)), some (some (.ref 208)), some (some (.ref 213)), some (some (.ref 218)), some (some (.ref 223)), some (some (.ref 228))] : List (Option (Option Value))) ++ ([some (some (.ref 235)), some (some (.ref 240)), some (some (.ref 247)), some (some (.ref 254)), some (some (.ref 261)), some (some (.ref 268)), some (some (.ref 275)), some (some (.ref 280)), some (some (.ref 287)), some (some (.ref 292)), some (some (.ref 299)), some (some (.ref 306)), some (some (.ref 311)), some (some (.ref 318)), some (some (.ref 323)), some (some (.ref 330)), some (some (.ref 335)), some (some (.ref 340)), some (some (.ref 347)), some none, some none, some none, some none, some none, some none, some none, some none, some none, some none, some none] : List (Option (Option Value))) ++ ([some none, some none, some none, some none] : List (Option (Option Value)))
def fnd : List (Addr × Str) := []
def fndE : List (Option (Option Value)) := []
def fnsa : List Addr := [53, 60, 67, 74, 81, 88, 93, 100, 105, 112, 117, 122, 129, 134, 141, 148, 153, 160, 165, 172, 177, 184, 189, 194]
def fnsb : List Addr := [201, 208, 213, 218, 223, 228, 235, 240, 247, 254, 261, 268, 275, 280, 287, 292, 299, 306, 311, 318, 323, 330, 335, 340, 347]
def fns : List Addr := fnsa ++ fnsb
def fnE (x q : Str) (st : Stmt) : FnT × Bool := (some (x, q, defArgs st, defBody st, zak st), true)
def fnsaE : List (FnT × Bool) := [fnE "is_whole" "is_whole" sIsWhole, fnE "is_between" "is_between" sIsBetween, fnE "is_value" "is_value" sIsValue, fnE "is_row" "is_row" sIsRow, fnE "is_worded" "is_worded" sIsWorded, fnE "is_shape" "is_shape" sIsShape, fnE "are_fields" "are_fields" sAreFields, fnE "is_field" "is_field" sIsField, fnE "is_name" "is_name" sIsName, fnE "is_kind" "is_kind" sIsKind, fnE "is_turn" "is_turn" sIsTurn, fnE "breadths" "breadths" sBreadths, fnE "is_form" "is_form" sIsForm, fnE "are_ways" "are_ways" sAreWays, fnE "is_way" "is_way" sIsWay, fnE "is_wide" "is_wide" sIsWide, fnE "are_forms" "are_forms" sAreForms, fnE "is_road" "is_road" sIsRoad, fnE "show_pact" "show_pact" sShowPact, fnE "show_field" "show_field" sShowField, fnE "show_form" "show_form" sShowForm, fnE "show_way" "show_way" sShowWay, fnE "show_words" "show_words" sShowWords, fnE "read_pact" "read_pact" sReadPact]
def fnsbE : List (FnT × Bool) := [fnE "shape_read" "shape_read" sShapeRead, fnE "forms_read" "forms_read" sFormsRead, fnE "numbers_read" "numbers_read" sNumbersRead, fnE "field_read" "field_read" sFieldRead, fnE "kind_read" "kind_read" sKindRead, fnE "form_read" "form_read" sFormRead, fnE "way_read" "way_read" sWayRead, fnE "number_read" "number_read" sNumberRead, fnE "signed_read" "signed_read" sSignedRead, fnE "_law_pot" "_law_pot" sLawPot, fnE "_law_draw" "_law_draw" sLawDraw, fnE "_law_of" "_law_of" sLawOf, fnE "_law_size" "_law_size" sLawSize, fnE "_law_names" "_law_names" sLawNames, fnE "_law_value" "_law_value" sLawValue, fnE "_law_kind" "_law_kind" sLawKind, fnE "_law_shape" "_law_shape" sLawShape, fnE "_law_way" "_law_way" sLawWay, fnE "_law_form" "_law_form" sLawForm, fnE "_law_road" "_law_road" sLawRoad, fnE "_law_pact" "_law_pact" sLawPact, fnE "_law_way_word" "_law_way_word" sLawWayWord, fnE "_law_rows" "_law_rows" sLawRows, fnE "_law_same" "_law_same" sLawSame, fnE "law" "law" sLaw]
def fnsE : List (FnT × Bool) := fnsaE ++ fnsbE
def bls (K : PySem.W.Frag) : List Bool := []
def blsE : List Bool := List.replicate 0 true
def obs (K : PySem.W.Frag) : List (Option (Option Value)) × List (Option (Option Value)) × List (FnT × Bool) × List Bool := (nms.map (PySem.W.nsIn K mainGlobals), fnd.map (fun p => PySem.W.findIn K (.ref p.1) p.2), fns.map (fnV K), bls K)
def expd : List (Option (Option Value)) × List (Option (Option Value)) × List (FnT × Bool) × List Bool := (nmsE, fndE, fnsE, blsE)
abbrev pw : Program := PySem.Challenge.pw_shorthead_k51_pacts_written
def vw : Program := viewOf (([1, 2, 4, 5, 6, 7, 8, 10, 11, 12, 13, 14, 15, 16, 18, 19, 20, 22, 23, 24, 26, 27, 28, 29, 30, 31, 32, 33, 34, 35] : List (Nat)) ++ ([36, 37, 38, 39, 40, 42, 43, 44, 45, 46, 47, 48, 49, 50, 51, 52, 53, 54, 55, 56, 57] : List (Nat))) pw
def xt (s : Shared) : Bool := PySem.W.xlAt vw [] s && PySem.W.recOk (PySem.W.RowW.records PySem.Challenge.rw_shorthead_k51_pacts_written.row.toRowW) s
def zO (s : Shared) := PySem.W.openSeen vw [] (importedModules pw.main.body) xt true s
def zG := PySem.W.openGood vw []
def zE (w : World) := PySem.W.openEnds treeTable pw w 3958
def hl0 (w : World) := (zE w).map fun s => zO s
def hr0 (_ : World) := some zG
def hl1 (w : World) := (zE w).map fun s => nms.map (PySem.W.nsIn (Kof 348 s.heap) mainGlobals)
def hr1 (_ : World) := some (nmsE)
def hl3 (w : World) := (zE w).map fun s => fnsa.map (fnV (Kof 348 s.heap))
def hr3 (_ : World) := some (fnsaE)
def hl4 (w : World) := (zE w).map fun s => fnsb.map (fnV (Kof 348 s.heap))
def hr4 (_ : World) := some (fnsbE)
end K51
namespace PySem.W.Fast
lay_quick K51.hl0 K51.hr0 K51.hl1 K51.hr1 K51.hl3 K51.hr3 K51.hl4 K51.hr4
end PySem.W.Fast
namespace K51
open PySem PyProof.Rows L2 MD PySem.W.Fast
theorem hlq0 (w : World) : tw10548898440397090894 w = tw12604040712110488551 w := by kernel_rfl
theorem hlq1 (w : World) : tw12753117048664835329 w = tw9910141708771433715 w := by kernel_rfl
theorem hlq3 (w : World) : tw17599340007872332440 w = tw4248692431017281479 w := by kernel_rfl
theorem hlq4 (w : World) : tw3480110575640006257 w = tw4750429029930063248 w := by kernel_rfl
end K51
namespace L2
open PySem PySem.Spec PyProof.Rows
section
variable {X : Cx}
theorem op_mul_str : OpR X (binaryOp .Mult) (fun x y H Q => ∃ z n, x = .str z /\ y = .int n /\ MulOk z n /\ Q (.str (Txt.mul z n)) H) := by
 intro pins s σ H x y v u Q I rx ry h
 obtain ⟨z, n, rfl, rfl, hz, q⟩ := h
 obtain ⟨t, rfl⟩ := rx
 obtain ⟨t', rfl⟩ := ry
 exact SB.mul hz fun t' tk => ⟨.str _, H, I.tok _, ⟨_, rfl⟩, q⟩
theorem call_int_txt : CallR X (.type "int") (fun xs H Q => ∃ z n, xs = [.str z] /\ PySem.intText? z = some n /\ z.length <= 640 /\ Q (.int n) H) := by
 intro pins s σ H xs us Q I r h
 obtain ⟨z, n, rfl, hn, hl, q⟩ := h
 obtain ⟨u, rfl, t, rfl⟩ := vals1 r
 exact PySem.W.KIN.call_text hn hl ⟨.int n, H, I.tok _, ⟨_, rfl⟩, q⟩
theorem op_fdivL : OpR X (binaryOp .FloorDiv) (rI (fun _ j => 0 < j /\ j < 2 ^ 64) fun i j => .int (i / j)) := opI fun i j _ _ _ _ _ hc q => by
 have h1 : (0 : Int) < j := hc.1
 have h2 : j < 2 ^ 64 := hc.2
 refine floordiv_int (by omega) (by rw [Int.fdiv_eq_ediv_of_nonneg i (by omega)]; exact q) (.inl (PyProof.noPylong_of_log2 ?_))
 have h3 : j.natAbs < 2 ^ 64 := by omega
 have h4 : j.natAbs.log2 < 64 := (Nat.log2_lt (by omega)).mpr h3
 omega
end
def clSub : List (Str × Addr) -> List (Str × Addr) -> Prop
 | [], _ => True
 | (n, a) :: r, cells => cells.lookup n = some a /\ clSub r cells
theorem clSub.at : ∀ {cl cells : List (Str × Addr)} {x : Str} {c : Addr}, clSub cl cells -> cl.lookup x = some c -> cells.lookup x = some c
 | [], _, _, _, _, e => by simp at e
 | (n, a) :: r, cells, x, c, h, e => by
  rw [List.lookup_cons] at e
  cases hx : x == n with
  | true =>
   rw [hx] at e
   cases e
   have q : x = n := by simpa using hx
   rw [q]
   exact h.1
  | false =>
   rw [hx] at e
   exact clSub.at h.2 e
structure CompOk (X : Cx) (N0 : List Str) (scope : Scope) (xs : List Str) (cl : List (Str × Addr)) : Prop where
 clos : closureFor scope X.env = pure cl
 kind : scope.kind = .function
 nocell : (scope.names.all fun y => decide (y.2 ≠ .cell)) = true
 locs : (scope.names.all fun y => decide (y.2 ≠ .local) || (decide (scope.names.lookup y.1 = some .local) && decide (y.1 ∉ N0))) = true
 sub : clSub cl X.env.cells
 has : (scope.names.all fun y => decide (y.2 ≠ .free) || ((cl.lookup y.1).isSome && (decide (X.env.kindOf y.1 = some .cell) || decide (X.env.kindOf y.1 = some .free)))) = true
 hid : N0 = X.N ∨ (N0.length = X.N.length /\ ((N0.zip X.N).all fun p => decide (p.1 = p.2) || (scope.names.lookup p.1).isNone) = true)
def Cx.comp (X : Cx) (N0 : List Str) (scope : Scope) (xs : List Str) (cl : List (Str × Addr)) (C : Addr) (s : Shared) (H : Hp) (fp : List Addr) : Cx :=
 { X with N := N0 ++ xs, s₀ := s, H₀ := H, env := compEnvC scope cl C X.env, outer := X.stack, stack := X.stack, ex := fp, fn := fun _ => false, pn := [] }
theorem relabel_at {env : Env} : ∀ {names : List (Str × NameKind)} {x : Str} {k : NameKind},
  (names.map fun (n, k) => if (k == NameKind.free && env.scope.kind == .function && env.kindOf n == some .cell) then (n, NameKind.cell) else (n, k)).lookup x = some k →
  ∃ k', names.lookup x = some k' /\ (x, k') ∈ names /\ (k' = k ∨ (k' = .free /\ k = .cell))
 | [], _, _, h => by simp at h
 | (n, q) :: r, x, k, h => by
  rw [List.map_cons] at h
  cases hx : x == n with
  | true =>
   have e : x = n := by simpa using hx
   subst e
   refine ⟨q, by simp [List.lookup_cons], List.mem_cons_self, ?_⟩
   dsimp only at h
   split at h
   ·rename_i hc
    simp [List.lookup_cons] at h
    have : q = .free := by
     simp at hc
     exact hc.1.1
    exact .inr ⟨this, h.symm⟩
   ·simp [List.lookup_cons] at h
    exact .inl h
  | false =>
   have h' : (r.map fun (n, k) => if (k == NameKind.free && env.scope.kind == .function && env.kindOf n == some .cell) then (n, NameKind.cell) else (n, k)).lookup x = some k := by
    dsimp only at h
    split at h <;> (simp only [List.lookup_cons, hx] at h; exact h)
   obtain ⟨k', e1, e2, e3⟩ := relabel_at h'
   exact ⟨k', by simp only [List.lookup_cons, hx]; exact e1, List.mem_cons_of_mem _ e2, e3⟩
section
variable {X : Cx} {N0 : List Str} {scope : Scope} {xs : List Str} {cl : List (Str × Addr)}
theorem CompOk.nc (S : CompOk X N0 scope xs cl) : ∀ y ∈ scope.names, y.2 ≠ .cell := fun y hy => of_decide_eq_true (List.all_eq_true.mp S.nocell y hy)
theorem CompOk.lo (S : CompOk X N0 scope xs cl) {y : Str × NameKind} (hy : y ∈ scope.names) (h : y.2 = .local) : scope.names.lookup y.1 = some .local /\ y.1 ∉ N0 := by
 have q := List.all_eq_true.mp S.locs y hy
 rw [Bool.or_eq_true, Bool.and_eq_true, decide_eq_true_eq, decide_eq_true_eq, decide_eq_true_eq] at q
 rcases q with q | q
 ·exact absurd h q
 ·exact q
theorem CompOk.fr (S : CompOk X N0 scope xs cl) {y : Str × NameKind} (hy : y ∈ scope.names) (h : y.2 = .free) : (∃ c, cl.lookup y.1 = some c) /\ (X.env.kindOf y.1 = some .cell ∨ X.env.kindOf y.1 = some .free) := by
 have q := List.all_eq_true.mp S.has y hy
 rw [Bool.or_eq_true, Bool.and_eq_true, Bool.or_eq_true, decide_eq_true_eq, decide_eq_true_eq, decide_eq_true_eq] at q
 rcases q with q | q
 ·exact absurd h q
 ·exact ⟨Option.isSome_iff_exists.mp q.1, q.2⟩
theorem CompOk.vis (S : CompOk X N0 scope xs cl) {x : Str} (h : Vis (relabel scope X.env) x) (hx : x ∈ N0) : ∃ c, cl.lookup x = some c /\ (X.env.kindOf x = some .cell ∨ X.env.kindOf x = some .free) := by
 have go : ∀ k, (relabel scope X.env).names.lookup x = some k -> (k = .local ∨ k = .cell ∨ k = .free) -> ∃ c, cl.lookup x = some c /\ (X.env.kindOf x = some .cell ∨ X.env.kindOf x = some .free) := fun k e hk => by
  obtain ⟨k', _, e2, e3⟩ := relabel_at e
  have hf : k' = .free := by
   rcases e3 with e3 | e3
   ·subst e3
    rcases hk with rfl | rfl | rfl
    ·exact absurd hx (S.lo e2 rfl).2
    ·exact absurd rfl (S.nc _ e2)
    ·rfl
   ·exact e3.1
  obtain ⟨⟨c, q⟩, r⟩ := S.fr e2 hf
  exact ⟨c, q, r⟩
 rcases h with h | h | h
 ·exact go _ h (.inl rfl)
 ·exact go _ h (.inr (.inl rfl))
 ·exact go _ h (.inr (.inr rfl))
theorem CompOk.len (S : CompOk X N0 scope xs cl) : N0.length = X.N.length := S.hid.elim (fun h => by rw [h]) fun h => h.1
theorem CompOk.same (S : CompOk X N0 scope xs cl) {i : Nat} {x : Str} (e : N0[i]? = some x) (h : Vis (relabel scope X.env) x) : X.N[i]? = some x := by
 rcases S.hid with q | ⟨q1, q2⟩
 ·rw [<- q]; exact e
 ·have hi : i < N0.length := (List.getElem?_eq_some_iff.mp e).1
  have hx : ∃ k', scope.names.lookup x = some k' := by
   rcases h with h | h | h <;> (obtain ⟨k', z, _⟩ := relabel_at h; exact ⟨k', z⟩)
  obtain ⟨k', hk⟩ := hx
  have ey := List.getElem?_eq_getElem (show i < X.N.length by omega)
  have hm : (x, X.N[i]'(by omega)) ∈ N0.zip X.N := List.mem_of_getElem? (i := i) (by rw [List.getElem?_zip_eq_some]; exact ⟨e, ey⟩)
  have := List.all_eq_true.mp q2 _ hm
  rw [hk] at this
  simp at this
  rw [ey, <- this]
theorem CompOk.hasC (S : CompOk X N0 scope xs cl) {x : Str} (h : (relabel scope X.env).names.lookup x = some .cell ∨ (relabel scope X.env).names.lookup x = some .free) : ∃ c, cl.lookup x = some c := by
 have go : ∀ k, (relabel scope X.env).names.lookup x = some k -> (k = .cell ∨ k = .free) -> ∃ c, cl.lookup x = some c := fun k e hk => by
  obtain ⟨k', _, e2, e3⟩ := relabel_at e
  have hf : k' = .free := by
   rcases e3 with e3 | e3
   ·subst e3
    rcases hk with rfl | rfl
    ·exact absurd rfl (S.nc _ e2)
    ·rfl
   ·exact e3.1
  exact (S.fr e2 hf).1
 rcases h with h | h
 ·exact go _ h (.inl rfl)
 ·exact go _ h (.inr rfl)
end
section
variable {X : Cx} {N0 : List Str} {scope : Scope} {xs : List Str} {cl : List (Str × Addr)} {pins : List (Addr × Obj)} {σ : St} {H2 : Hp} {s2 : Shared} {fp : List Addr} {C : Addr}
theorem comp_ok (I2 : Inv X pins σ H2 s2) (S : CompOk X N0 scope xs cl) (f2 : ∀ b ∈ fp, FpOk X pins H2 b) (hfp : ∀ b ∈ fp, b < s2.heap.objs.size) (hC : s2.heap.objs.size <= C) : (X.comp N0 scope xs cl C s2 H2 fp).Ok where
 mod := I2.ok.mod
 kind := S.kind
 glob := I2.ok.glob
 blt := I2.ok.blt
 above := hC
 inj := fun x y c h1 h2 => I2.ok.inj x y c (S.sub.at h1) (S.sub.at h2)
 has := fun x h => S.hasC h
 cab := fun _ _ h => nomatch h
 hd := I2.ok.hd
 frames := I2.ok.frames
 stk := .inl rfl
 exf := fun b hb => ⟨Nat.ne_of_lt (Nat.lt_of_lt_of_le (hfp b hb) hC), fun x c e => (f2 b hb).2.2.2.2.1 x c (S.sub.at e)⟩
 bs := I2.bs
 bsz := Nat.le_trans I2.ok.bsz I2.sz
 noex := fun b o e hb => by
  rcases (f2 b hb).2.2.2.1 with z | z
  ·exact I2.ok.noex b o e z
  ·exact absurd (Nat.lt_of_lt_of_le (Heap.lt_size e) (Nat.le_trans I2.ok.bsz z)) (Nat.lt_irrefl _)
 exfs := fun b hb z => by
  rcases List.mem_cons.mp (I2.stkSub b z) with q | q
  ·exact (f2 b hb).2.1 q
  ·exact (f2 b hb).2.2.1 q
 funs := I2.stack
 frf := I2.stkFree
theorem comp_cell {H' : Hp} {h' : Heap} (I2 : Inv X pins σ H2 s2) (f2 : ∀ b ∈ fp, FpOk X pins H2 b) (u : Un (frs X.stack) fp H2 H' s2.heap h') {x : Str} {c : Addr} {v : Option Value} (e : X.env.cells.lookup x = some c) (z : s2.heap.IsCell c v) : h'.IsCell c v := by
 obtain ⟨o, ho, hd⟩ := z
 obtain ⟨sl, q⟩ := u.any ho (I2.freeC x c e) fun hb => (f2 c hb).2.2.2.2.1 x c e rfl
 exact ⟨_, q, hd⟩
theorem comp_loc {H' : Hp} {h' : Heap} {m' : Str -> Option Value} (I2 : Inv X pins σ H2 s2) (S : CompOk X N0 scope xs cl) (f2 : ∀ b ∈ fp, FpOk X pins H2 b) (u : Un (frs X.stack) fp H2 H' s2.heap h')
  (i : Nat) (x : Str) (v : V) (e1 : (N0 ++ xs)[i]? = some x) (e2 : (σ ++ List.replicate xs.length none)[i]? = some (some v)) (e3 : Vis (relabel scope X.env) x) :
  ∃ w, RelV v w /\ Look (compEnvC scope cl C X.env) h' m' x w := by
 have hl := I2.len
 have hl0 := S.len
 by_cases hi : i < σ.length
 ·rw [List.getElem?_append_left (by omega)] at e1
  rw [List.getElem?_append_left hi] at e2
  obtain ⟨c, hc, hk⟩ := S.vis e3 (List.mem_of_getElem? e1)
  obtain ⟨m, _, hloc⟩ := I2.loc
  have hv : Vis X.env.scope x := .inr hk
  obtain ⟨w, r, l⟩ := hloc i x v (S.same e1 e3) e2 hv
  have hcx := S.sub.at hc
  refine ⟨w, r, .inr ⟨?_, c, hc, ?_⟩⟩
  ·rcases e3 with e3 | e3 | e3
   ·obtain ⟨k', _, m2, m3⟩ := relabel_at e3
    rcases m3 with m3 | m3
    ·exact absurd (List.mem_of_getElem? e1) (S.lo m2 m3).2
    ·exact nomatch m3.2
   ·exact .inl e3
   ·exact .inr e3
  ·rcases l with ⟨q, _⟩ | ⟨_, c', q, z⟩
   ·rcases hk with hk | hk
    ·rw [q] at hk; cases hk
    ·rw [q] at hk; cases hk
   ·rw [hcx] at q
    cases q
    exact comp_cell I2 f2 u hcx z
 ·rw [List.getElem?_append_right (by omega), List.getElem?_replicate] at e2
  split at e2 <;> cases e2
theorem comp_reset {pins' : List (Addr × Obj)} {σ' : St} {H' : Hp} {s' : Shared} (I2 : Inv X pins σ H2 s2) (S : CompOk X N0 scope xs cl) (f2 : ∀ b ∈ fp, FpOk X pins H2 b) (J : Inv (X.comp N0 scope xs cl C s2 H2 fp) pins' σ' H' s') :
  Inv (X.comp N0 scope xs cl C s2 H2 fp) pins' (σ ++ List.replicate xs.length none) H' s' :=
 ⟨J.ok, J.os, J.bare, J.base, let ⟨m, hn, _⟩ := J.loc; ⟨m, hn, fun i x v e1 e2 e3 => comp_loc I2 S f2 J.base i x v e1 e2 e3⟩, J.cell, J.free, J.freeC, J.pin, J.hok, by
  rw [List.length_append, List.length_replicate]
  show σ.length + xs.length = (N0 ++ xs).length
  rw [List.length_append, I2.len, S.len]⟩
theorem comp_start {D : Addr} {oD : Obj} {s3 : Shared} {m' : Str -> Option Value} (I2 : Inv X pins σ H2 s2) (S : CompOk X N0 scope xs cl) (f2 : ∀ b ∈ fp, FpOk X pins H2 b) (hfp : ∀ b ∈ fp, b < s2.heap.objs.size) (hC : s2.heap.objs.size <= C) (hD : s2.heap.objs.size <= D) (hDC : D ≠ C)
  (k : ∀ b o, s2.heap.get? b = some o -> s3.heap.get? b = some o) (ho : s3.os = s2.os) (hb : AllBare s3.gens) (hn : s3.heap.Ns C m') (hd : s3.heap.get? D = some oD) (hcell : ∀ v, oD.data ≠ .cell v) :
  Inv (X.comp N0 scope xs cl C s2 H2 fp) [(D, oD)] (σ ++ List.replicate xs.length none) H2 s3 :=
 have u : Un (frs X.stack) fp H2 H2 s2.heap s3.heap := Un.kept k
 ⟨comp_ok I2 S f2 hfp hC, ho, hb, u, ⟨m', hn, fun i x v e1 e2 e3 => comp_loc I2 S f2 u i x v e1 e2 e3⟩,
  fun x c e => by
   obtain ⟨v, z⟩ := I2.cell x c (S.sub.at e)
   exact ⟨v, comp_cell I2 f2 u (S.sub.at e) z⟩,
  I2.hok.fresh hC, fun x c e => I2.freeC x c (S.sub.at e),
  fun p hp => by
   have e : p = (D, oD) := List.mem_singleton.mp (show p ∈ [(D, oD)] from hp)
   subst e
   refine ⟨hd, I2.hok.fresh hD, hDC, fun z => ?_, hcell⟩
   obtain ⟨_, o, q, _⟩ := I2.stack.mem z
   exact absurd (Nat.lt_of_lt_of_le (Heap.lt_size q) hD) (Nat.lt_irrefl _),
  I2.hok.kept k, by
   rw [List.length_append, List.length_replicate]
   show σ.length + xs.length = (N0 ++ xs).length
   rw [List.length_append, I2.len, S.len]⟩
theorem hok_track {P : Program} {w : World} {H : Hp} {h : Heap} {a : Addr} {o : HO} (x : HOk P w H h) (hn : H a = none) (new : ObjOk P w (upd H a o) h a o) : HOk P w (upd H a o) h := fun b u e => by
 by_cases hb : b = a
 ·subst hb
  rw [upd_same] at e
  cases e
  exact new
 ·rw [upd_ne hb] at e
  exact (x b u e).stay (fun _ _ _ q => q) (fun c q => by rw [upd_ne (ne_of_none q hn)]; exact q) fun c ys q => by rw [upd_ne (ne_of_none q hn)]; exact q
theorem comp_end {pins' : List (Addr × Obj)} {σ' : St} {H' : Hp} {s' : Shared} {D : Addr} {ys : List V} {its : List Value} {n : Nat} (I2 : Inv X pins σ H2 s2) (f2 : ∀ b ∈ fp, FpOk X pins H2 b) (hD : s2.heap.objs.size <= D)
  (J : Inv (X.comp N0 scope xs cl C s2 H2 fp) pins' σ' H' s') (hn : H' D = none) (e : s'.heap.get? D = some { cls := .type "list", data := .seq its.toArray n }) (r : Vals ys its) (hz : ys.length <= sizeLine) :
  Inv X pins σ (upd H' D (.lst ys)) s' := by
 have u : Un (frs X.stack) fp H2 H' s2.heap s'.heap := J.base
 have neD : ∀ b o, s2.heap.get? b = some o -> b ≠ D := fun b o q => Nat.ne_of_lt (Nat.lt_of_lt_of_le (Heap.lt_size q) hD)
 have neT : ∀ b o, H2 b = some o -> b ≠ D := fun b o q => Nat.ne_of_lt (Nat.lt_of_lt_of_le (I2.hok.lt q) hD)
 refine I2.call' (ch := fp) J.os ⟨u.keep, u.slot, fun b o q m hx => ?_, u.there, fun b zs q => ?_, fun b o zs q => ?_, fun b ps q => ?_⟩ (hok_track J.hok hn ⟨hz, its, n, r, e⟩) J.bare fun b hb => ?_
 ·rw [upd_ne (neD b o q)]
  exact u.free b o q m hx
 ·rw [upd_ne (neT b _ q)]
  exact u.tups b zs q
 ·rw [upd_ne (neT b _ q)]
  exact u.frzs b o zs q
 ·rw [upd_ne (neT b _ q)]
  exact u.tbls b ps q
 ·obtain ⟨_, z1, _, z2, z3, z4⟩ := f2 b hb
  exact ⟨z2, z1, z3, z4⟩
end
def PIf (X : Cx) (ifs : List Expr) (t : TT) : Prop :=
 ∀ (pins : List (Addr × Obj)) (s : Shared) (σ : St) (H : Hp) (Q : Bool -> Hp -> Prop), Inv X pins σ H s -> t σ H Q →
  wpAny (model X.prog X.w) X.A (forIn ifs true fun c r => if r = true then do let ok <- isTrue c X.env (eval c X.env); pure (ForInStep.yield ok) else pure (ForInStep.yield r)) (TP X pins σ Q) X.xe s
def tYes : TT := fun _ H Q => Q true H
theorem pif_nil {X : Cx} : PIf X [] tYes := fun _ _ _ H _ I h => wpAny_tests_nil ⟨H, I, h⟩
def tComp (n : Nat) (wi : TI) (g : TG) (tf : TT) (te : TE) (fin : List V -> Hp -> Prop) : St -> Hp -> Prop := fun σ H => wi σ H fun J H1 => ∃ W : Nat -> Nat -> List V -> Hp -> Prop, (∃ m, W 0 m [] H1) /\ ∀ i m ys H, W i m ys H →
 ys.length <= sizeLine /\ ((J.stop i H /\ fin ys H) ∨ (J.go i H /\ ∃ (Y : V -> Hp -> Prop) (Z : Hp -> Prop), (∀ y H4, Y y H4 -> ys.length < sizeLine /\ ∃ m', m' < m /\ W (i + 1) m' (ys ++ [y]) H4) /\ (∀ H3, Z H3 -> ∃ m', m' < m /\ W (i + 1) m' ys H3) ∧
  ∀ x H', J.yld i H x H' -> g x (σ ++ List.replicate n none) H' fun σ2 H2 => tf σ2 H2 fun b H3 => if b = true then te σ2 H3 Y else Z H3))
theorem comp_turns {prog : Program} {w : World} {A : Around} {R : Result -> Shared -> Prop} {s : Shared} {elt target iter : Expr} {ifs : List Expr} {scope : Scope} {pos : Pos} {it acc : Value} {env : Env} (I : Nat -> Shared -> Prop)
  (turn : ∀ n s, I n s -> wpAny (model prog w) A (pyNext it) (fun r s₁ => match r with
   | none => R (.ok .next) s₁
   | some v => wpAny (model prog w) A (letOwnedTupleGo target it v) (fun _ t₁ => wpAny (model prog w) A (assign target env v) (fun _ s₂ =>
     wpAny (model prog w) A (forIn ifs true fun c r => if r = true then do let ok <- isTrue c env (eval c env); pure (ForInStep.yield ok) else pure (ForInStep.yield r)) (fun ok s₃ =>
      if ok = true then wpAny (model prog w) A (eval elt env) (fun x s₄ => wpAny (model prog w) A (call (.builtin "list.append") [acc, x]) (fun _ s₅ => ∃ m, m < n /\ I m s₅) (fun _ _ => False) s₄) (fun _ _ => False) s₃
      else ∃ m, m < n /\ I m s₃) (fun _ _ => False) s₂) (fun _ _ => False) t₁) (fun _ _ => False) s₁) (fun _ _ => False) s)
  (n : Nat) (h : I n s) : codeAny (model prog w) A (.compLoop (.ListComp elt [⟨target, iter, ifs, 0⟩] scope pos) 0 it acc env) R s := by
 refine codeAny_loop rfl I (fun n s hI => ?_) n h
 show wpAny _ A (Sem.onRaise (compTurn _ 0 it acc env) fun x => do noteFrame x env; theTreesLotGoes x) _ _ s
 refine wpAny_noted ?_
 rw [compTurn_list]
 refine wpAny_bind (wpAny_standAt (wpAny_bind (wpAny_mono (turn n s hI) (fun r s₁ h₁ => ?_) fun _ _ z => z.elim)))
 cases r with
 | none => exact wpAny_pure h₁
 | some v =>
  refine wpAny_bind (wpAny_mono h₁ (fun _ t₁ k₁ => ?_) fun _ _ z => z.elim)
  refine wpAny_bind (wpAny_mono k₁ (fun _ s₂ h₂ => wpAny_bind (wpAny_mono h₂ (fun ok s₃ h₃ => ?_) fun _ _ z => z.elim)) fun _ _ z => z.elim)
  cases ok with
  | false => exact wpAny_pure ⟨rfl, h₃⟩
  | true =>
   refine wpAny_bind (wpAny_bind (wpAny_mono h₃ (fun x s₄ h₄ => ?_) fun _ _ z => z.elim))
   exact wpAny_bind (wpAny_mono h₄ (fun _ s₅ h₅ => wpAny_pure (wpAny_pure ⟨rfl, h₅⟩)) fun _ _ z => z.elim)
section
variable {X : Cx} {N0 : List Str} {tg elt iter : Expr} {ifs : List Expr} {scope : Scope} {xs : List Str} {cl : List (Str × Addr)} {pos : Pos} {wi : TI} {g : TG} {tf : TT} {te : TE}
theorem comp_block {pins : List (Addr × Obj)} {σ : St} {H2 : Hp} {s2 : Shared} {it : Addr} {fp : List Addr} {tn : Nat -> Heap -> Prop} {J : It} {W : Nat -> Nat -> List V -> Hp -> Prop} {m0 : Nat} {fin : List V -> Hp -> Prop} {RR : Value -> Addr -> Result -> Shared -> Prop}
  (hc : X.calm = true) (hx : X.xe = fun _ _ => False) (S : CompOk X N0 scope xs cl)
  (hg : ∀ C s H fp, PG (X.comp N0 scope xs cl C s H fp) tg g) (hf : ∀ C s H fp, PIf (X.comp N0 scope xs cl C s H fp) ifs tf) (he : ∀ C s H fp, PE (X.comp N0 scope xs cl C s H fp) elt te)
  (I2 : Inv X pins σ H2 s2) (T : Turn X.prog X.w X.K tg J fp it tn) (st2 : tn 0 s2.heap) (f2 : ∀ b ∈ fp, FpOk X pins H2 b) (w0 : W 0 m0 [] H2)
  (turn : ∀ i m ys H, W i m ys H -> ys.length <= sizeLine /\ ((J.stop i H /\ fin ys H) ∨ (J.go i H /\ ∃ (Y : V -> Hp -> Prop) (Z : Hp -> Prop), (∀ y H4, Y y H4 -> ys.length < sizeLine /\ ∃ m', m' < m /\ W (i + 1) m' (ys ++ [y]) H4) /\ (∀ H3, Z H3 -> ∃ m', m' < m /\ W (i + 1) m' ys H3) ∧
   ∀ x H', J.yld i H x H' -> g x (σ ++ List.replicate xs.length none) H' fun σ2 H2 => tf σ2 H2 fun b H3 => if b = true then te σ2 H3 Y else Z H3)))
  (hRR : ∀ (D C : Addr) (s' : Shared) (ys : List V) (H' : Hp) (m' : Str -> Option Value), Inv X pins σ (upd H' D (.lst ys)) s' -> H' D = none -> s'.heap.Ns C m' -> FpOk X pins (upd H' D (.lst ys)) C -> fin ys H' -> RR (.ref D) C (.ok .next) s') :
  wpAny (model X.prog X.w) X.A (newList []) (fun acc s₃ => wpAny (model X.prog X.w) X.A (newFunctionEnv scope X.env.globals cl [] X.env.qual none .none (some X.env)) (fun cenv s₄ =>
   codeAny (model X.prog X.w) X.A (.compStart (.ListComp elt [⟨tg, iter, ifs, 0⟩] scope pos) 0 (.ref it) acc { cenv with scope := relabel scope X.env }) (RR acc cenv.locals) s₄) X.xe s₃) X.xe s2 := by
 refine wpAny_newObj_type (wpAny_newFunctionEnv S.nc (by intro y hy; simp at hy) (fun h₁ hns₁ hsb₁ => ?_) S.kind)
 dsimp only at hns₁ hsb₁ ⊢
 generalize hG : s2.heap.push { cls := .type "list", dict := none, data := .seq ([] : List Value).toArray } = G at hns₁ hsb₁ ⊢
 have szG : G.objs.size = s2.heap.objs.size + 1 := by rw [<- hG, Heap.size_push]
 have hDC : s2.heap.objs.size ≠ G.objs.size := by rw [szG]; exact Nat.ne_of_lt (Nat.lt_succ_self _)
 have hC : s2.heap.objs.size <= G.objs.size := by rw [szG]; exact Nat.le_succ _
 have hfp : ∀ b ∈ fp, b < s2.heap.objs.size := fun b hb => let ⟨_, e, _⟩ := T.obj 0 _ st2 b hb; Heap.lt_size e
 have old : ∀ b o, s2.heap.get? b = some o -> h₁.get? b = some o := fun b o e =>
  hsb₁.extBut b o (Nat.ne_of_lt (Nat.lt_of_lt_of_le (Heap.lt_size e) hC)) (Heap.get?_push_of_some _ (hG ▸ Heap.get?_push_of_some _ e))
 have hacc : h₁.get? s2.heap.objs.size = some { cls := .type "list", data := .seq ([] : List Value).toArray 0 } := hsb₁.extBut _ _ hDC (Heap.get?_push_of_some _ (hG ▸ Heap.get?_push_size _ rfl))
 have hst₁ : tn 0 h₁ := T.keep 0 _ _ st2 fun b _ o e => old b o e
 have I3 : ∀ tk, Inv (X.comp N0 scope xs cl G.objs.size s2 H2 fp) [(s2.heap.objs.size, { cls := .type "list", data := .seq ([] : List Value).toArray 0 })] (σ ++ List.replicate xs.length none) H2 { s2 with heap := h₁, toks := tk } := fun tk =>
  comp_start I2 S f2 hfp hC (Nat.le_refl _) hDC old rfl I2.bare hns₁ hacc fun _ z => nomatch z
 have stat : ∀ {H' : Hp} {o : Obj}, (∀ b ∈ fp, H' b = none) -> ∀ b ∈ fp, FpOk (X.comp N0 scope xs cl G.objs.size s2 H2 fp) [(s2.heap.objs.size, o)] H' b := fun {H' o} hn b hb => by
  refine ⟨hn b hb, Nat.ne_of_lt (Nat.lt_of_lt_of_le (hfp b hb) hC), fun z => ?_, .inl hb, fun x c e => (f2 b hb).2.2.2.2.1 x c (S.sub.at e), fun p hp => ?_⟩
  ·rcases List.mem_cons.mp (I2.stkSub b z) with q | q
   ·exact (f2 b hb).2.1 q
   ·exact (f2 b hb).2.2.1 q
  ·have e : p = (s2.heap.objs.size, o) := List.mem_singleton.mp (show p ∈ [(s2.heap.objs.size, o)] from hp)
   subst e
   exact Nat.ne_of_gt (hfp b hb)
 have loop : ∀ tk, codeAny (model X.prog X.w) X.A (.compLoop (.ListComp elt [⟨tg, iter, ifs, 0⟩] scope pos) 0 (.ref it) (.ref s2.heap.objs.size) (compEnvC scope cl G.objs.size X.env)) (RR (.ref s2.heap.objs.size) G.objs.size) { s2 with heap := h₁, toks := tk } := by
  intro tk
  refine comp_turns (fun n s' => ∃ i ys its k H', Inv (X.comp N0 scope xs cl G.objs.size s2 H2 fp) [(s2.heap.objs.size, { cls := .type "list", data := .seq (its : List Value).toArray k })] (σ ++ List.replicate xs.length none) H' s' /\ tn i s'.heap /\ (∀ b ∈ fp, H' b = none) /\ Vals ys its /\ W i n ys H')
   ?_ m0 ⟨0, [], [], 0, H2, I3 tk, hst₁, fun b hb => (f2 b hb).1, .nil, w0⟩
  rintro n s' ⟨i, ys, its, k, H', I', st', fr', rv, w'⟩
  obtain ⟨hlen, way⟩ := turn i n ys H' w'
  rcases way with ⟨stop, qf⟩ | ⟨go, Y, Z, hY, hZ, step⟩
  ·refine thn (T.done (X.comp N0 scope xs cl G.objs.size s2 H2 fp) rfl rfl rfl hc i _ s' _ H' (fun _ _ => False) I' (stat fr') st' stop) fun r s1 ⟨hr, I1⟩ => ?_
   subst hr
   obtain ⟨e, n1, _⟩ := I1.pin _ (List.mem_singleton.mpr rfl)
   obtain ⟨m1, hn1, _⟩ := I1.loc
   refine hRR _ _ s1 ys H' m1 (comp_end I2 f2 (Nat.le_refl _) I1 n1 e rv hlen) n1 hn1 ?_ qf
   refine I2.fpOk hC ?_
   rw [upd_ne hDC.symm]
   exact I1.free
  ·refine thn (T.item (X.comp N0 scope xs cl G.objs.size s2 H2 fp) rfl rfl rfl hc i _ s' _ H' (fun _ _ => False) I' (stat fr') st' go) fun r s1 ⟨u, hr, h1⟩ => ?_
   subst hr
   refine thn h1 fun _ s5 ⟨x, H5, I5, r5, y5, st5, fr5⟩ => ?_
   have I5' := I5.pinned (stat fr5) (T.obj _ _ st5)
   have hxe : (X.comp N0 scope xs cl G.objs.size s2 H2 fp).xe = fun _ _ => False := hx
   have q6 := hg _ s2 H2 fp _ s5 _ H5 x u _ I5' r5 (step x H5 y5)
   rw [hxe] at q6
   refine thn q6 fun _ s6 ⟨σ6, H6, I6, q6⟩ => ?_
   have q7 := hf _ s2 H2 fp _ s6 σ6 H6 _ I6 q6
   rw [hxe] at q7
   refine thn q7 fun b s7 ⟨H7, I7, q7⟩ => ?_
   have kept : ∀ {σ' : St} {H' : Hp} {s' : Shared}, Inv (X.comp N0 scope xs cl G.objs.size s2 H2 fp) ([(s2.heap.objs.size, { cls := .type "list", data := .seq its.toArray k })] ++ pinsAt fp s5.heap) σ' H' s' -> tn (i + 1) s'.heap /\ ∀ b ∈ fp, H' b = none := fun {σ' H' s'} Z => by
    refine ⟨T.keep _ _ _ st5 fun b hb o e => (Z.pin (b, o) (List.mem_append_right _ (List.mem_append_right _ (mem_pinsAt hb e)))).1, fun b hb => ?_⟩
    obtain ⟨o, e, d⟩ := T.obj _ _ st5 b hb
    exact (Z.pin (b, o) (List.mem_append_right _ (List.mem_append_right _ (mem_pinsAt hb e)))).2.1
   cases b with
   | false =>
    rw [if_neg Bool.false_ne_true]
    rw [if_neg Bool.false_ne_true] at q7
    obtain ⟨m', hm, w7⟩ := hZ _ q7
    exact ⟨m', hm, i + 1, ys, its, k, H7, comp_reset I2 S f2 I7.unpinned, (kept I7).1, (kept I7).2, rv, w7⟩
   | true =>
    rw [if_pos rfl]
    rw [if_pos rfl] at q7
    have q8 := he _ s2 H2 fp _ s7 σ6 H7 _ I7 q7
    rw [hxe] at q8
    refine thn q8 fun y s8 ⟨yv, H8, I8, r8, qY⟩ => ?_
    obtain ⟨hz, m', hm, w8⟩ := hY _ _ qY
    obtain ⟨eD, nD, neC, nfD, _⟩ := I8.pin (s2.heap.objs.size, { cls := .type "list", data := .seq its.toArray k }) (List.mem_append_right _ (List.mem_append_left _ (List.mem_singleton.mpr rfl)))
    have hl := rv.length
    refine call_meets F.slot_list_append ⟨_, eD, rfl⟩ F.entry_list_append (F.args_list_append_2 _ _) (PySem.list_append s2.heap.objs.size its.toArray k y (by rw [List.size_toArray]; omega)) ⟨eD, ?_⟩
    have eN := PySem.IsL.update eD (fun (a : Array Value) => a.push y)
    have eA : its.toArray.push y = (its ++ [y]).toArray := by simp
    rw [eA] at eN
    have drop : Inv (X.comp N0 scope xs cl G.objs.size s2 H2 fp) (pinsAt fp s5.heap) σ6 H8 s8 := I8.pins_of fun p hp => I8.pin p (List.mem_append_right _ (List.mem_append_right _ hp))
    have I9 : Inv (X.comp N0 scope xs cl G.objs.size s2 H2 fp) (pinsAt fp s5.heap) σ6 H8 { s8 with heap := s8.heap.update s2.heap.objs.size (Obj.mapSeq fun (a : Array Value) => a.push y) } := by
     refine drop.turned (it := s2.heap.objs.size) (t' := s8.toks) (fun b o hb q => (Heap.get?_update_other s8.heap _ (Ne.symm hb)).trans q) nD neC (.inr (Nat.le_refl _)) (fun x c e z => ?_) fun p hp z => ?_
     ·obtain ⟨v, q⟩ := I2.cell x c (S.sub.at e)
      exact absurd (q.lt) (by rw [z]; exact Nat.lt_irrefl _)
     ·have hp' : p ∈ pinsAt fp s5.heap := hp
      exact absurd (hfp _ (of_pinsAt hp').1) (by rw [z]; exact Nat.lt_irrefl _)
    have I10 : Inv (X.comp N0 scope xs cl G.objs.size s2 H2 fp) ([(s2.heap.objs.size, { cls := .type "list", data := .seq (its ++ [y]).toArray _ })] ++ pinsAt fp s5.heap) σ6 H8 { s8 with heap := s8.heap.update s2.heap.objs.size (Obj.mapSeq fun (a : Array Value) => a.push y) } := I9.pins_of fun p hp => by
     rcases List.mem_append.mp hp with z | z
     ·have e := List.mem_singleton.mp z
      subst e
      exact ⟨eN, nD, neC, nfD, fun _ z => nomatch z⟩
     ·exact I9.pin p (List.mem_append_right _ z)
    have kp : tn (i + 1) (s8.heap.update s2.heap.objs.size (Obj.mapSeq fun (a : Array Value) => a.push y)) /\ ∀ b ∈ fp, H8 b = none := by
     refine ⟨T.keep _ _ _ (kept I8).1 fun b hb o e => (Heap.get?_update_other s8.heap _ (Nat.ne_of_gt (hfp b hb))).trans e, (kept I8).2⟩
    exact ⟨m', hm, i + 1, ys ++ [yv], its ++ [y], _, H8, comp_reset I2 S f2 I10.unpinned, kp.1, kp.2, rv.append (.cons r8 .nil), w8⟩
 exact codeAny_compStart_list (loop _) (T.self _ 0 _ _ _ hst₁ (loop _))
theorem comp_gone {pins : List (Addr × Obj)} {σ : St} {H : Hp} {s : Shared} {h' : Heap} {C : Addr} (I : Inv X pins σ H s) (f : FpOk X pins H C) (k : Heap.SameBut C s.heap h') : Inv X pins σ H { s with heap := h' } := by
 obtain ⟨n, nl, nf, ab, nc, np⟩ := f
 exact I.turned (it := C) (t' := s.toks) (fun b o hb e => k.extBut b o hb e) n nl ab nc np
theorem pe_comp (hc : X.calm = true) (hx : X.xe = fun _ _ => False) (S : CompOk X N0 scope xs cl) (hi : PI X tg iter wi)
  (hg : ∀ C s H fp, PG (X.comp N0 scope xs cl C s H fp) tg g) (hf : ∀ C s H fp, PIf (X.comp N0 scope xs cl C s H fp) ifs tf) (he : ∀ C s H fp, PE (X.comp N0 scope xs cl C s H fp) elt te)
  (hs : autoParam (∀ x, foldedSetIterable iter X.env x = pure x) AutoP.a2._auto_1) :
  PE X (.ListComp elt [⟨tg, iter, ifs, 0⟩] scope pos) (fun σ H Q => tComp xs.length wi g tf te (fun ys H' => ∀ p, H' p = none -> Q (.ref p) (upd H' p (.lst ys))) σ H) := by
 intro pins s σ H Q I h
 rw [eval_ListComp]
 refine wpAny_comprehension_free (use := none) rfl hs S.clos S.kind (fun y hy hl => (S.lo hy hl).1) ?_
 refine thn (hi pins s σ H _ I h) fun xv s1 h1 => thn h1 fun itv s2 h2 => ?_
 obtain ⟨it, fp, tn, J, H2, rfl, I2, T, st2, f2, W, ⟨m0, w0⟩, turn⟩ := h2
 refine comp_block (RR := fun acc C => compPost (model X.prog X.w) X.A X.xe none (EP X pins σ Q) acc C) hc hx S hg hf he I2 T st2 f2 w0 turn ?_
 intro D C s' ys H' m' I' nD hn fC fin
 exact ⟨m', hn, fun h' k => ⟨.ref D, _, comp_gone I' fC k, rfl, fin D nD⟩⟩
theorem ps_setC {i : Nat} {y : Str} {py spos : Pos} (hc : X.calm = true) (hx : X.xe = fun _ _ => False) (hN : X.N.Nodup) (hy : X.N[i]? = some y) (hl : X.env.scope.names.lookup y = some .local) (S : CompOk X N0 scope xs cl) (hi : PI X tg iter wi)
  (hg : ∀ C s H fp, PG (X.comp N0 scope xs cl C s H fp) tg g) (hf : ∀ C s H fp, PIf (X.comp N0 scope xs cl C s H fp) ifs tf) (he : ∀ C s H fp, PE (X.comp N0 scope xs cl C s H fp) elt te)
  (hsw : autoParam (swapsWith (.ListComp elt [⟨tg, iter, ifs, 0⟩] scope pos) (some (.Name y py)) spos.line X.env = pure true) AutoP.a4._auto_1)
  (hs : autoParam (∀ x, foldedSetIterable iter X.env x = pure x) AutoP.a2._auto_1) :
  PS X (.Assign [.Name y py] (.ListComp elt [⟨tg, iter, ifs, 0⟩] scope pos) spos) (fun D σ H => tComp xs.length wi g tf te (fun ys H' => ∀ p, H' p = none -> D.nx (σ.set i (some (.ref p))) (upd H' p (.lst ys))) σ H) := by
 intro pins s σ H D I h
 rw [exec_Assign_Name_used _ _ _ _ hsw]
 refine wpAny_bind (wpAny_standAt (wpAny_bind ?_))
 show wpAny _ X.A (comprehension (.ListComp elt [⟨tg, iter, ifs, 0⟩] scope pos) scope X.env _ (newList []) false (eval iter X.env) (some (assign (.Name y py) X.env)) >>= fun _ => _) _ _ s
 refine wpAny_bind (wpAny_mono (wpAny_comprehension_free (use := some (assign (.Name y py) X.env)) (Q := fun _ s' => SP X pins D .next s') rfl hs S.clos S.kind (fun y hy hl => (S.lo hy hl).1) ?_) (fun _ s' hq => wpAny_pure (wpAny_pure hq)) fun _ _ e => e)
 refine thn (hi pins s σ H _ I h) fun xv s1 h1 => thn h1 fun itv s2 h2 => ?_
 obtain ⟨it, fp, tn, J, H2, rfl, I2, T, st2, f2, W, ⟨m0, w0⟩, turn⟩ := h2
 refine comp_block (RR := fun acc C => compPost (model X.prog X.w) X.A X.xe (some (assign (.Name y py) X.env)) (fun _ s' => SP X pins D .next s') acc C) hc hx S hg hf he I2 T st2 f2 w0 turn ?_
 intro d C s' ys H' m' I' nD hn fC fin
 obtain ⟨oC, es, ep, ho, hd, hr⟩ := hn
 have IC : Inv X (pins ++ [(C, oC)]) σ (upd H' d (.lst ys)) s' := I'.pins_of fun p hp => by
  rcases List.mem_append.mp hp with z | z
  ·exact I'.pin p (List.mem_append_right _ z)
  ·have e := List.mem_singleton.mp z
   subst e
   exact ⟨ho, fC.1, fC.2.1, fC.2.2.1, fun v z => by rw [hd] at z; cases z⟩
 show wpAny (model X.prog X.w) X.A (assign (.Name y py) X.env (.ref d)) _ _ s'
 refine thn (pg_name (pos := py) hN hy (.inl hl) (.inr hl) _ s' σ _ (.ref d) (.ref d) _ IC rfl (fin d nD)) fun _ s'' ⟨σ'', H'', I'', q''⟩ => ?_
 have pC := I''.pin (C, oC) (List.mem_append_right _ (List.mem_append_right _ (List.mem_singleton.mpr rfl)))
 refine ⟨_, ⟨oC, es, ep, pC.1, hd, hr⟩, fun h' k => ⟨σ'', H'', comp_gone I''.unpinned ⟨pC.2.1, fC.2⟩ k, q''⟩⟩
end
section
variable {g : TG} {tf : TT} {te : TE} {fin : List V -> Hp -> Prop} {n : Nat} {σ : St} {H : Hp}
theorem comp_by {J : It} {k : Nat} (Pv : Nat -> List V -> Hp -> Prop) (hk : k <= 1000000) (h0 : Pv 0 [] H) (hz : ∀ i ys H, Pv i ys H -> ys.length <= i)
  (hgo : ∀ i ys H, i < k -> Pv i ys H -> J.go i H /\ ∀ x H', J.yld i H x H' -> g x (σ ++ List.replicate n none) H' fun σ2 H2 => tf σ2 H2 fun b H3 => if b = true then te σ2 H3 (fun y H4 => Pv (i + 1) (ys ++ [y]) H4) else Pv (i + 1) ys H3)
  (hst : ∀ ys H, Pv k ys H -> J.stop k H /\ fin ys H) :
  ∃ W : Nat -> Nat -> List V -> Hp -> Prop, (∃ m, W 0 m [] H) /\ ∀ i m ys H, W i m ys H -> ys.length <= sizeLine /\ ((J.stop i H /\ fin ys H) ∨ (J.go i H /\ ∃ (Y : V -> Hp -> Prop) (Z : Hp -> Prop), (∀ y H4, Y y H4 -> ys.length < sizeLine /\ ∃ m', m' < m /\ W (i + 1) m' (ys ++ [y]) H4) ∧
   (∀ H3, Z H3 -> ∃ m', m' < m /\ W (i + 1) m' ys H3) /\ ∀ x H', J.yld i H x H' -> g x (σ ++ List.replicate n none) H' fun σ2 H2 => tf σ2 H2 fun b H3 => if b = true then te σ2 H3 Y else Z H3)) := by
 have hl : sizeLine = 16777216 := sizeLine_eq
 refine ⟨fun i m ys H => m = k - i /\ i <= k /\ Pv i ys H, ⟨k, by simp, Nat.zero_le _, h0⟩, ?_⟩
 rintro i m ys H ⟨rfl, hi, p⟩
 have z := hz i ys H p
 refine ⟨by omega, ?_⟩
 by_cases hlt : i < k
 ·obtain ⟨g1, g2⟩ := hgo i ys H hlt p
  exact .inr ⟨g1, fun y H4 => Pv (i + 1) (ys ++ [y]) H4, fun H3 => Pv (i + 1) ys H3, fun y H4 q => ⟨by omega, k - (i + 1), by omega, rfl, hlt, q⟩, fun H3 q => ⟨k - (i + 1), by omega, rfl, hlt, q⟩, g2⟩
 ·have e : i = k := by omega
  subst e
  exact .inl (hst ys H p)
end
theorem bools_at {bs : List Bool} {its : List Value} (r : Vals (bs.map V.bl) its) {i : Nat} {v : Value} (e : its.toArray[i]? = some v) : v = .bool (bs.getD i true) := by
 have e' : its[i]? = some v := by simpa using e
 have hi : i < bs.length := by
  have h1 := r.length
  have h2 := (List.getElem?_eq_some_iff.mp e').1
  rw [List.length_map] at h1
  omega
 obtain ⟨u, q, z⟩ := r.get (i := i) (x := .bl (bs[i])) (by simp [hi])
 rw [e'] at q
 cases q
 rw [show v = Value.bool bs[i] from z]
 simp [hi]
theorem range_allB : ∀ (bs : List Bool), ((List.range bs.length).all fun i => bs.getD i true) = bs.all id
 | [] => rfl
 | b :: r => by
  rw [List.length_cons, List.range_succ_eq_map, List.all_cons, List.all_map, List.all_cons]
  have e : ((fun i => (b :: r).getD i true) ∘ Nat.succ) = fun i => r.getD i true := by
   funext i
   simp
  rw [e, range_allB r]
  simp
section
variable {X : Cx}
theorem call_allB (hc : X.calm = true) : CallR X (.builtin "all") (fun xs H Q => ∃ (l : Addr) (bs : List Bool), xs = [.ref l] /\ SqL X.K H l (bs.map V.bl) /\ Q (.bl (bs.all id)) H) := by
 intro pins s σ H xs us Q I r h
 obtain ⟨l, bs, rfl, hq, q⟩ := h
 obtain ⟨u, rfl, rx⟩ := vals1 r
 cases rx
 obtain ⟨its, r', pl, hz⟩ := I.list hq
 have hl := pl.isList
 have hlt : l < s.heap.objs.size := by obtain ⟨_, e, _⟩ := hl; exact Heap.lt_size e
 have hlen : bs.length = its.length := by rw [<- r'.length, List.length_map]
 refine call_all_walk (wpAny_pyIter_list hl ?_)
 refine ⟨s.heap.objs.size, _, _, its.toArray.size, _, _, fun i => bs.getD i true, rfl, Walks.list (A := X.A.in1) (I.ok.hd hc) _ l (Nat.ne_of_lt hlt) its.toArray, ⟨⟨_, Heap.get?_push_size _ rfl, rfl, rfl⟩, hl.push _⟩, fun i v s' Q' E' hP hQ => ?_, fun h' tk hk => ?_⟩
 ·rw [bools_at r' hP]
  exact wpAny_truthy_bool hQ
 ·rw [List.size_toArray, <- hlen, range_allB]
  exact ⟨.bl (bs.all id), H, I.kept fun b o e => hk b o (fun z => Nat.ne_of_lt (Heap.lt_size e) (List.mem_singleton.mp z)) (Heap.get?_push_of_some _ e), rfl, q⟩
end
def Itf (f : Nat -> V) (n : Nat) : It := ⟨fun i _ => i < n, fun i H x H' => H' = H /\ x = f i, fun i _ => i = n⟩
theorem turn_walk {P : Program} {w : World} {K : PySem.W.Frag} {tg : Expr} {it : Addr} {n : Nat} {Pq : Nat -> Value -> Prop} {St : Nat -> Heap -> Prop} {f : Nat -> V} {nm : String}
  (W : ∀ A : Around, A.handled = none -> Walks P w A it [it] [it] n Pq St) (ho : ∀ i h, St i h -> ∃ o vs, h.get? it = some o /\ o.cls = .type nm /\ o.data = .fields vs)
  (hfr : ∀ i h h', St i h -> (∀ b ∈ [it], ∀ o, h.get? b = some o -> h'.get? b = some o) -> St i h') (hn : ["enumerate", "zip", "dict_itemiterator", "dict_reverseitemiterator", "odict_iterator", "itertools.zip_longest", "itertools.pairwise"].contains nm = false)
  (hP : ∀ i v, i < n -> Pq i v -> RelV (f i) v) (hself : ∀ (A : Around) (i : Nat) (s : Shared) (Q : Value -> Shared -> Prop) (E : Value -> Shared -> Prop), St i s.heap -> Q (.ref it) s -> wpAny (model P w) A (pyIter (.ref it)) Q E s) : Turn P w K tg (Itf f n) [it] it St where
 mem := by simp
 obj := fun i h st b hb => by
  have e : b = it := by simpa using hb
  subst e
  obtain ⟨o, vs, e, c, d⟩ := ho i h st
  exact ⟨o, e, fun v z => by rw [d] at z; cases z⟩
 keep := fun i h h' st k => hfr i h h' st k
 item := by
  intro X hP' hw hK hc i pins s σ H E I hf st hg
  subst hP' hw hK
  obtain ⟨f0, f1, f2, f3, f4, f5⟩ := hf it (by simp)
  refine (W X.A (I.ok.hd hc)).item i s _ _ hg st fun v h' tk hv st' kk => ?_
  have I1 : Inv X pins σ H { s with heap := h', toks := tk } := I.turned (fun b o hb e => kk b o (by simpa using hb) e) f0 f1 f3 f4 f5
  obtain ⟨o, vs, e, c, d⟩ := ho _ _ st'
  exact ⟨v, rfl, go_of (s := { s with heap := h', toks := tk }) e c d hn ⟨f i, H, I1, hP i v hg hv, ⟨rfl, rfl⟩, st', fun b hb => (hf b hb).1⟩⟩
 done := by
  intro X hP' hw hK hc i pins s σ H E I hf st hg
  subst hP' hw hK
  obtain ⟨f0, f1, f2, f3, f4, f5⟩ := hf it (by simp)
  have e : i = n := hg
  subst e
  exact (W X.A (I.ok.hd hc)).done s _ _ st fun h' tk kk => ⟨rfl, I.turned (fun b o hb e => kk b o (by simpa using hb) e) f0 f1 f3 f4 f5⟩
 self := hself
def sgn (z : Str) (i : Nat) : V := .str ⟨#[z.cps.getD i 0]⟩
def iTxt (tl : TE) : TI := fun σ H R => tl σ H fun x H1 => ∃ z, x = .str z /\ R (Itf (sgn z) z.cps.size) H1
theorem striter_fields {h : Heap} {it : Addr} {nm : String} {x : Str} {t : Tok} {i : Nat} (st : h.IsStrIter it nm x t i) : ∃ o vs, h.get? it = some o /\ o.cls = .type nm /\ o.data = .fields vs := by
 obtain ⟨o, e, c, d⟩ := st
 exact ⟨o, _, e, c, d⟩
theorem striter_keep {h h' : Heap} {it : Addr} {nm : String} {x : Str} {t : Tok} {i : Nat} (st : h.IsStrIter it nm x t i) (k : ∀ b ∈ [it], ∀ o, h.get? b = some o -> h'.get? b = some o) : h'.IsStrIter it nm x t i := let ⟨o, ho, r⟩ := st; ⟨o, k it (by simp) o ho, r⟩
theorem sgn_rel {z : Str} {i : Nat} {v : Value} (h : SignAt z i v) : RelV (sgn z i) v := by
 obtain ⟨c, u, e, rfl⟩ := h
 refine ⟨u, ?_⟩
 have : z.cps.getD i 0 = c := by simp [Array.getD_eq_getD_getElem?, e]
 rw [this]
theorem pi_txt {X : Cx} {tg : Expr} {l : Expr} {tl : TE} (hl : PE X l tl) : PI X tg l (iTxt tl) := by
 intro pins s σ H R I h
 refine thn (hl pins s σ H _ I h) fun v s1 ⟨x, H1, I1, r1, q1⟩ => ?_
 obtain ⟨z, e, q⟩ := q1
 subst e
 obtain ⟨t, rfl⟩ := r1
 have fp : ∀ b ∈ [s1.heap.objs.size], FpOk X pins H1 b := fun b hb => by
  have e : b = s1.heap.objs.size := by simpa using hb
  subst e
  exact I1.fpOk (Nat.le_refl _) (I1.hok.fresh (Nat.le_refl _))
 cases ha : z.cps.all (· < 128)
 ·refine wpAny_pyIter_wide ha ?_
  exact ⟨s1.heap.objs.size, [s1.heap.objs.size], _, _, H1, rfl, I1.kept (t' := s1.toks) fun b o e => Heap.get?_push_of_some _ e, turn_walk (nm := "str_iterator") (St := fun i h => h.IsStrIter s1.heap.objs.size "str_iterator" z t i) (fun A hA => Walks.strWide hA _ z t) (fun i h st => striter_fields st) (fun i h h' st k => striter_keep st k) (by decide) (fun i v _ hv => sgn_rel hv) (fun A i s Q E st q => wpAny_pyIter_striter_wide st q), ⟨_, Heap.get?_push_size _ rfl, rfl, rfl⟩, fp, q⟩
 ·refine wpAny_pyIter_ascii ha ?_
  exact ⟨s1.heap.objs.size, [s1.heap.objs.size], _, _, H1, rfl, I1.kept (t' := s1.toks) fun b o e => Heap.get?_push_of_some _ e, turn_walk (nm := "str_ascii_iterator") (St := fun i h => h.IsStrIter s1.heap.objs.size "str_ascii_iterator" z t i) (fun A hA => Walks.strAscii hA _ z t) (fun i h st => striter_fields st) (fun i h h' st k => striter_keep st k) (by decide) (fun i v _ hv => sgn_rel hv) (fun A i s Q E st q => wpAny_pyIter_striter_ascii st q), ⟨_, Heap.get?_push_size _ rfl, rfl, rfl⟩, fp, q⟩
variable {X : Cx}
theorem sl_txt : SlR X (fun x lo hi H Q => ∃ z, x = .str z /\ z.length <= sizeLine /\ Q (.str (Txt.slice z lo hi)) H) := by
 intro pins s σ H x v vl vu lo hi sl Q I rx hs pl pu q
 obtain ⟨z, rfl, hz, q⟩ := q
 obtain ⟨t, rfl⟩ := rx
 obtain ⟨o, e, c, d⟩ := hs
 have hp : ∀ {v : Value} {o : Option Int}, IsPart v o -> ∃ p : Option (Int × Tok), v = partValue p /\ p.map (·.1) = o := by
  intro v o h
  cases h with
  | none => exact ⟨none, rfl, rfl⟩
  | int i t => exact ⟨some (i, t), rfl, rfl⟩
 obtain ⟨l, rfl, hl⟩ := hp pl
 obtain ⟨u, rfl, hu⟩ := hp pu
 subst hl hu
 refine ⟨"str", _, F.slot_str_getitem.lookup, typeIs_str _ _ _, wpAny_getItem_str_slice (l := l) (u := u) (st := none) ⟨o, e, c, d⟩ rfl ?_⟩
 exact post_val_or_str ⟨Nat.le_trans (Txt.slice_le z _ _) hz, fun t' k => ⟨.str (Txt.slice z (l.map (·.1)) (u.map (·.1))), H, I.tok _, ⟨t', rfl⟩, q⟩⟩
theorem strvals {ts : List Str} : ∀ {its : List Value}, Vals (ts.map V.str) its -> ∃ l : List (Str × Tok), its = strValues l /\ l.map (·.1) = ts := by
 induction ts with
 | nil => intro its r; cases r; exact ⟨[], rfl, rfl⟩
 | cons a ts ih =>
  intro its r
  rw [List.map_cons] at r
  cases r with
  | cons r1 r2 =>
   obtain ⟨t, rfl⟩ := r1
   obtain ⟨l, rfl, rfl⟩ := ih r2
   exact ⟨(a, t) :: l, rfl, rfl⟩
theorem mt_join : MtM X "str.join" (fun x xs H Q => ∃ (z : Str) (l : Addr) (ts : List Str), x = .str z /\ xs = [.ref l] /\ SqL X.K H l (ts.map V.str) /\ JoinOk z ts = true /\ Q (.str (Txt.join z ts)) H) := by
 intro pins s σ H x xs v us Q I rx rs h
 obtain ⟨z, l, ts, rfl, rfl, hq, hok, q⟩ := h
 obtain ⟨t, rfl⟩ := rx
 obtain ⟨u, rfl, ru⟩ := vals1 rs
 cases ru
 obtain ⟨its, r', pl, hz⟩ := I.list hq
 obtain ⟨ls, rfl, rfl⟩ := strvals r'
 exact SC.join pl.isList rfl hok fun t' k => ⟨.str (Txt.join z (ls.map (·.1))), H, I.tok _, ⟨t', rfl⟩, q⟩
theorem signs_vals {z : Str} {acc : Array Value} (h : ItemsOf (SignAt z) acc z.cps.size) : Vals ((List.range z.cps.size).map (sgn z)) acc.toList := by
 obtain ⟨h1, h2⟩ := h
 have gen : ∀ (n k : Nat) (ls : List Value), ls.length = n -> (∀ j v, ls[j]? = some v -> SignAt z (k + j) v) -> Vals ((List.range' k n).map (sgn z)) ls := by
  intro n
  induction n with
  | zero => intro k ls hl _; have : ls = [] := List.length_eq_zero_iff.mp hl; subst this; exact .nil
  | succ n ih =>
   intro k ls hl hh
   cases ls with
   | nil => cases hl
   | cons v ls =>
    rw [List.range'_succ, List.map_cons]
    refine .cons (sgn_rel (by simpa using hh 0 v rfl)) (ih (k + 1) ls (by simpa using hl) fun j v e => ?_)
    have := hh (j + 1) v (by simpa using e)
    rwa [show k + (j + 1) = k + 1 + j by omega] at this
 rw [List.range_eq_range']
 refine gen _ 0 _ (by simpa using h1) fun j v e => ?_
 rw [Nat.zero_add]
 exact h2 j v (by simpa using e)
theorem call_tuple_txt (hc : X.calm = true) : CallR X (.type "tuple") (fun xs H Q => ∃ z, xs = [.str z] /\ z.cps.size <= sizeLine /\ ∀ l, H l = none -> Q (.ref l) (upd H l (.tup ((List.range z.cps.size).map (sgn z))))) := by
 intro pins s σ H xs us Q I r h
 obtain ⟨z, rfl, hz, q⟩ := h
 obtain ⟨u, rfl, t, rfl⟩ := vals1 r
 refine call_tuple_str (I.ok.hd hc) z t (fun h' tk acc kp it => ?_) hz
 have hv := signs_vals it
 have I1 : Inv X pins σ H { s with heap := h', toks := tk } := I.kept kp
 have I2 : Inv X pins σ (upd H h'.objs.size (.tup ((List.range z.cps.size).map (sgn z)))) { s with heap := h'.push { cls := .type "tuple", data := .seq acc }, toks := tk } :=
  I1.laid (t' := tk) (fun b o e => Heap.get?_push_of_some _ e) (Nat.le_refl _) (show ObjOk X.prog X.w _ _ _ (.tup _) from ⟨by simpa using hz, acc.toList, hv, by simpa using IsTup.new h' acc, _, Heap.get?_push_size _ rfl, rfl⟩)
 exact ⟨.ref h'.objs.size, _, I2, rfl, q _ (I1.hok.fresh (Nat.le_refl _))⟩
variable {X : Cx}
variable {X : Cx} {K : PySem.W.Frag}
end L2
namespace PySem
open Sem (wp)
open Builtin
namespace F
end F
end PySem
namespace L2
open PySem PySem.Spec PyProof.Rows
end L2
namespace PySem
open Sem (wp)
open Builtin Builtin.Str
namespace F
end F
end PySem
namespace PySem
open Sem (wp)
open Builtin Builtin.Str
end PySem
namespace L2
open PySem PySem.Spec PyProof.Rows
theorem Inv.turn2 {X : Cx} {pins : List (Addr × Obj)} {σ : St} {H : Hp} {s : Shared} {h' : Heap} {t' : Nat} {a b : Addr} (I : Inv X pins σ H s) (fa : FpOk X pins H a) (fb : FpOk X pins H b)
  (k : ∀ c o, c ≠ a -> c ≠ b -> s.heap.get? c = some o -> h'.get? c = some o) : Inv X pins σ H { s with heap := h', toks := t' } := by
 obtain ⟨a0, a1, a2, a3, a4, a5⟩ := fa
 obtain ⟨b0, b1, b2, b3, b4, b5⟩ := fb
 have na : ∀ c u, H c = some u -> c ≠ a := fun c u e z => by rw [z, a0] at e; cases e
 have nb : ∀ c u, H c = some u -> c ≠ b := fun c u e z => by rw [z, b0] at e; cases e
 refine I.step (g' := s.gens) (d' := s.drawn) (ch := [a, b]) (fun c hc => ?_) (fun c o _ _ hc e _ => k c o (fun z => hc (by simp [z])) (fun z => hc (by simp [z])) e) (fun c o _ _ hc e _ => ⟨o.slots, k c o (fun z => hc (by simp [z])) (fun z => hc (by simp [z])) e⟩)
  (fun _ _ _ _ n => n) (fun c o hc e => ⟨o, k c o (fun z => hc (by simp [z])) (fun z => hc (by simp [z])) e⟩) (fun _ _ e => e) (fun _ _ _ e => e) (fun c ps e => ⟨#[], by rw [e]; simp⟩) (fun m hm => ?_) (fun c u e => ?_) I.bare
 ·have e : c = a ∨ c = b := by simpa using hc
  rcases e with rfl | rfl
  ·exact ⟨a3, a1, a4, a5⟩
  ·exact ⟨b3, b1, b4, b5⟩
 ·obtain ⟨o, es, ep, ho, r⟩ := hm
  exact ⟨o, es, ep, k _ o (Ne.symm a1) (Ne.symm b1) ho, r⟩
 ·refine (I.hok c u e).stay (fun d v hd q => ?_) (fun _ q => q) fun _ _ q => q
  rcases hd with z | z
  ·rw [z] at q ⊢
   exact k c v (na c u e) (nb c u e) q
  ·exact k d v (na d _ z) (nb d _ z) q
theorem Inv.turn2l {X : Cx} {pins : List (Addr × Obj)} {σ : St} {H : Hp} {s : Shared} {h' : Heap} {t' : Nat} {a b T : Addr} {o' : HO} (I : Inv X pins σ H s) (fa : FpOk X pins H a) (fb : FpOk X pins H b)
  (k : ∀ c o, c ≠ a -> c ≠ b -> s.heap.get? c = some o -> h'.get? c = some o) (hT : s.heap.objs.size <= T) (new : ObjOk X.prog X.w (upd H T o') h' T o') : Inv X pins σ (upd H T o') { s with heap := h', toks := t' } := by
 have J : Inv X pins σ H { s with heap := h', toks := t' } := I.turn2 fa fb k
 have hn : H T = none := I.hok.fresh hT
 obtain ⟨a0, a1, a2, a3, a4, a5⟩ := fa
 obtain ⟨b0, b1, b2, b3, b4, b5⟩ := fb
 have nT : ∀ c o, s.heap.get? c = some o -> c ≠ T := fun c o q => Nat.ne_of_lt (Nat.lt_of_lt_of_le (Heap.lt_size q) hT)
 refine I.step (g' := s.gens) (d' := s.drawn) (ch := [a, b]) (fun c hc => ?_) (fun c o _ _ hc e _ => k c o (fun z => hc (by simp [z])) (fun z => hc (by simp [z])) e) (fun c o _ _ hc e _ => ⟨o.slots, k c o (fun z => hc (by simp [z])) (fun z => hc (by simp [z])) e⟩)
  (fun c o _ q n => by rw [upd_ne (nT c o q)]; exact n) (fun c o hc e => ⟨o, k c o (fun z => hc (by simp [z])) (fun z => hc (by simp [z])) e⟩) (fun c xs e => by rw [upd_ne (ne_of_none e hn)]; exact e) (fun c u xs e => by rw [upd_ne (ne_of_none e hn)]; exact e)
  (fun c ps e => ⟨#[], by rw [upd_ne (ne_of_none e hn), e]; simp⟩) (fun m hm => ?_) (hok_track J.hok hn new) I.bare
 ·have e : c = a ∨ c = b := by simpa using hc
  rcases e with rfl | rfl
  ·exact ⟨a3, a1, a4, a5⟩
  ·exact ⟨b3, b1, b4, b5⟩
 ·obtain ⟨o, es, ep, ho, r⟩ := hm
  exact ⟨o, es, ep, k _ o (Ne.symm a1) (Ne.symm b1) ho, r⟩
end L2
namespace PySem
open Sem (wp)
open Builtin
section
variable {prog : Program} {w : World} {A : Around} {E : Value -> Shared -> Prop} {s : Shared}
theorem nextOf_tup_item {it l : Addr} {i : Nat} {items : Array Value} {x : Value} {Q : Value -> Shared -> Prop} (hit : s.heap.IsTupleIter it l i) (hl : s.heap.IsTuple l items) (hx : items[i]? = some x)
  (hQ : ∀ h', h'.IsTupleIter it l (i + 1) -> Heap.SameBut it s.heap h' -> Q x { s with heap := h' }) : wpAny (model prog w) A (SmallTypes.nextOf (.ref it)) Q E s := by
 obtain ⟨o, ho, hc, hd⟩ := id hit
 obtain ⟨ol, hol, _, nl, hdl⟩ := hl
 have e0 : ¬ ((Value.ref l == Value.none) = true) := Bool.false_ne_true
 unfold SmallTypes.nextOf
 refine wpAny_bind (wpAny_callSpecial?_slot (name := Str.ofString "__next__") hit.typeIs F.slot_tuple_iterator_next (wpAny_call_entry F.slot_tuple_iterator_next hit.typeIs F.entry_tuple_iterator_next ?_ (F.args_tuple_iterator_next_1 _)))
 refine wpAny_bind (m := field (.ref it) 0) (wpAny_field ho hd (x := .ref l) rfl ?_)
 show wpAny _ _ (if (Value.ref l == Value.none) = true then _ else _) _ _ s
 rw [if_neg e0]
 refine wpAny_bind (m := field (.ref it) 1) (wpAny_field ho hd (x := .int i 0) rfl ?_)
 refine wpAny_bind (m := seqItems? (.ref l)) (wpAny_seqItems hol hdl ?_)
 simp only [Int.toNat_natCast, hx]
 refine wpAny_bind (wpAny_setField ho hd (by simp) (wpAny_pure ⟨x, rfl, wpAny_pure (hQ _ ⟨_, Heap.get?_update_self _ ho (Obj.isFreed_of_fields (Obj.data_mapFields hd _)), (Obj.cls_mapFields ..).trans hc, ?_⟩ (Heap.SameBut.update ..))⟩))
 rw [Obj.data_mapFields hd]
 simp [rawInt]
theorem nextOf_tup_end {it l : Addr} {i : Nat} {items : Array Value} {Q : Value -> Shared -> Prop} (hh : A.handled = none) (hit : s.heap.IsTupleIter it l i) (hl : s.heap.IsTuple l items) (hx : items[i]? = none)
  (hE : ∀ h' e, Heap.ExtBut it s.heap h' -> (∃ o, h'.get? e = some o /\ o.cls = .type "StopIteration") -> E (.ref e) { s with heap := h' }) : wpAny (model prog w) A (SmallTypes.nextOf (.ref it)) Q E s := by
 obtain ⟨o, ho, hc, hd⟩ := id hit
 obtain ⟨ol, hol, _, nl, hdl⟩ := hl
 have e0 : ¬ ((Value.ref l == Value.none) = true) := Bool.false_ne_true
 unfold SmallTypes.nextOf
 refine wpAny_bind (wpAny_callSpecial?_slot (name := Str.ofString "__next__") hit.typeIs F.slot_tuple_iterator_next (wpAny_call_entry F.slot_tuple_iterator_next hit.typeIs F.entry_tuple_iterator_next ?_ (F.args_tuple_iterator_next_1 _)))
 refine wpAny_bind (m := field (.ref it) 0) (wpAny_field ho hd (x := .ref l) rfl ?_)
 show wpAny _ _ (if (Value.ref l == Value.none) = true then _ else _) _ _ s
 rw [if_neg e0]
 refine wpAny_bind (m := field (.ref it) 1) (wpAny_field ho hd (x := .int i 0) rfl ?_)
 refine wpAny_bind (m := seqItems? (.ref l)) (wpAny_seqItems hol hdl ?_)
 simp only [Int.toNat_natCast, hx]
 refine wpAny_bind (wpAny_rule (wpAny_bind (wpAny_setField ho hd (by simp) ?_)))
 show wpAny _ _ (newExc (.type "StopIteration") [] >>= _) _ _ _
 refine wpAny_bind ?_
 simp only [newExc, newTuple]
 refine wpAny_bind (wpAny_newObj_type ?_ (by size_fits))
 refine wpAny_bind (m := firstArgMember _ _) (wpAny_of_eq (a := Value.none) (by first | rfl | (simp only [firstArgMember]; rfl)) (wpAny_newObj_type ?_ (by size_fits)))
 simp only [raiseNew]
 have hh1 : A.in1.handled = none := hh
 refine wpAny_bind (wpAny_handled ?_)
 rw [hh1]
 exact wpAny_bind (wpAny_pure (wpAny_throw (hE _ _ (((Heap.SameBut.update ..).extBut.push _).push _) ⟨_, Heap.get?_push_size _ rfl, rfl⟩)))
end
theorem Draws.tup {prog : Program} {w : World} {A : Around} (hh : A.handled = none) (it l : Addr) (hne : l ≠ it) (items : Array Value) :
  Draws prog w A it [it, l] items.size (fun i v => items[i]? = some v) (fun i h => h.IsTupleIter it l i /\ h.IsTuple l items) where
 live := fun _ _ st => let ⟨o, ho, _⟩ := st.1; ⟨o, ho⟩
 frame := fun _ _ _ st hk => ⟨let ⟨o, ho, r⟩ := st.1; ⟨o, hk it (by simp) o ho, r⟩, let ⟨o, ho, r⟩ := st.2; ⟨o, hk l (by simp) o ho, r⟩⟩
 item := fun i s Q E hi st hQ => nextOf_tup_item st.1 st.2 (x := items[i]) (by simp [hi]) fun h' hit' hs' => hQ _ h' s.toks (by simp [hi]) ⟨hit', st.2.extBut hs'.extBut hne⟩ hs'
 done := fun s Q E st hE => nextOf_tup_end hh st.1 st.2 (by simp) hE
theorem meets_enumerate_tup (l : Addr) (items : Array Value) :
  Meets (Builtin.«enumerate.__new__» ⟨[.type "enumerate", .ref l], []⟩) (fun _ R s => s.heap.IsTuple l items ∧
   R (.ok (.ret (.ref (s.heap.push { cls := .type "tuple_iterator", data := .fields #[.ref l, .int 0 0] }).objs.size)))
    { s with heap := (s.heap.push { cls := .type "tuple_iterator", data := .fields #[.ref l, .int 0 0] }).push { cls := .type "enumerate", data := .fields #[.none, .bool false, .ref s.heap.objs.size, rawInt 0, .none, .none] } }) :=
 .of_wp fun prog w A R s h => by
  obtain ⟨hp, g, d, tk, os⟩ := s
  obtain ⟨hL, h⟩ := h
  have hsub := sub_enumerate
  wp_walk
  refine wpAny_stack_any fun st => wpAny_pure ?_
  split
  ·rename_i c _ _ _ _ _
   cases (c == Value.type "enumerate") <;> (wp_walk using wpAny_pyIter_tuple hL; exact ⟨_, rfl, h⟩)
  ·wp_walk using wpAny_pyIter_tuple hL
   exact ⟨_, rfl, h⟩
theorem call_enumerate_tup {prog : Program} {w : World} {A : Around} {E : Value -> Shared -> Prop} {s : Shared} {l : Addr} {items : Array Value} {Q : Value -> Shared -> Prop} (hL : s.heap.IsTuple l items)
  (h : ∀ h', IsEnum h' (s.heap.objs.size + 1) s.heap.objs.size 0 .none -> h'.IsTupleIter s.heap.objs.size l 0 -> (∀ b o, s.heap.get? b = some o -> h'.get? b = some o) -> Q (.ref (s.heap.objs.size + 1)) { s with heap := h' }) :
  wpAny (model prog w) A (call (.type "enumerate") [.ref l]) Q E s := by
 refine callType_new F.called_enumerate (by decide) (F.typeCall_enumerate_1 _) (F.newCall_enumerate_1 _) (fun obj => F.args_object_init_2 obj _) F.entry_enumerate_new (meets_enumerate_tup l items) ⟨hL, ?_⟩
 have hz : (s.heap.push { cls := .type "tuple_iterator", data := .fields #[.ref l, .int 0 0] }).objs.size = s.heap.objs.size + 1 := Heap.size_push ..
 show _ /\ _
 rw [hz]
 have he : IsEnum ((s.heap.push { cls := .type "tuple_iterator", data := .fields #[.ref l, .int 0 0] }).push { cls := .type "enumerate", data := .fields #[.none, .bool false, .ref s.heap.objs.size, rawInt 0, .none, .none] }) (s.heap.objs.size + 1) s.heap.objs.size 0 .none := by
  rw [<- hz]; exact Heap.get?_push_size _ rfl
 exact ⟨⟨_, he, rfl⟩, h _ he ⟨_, Heap.get?_push_of_some _ (Heap.get?_push_size _ rfl), rfl, rfl⟩ fun b o e => Heap.get?_push_of_some _ (Heap.get?_push_of_some _ e)⟩
end PySem
namespace L2
open PySem PySem.Spec PyProof.Rows
structure SeqKind (c : List V -> HO) (IsS : Heap -> Addr -> Array Value -> Prop) (IsI : Heap -> Addr -> Addr -> Nat -> Prop) : Prop where
 obj : ∀ h it l i, IsI h it l i -> ∃ o, h.get? it = some o /\ ∀ v, o.data ≠ .cell v
 kp : ∀ (h h' : Heap) it l i, IsI h it l i -> (∀ o, h.get? it = some o -> h'.get? it = some o) -> IsI h' it l i
 seq : ∀ (X : Cx) (pins : List (Addr × Obj)) (σ : St) (H : Hp) (s : Shared) (l : Addr) (xs : List V), Inv X pins σ H s -> H l = some (c xs) -> ∃ its : List Value, Vals xs its /\ IsS s.heap l its.toArray
 dr : ∀ (P : Program) (w : World) (A : Around), A.handled = none -> ∀ (it l : Addr), l ≠ it -> ∀ items : Array Value, Draws P w A it [it, l] items.size (fun i v => items[i]? = some v) (fun i h => IsI h it l i /\ IsS h l items)
 inj : ∀ a b, c a = c b -> a = b
theorem seq_lst : SeqKind HO.lst Heap.IsList Heap.IsListIter where
 obj := fun h it l i st => by obtain ⟨o, e, _, d⟩ := st; exact ⟨o, e, fun v z => by rw [d] at z; cases z⟩
 kp := fun h h' it l i st k => let ⟨o, e, r⟩ := st; ⟨o, k o e, r⟩
 seq := fun X pins σ H s l xs I e => by
  obtain ⟨its, r, p, _⟩ := I.list (SqL.of e)
  exact ⟨its, r, p.isList⟩
 dr := fun P w A hh it l hne items => Draws.list hh it l hne items
 inj := fun a b e => by cases e; rfl
theorem seq_tup : SeqKind HO.tup Heap.IsTuple Heap.IsTupleIter where
 obj := fun h it l i st => by obtain ⟨o, e, _, d⟩ := st; exact ⟨o, e, fun v z => by rw [d] at z; cases z⟩
 kp := fun h h' it l i st k => let ⟨o, e, r⟩ := st; ⟨o, k o e, r⟩
 seq := fun X pins σ H s l xs I e => by
  obtain ⟨its, r, p, _⟩ := I.tuple (SqT.of e)
  exact ⟨its, r, p⟩
 dr := fun P w A hh it l hne items => Draws.tup hh it l hne items
 inj := fun a b e => by cases e; rfl
end L2
namespace PySem
open Sem (wp)
open Builtin
open AutoSeq1 (wpAny_loadPart')
end PySem
namespace L2
open PySem PySem.Spec PyProof.Rows
section
variable {κ : Type} [DecidableEq κ]
def valV (kvs : List (κ × V)) (k : κ) : Option V := (kvs.find? fun kv => decide (kv.1 = k)).map (·.2)
def putK (kvs : List (κ × V)) (k : κ) (v : V) : List (κ × V) :=
 if (kvs.any fun kv => decide (kv.1 = k)) = true then kvs.map (fun kv => if kv.1 = k then (kv.1, v) else kv) else kvs ++ [(k, v)]
theorem valV_pos {p : κ × V} {r : List (κ × V)} {k : κ} (e : p.1 = k) : valV (p :: r) k = some p.2 := by simp [valV, List.find?_cons, e]
theorem valV_neg {p : κ × V} {r : List (κ × V)} {k : κ} (e : ¬ p.1 = k) : valV (p :: r) k = valV r k := by simp [valV, List.find?_cons, e]
theorem valV_any (k : κ) : ∀ kvs : List (κ × V), (kvs.any fun kv => decide (kv.1 = k)) = (valV kvs k).isSome
 | [] => rfl
 | p :: r => by
  rw [List.any_cons]
  by_cases e : p.1 = k
  ·simp only [valV_pos e, decide_eq_true e, Bool.true_or, Option.isSome_some]
  ·rw [valV_neg e, decide_eq_false e, Bool.false_or]; exact valV_any k r
theorem length_putK (kvs : List (κ × V)) (k : κ) (v : V) : (putK kvs k v).length <= kvs.length + 1 := by
 unfold putK
 split
 ·rw [List.length_map]; omega
 ·rw [List.length_append, List.length_cons, List.length_nil]; omega
theorem RelO.isSome_eq {o : Option V} {u : Option Value} (r : RelO o u) : o.isSome = u.isSome := by
 cases o with
 | none => cases u with
  | none => rfl
  | some _ => exact (show False from r).elim
 | some _ => cases u with
  | none => exact (show False from r).elim
  | some _ => rfl
theorem KV.val {kvs : List (κ × V)} {vs : List (κ × Value)} (r : KV kvs vs) (k : κ) : RelO (valV kvs k) (valueAt vs k) := by
 unfold KV at r
 induction r with
 | nil => exact True.intro
 | @cons p q ps qs h t ih =>
  obtain ⟨h1, h2⟩ := h
  by_cases e : p.1 = k
  ·have e' : q.1 = k := h1.symm.trans e
   have b : valueAt (q :: qs) k = some q.2 := by simp [valueAt, List.find?_cons, e']
   rw [valV_pos e, b]; exact h2
  ·have e' : ¬ q.1 = k := fun z => e (h1.trans z)
   have b : valueAt (q :: qs) k = valueAt qs k := by simp [valueAt, List.find?_cons, e']
   rw [valV_neg e, b]; exact ih
theorem KV.any {kvs : List (κ × V)} {vs : List (κ × Value)} (r : KV kvs vs) (k : κ) : (kvs.any fun kv => decide (kv.1 = k)) = vs.any fun kv => decide (kv.1 = k) := by
 unfold KV at r
 induction r with
 | nil => rfl
 | cons h t ih => rw [List.any_cons, List.any_cons, ih, h.1]
theorem KV.repl {kvs : List (κ × V)} {vs : List (κ × Value)} (r : KV kvs vs) (k : κ) {y : V} {u : Value} (ry : RelV y u) :
  KV (kvs.map fun kv => if kv.1 = k then (kv.1, y) else kv) (vs.map fun kv => if kv.1 = k then (kv.1, u) else kv) := by
 unfold KV at r ⊢
 induction r with
 | nil => exact .nil
 | @cons p q ps qs h t ih =>
  rw [List.map_cons, List.map_cons]
  refine .cons ?_ ih
  obtain ⟨h1, h2⟩ := h
  by_cases e : p.1 = k
  ·rw [if_pos e, if_pos (h1.symm.trans e)]; exact ⟨h1, ry⟩
  ·rw [if_neg e, if_neg (fun z => e (h1.trans z))]; exact ⟨h1, h2⟩
theorem KV.put {kvs : List (κ × V)} {vs : List (κ × Value)} (r : KV kvs vs) (k : κ) {y : V} {u : Value} (ry : RelV y u) : KV (putK kvs k y) (stored vs k u) := by
 unfold putK stored
 rw [r.any k]
 by_cases e : (vs.any fun kv => decide (kv.1 = k)) = true
 ·rw [if_pos e, if_pos e]; exact r.repl k ry
 ·rw [if_neg e, if_neg e]; exact Paired.snoc r ⟨rfl, ry⟩
theorem KV.length {kvs : List (κ × V)} {vs : List (κ × Value)} (r : KV kvs vs) : kvs.length = vs.length := Paired.length r
end
theorem kV_is {P : Program} {w : World} {k : Key} {u : Value} (r : RelV (kV k) u) : (mixKind P w).is k u = true := by
 cases k with
 | inl i => obtain ⟨t, e⟩ := (show ∃ t, u = Value.int i t from r); subst e; exact mixKind_int P w i t
 | inr x => obtain ⟨t, e⟩ := (show ∃ t, u = Value.str x t from r); subst e; exact mixKind_str P w x t
theorem items_are {P : Program} {w : World} : ∀ {ks : List Key} {us : List Value}, Vals (ks.map kV) us -> ItemsAre (mixKind P w) ks us
 | [], _, r => by rw [List.map_nil] at r; cases r; exact .nil
 | k :: ks, _, r => by
  rw [List.map_cons] at r
  cases r with
  | cons h t => exact .cons (kV_is h) (items_are t)
abbrev KT (H : Hp) : List (List Key × V) -> List (List Key × Addr × Value) -> Prop := Paired fun p q => p.1 = q.1 /\ H q.2.1 = some (.tup (p.1.map kV)) /\ RelV p.2 q.2.2
theorem KT.val {H : Hp} {kvs : List (List Key × V)} {xs : List (List Key × Addr × Value)} (r : KT H kvs xs) (k : List Key) : RelO (valV kvs k) ((atKey xs k).map (·.2)) := by
 induction r with
 | nil => exact True.intro
 | @cons p q ps qs h t ih =>
  obtain ⟨h1, _, h2⟩ := h
  by_cases e : p.1 = k
  ·have e' : q.1 = k := h1.symm.trans e
   have b : atKey (q :: qs) k = some q.2 := by simp [atKey, List.find?_cons, e']
   rw [valV_pos e, b]; exact h2
  ·have e' : ¬ q.1 = k := fun z => e (h1.trans z)
   have b : atKey (q :: qs) k = atKey qs k := by simp [atKey, List.find?_cons, e']
   rw [valV_neg e, b]; exact ih
theorem KT.repl {H : Hp} {kvs : List (List Key × V)} {xs : List (List Key × Addr × Value)} (r : KT H kvs xs) (k : List Key) {y : V} {u : Value} (ry : RelV y u) :
  KT H (kvs.map fun kv => if kv.1 = k then (kv.1, y) else kv) (xs.map (putAt k u)) := by
 induction r with
 | nil => exact .nil
 | @cons p q ps qs h t ih =>
  rw [List.map_cons, List.map_cons]
  refine .cons ?_ ih
  obtain ⟨h1, h2, h3⟩ := h
  unfold putAt
  by_cases e : p.1 = k
  ·rw [if_pos e, if_pos (h1.symm.trans e)]; exact ⟨h1, h2, ry⟩
  ·rw [if_neg e, if_neg (fun z => e (h1.trans z))]; exact ⟨h1, h2, h3⟩
theorem KT.put {H : Hp} {kvs : List (List Key × V)} {xs : List (List Key × Addr × Value)} (r : KT H kvs xs) (k : List Key) {b : Addr} {y : V} {u : Value} (hb : H b = some (.tup (k.map kV))) (ry : RelV y u) :
  KT H (putK kvs k y) (storedH xs k b u) := by
 have e : (kvs.any fun kv => decide (kv.1 = k)) = (atKey xs k).isSome := by
  rw [valV_any, (r.val k).isSome_eq, Option.isSome_map]
 unfold putK storedH
 rw [e]
 by_cases q : (atKey xs k).isSome = true
 ·rw [if_pos q, if_pos q]; exact r.repl k ry
 ·rw [if_neg q, if_neg q]; exact Paired.snoc r ⟨rfl, hb, ry⟩
theorem KT.keeps {H H' : Hp} {kvs : List (List Key × V)} {xs : List (List Key × Addr × Value)} (r : KT H kvs xs) (ht : ∀ b ys, H b = some (.tup ys) -> H' b = some (.tup ys)) : KT H' kvs xs :=
 Paired.mapP r fun _ _ z => ⟨z.1, ht _ _ z.2.1, z.2.2⟩
section
variable {P : Program} {w : World} {H : Hp} {h : Heap} {a : Addr}
theorem rd_of {u : HO} (ok : HOk P w H h) (e : Rd H a u) : ObjOk P w H h a u := e.ok ok
theorem dk_rd {kvs : List (Key × V)} (ok : HOk P w H h) (e : Rd H a (.dK kvs)) : kvs.length <= sizeLine /\ (a == sysModules) = false /\ ∃ vs, KV kvs vs /\ h.DictOf (mixKind P w) a vs :=
 show ObjOk P w H h a (.dK kvs) from rd_of ok e
theorem dk_of {kvs : List (Key × V)} (ok : HOk P w H h) (e : H a = some (.dK kvs)) : kvs.length <= sizeLine /\ (a == sysModules) = false /\ ∃ vs, KV kvs vs /\ h.DictOf (mixKind P w) a vs := dk_rd ok (.inl e)
theorem key_of {ks : List Key} (ok : HOk P w H h) (e : H a = some (.tup (ks.map kV))) : (tupleKind (mixKind P w)).is h ks a := by
 obtain ⟨_, its, r, ⟨o, h1, h2, n, h3⟩, _⟩ := (show ObjOk P w H h a (.tup (ks.map kV)) from ok a _ e)
 exact ⟨o, its.toArray, n, h1, h2, h3, by simpa using items_are r⟩
theorem dt_rd {kvs : List (List Key × V)} (ok : HOk P w H h) (e : Rd H a (.dT kvs)) : kvs.length <= sizeLine /\ (a == sysModules) = false ∧
  ∃ xs, KT H kvs xs /\ h.DictOfH (tupleKind (mixKind P w)) a xs := by
 obtain ⟨z, y, xs, r, o, es, ep, h1, h2, h3, h4, h5⟩ := (show ObjOk P w H h a (.dT kvs) from rd_of ok e)
 refine ⟨z, y, xs, r, o, es, ep, h1, h2, h3, h4, fun x hx => ?_, h5⟩
 have all : ∀ {l : List (List Key × V)} {m : List (List Key × Addr × Value)}, KT H l m -> ∀ x ∈ m, (tupleKind (mixKind P w)).is h x.1 x.2.1 := by
  intro l m q
  induction q with
  | nil => intro x hx; exact nomatch hx
  | @cons p q ps qs hq t ih =>
   intro x hx
   rcases List.mem_cons.mp hx with e | hx
   ·subst e
    exact key_of ok (by rw [<- hq.1]; exact hq.2.1)
   ·exact ih x hx
 exact all r x hx
theorem dt_of {kvs : List (List Key × V)} (ok : HOk P w H h) (e : H a = some (.dT kvs)) : kvs.length <= sizeLine /\ (a == sysModules) = false ∧
  ∃ xs, KT H kvs xs /\ h.DictOfH (tupleKind (mixKind P w)) a xs := dt_rd ok (.inl e)
end
def DGet (H : Hp) (a : Addr) (y : V) (r : Option V) : Prop :=
 (∃ kvs k, Rd H a (.dK kvs) /\ y = kV k /\ r = valV kvs k) ∨ ∃ kvs k b, Rd H a (.dT kvs) /\ y = .ref b /\ H b = some (.tup (k.map kV)) /\ r = valV kvs k
def DPut (H : Hp) (a : Addr) (y v : V) (H' : Hp) : Prop :=
 (∃ kvs k, H a = some (.dK kvs) /\ y = kV k /\ kvs.length < sizeLine /\ H' = upd H a (.dK (putK kvs k v))) ∨
 ∃ kvs k b, H a = some (.dT kvs) /\ y = .ref b /\ H b = some (.tup (k.map kV)) /\ kvs.length < sizeLine /\ H' = upd H a (.dT (putK kvs k v))
theorem DGet.k {H : Hp} {a : Addr} {kvs : List (Key × V)} {k : Key} (e : H a = some (.dK kvs)) : DGet H a (kV k) (valV kvs k) := .inl ⟨kvs, k, .inl e, rfl, rfl⟩
theorem DPut.k {H : Hp} {a : Addr} {kvs : List (Key × V)} {k : Key} {v : V} (e : H a = some (.dK kvs)) (hl : kvs.length < sizeLine) : DPut H a (kV k) v (upd H a (.dK (putK kvs k v))) := .inl ⟨kvs, k, e, rfl, hl, rfl⟩
section
variable {X : Cx} {pins : List (Addr × Obj)} {σ : St} {H : Hp} {s : Shared} {a : Addr} {y v : V} {u r : Value} {o : Option V} {A : Around} {E : Value -> Shared -> Prop}
theorem Inv.big (I : Inv X pins σ H s) : sysModules < s.heap.objs.size := by
 have h : mainGlobals < s.heap.objs.size := (I.mod.glob.keeps I.bk).lt
 exact Nat.lt_trans (by decide) h
theorem d_getItem {Q : Value -> Shared -> Prop} (hu : A.units + 1 < cLine) (I : Inv X pins σ H s) (g : DGet H a y (some v)) (ry : RelV y u) (h : ∀ w' s', Inv X pins σ H s' -> RelV v w' -> Q w' s') :
  wpAny (model X.prog X.w) A (getItem (.ref a) u) Q E s := by
 rcases g with ⟨kvs, k, e, ey, l⟩ | ⟨kvs, k, b, e, ey, eb, l⟩
 ·subst ey
  obtain ⟨z, hd, vs, rel, dd⟩ := dk_rd I.hok e
  obtain ⟨w', hw, rw'⟩ := RelO.some_of (v := v) (o := valueAt vs k) (by rw [l]; exact rel.val k)
  exact wpAny_getItem_of (kV_is ry) dd.mapOf hw (h w' _ (I.tok _) rw')
 ·subst ey
  cases (show u = Value.ref b from ry)
  obtain ⟨z, hd, xs, rel, dd⟩ := dt_rd I.hok e
  obtain ⟨w', hw, rw'⟩ := RelO.some_of (v := v) (o := (atKey xs k).map (·.2)) (by rw [l]; exact rel.val k)
  obtain ⟨p, hp, hp2⟩ := Option.map_eq_some_iff.mp hw
  refine wpAny_getItem_heap (tupleKind_room_in1 hu) (key_of I.hok eb) dd hp ?_
  rw [hp2]
  exact h w' _ (I.tok _) rw'
theorem d_in {Q : Value -> Shared -> Prop} (hu : A.units + 1 < cLine) (I : Inv X pins σ H s) (g : DGet H a y o) (ry : RelV y u) (h : ∀ s', Inv X pins σ H s' -> Q (.bool o.isSome) s') :
  wpAny (model X.prog X.w) A (compareOp .In u (.ref a)) Q E s := by
 rcases g with ⟨kvs, k, e, ey, l⟩ | ⟨kvs, k, b, e, ey, eb, l⟩
 ·subst ey
  obtain ⟨z, hd, vs, rel, dd⟩ := dk_rd I.hok e
  refine wpAny_in_of (kV_is ry) hd dd.mapOf ?_
  rw [<- (rel.val k).isSome_eq, <- l]
  exact h _ (I.tok _)
 ·subst ey
  cases (show u = Value.ref b from ry)
  obtain ⟨z, hd, xs, rel, dd⟩ := dt_rd I.hok e
  refine wpAny_in_heap (tupleKind_room_in1 hu) (key_of I.hok eb) hd dd ?_
  have q := (rel.val k).isSome_eq
  rw [Option.isSome_map] at q
  rw [<- q, <- l]
  exact h _ (I.tok _)
theorem d_write {h' : Heap} {t' : Nat} {ob : HO} (I : Inv X pins σ H s) (mu : Mut (H a)) (hs : Heap.SameBut a s.heap h') (he : ∃ q, h'.get? a = some q) (new : ObjOk X.prog X.w (upd H a ob) h' a ob) :
  Inv X pins σ (upd H a ob) { s with heap := h', toks := t' } :=
 I.write (x := a) (e := a) mu (.inl rfl) (fun b q hb z => (hs.2 b hb).trans z) he new
theorem dk_new {P : Program} {w : World} {H' : Hp} {h' : Heap} {kvs : List (Key × V)} {vs : List (Key × Value)} (z : kvs.length <= sizeLine) (hd : (a == sysModules) = false) (rel : KV kvs vs) (dd : h'.DictOf (mixKind P w) a vs) :
  ObjOk P w H' h' a (.dK kvs) := ⟨z, hd, vs, rel, dd⟩
theorem d_setItem {H' : Hp} {Q : Unit -> Shared -> Prop} (hu : A.units + 1 < cLine) (I : Inv X pins σ H s) (g : DPut H a y v H') (ry : RelV y u) (rv : RelV v r) (h : ∀ s', Inv X pins σ H' s' -> Q () s') :
  wpAny (model X.prog X.w) A (setItem (.ref a) u r) Q E s := by
 rcases g with ⟨kvs, k, e, ey, l, eH⟩ | ⟨kvs, k, b, e, ey, eb, l, eH⟩
 ·subst ey eH
  obtain ⟨z, hd, vs, rel, dd⟩ := dk_of I.hok e
  have hz : vs.length <= sizeLine := by rw [<- rel.length]; exact z
  have hl : (putK kvs k v).length <= sizeLine := by have := length_putK kvs k v; omega
  refine wpAny_setItem_pairs (hsz := hz) (kV_is ry) dd fun h' dd' hs => h _ ?_
  have he : ∃ q, h'.get? a = some q := let ⟨q, _, _, hq, _⟩ := dd'; ⟨q, hq⟩
  exact d_write I (by rw [e]; exact True.intro) hs he (dk_new hl hd (rel.put k rv) dd')
 ·subst ey eH
  cases (show u = Value.ref b from ry)
  obtain ⟨z, hd, xs, rel, dd⟩ := dt_of I.hok e
  have hz : xs.length <= sizeLine := by rw [<- Paired.length rel]; exact z
  have hl : (putK kvs k v).length <= sizeLine := by have := length_putK kvs k v; omega
  refine wpAny_setItem_heap (hsz := hz) (tupleKind_room_in1 hu) (key_of I.hok eb) dd fun h' dd' hs => h _ ?_
  obtain ⟨q, es, ep, hq, h2, h3, h4, _, h5⟩ := dd'
  refine d_write I (by rw [e]; exact True.intro) hs ⟨q, hq⟩ ⟨hl, hd, _, (rel.put k eb rv).keeps fun c ys ec => ?_, q, es, ep, hq, h2, h3, h4, h5⟩
  rw [upd_ne (ne_of ec e (fun z => nomatch z))]
  exact ec
end
section
variable {X : Cx} {pins : List (Addr × Obj)} {σ : St} {H : Hp} {s : Shared} {a : Addr} {kvs : List (Key × V)} {k : Key} {u : Value} {A : Around} {E : Value -> Shared -> Prop}
theorem d_len {Q : Value -> Shared -> Prop} (I : Inv X pins σ H s) (e : Rd H a (.dK kvs)) (h : ∀ t s', Inv X pins σ H s' -> Q (.int kvs.length t) s') : wpAny (model X.prog X.w) A (call (.builtin "len") [.ref a]) Q E s := by
 obtain ⟨z, hd, vs, rel, dd⟩ := dk_rd I.hok e
 refine call_len_dict hd dd (by rw [<- rel.length]; rw [sizeLine_eq] at z; omega) ?_
 rw [<- rel.length]
 exact h _ _ (I.tok _)
end
theorem dict_typeIs {X : Cx} {pins : List (Addr × Obj)} {σ : St} {H : Hp} {s : Shared} {a : Addr} {y : V} {o : Option V} (I : Inv X pins σ H s) (g : DGet H a y o) : s.TypeIs (.ref a) "dict" := by
 rcases g with ⟨kvs, k, e, _, _⟩ | ⟨kvs, k, b, e, _, _, _⟩
 ·obtain ⟨_, _, vs, _, dd⟩ := dk_rd I.hok e
  exact dd.typeIs
 ·obtain ⟨_, _, xs, _, dd⟩ := dt_rd I.hok e
  exact dd.typeIs
def sDPut (td ty tv : TE) : TS := fun D σ H => tv σ H fun v H1 => td σ H1 fun x H2 => ty σ H2 fun y H3 => ∃ a H4, x = .ref a /\ DPut H3 a y v H4 /\ D.nx σ H4
section
variable {X : Cx} {o i e value : Expr} {pos pos' tpos : Pos} {td ty tv : TE}
theorem ps_dput (hu : X.A.units + 1 < cLine) (ho : PE X o td) (hi : PE X i ty) (hv : PE X value tv) (hs : swapsWith value (some (.Subscript o i pos')) pos.line X.env = pure false) :
  PS X (.Assign [.Subscript o i pos'] value pos) (sDPut td ty tv) := by
 intro pins s σ H D I h
 refine wpAny_Assign_Subscript (thn (hv pins s σ H _ I h) fun r s1 ⟨v, H1, I1, rv, q1⟩ => thn (ho pins s1 σ H1 _ I1 q1) fun u s2 ⟨x, H2, I2, rx, q2⟩ => thn (hi pins s2 σ H2 _ I2 q2) fun iv s3 ⟨y, H3, I3, ry, a, H4, ex, g, q3⟩ => ?_) hs
 subst ex
 obtain rfl : u = Value.ref a := rx
 exact d_setItem hu I3 g ry rv fun s4 I4 => ⟨σ, H4, I4, q3⟩
end
theorem dk_empty {P : Program} {w : World} {H : Hp} (h : Heap) (hb : sysModules < h.objs.size) : ObjOk P w H (h.push { cls := .type "dict", data := .dict #[] }) h.objs.size (.dK []) :=
 ⟨Nat.zero_le _, beq_eq_false_iff_ne.mpr (Ne.symm (Nat.ne_of_lt hb)), [], .nil, Heap.DictOf.new h⟩
def tPairs : List (TE × TE) -> St -> Hp -> (List (V × V) -> Hp -> Prop) -> Prop
 | [], _, H, Q => Q [] H
 | (tk, tv) :: r, σ, H, Q => tk σ H fun x H1 => tv σ H1 fun y H2 => tPairs r σ H2 fun ps H3 => Q ((x, y) :: ps) H3
abbrev VV : List (V × V) -> List (Value × Value) -> Prop := Paired fun p q => RelV p.1 q.1 /\ RelV p.2 q.2
def PPs (X : Cx) (pos : Pos) (keys : List (Option Expr)) (values : List Expr) (trs : List (TE × TE)) : Prop :=
 ∀ (pins : List (Addr × Obj)) (s : Shared) (σ : St) (H : Hp) (Q : List (V × V) -> Hp -> Prop), Inv X pins σ H s -> tPairs trs σ H Q →
  wpAny (model X.prog X.w) X.A (evalPairs (pairTrees keys values X.env pos)) (fun vs s' => ∃ ps H', Inv X pins σ H' s' /\ VV ps vs /\ Q ps H') X.xe s
theorem pps_nil {X : Cx} {pos : Pos} : PPs X pos [] [] [] := fun pins s σ H Q I h => pairTrees_nil_walk ⟨[], H, I, .nil, h⟩
theorem pps_cons {X : Cx} {pos : Pos} {k v : Expr} {ks : List (Option Expr)} {vs : List Expr} {tk tv : TE} {trs : List (TE × TE)} (hk : PE X k tk) (hv : PE X v tv) (hr : PPs X pos ks vs trs) :
  PPs X pos (some k :: ks) (v :: vs) ((tk, tv) :: trs) := fun pins s σ H Q I h =>
 pairTrees_cons_walk (thn (hk pins s σ H _ I h) fun u s1 ⟨x, H1, I1, rx, q1⟩ => thn (hv pins s1 σ H1 _ I1 q1) fun w2 s2 ⟨y, H2, I2, ry, q2⟩ =>
  thn (hr pins s2 σ H2 _ I2 q2) fun ws s3 ⟨ps, H3, I3, rel, q3⟩ => ⟨(x, y) :: ps, H3, I3, .cons ⟨rx, ry⟩ rel, q3⟩)
def mergeK (kvs more : List (Key × V)) : List (Key × V) := more.foldl (fun acc kv => putK acc kv.1 kv.2) kvs
theorem KV.merge : ∀ {more : List (Key × V)} {rs : List (Key × Value)} {kvs : List (Key × V)} {vs : List (Key × Value)}, KV more rs -> KV kvs vs -> KV (mergeK kvs more) (merged vs rs) := by
 intro more rs kvs vs r
 unfold KV at r
 induction r generalizing kvs vs with
 | nil => intro q; exact q
 | @cons p q ps qs h t ih =>
  intro r0
  have e : KV (putK kvs p.1 p.2) (stored vs q.1 q.2) := by
   have := r0.put p.1 h.2
   rw [<- h.1]; exact this
  exact ih e
theorem length_mergeK : ∀ (more kvs : List (Key × V)), (mergeK kvs more).length <= kvs.length + more.length
 | [], kvs => by show kvs.length <= kvs.length + 0; omega
 | p :: r, kvs => by
  have h1 := length_mergeK r (putK kvs p.1 p.2)
  have h2 := length_putK kvs p.1 p.2
  show (mergeK (putK kvs p.1 p.2) r).length <= _
  rw [List.length_cons]; omega
theorem carries_of {P : Program} {w : World} : ∀ {kvs : List (Key × V)} {ws : List (Value × Value)}, VV (kvs.map fun kv => (kV kv.1, kv.2)) ws -> ∃ rs, Carries (mixKind P w) ws rs /\ KV kvs rs
 | [], _, r => by rw [List.map_nil] at r; cases r; exact ⟨[], True.intro, .nil⟩
 | p :: kvs, _, r => by
  rw [List.map_cons] at r
  cases r with
  | @cons a b as bs h t =>
   obtain ⟨rs, c, q⟩ := carries_of (P := P) (w := w) t
   obtain ⟨b1, b2⟩ := b
   exact ⟨(p.1, b2) :: rs, ⟨kV_is h.1, rfl, c⟩, .cons ⟨rfl, h.2⟩ q⟩
def tDisp (trs : List (TE × TE)) : TE := fun σ H Q => ∀ p, H p = none -> tPairs trs σ (upd H p (.dK [])) fun ps H2 => H2 p = some (.dK []) /\ ∃ kvs : List (Key × V), ps = kvs.map (fun kv => (kV kv.1, kv.2)) /\ kvs.length <= 15 /\ Q (.ref p) (upd H2 p (.dK (mergeK [] kvs)))
theorem pe_disp {X : Cx} {pos : Pos} {keys : List (Option Expr)} {values : List Expr} {trs : List (TE × TE)} (h : PPs X pos keys values trs) (hall : keys.all (·.isSome) = true) (hl : keys.length = values.length) (h0 : keys ≠ [])
  (h15 : keys.length <= 15) : PE X (.Dict keys values pos) (tDisp trs) := by
 intro pins s σ H Q I q
 have hn := I.hok.fresh (Nat.le_refl s.heap.objs.size)
 have I1 := I.laid (a := s.heap.objs.size) (o := .dK []) (h' := s.heap.push { cls := .type "dict", data := .dict #[] }) (t' := s.toks) (fun _ _ q => Heap.get?_push_of_some _ q) (Nat.le_refl _) (dk_empty s.heap I.big)
 refine wpAny_Dict_walk (knd := mixKind X.prog X.w) hall hl h0 h15 (thn (h pins _ σ _ _ I1 (q _ hn)) fun ws s2 ⟨ps, H2, I2, rel, e, kvs, ep, lk, q2⟩ => ?_)
 subst ep
 obtain ⟨rs, c, rk⟩ := carries_of (P := X.prog) (w := X.w) rel
 obtain ⟨z, hd, vs0, r0, dd⟩ := dk_of I2.hok e
 cases r0
 refine ⟨rs, c, dd, fun h' dd' hs => ⟨.ref s.heap.objs.size, _, ?_, rfl, q2⟩⟩
 have hz : (mergeK [] kvs).length <= sizeLine := by
  have h1 := length_mergeK kvs []
  rw [List.length_nil] at h1
  rw [sizeLine_eq]; omega
 have he : ∃ q, h'.get? s.heap.objs.size = some q := let ⟨q, _, _, hq, _⟩ := dd'; ⟨q, hq⟩
 exact d_write I2 (by rw [e]; exact True.intro) hs he (dk_new hz hd (rk.merge .nil) dd')
section
variable {X : Cx}
theorem op_isT : OpR X (compareOp .Is) (fun x y H Q => ∃ b c, x = .bl b /\ y = .bl c /\ Q (.bl (b == c)) H) := by
 intro pins s σ H x y v u Q I rx ry h
 obtain ⟨b, c, rfl, rfl, q⟩ := h
 cases rx
 cases ry
 exact is_bool ⟨.bl (b == c), H, I, rfl, q⟩
end
end L2
namespace PySem
open Sem (wp)
open Builtin
section
variable {prog : Program} {w : World} {A : Around} {E : Value -> Shared -> Prop} {s : Shared}
theorem same_pair {h h' : Heap} {c T : Addr} {a b : Value} (hs : Heap.SameBut c h h') (n : T ≠ c) (e : IsPair h T a b) : IsPair h' T a b := (hs.2 T n).trans e
theorem zip_next_itemD {z TI TO i1 i2 : Addr} {fp1 fp2 : List Addr} {n1 n2 k : Nat} {P1 P2 : Nat -> Value -> Prop} {S1 S2 : Nat -> Heap -> Prop} {a b : Value} {Q : Value -> Shared -> Prop}
  (D1 : Draws prog w A i1 fp1 n1 P1 S1) (D2 : Draws prog w A i2 fp2 n2 P2 S2) (hz : IsZip s.heap z TI TO .none) (hTI : IsPair s.heap TI (.ref i1) (.ref i2)) (hTO : IsPair s.heap TO a b)
  (h1 : S1 k s.heap) (h2 : S2 k s.heap) (k1 : k < n1) (k2 : k < n2) (nTO : TO ≠ z) (nTI : TI ≠ z) (n1z : i1 ≠ z) (n2z : i2 ≠ z) (n1T : i1 ≠ TO) (n2T : i2 ≠ TO)
  (f1z : z ∉ fp1) (f1T : TO ∉ fp1) (f12 : i2 ∉ fp1) (f2z : z ∉ fp2) (f2T : TO ∉ fp2) (f21 : i1 ∉ fp2)
  (hQ : ∀ x y h' tk, P1 k x -> P2 k y -> IsZip h' z TI TO (rawInt s.heap.objs.size) -> IsPair h' TO x y -> S1 (k + 1) h' -> S2 (k + 1) h' -> IsPair h' s.heap.objs.size x y -> h'.objs.size = s.heap.objs.size + 1 →
   (∀ c o, c ≠ z -> c ≠ TO -> c ≠ i1 -> c ≠ i2 -> s.heap.get? c = some o -> h'.get? c = some o) -> Q (.ref s.heap.objs.size) { s with heap := h', toks := tk }) :
  wpAny (model prog w) A (Builtin.«zip.__next__» ⟨[.ref z], []⟩) (fun fin s' => ∃ v, fin = .done (.ret v) /\ Q v s') E s := by
 show wpAny _ _ (field (.ref z) 2 >>= _) _ _ s
 refine wpAny_bind (wpAny_field hz rfl (x := .bool false) rfl ?_)
 refine wpAny_bind (wpAny_field hz rfl (x := .ref TI) rfl ?_)
 refine wpAny_bind (wpAny_seqItems hTI rfl ?_)
 refine wpAny_bind (m := SmallTypes.ownedTupleIsFree (.ref z)) (wpAny_bind (wpAny_field hz rfl (x := .none) rfl (wpAny_pure ?_)))
 show wpAny _ _ (if true = true then _ else _) _ _ s
 rw [if_pos rfl]
 refine wpAny_bind (wpAny_rule ?_)
 refine wpAny_bind (wpAny_field hz rfl (x := .ref TO) rfl ?_)
 refine wpAny_bind (wpAny_setField_rec hz (by simp) fun g1 hz1 hs1 => ?_)
 have st1 : S1 k g1 := D1.frame k _ _ h1 fun c hc o e => (hs1.2 c fun q => f1z (q ▸ hc)).trans e
 have st2 : S2 k g1 := D2.frame k _ _ h2 fun c hc o e => (hs1.2 c fun q => f2z (q ▸ hc)).trans e
 have hTO1 := same_pair hs1 nTO hTO
 refine wpAny_bind ?_
 show wpAny _ _ (forIn [(Value.ref i1, 0), (Value.ref i2, 1)] _ _) _ _ _
 rw [List.forIn_cons]
 refine wpAny_bind (wpAny_bind (wpAny_onRaise ?_))
 refine wpAny_bind (m := SmallTypes.nextOf (.ref i1)) (D1.item k { s with heap := g1 } _ _ k1 st1 fun x g2 tk2 px st1' hs2 => wpAny_pure ?_)
 have hTO2 := same_pair hs2 (Ne.symm n1T) hTO1
 refine wpAny_bind (wpAny_seqItems hTO2 rfl ?_)
 refine wpAny_bind (wpAny_updateSeq_pair hTO2 fun g3 hTO3 hs3 => ?_)
 refine wpAny_bind (wpAny_letGo (wpAny_pure ?_))
 have hTO3 : IsPair g3 TO x b := hTO3
 have st2' : S2 k g3 := D2.frame k _ _ st2 fun c hc o e => (hs3.2 c fun q => f2T (q ▸ hc)).trans ((hs2.2 c fun q => f21 (q ▸ hc)).trans e)
 show wpAny _ _ (forIn [(Value.ref i2, 1)] _ _) _ _ _
 rw [List.forIn_cons]
 refine wpAny_bind (wpAny_bind (wpAny_onRaise ?_))
 refine wpAny_bind (m := SmallTypes.nextOf (.ref i2)) (D2.item k { s with heap := g3, toks := tk2 } _ _ k2 st2' fun y g4 tk4 py st2'' hs4 => wpAny_pure ?_)
 have hTO4 := same_pair hs4 (Ne.symm n2T) hTO3
 refine wpAny_bind (wpAny_seqItems hTO4 rfl ?_)
 refine wpAny_bind (wpAny_updateSeq_pair hTO4 fun g5 hTO5 hs5 => ?_)
 refine wpAny_bind (wpAny_letGo (wpAny_pure ?_))
 have hTO5 : IsPair g5 TO x y := hTO5
 show wpAny _ _ (forIn [] _ _) _ _ _
 rw [List.forIn_nil]
 refine wpAny_pure ?_
 refine wpAny_bind (wpAny_seqItems hTO5 rfl ?_)
 refine wpAny_bind (wpAny_newTuple ?_)
 have hz5 : IsZip g5 z TI TO .ellipsis := (hs5.2 z (Ne.symm nTO)).trans ((hs4.2 z (Ne.symm n2z)).trans ((hs3.2 z (Ne.symm nTO)).trans ((hs2.2 z (Ne.symm n1z)).trans hz1)))
 have sz5 : g5.objs.size = s.heap.objs.size := by rw [hs5.1, hs4.1, hs3.1, hs2.1, hs1.1]
 have hz6 := Heap.get?_push_of_some { cls := Value.type "tuple", data := Data.seq #[x, y] } hz5
 refine wpAny_bind (m := SmallTypes.ownedTupleHandOut _ _) ?_
 refine wpAny_bind (m := setField _ 0 _) (wpAny_setField_rec hz6 (by simp) fun g7 hz7 hs7 => ?_)
 refine wpAny_setField_rec hz7 (by simp) fun g8 hz8 hs8 => ?_
 have lt : ∀ {c : Addr} {o : Obj}, s.heap.get? c = some o -> c < g5.objs.size := fun e => by rw [sz5]; exact Heap.lt_size e
 have nw : g5.objs.size ≠ z := Nat.ne_of_gt (Heap.lt_size hz5)
 have fr : ∀ c o, c ≠ z -> g5.get? c = some o -> g8.get? c = some o := fun c o n e => (hs8.2 c n).trans ((hs7.2 c n).trans (Heap.get?_push_of_some _ e))
 have up : ∀ c o, c ≠ z -> c ≠ TO -> c ≠ i2 -> g2.get? c = some o -> g8.get? c = some o := fun c o c1 c2 c3 e => fr c o c1 ((hs5.2 c c2).trans ((hs4.2 c c3).trans ((hs3.2 c c2).trans e)))
 have hnew : g8.get? g5.objs.size = some { cls := Value.type "tuple", data := Data.seq #[x, y] } := (hs8.2 _ nw).trans ((hs7.2 _ nw).trans (Heap.get?_push_size _ rfl))
 have sz8 : g8.objs.size = s.heap.objs.size + 1 := by
  rw [hs8.1]
  show g7.objs.size = _
  rw [hs7.1]
  show (g5.push _).objs.size = _
  rw [Heap.size_push, sz5]
 have hz8' : IsZip g8 z TI TO (rawInt s.heap.objs.size) := by
  rw [<- sz5]
  exact hz8
 refine wpAny_pure ⟨_, rfl, ?_⟩
 show Q (Value.ref g5.objs.size) { s with heap := g8, toks := tk4 }
 rw [sz5] at hnew ⊢
 refine hQ x y g8 tk4 px py hz8' (fr _ _ nTO hTO5) (D1.frame _ _ _ st1' fun c hc o e => up c o (fun q => f1z (q ▸ hc)) (fun q => f1T (q ▸ hc)) (fun q => f12 (q ▸ hc)) e) (D2.frame _ _ _ st2'' fun c hc o e => fr c o (fun q => f2z (q ▸ hc)) ((hs5.2 c fun q => f2T (q ▸ hc)).trans e)) hnew sz8 fun c o c1 c2 c3 c4 e => up c o c1 c2 c4 ((hs2.2 c c3).trans ((hs1.2 c c1).trans e))
theorem zip_next_endD {z TI TO i1 i2 : Addr} {fp1 : List Addr} {n1 : Nat} {P1 : Nat -> Value -> Prop} {S1 : Nat -> Heap -> Prop} {a b : Value} {Q : Value -> Shared -> Prop}
  (D1 : Draws prog w A i1 fp1 n1 P1 S1) (hz : IsZip s.heap z TI TO .none) (hTI : IsPair s.heap TI (.ref i1) (.ref i2)) (hTO : IsPair s.heap TO a b)
  (h1 : S1 n1 s.heap) (nTO : TO ≠ z) (n1z : i1 ≠ z) (f1z : z ∉ fp1)
  (hE : ∀ h' e, (∃ o, h'.get? e = some o /\ o.cls = .type "StopIteration") -> (∀ c o, c ≠ z -> c ≠ TO -> c ≠ i1 -> c ≠ i2 -> s.heap.get? c = some o -> h'.get? c = some o) -> E (.ref e) { s with heap := h' }) :
  wpAny (model prog w) A (Builtin.«zip.__next__» ⟨[.ref z], []⟩) (fun fin s' => ∃ v, fin = .done (.ret v) /\ Q v s') E s := by
 show wpAny _ _ (field (.ref z) 2 >>= _) _ _ s
 refine wpAny_bind (wpAny_field hz rfl (x := .bool false) rfl ?_)
 refine wpAny_bind (wpAny_field hz rfl (x := .ref TI) rfl ?_)
 refine wpAny_bind (wpAny_seqItems hTI rfl ?_)
 refine wpAny_bind (m := SmallTypes.ownedTupleIsFree (.ref z)) (wpAny_bind (wpAny_field hz rfl (x := .none) rfl (wpAny_pure ?_)))
 show wpAny _ _ (if true = true then _ else _) _ _ s
 rw [if_pos rfl]
 refine wpAny_bind (wpAny_rule ?_)
 refine wpAny_bind (wpAny_field hz rfl (x := .ref TO) rfl ?_)
 refine wpAny_bind (wpAny_setField_rec hz (by simp) fun g1 hz1 hs1 => ?_)
 have st1 : S1 n1 g1 := D1.frame n1 _ _ h1 fun c hc o e => (hs1.2 c fun q => f1z (q ▸ hc)).trans e
 refine wpAny_bind ?_
 show wpAny _ _ (forIn [(Value.ref i1, 0), (Value.ref i2, 1)] _ _) _ _ _
 rw [List.forIn_cons]
 refine wpAny_bind (wpAny_bind (wpAny_onRaise ?_))
 refine wpAny_bind (m := SmallTypes.nextOf (.ref i1)) (D1.done { s with heap := g1 } _ _ st1 fun g2 e hs2 he => ?_)
 have hz2 : g2.get? z = some _ := hs2 z _ (Ne.symm n1z) hz1
 refine wpAny_setField_rec hz2 (by simp) fun g3 hz3 hs3 => ?_
 obtain ⟨oe, e1, e2⟩ := he
 have ez : e ≠ z := fun q => by
  rw [q, hz2] at e1
  cases e1
  exact absurd (Value.type.inj e2) (by decide)
 exact hE g3 e ⟨oe, (hs3.2 e ez).trans e1, e2⟩ fun c o c1 c2 c3 c4 q => (hs3.2 c c1).trans (hs2 c o c3 ((hs1.2 c c1).trans q))
theorem wpAny_pyNext_zip_itemD {z TI TO i1 i2 : Addr} {fp1 fp2 : List Addr} {n1 n2 k : Nat} {P1 P2 : Nat -> Value -> Prop} {S1 S2 : Nat -> Heap -> Prop} {a b : Value} {Q : Option Value -> Shared -> Prop}
  (D1 : Draws prog w A.in1 i1 fp1 n1 P1 S1) (D2 : Draws prog w A.in1 i2 fp2 n2 P2 S2) (hz : IsZip s.heap z TI TO .none) (hTI : IsPair s.heap TI (.ref i1) (.ref i2)) (hTO : IsPair s.heap TO a b)
  (h1 : S1 k s.heap) (h2 : S2 k s.heap) (k1 : k < n1) (k2 : k < n2) (nTO : TO ≠ z) (nTI : TI ≠ z) (n1z : i1 ≠ z) (n2z : i2 ≠ z) (n1T : i1 ≠ TO) (n2T : i2 ≠ TO)
  (f1z : z ∉ fp1) (f1T : TO ∉ fp1) (f12 : i2 ∉ fp1) (f2z : z ∉ fp2) (f2T : TO ∉ fp2) (f21 : i1 ∉ fp2)
  (hQ : ∀ x y h' tk, P1 k x -> P2 k y -> IsZip h' z TI TO (rawInt s.heap.objs.size) -> IsPair h' TO x y -> S1 (k + 1) h' -> S2 (k + 1) h' -> IsPair h' s.heap.objs.size x y -> h'.objs.size = s.heap.objs.size + 1 →
   (∀ c o, c ≠ z -> c ≠ TO -> c ≠ i1 -> c ≠ i2 -> s.heap.get? c = some o -> h'.get? c = some o) -> Q (some (.ref s.heap.objs.size)) { s with heap := h', toks := tk }) :
  wpAny (model prog w) A (pyNext (.ref z)) Q E s := by
 have hT : s.TypeIs (.ref z) "zip" := ⟨_, hz, rfl⟩
 exact wpAny_bind (wpAny_attempt (wpAny_callSpecial?_slot hT F.slot_zip_next (wpAny_call_entry F.slot_zip_next hT F.entry_zip_next
  (zip_next_itemD D1 D2 hz hTI hTO h1 h2 k1 k2 nTO nTI n1z n2z n1T n2T f1z f1T f12 f2z f2T f21 fun x y h' tk a0 b0 a1 a2 a3 a4 a5 a6 a7 => wpAny_pure (hQ x y h' tk a0 b0 a1 a2 a3 a4 a5 a6 a7)) (F.args_zip_next_1 (Value.ref z)))))
theorem wpAny_pyNext_zip_endD {z TI TO i1 i2 : Addr} {fp1 : List Addr} {n1 : Nat} {P1 : Nat -> Value -> Prop} {S1 : Nat -> Heap -> Prop} {a b : Value} {Q : Option Value -> Shared -> Prop}
  (D1 : Draws prog w A.in1 i1 fp1 n1 P1 S1) (hz : IsZip s.heap z TI TO .none) (hTI : IsPair s.heap TI (.ref i1) (.ref i2)) (hTO : IsPair s.heap TO a b)
  (h1 : S1 n1 s.heap) (nTO : TO ≠ z) (n1z : i1 ≠ z) (f1z : z ∉ fp1)
  (hQ : ∀ h', (∀ c o, c ≠ z -> c ≠ TO -> c ≠ i1 -> c ≠ i2 -> s.heap.get? c = some o -> h'.get? c = some o) -> Q none { s with heap := h' }) :
  wpAny (model prog w) A (pyNext (.ref z)) Q E s := by
 have hT : s.TypeIs (.ref z) "zip" := ⟨_, hz, rfl⟩
 exact wpAny_bind (wpAny_attempt (wpAny_callSpecial?_slot hT F.slot_zip_next (wpAny_call_entry F.slot_zip_next hT F.entry_zip_next
  (zip_next_endD D1 hz hTI hTO h1 nTO n1z f1z fun h' e he k => let ⟨o, ho, hc⟩ := he; wpAny_bind (wpAny_isInstance ⟨o, ho, hc⟩ isSubtype_stop (wpAny_pure (hQ h' k)))) (F.args_zip_next_1 (Value.ref z)))))
end
def zpH (h : Heap) (o1 o2 : Obj) : Heap :=
 ((((h.push o1).push o2).push { cls := .type "tuple", data := .seq #[.ref h.objs.size, .ref (h.push o1).objs.size] }).push { cls := .type "tuple", data := .seq #[.none, .none] }).push
  { cls := .type "zip", data := .fields #[.none, .bool false, .bool false, .ref ((h.push o1).push o2).objs.size, .ref (((h.push o1).push o2).push { cls := .type "tuple", data := .seq #[.ref h.objs.size, .ref (h.push o1).objs.size] }).objs.size] }
abbrev tIt (l : Addr) : Obj := { cls := .type "tuple_iterator", data := .fields #[.ref l, .int 0 0] }
abbrev lIt (l : Addr) : Obj := { cls := .type "list_iterator", data := .fields #[.ref l, .int 0 0] }
theorem meets_zip_TL (l1 l2 : Addr) (xs ys : Array Value) :
  Meets (Builtin.«zip.__new__» ⟨[.type "zip", .ref l1, .ref l2], []⟩) (fun _ R s => s.heap.IsTuple l1 xs /\ s.heap.IsList l2 ys ∧
   R (.ok (.ret (.ref ((((s.heap.push (tIt l1)).push (lIt l2)).push { cls := .type "tuple", data := .seq #[.ref s.heap.objs.size, .ref (s.heap.push (tIt l1)).objs.size] }).push { cls := .type "tuple", data := .seq #[.none, .none] }).objs.size)))
    { s with heap := zpH s.heap (tIt l1) (lIt l2) }) :=
 .of_wp fun prog w A R s h => by
  obtain ⟨hp, g, d, tk, os⟩ := s
  obtain ⟨hl1, hl2, h⟩ := h
  have hsub := sub_zip
  have hL1 := hl1
  have hL2 := Heap.IsList.push hl2 (tIt l1)
  wp_walk using wpAny_pyIter_tuple hL1, wpAny_pyIter_list hL2
  exact ⟨_, rfl, h⟩
theorem call_zip_TL {prog : Program} {w : World} {A : Around} {E : Value -> Shared -> Prop} {s : Shared} {l1 l2 : Addr} {xs ys : Array Value} {Q : Value -> Shared -> Prop} (h1 : s.heap.IsTuple l1 xs) (h2 : s.heap.IsList l2 ys)
  (h : ∀ h', IsZip h' (s.heap.objs.size + 4) (s.heap.objs.size + 2) (s.heap.objs.size + 3) .none -> IsPair h' (s.heap.objs.size + 2) (.ref s.heap.objs.size) (.ref (s.heap.objs.size + 1)) -> IsPair h' (s.heap.objs.size + 3) .none .none →
   h'.IsTupleIter s.heap.objs.size l1 0 -> h'.IsListIter (s.heap.objs.size + 1) l2 0 -> (∀ b o, s.heap.get? b = some o -> h'.get? b = some o) -> Q (.ref (s.heap.objs.size + 4)) { s with heap := h' }) :
  wpAny (model prog w) A (call (.type "zip") [.ref l1, .ref l2]) Q E s := by
 refine callType_new F.called_zip (by decide) (F.typeCall_zip_2 _ _) (F.newCall_zip_2 _ _) (fun obj => F.args_object_init_3 obj _ _) F.entry_zip_new (meets_zip_TL l1 l2 xs ys) ⟨h1, h2, ?_⟩
 have z1 : (s.heap.push (tIt l1)).objs.size = s.heap.objs.size + 1 := Heap.size_push ..
 have z2 : ((s.heap.push (tIt l1)).push (lIt l2)).objs.size = s.heap.objs.size + 2 := by rw [Heap.size_push, z1]
 have z3 : (((s.heap.push (tIt l1)).push (lIt l2)).push { cls := .type "tuple", data := .seq #[.ref s.heap.objs.size, .ref (s.heap.push (tIt l1)).objs.size] }).objs.size = s.heap.objs.size + 3 := by rw [Heap.size_push, z2]
 have z4 : ((((s.heap.push (tIt l1)).push (lIt l2)).push { cls := .type "tuple", data := .seq #[.ref s.heap.objs.size, .ref (s.heap.push (tIt l1)).objs.size] }).push { cls := .type "tuple", data := .seq #[.none, .none] }).objs.size = s.heap.objs.size + 4 := by rw [Heap.size_push, z3]
 have g5 : IsZip (zpH s.heap (tIt l1) (lIt l2)) (s.heap.objs.size + 4) (s.heap.objs.size + 2) (s.heap.objs.size + 3) .none := by
  rw [<- z4, <- z3, <- z2]
  exact Heap.get?_push_size _ rfl
 have g4 : IsPair (zpH s.heap (tIt l1) (lIt l2)) (s.heap.objs.size + 3) .none .none := by
  rw [<- z3]
  exact Heap.get?_push_of_some _ (Heap.get?_push_size _ rfl)
 have g3 : IsPair (zpH s.heap (tIt l1) (lIt l2)) (s.heap.objs.size + 2) (.ref s.heap.objs.size) (.ref (s.heap.objs.size + 1)) := by
  rw [<- z2, <- z1]
  exact Heap.get?_push_of_some _ (Heap.get?_push_of_some _ (Heap.get?_push_size _ rfl))
 have g2 : (zpH s.heap (tIt l1) (lIt l2)).get? (s.heap.objs.size + 1) = some (lIt l2) := by
  rw [<- z1]
  exact Heap.get?_push_of_some _ (Heap.get?_push_of_some _ (Heap.get?_push_of_some _ (Heap.get?_push_size _ rfl)))
 have g1 : (zpH s.heap (tIt l1) (lIt l2)).get? s.heap.objs.size = some (tIt l1) := Heap.get?_push_of_some _ (Heap.get?_push_of_some _ (Heap.get?_push_of_some _ (Heap.get?_push_of_some _ (Heap.get?_push_size _ rfl))))
 show _ /\ _
 rw [z4]
 exact ⟨⟨_, g5, rfl⟩, h _ g5 g3 g4 ⟨_, g1, rfl, rfl⟩ ⟨_, g2, rfl, rfl⟩ fun b o e => Heap.get?_push_of_some _ (Heap.get?_push_of_some _ (Heap.get?_push_of_some _ (Heap.get?_push_of_some _ (Heap.get?_push_of_some _ e))))⟩
theorem meets_zip_TT (l1 l2 : Addr) (xs ys : Array Value) :
  Meets (Builtin.«zip.__new__» ⟨[.type "zip", .ref l1, .ref l2], []⟩) (fun _ R s => s.heap.IsTuple l1 xs /\ s.heap.IsTuple l2 ys ∧
   R (.ok (.ret (.ref ((((s.heap.push (tIt l1)).push (tIt l2)).push { cls := .type "tuple", data := .seq #[.ref s.heap.objs.size, .ref (s.heap.push (tIt l1)).objs.size] }).push { cls := .type "tuple", data := .seq #[.none, .none] }).objs.size)))
    { s with heap := zpH s.heap (tIt l1) (tIt l2) }) :=
 .of_wp fun prog w A R s h => by
  obtain ⟨hp, g, d, tk, os⟩ := s
  obtain ⟨hl1, hl2, h⟩ := h
  have hsub := sub_zip
  have hL1 := hl1
  have hL2 := Heap.IsTuple.push hl2 (tIt l1)
  wp_walk using wpAny_pyIter_tuple hL1, wpAny_pyIter_tuple hL2
  exact ⟨_, rfl, h⟩
theorem call_zip_TT {prog : Program} {w : World} {A : Around} {E : Value -> Shared -> Prop} {s : Shared} {l1 l2 : Addr} {xs ys : Array Value} {Q : Value -> Shared -> Prop} (h1 : s.heap.IsTuple l1 xs) (h2 : s.heap.IsTuple l2 ys)
  (h : ∀ h', IsZip h' (s.heap.objs.size + 4) (s.heap.objs.size + 2) (s.heap.objs.size + 3) .none -> IsPair h' (s.heap.objs.size + 2) (.ref s.heap.objs.size) (.ref (s.heap.objs.size + 1)) -> IsPair h' (s.heap.objs.size + 3) .none .none →
   h'.IsTupleIter s.heap.objs.size l1 0 -> h'.IsTupleIter (s.heap.objs.size + 1) l2 0 -> (∀ b o, s.heap.get? b = some o -> h'.get? b = some o) -> Q (.ref (s.heap.objs.size + 4)) { s with heap := h' }) :
  wpAny (model prog w) A (call (.type "zip") [.ref l1, .ref l2]) Q E s := by
 refine callType_new F.called_zip (by decide) (F.typeCall_zip_2 _ _) (F.newCall_zip_2 _ _) (fun obj => F.args_object_init_3 obj _ _) F.entry_zip_new (meets_zip_TT l1 l2 xs ys) ⟨h1, h2, ?_⟩
 have z1 : (s.heap.push (tIt l1)).objs.size = s.heap.objs.size + 1 := Heap.size_push ..
 have z2 : ((s.heap.push (tIt l1)).push (tIt l2)).objs.size = s.heap.objs.size + 2 := by rw [Heap.size_push, z1]
 have z3 : (((s.heap.push (tIt l1)).push (tIt l2)).push { cls := .type "tuple", data := .seq #[.ref s.heap.objs.size, .ref (s.heap.push (tIt l1)).objs.size] }).objs.size = s.heap.objs.size + 3 := by rw [Heap.size_push, z2]
 have z4 : ((((s.heap.push (tIt l1)).push (tIt l2)).push { cls := .type "tuple", data := .seq #[.ref s.heap.objs.size, .ref (s.heap.push (tIt l1)).objs.size] }).push { cls := .type "tuple", data := .seq #[.none, .none] }).objs.size = s.heap.objs.size + 4 := by rw [Heap.size_push, z3]
 have g5 : IsZip (zpH s.heap (tIt l1) (tIt l2)) (s.heap.objs.size + 4) (s.heap.objs.size + 2) (s.heap.objs.size + 3) .none := by
  rw [<- z4, <- z3, <- z2]
  exact Heap.get?_push_size _ rfl
 have g4 : IsPair (zpH s.heap (tIt l1) (tIt l2)) (s.heap.objs.size + 3) .none .none := by
  rw [<- z3]
  exact Heap.get?_push_of_some _ (Heap.get?_push_size _ rfl)
 have g3 : IsPair (zpH s.heap (tIt l1) (tIt l2)) (s.heap.objs.size + 2) (.ref s.heap.objs.size) (.ref (s.heap.objs.size + 1)) := by
  rw [<- z2, <- z1]
  exact Heap.get?_push_of_some _ (Heap.get?_push_of_some _ (Heap.get?_push_size _ rfl))
 have g2 : (zpH s.heap (tIt l1) (tIt l2)).get? (s.heap.objs.size + 1) = some (tIt l2) := by
  rw [<- z1]
  exact Heap.get?_push_of_some _ (Heap.get?_push_of_some _ (Heap.get?_push_of_some _ (Heap.get?_push_size _ rfl)))
 have g1 : (zpH s.heap (tIt l1) (tIt l2)).get? s.heap.objs.size = some (tIt l1) := Heap.get?_push_of_some _ (Heap.get?_push_of_some _ (Heap.get?_push_of_some _ (Heap.get?_push_of_some _ (Heap.get?_push_size _ rfl))))
 show _ /\ _
 rw [z4]
 exact ⟨⟨_, g5, rfl⟩, h _ g5 g3 g4 ⟨_, g1, rfl, rfl⟩ ⟨_, g2, rfl, rfl⟩ fun b o e => Heap.get?_push_of_some _ (Heap.get?_push_of_some _ (Heap.get?_push_of_some _ (Heap.get?_push_of_some _ (Heap.get?_push_of_some _ e))))⟩
end PySem
namespace L2
open PySem PySem.Spec PyProof.Rows
theorem Inv.turnN {X : Cx} {pins : List (Addr × Obj)} {σ : St} {H : Hp} {s : Shared} {h' : Heap} {t' : Nat} {ch : List Addr} (I : Inv X pins σ H s) (fa : ∀ b ∈ ch, FpOk X pins H b)
  (k : ∀ c o, c ∉ ch -> s.heap.get? c = some o -> h'.get? c = some o) : Inv X pins σ H { s with heap := h', toks := t' } := by
 have na : ∀ c u, H c = some u -> c ∉ ch := fun c u e z => by have := (fa c z).1; rw [e] at this; cases this
 refine I.step (g' := s.gens) (d' := s.drawn) (ch := ch) (fun c hc => ?_) (fun c o _ _ hc e _ => k c o hc e) (fun c o _ _ hc e _ => ⟨o.slots, k c o hc e⟩)
  (fun _ _ _ _ n => n) (fun c o hc e => ⟨o, k c o hc e⟩) (fun _ _ e => e) (fun _ _ _ e => e) (fun c ps e => ⟨#[], by rw [e]; simp⟩) (fun m hm => ?_) (fun c u e => ?_) I.bare
 ·obtain ⟨a0, a1, a2, a3, a4, a5⟩ := fa c hc
  exact ⟨a3, a1, a4, a5⟩
 ·obtain ⟨o, es, ep, ho, r⟩ := hm
  exact ⟨o, es, ep, k _ o (fun z => (fa _ z).2.1 rfl) ho, r⟩
 ·refine (I.hok c u e).stay (fun d v hd q => ?_) (fun _ q => q) fun _ _ q => q
  rcases hd with z | z
  ·rw [z] at q ⊢
   exact k c v (na c u e) q
  ·exact k d v (na d _ z) q
theorem Inv.turnNl {X : Cx} {pins : List (Addr × Obj)} {σ : St} {H : Hp} {s : Shared} {h' : Heap} {t' : Nat} {ch : List Addr} {T : Addr} {o' : HO} (I : Inv X pins σ H s) (fa : ∀ b ∈ ch, FpOk X pins H b)
  (k : ∀ c o, c ∉ ch -> s.heap.get? c = some o -> h'.get? c = some o) (hT : s.heap.objs.size <= T) (new : ObjOk X.prog X.w (upd H T o') h' T o') : Inv X pins σ (upd H T o') { s with heap := h', toks := t' } := by
 have J : Inv X pins σ H { s with heap := h', toks := t' } := I.turnN fa k
 have hn : H T = none := I.hok.fresh hT
 have nT : ∀ c o, s.heap.get? c = some o -> c ≠ T := fun c o q => Nat.ne_of_lt (Nat.lt_of_lt_of_le (Heap.lt_size q) hT)
 refine I.step (g' := s.gens) (d' := s.drawn) (ch := ch) (fun c hc => ?_) (fun c o _ _ hc e _ => k c o hc e) (fun c o _ _ hc e _ => ⟨o.slots, k c o hc e⟩)
  (fun c o _ q n => by rw [upd_ne (nT c o q)]; exact n) (fun c o hc e => ⟨o, k c o hc e⟩) (fun c xs e => by rw [upd_ne (ne_of_none e hn)]; exact e) (fun c u xs e => by rw [upd_ne (ne_of_none e hn)]; exact e)
  (fun c ps e => ⟨#[], by rw [upd_ne (ne_of_none e hn), e]; simp⟩) (fun m hm => ?_) (hok_track J.hok hn new) I.bare
 ·obtain ⟨a0, a1, a2, a3, a4, a5⟩ := fa c hc
  exact ⟨a3, a1, a4, a5⟩
 ·obtain ⟨o, es, ep, ho, r⟩ := hm
  exact ⟨o, es, ep, k _ o (fun z => (fa _ z).2.1 rfl) ho, r⟩
end L2
namespace PySem
open Sem (wp)
open Builtin
theorem int_rmul_tup (a : Int) (t : Tok) (l : Addr) (items : Array Value) (n : Nat) (dd : Option Addr) (sl : Array (Option Value)) :
  Meets (Builtin.«int.__rmul__» ⟨[.int a t, .ref l], []⟩) (fun _ R s => s.heap.get? l = some ⟨.type "tuple", dd, .seq items n, sl⟩ /\ R (.ok (.ret .notImplemented)) s) :=
 .of_wp fun prog w A R s h => by
  obtain ⟨hp, g, d, tk, os⟩ := s
  obtain ⟨hl, h⟩ := h
  wp_walk
  exact ⟨_, rfl, h⟩
theorem noFill_tuple_mul : fillsNumberSlot (Value.type "tuple") "mul" = pure false := PySem.fillsNumberSlot_seq F.slot_tuple_mul.lookup (by first | rfl | decide) F.slot_tuple_rmul.lookup (by first | rfl | decide)
theorem repeat_tuple : seqRepeat? (Value.type "tuple") = pure (some (Value.builtin "tuple.__mul__")) := by
 unfold seqRepeat?
 have h1 : seqSlot? (Value.type "tuple") (Str.ofString "__mul__") = _ := PySem.seqSlot_of F.slot_tuple_mul.lookup (by first | rfl | decide)
 have h2 : seqSlot? (Value.type "tuple") (Str.ofString "__rmul__") = _ := PySem.seqSlot_of F.slot_tuple_rmul.lookup (by first | rfl | decide)
 rw [h1, h2]
 rfl
theorem tup_mul1 (l : Addr) (v : Value) (t : Tok) (n : Nat) (dd : Option Addr) (sl : Array (Option Value)) :
  Meets (Builtin.«tuple.__mul__» ⟨[.ref l, .int 1 t], []⟩) (fun _ R s => s.heap.get? l = some ⟨.type "tuple", dd, .seq #[v] n, sl⟩ /\ R (.ok (.ret (.ref l))) s) :=
 .of_wp fun prog w A R s h => by
  obtain ⟨hp, g, d, tk, os⟩ := s
  obtain ⟨hl, h⟩ := h
  unfold Builtin.«tuple.__mul__»
  wp_walk
  exact ⟨_, rfl, h⟩
theorem fold_rep_aux (v : Value) : ∀ (n : Nat) (a : Array Value), List.foldl (fun x1 x2 => x1 ++ x2) a (List.replicate n #[v]) = a ++ (List.replicate n v).toArray
 | 0, a => by simp
 | n + 1, a => by
  rw [List.replicate_succ, List.foldl_cons, fold_rep_aux v n, List.replicate_succ]
  apply Array.ext'
  simp
theorem fold_rep (v : Value) (n : Nat) : List.foldl (fun x1 x2 => x1 ++ x2) #[] (List.replicate n #[v]) = (List.replicate n v).toArray := by rw [fold_rep_aux]; simp
theorem tup_mulN (l : Addr) (v : Value) (x : Int) (t : Tok) (n : Nat) (dd : Option Addr) (sl : Array (Option Value)) (h2 : 2 <= x) (h3 : x <= 1000) :
  Meets (Builtin.«tuple.__mul__» ⟨[.ref l, .int x t], []⟩) (fun _ R s => s.heap.get? l = some ⟨.type "tuple", dd, .seq #[v] n, sl⟩ ∧
   R (.ok (.ret (.ref s.heap.objs.size))) { s with heap := s.heap.push { cls := .type "tuple", data := .seq (List.foldl (fun x1 x2 => x1 ++ x2) #[] (List.replicate x.toNat #[v])) } }) :=
 .of_wp fun prog w A R s h => by
  obtain ⟨hp, g, d, tk, os⟩ := s
  obtain ⟨hl, h⟩ := h
  have e1 : (decide (x < -2 ^ 63) || decide (x ≥ 2 ^ 63)) = false := by simp; omega
  have e2 : ((#[v] : Array Value).isEmpty || x == 1) = false := by simp; omega
  have e3 : (decide (x <= 0) || (#[v] : Array Value).isEmpty) = false := by simp; omega
  have e4 : ¬ (((#[v] : Array Value).size : Int) * x > (2 ^ 63 - 1) / 8) := by simp; omega
  have e5 : Builtin.Tuple.tupleTooMany (((#[v] : Array Value).size : Int) * x) = false := by
   unfold Builtin.Tuple.tupleTooMany
   have : (sizeLine : Int) = 16777216 := by decide
   rw [this]
   simp
   omega
  unfold Builtin.«tuple.__mul__»
  wp_walk
  rw [e1, if_neg Bool.false_ne_true]
  refine wpAny_bind (m := Builtin.Tuple.tupleItemsOf _) (wpAny_bind (wpAny_seqItems hl rfl (wpAny_pure ?_)))
  show wpAny _ _ (if ((#[v] : Array Value).isEmpty || x == 1) = true then _ else _) _ _ _
  rw [e2, if_neg Bool.false_ne_true]
  show wpAny _ _ (if (decide (x <= 0) || (#[v] : Array Value).isEmpty) = true then _ else _) _ _ _
  rw [e3, if_neg Bool.false_ne_true]
  show wpAny _ _ (if (((#[v] : Array Value).size : Int) * x > (2 ^ 63 - 1) / 8) then _ else _) _ _ _
  rw [if_neg e4]
  show wpAny _ _ (if Builtin.Tuple.tupleTooMany (((#[v] : Array Value).size : Int) * x) = true then _ else _) _ _ _
  rw [e5, if_neg Bool.false_ne_true]
  refine wpAny_bind (m := Builtin.Tuple.tupleExact _) (wpAny_newObj_type (wpAny_pure ⟨_, rfl, h⟩) ?_)
  rw [fold_rep]
  show (List.replicate x.toNat v).toArray.size <= sizeLine
  rw [List.size_toArray, List.length_replicate]
  have : sizeLine = 16777216 := by decide
  omega
end PySem
namespace L2
open PySem PySem.Spec PyProof.Rows
section
variable {X : Cx}
theorem vals_rep {v : V} {u : Value} (r : RelV v u) : ∀ n : Nat, Vals (List.replicate n v) (List.replicate n u)
 | 0 => .nil
 | n + 1 => .cons r (vals_rep r n)
end
end L2
namespace Mth
open PySem PyProof.Rows
theorem fm_range (xs : Array Nat) (a n : Nat) (h : a + n <= xs.size) : List.filterMap (fun i => xs[i]?) ((List.range n).map fun k => a + k) = (xs.toList.drop a).take n := by
 induction n with
 | zero => simp
 | succ n ih =>
  rw [List.range_succ, List.map_append, List.filterMap_append, ih (by omega), List.take_add_one]
  have h1 : a + n < xs.size := by omega
  simp [h1]
theorem idx_none_hi (l : Option Int) (n : Nat) : Builtin.Str.strSliceIndices l none 1 n = Builtin.Str.strSliceIndices l (some (n : Int)) 1 n := by
 unfold Builtin.Str.strSliceIndices
 simp
 rw [if_neg (by omega), Int.min_self, show max 0 (n : Int) = n by omega]
theorem slice_mid (z : Str) (a b : Nat) (h1 : a <= b) (h2 : b <= z.cps.size) : (Txt.slice z (some (a : Int)) (some (b : Int))).cps.toList = (z.cps.toList.drop a).take (b - a) := by
 unfold Txt.slice
 have hl : z.length = z.cps.size := rfl
 rw [hl, StrLaws.strSliceIndices_plain h1 h2, List.length_map, List.length_range]
 split
 ·rename_i h
  have h3 : b - a = z.cps.size := by simpa using h
  have ha : a = 0 := by omega
  subst ha
  rw [List.drop_zero, List.take_of_length_le (by simp; omega)]
 ·exact fm_range z.cps a (b - a) (by omega)
theorem slice_hi (z : Str) (a : Nat) (h2 : a <= z.cps.size) : (Txt.slice z (some (a : Int)) none).cps.toList = z.cps.toList.drop a := by
 have e : Txt.slice z (some (a : Int)) none = Txt.slice z (some (a : Int)) (some (z.cps.size : Int)) := by
  unfold Txt.slice
  rw [idx_none_hi]
  rfl
 rw [e, slice_mid z a z.cps.size h2 (Nat.le_refl _), List.take_of_length_le (by simp)]
end Mth
namespace L2
open PySem PySem.Spec PyProof.Rows
variable {X : Cx}
end L2
namespace PySem
open Sem (wp)
open Builtin
end PySem
namespace L2
open PySem PySem.Spec PyProof.Rows
end L2
set_option autoImplicit false
namespace MD
open PySem PySem.Spec PyProof.Rows L2
inductive D where
 | non | bl (b : Bool) | int (i : Int) | str (x : Str) | flt (b : UInt64) | byt (b : Array UInt8) | ob (k : Nat) | tup (xs : List D) | lst (xs : List D) | scr (xs : List D)
inductive MO where
 | lst (xs : List D) | dct (kvs : List (L2.Key × D)) | ins (c : Str) (fs : List (Str × D))
 | hid
abbrev Sto := List MO
abbrev En := List (Option D)
structure Exc where
 cls : Str
 args : List D
inductive Res (α : Type) where
 | ok (a : α) (m : Sto) | exc (c : Exc) (m : Sto) | bad
def Res.bind {α β : Type} (r : Res α) (k : α -> Sto -> Res β) : Res β := match r with
 | .ok a m => k a m
 | .exc c m => .exc c m
 | .bad => .bad
def Post {α : Type} (r : Res α) (Q : α -> Sto -> Prop) (E : Exc -> Sto -> Prop) : Prop := match r with
 | .ok a m => Q a m
 | .exc c m => E c m
 | .bad => False
def TupAt (K : PySem.W.Frag) (H : Hp) (a : Addr) (xs : List V) : Prop :=
 H a = some (.tup xs) ∨ ∃ (o : Obj) (its : Array Value) (n : Nat), K.lookup a = some o /\ o.cls = .type "tuple" /\ o.dict = none /\ o.data = .seq its n /\ its.size <= sizeLine /\ Vals xs its.toList
theorem TupAt.sq {K : PySem.W.Frag} {H : Hp} {a : Addr} {xs : List V} (h : TupAt K H a xs) : SqT K H a xs := by
 rcases h with h | ⟨o, its, n, h1, h2, _, h3, h4, h5⟩
 ·exact .inl (.inl h)
 ·exact .inr ⟨o, its, n, h1, h2, h3, h4, h5⟩
def KL (K : PySem.W.Frag) (a : Addr) (xs : List V) : Prop := ∃ (o : Obj) (its : Array Value) (n : Nat), K.lookup a = some o /\ o.cls = .type "list" /\ o.dict = none /\ o.data = .seq its n /\ its.size <= sizeLine /\ Vals xs its.toList
def LstAt (K : PySem.W.Frag) (α : List Addr) (H : Hp) (a : Addr) (xs : List V) : Prop := (a ∉ α /\ Rd H a (.lst xs)) ∨ KL K a xs
theorem LstAt.sq {K : PySem.W.Frag} {α : List Addr} {H : Hp} {a : Addr} {xs : List V} (h : LstAt K α H a xs) : SqL K H a xs := by
 rcases h with h | h
 ·exact .inl h.2
 ·exact .inr h
mutual
def Rep (K : PySem.W.Frag) (α : List Addr) (H : Hp) : D -> V -> Prop
 | .non, v => v = .non
 | .bl b, v => v = .bl b
 | .int i, v => v = .int i
 | .str x, v => v = .str x
 | .flt x, v => v = .flt x
 | .byt x, v => v = .byt x
 | .ob k, v => ∃ a, α[k]? = some a /\ v = .ref a
 | .tup ds, v => ∃ a xs, v = .ref a /\ TupAt K H a xs /\ RepL K α H ds xs
 | .lst ds, v => ∃ a xs, v = .ref a /\ a ∉ α /\ Rd H a (.lst xs) /\ RepL K α H ds xs
 | .scr ds, v => ∃ a xs, v = .ref a /\ LstAt K α H a xs /\ RepL K α H ds xs
def RepL (K : PySem.W.Frag) (α : List Addr) (H : Hp) : List D -> List V -> Prop
 | [], vs => vs = []
 | d :: ds, vs => ∃ v r, vs = v :: r /\ Rep K α H d v /\ RepL K α H ds r
end
def RepKV (K : PySem.W.Frag) (α : List Addr) (H : Hp) : List (L2.Key × D) -> List (L2.Key × V) -> Prop
 | [], vs => vs = []
 | d :: ds, vs => ∃ v r, vs = (d.1, v) :: r /\ Rep K α H d.2 v /\ RepKV K α H ds r
def RepF (K : PySem.W.Frag) (α : List Addr) (H : Hp) : List (Str × D) -> List (Str × V) -> Prop
 | [], vs => vs = []
 | d :: ds, vs => ∃ v r, vs = (d.1, v) :: r /\ Rep K α H d.2 v /\ RepF K α H ds r
def MoRep (K : PySem.W.Frag) (cl : Str -> Addr) (α : List Addr) (H : Hp) (a : Addr) : MO -> Prop
 | .lst ds => ∃ xs, H a = some (.lst xs) /\ RepL K α H ds xs
 | .dct ds => ∃ xs, H a = some (.dK xs) /\ RepKV K α H ds xs
 | .ins c ds => ∃ dx xs, H a = some (.ins (cl c) dx xs) /\ RepF K α H ds xs
 | .hid => ∃ o xs, H a = some (.frz o (.dK xs))
structure Wd (K : PySem.W.Frag) (cl : Str -> Addr) (α : List Addr) (m : Sto) (H : Hp) : Prop where
 len : α.length = m.length
 nd : α.Nodup
 at' : ∀ (k : Nat) (a : Addr) (o : MO), α[k]? = some a -> m[k]? = some o -> MoRep K cl α H a o
structure Ext (α : List Addr) (H : Hp) (α' : List Addr) (H' : Hp) : Prop where
 pre : ∃ β, α' = α ++ β /\ ∀ b ∈ β, H b = none
 keep : ∀ a o, H a = some o -> a ∉ α -> H' a = some o
 there : ∀ a ∈ α, H' a ≠ none
 frzs : ∀ a o u, H a = some (.frz o u) -> H' a = some (.frz o u)
section
variable {K : PySem.W.Frag} {cl : Str -> Addr} {α α' α2 : List Addr} {m m' : Sto} {H H' H2 : Hp}
theorem Wd.is (W : Wd K cl α m H) {a : Addr} (ha : a ∈ α) : (∃ xs, H a = some (.lst xs)) ∨ (∃ xs, H a = some (.dK xs)) ∨ (∃ c dx xs, H a = some (.ins c dx xs)) ∨ ∃ o xs, H a = some (.frz o (.dK xs)) := by
 obtain ⟨k, hk, rfl⟩ := List.mem_iff_getElem.mp ha
 have hm : k < m.length := by rw [<- W.len]; exact hk
 have h := W.at' k α[k] m[k] (by simp [hk]) (by simp [hm])
 cases e : m[k] with
 | lst ds => rw [e] at h; obtain ⟨xs, h, _⟩ := h; exact .inl ⟨xs, h⟩
 | dct ds => rw [e] at h; obtain ⟨xs, h, _⟩ := h; exact .inr (.inl ⟨xs, h⟩)
 | ins c ds => rw [e] at h; obtain ⟨dx, xs, h, _⟩ := h; exact .inr (.inr (.inl ⟨_, dx, xs, h⟩))
 | hid => rw [e] at h; obtain ⟨o, xs, h⟩ := h; exact .inr (.inr (.inr ⟨o, xs, h⟩))
theorem Wd.has (W : Wd K cl α m H) {a : Addr} (ha : a ∈ α) : H a ≠ none := by
 rcases W.is ha with ⟨_, h⟩ | ⟨_, h⟩ | ⟨_, _, _, h⟩ | ⟨_, _, h⟩ <;> rw [h] <;> exact fun z => nomatch z
theorem Wd.notup (W : Wd K cl α m H) {a : Addr} {xs : List V} (h : Rd H a (.tup xs)) : a ∉ α := fun ha => by
 rcases h with h | ⟨o, h⟩ <;> rcases W.is ha with ⟨_, e⟩ | ⟨_, e⟩ | ⟨_, _, _, e⟩ | ⟨_, _, e⟩ <;> rw [h] at e <;> cases e
theorem Ext.rd (E : Ext α H α' H') {a : Addr} {u : HO} (h : Rd H a u) (n : a ∉ α) : Rd H' a u := by
 rcases h with h | ⟨o, h⟩
 ·exact .inl (E.keep a _ h n)
 ·exact .inr ⟨o, E.keep a _ h n⟩
theorem Rd.ne {a : Addr} {u : HO} (h : Rd H a u) : H a ≠ none := by
 rcases h with h | ⟨o, h⟩ <;> rw [h] <;> exact fun z => nomatch z
theorem Ext.sqt (E : Ext α H α' H') (W : Wd K cl α m H) {a : Addr} {xs : List V} (h : SqT K H a xs) : SqT K H' a xs := by
 rcases h with h | h
 ·exact .inl (E.rd h (W.notup h))
 ·exact .inr h
structure Kp (α : List Addr) (H : Hp) (α' : List Addr) (H' : Hp) : Prop where
 pre : ∃ β, α' = α ++ β
 tup : ∀ a xs, H a = some (.tup xs) -> H' a = some (.tup xs)
 lst : ∀ a xs, a ∉ α -> Rd H a (.lst xs) -> a ∉ α' /\ Rd H' a (.lst xs)
theorem Ext.kp (E : Ext α H α' H') (W : Wd K cl α m H) : Kp α H α' H' := ⟨let ⟨β, e, _⟩ := E.pre; ⟨β, e⟩, fun a xs h => E.keep a _ h (W.notup (.inl h)), fun a xs n h => ⟨fun z => by
  obtain ⟨β, rfl, hb⟩ := E.pre
  rcases List.mem_append.mp z with z | z
  ·exact n z
  ·exact Rd.ne h (hb a z), E.rd h n⟩⟩
theorem Kp.lstAt (E : Kp α H α' H') {a : Addr} {xs : List V} (h : LstAt K α H a xs) : LstAt K α' H' a xs := by
 rcases h with h | h
 ·exact .inl (E.lst a xs h.1 h.2)
 ·exact .inr h
mutual
theorem Rep.kp (E : Kp α H α' H') : ∀ {d : D} {v : V}, Rep K α H d v -> Rep K α' H' d v
 | .non, _, h => by simpa [Rep] using h
 | .bl _, _, h => by simpa [Rep] using h
 | .int _, _, h => by simpa [Rep] using h
 | .str _, _, h => by simpa [Rep] using h
 | .flt _, _, h => by simpa [Rep] using h
 | .byt _, _, h => by simpa [Rep] using h
 | .ob k, _, h => by
  rw [Rep] at h ⊢
  obtain ⟨a, h1, h2⟩ := h
  obtain ⟨β, rfl⟩ := E.pre
  exact ⟨a, by rw [List.getElem?_append_left (List.getElem?_eq_some_iff.mp h1).1]; exact h1, h2⟩
 | .tup ds, _, h => by
  rw [Rep] at h ⊢
  obtain ⟨a, xs, e, h1, h2⟩ := h
  refine ⟨a, xs, e, ?_, RepL.kp E h2⟩
  rcases h1 with h1 | h1
  ·exact .inl (E.tup a xs h1)
  ·exact .inr h1
 | .lst ds, _, h => by
  rw [Rep] at h ⊢
  obtain ⟨a, xs, e, n, h1, h2⟩ := h
  exact ⟨a, xs, e, (E.lst a xs n h1).1, (E.lst a xs n h1).2, RepL.kp E h2⟩
 | .scr ds, _, h => by
  rw [Rep] at h ⊢
  obtain ⟨a, xs, e, h1, h2⟩ := h
  exact ⟨a, xs, e, E.lstAt h1, RepL.kp E h2⟩
theorem RepL.kp (E : Kp α H α' H') : ∀ {ds : List D} {vs : List V}, RepL K α H ds vs -> RepL K α' H' ds vs
 | [], _, h => by rw [RepL] at h ⊢; exact h
 | _ :: _, _, h => by
  rw [RepL] at h ⊢
  obtain ⟨v, r, e, h1, h2⟩ := h
  exact ⟨v, r, e, Rep.kp E h1, RepL.kp E h2⟩
end
theorem Rep.mono (W : Wd K cl α m H) (E : Ext α H α' H') {d : D} {v : V} (h : Rep K α H d v) : Rep K α' H' d v := h.kp (E.kp W)
theorem RepL.mono (W : Wd K cl α m H) (E : Ext α H α' H') {ds : List D} {vs : List V} (h : RepL K α H ds vs) : RepL K α' H' ds vs := h.kp (E.kp W)
theorem Ext.refl (W : Wd K cl α m H) : Ext α H α H := ⟨⟨[], by simp, fun _ h => nomatch h⟩, fun _ _ h _ => h, fun _ h => W.has h, fun _ _ _ h => h⟩
theorem Ext.trans (a : Ext α H α' H') (b : Ext α' H' α2 H2) : Ext α H α2 H2 := by
 obtain ⟨β, rfl, hb⟩ := a.pre
 obtain ⟨γ, rfl, hc⟩ := b.pre
 refine ⟨⟨β ++ γ, by simp, fun c h => ?_⟩, fun x o h n => b.keep x o (a.keep x o h n) fun z => ?_, fun x h => b.there x (List.mem_append_left _ h), fun x o u h => b.frzs x o u (a.frzs x o u h)⟩
 ·rcases List.mem_append.mp h with h | h
  ·exact hb c h
  ·cases e : H c with
   | none => rfl
   | some o =>
    by_cases hm : c ∈ α
    ·exact absurd (hc c h) (a.there c hm)
    ·have := a.keep c o e hm
     rw [hc c h] at this
     cases this
 ·rcases List.mem_append.mp z with z | z
  ·exact n z
  ·rw [hb x z] at h
   cases h
theorem Ext.of_same (W : Wd K cl α m H) (s : Same H H') : Ext α H α H' := by
 refine ⟨⟨[], by simp, fun _ h => nomatch h⟩, fun a o h _ => s a o h, fun a ha z => ?_, fun a o u h => s a _ h⟩
 cases e : H a with
 | none => exact W.has ha e
 | some o => rw [s a o e] at z; cases z
theorem RepKV.kp (E : Kp α H α' H') : ∀ {ds : List (L2.Key × D)} {vs : List (L2.Key × V)}, RepKV K α H ds vs -> RepKV K α' H' ds vs
 | [], _, h => h
 | _ :: _, _, ⟨v, r, e, h1, h2⟩ => ⟨v, r, e, Rep.kp E h1, RepKV.kp E h2⟩
theorem RepF.kp (E : Kp α H α' H') : ∀ {ds : List (Str × D)} {vs : List (Str × V)}, RepF K α H ds vs -> RepF K α' H' ds vs
 | [], _, h => h
 | _ :: _, _, ⟨v, r, e, h1, h2⟩ => ⟨v, r, e, Rep.kp E h1, RepF.kp E h2⟩
theorem RepKV.mono (W : Wd K cl α m H) (E : Ext α H α' H') {ds : List (L2.Key × D)} {vs : List (L2.Key × V)} (h : RepKV K α H ds vs) : RepKV K α' H' ds vs := h.kp (E.kp W)
theorem MoRep.kp (E : Kp α H α' H') {a : Addr} (s : ∀ o, H a = some o -> H' a = some o) : ∀ {o : MO}, MoRep K cl α H a o -> MoRep K cl α' H' a o
 | .lst _, ⟨xs, h1, h2⟩ => ⟨xs, s _ h1, h2.kp E⟩
 | .dct _, ⟨xs, h1, h2⟩ => ⟨xs, s _ h1, h2.kp E⟩
 | .ins _ _, ⟨dx, xs, h1, h2⟩ => ⟨dx, xs, s _ h1, h2.kp E⟩
 | .hid, ⟨o, xs, h1⟩ => ⟨o, xs, s _ h1⟩
theorem MoRep.mono (W : Wd K cl α m H) (E : Ext α H α' H') {a : Addr} (s : ∀ o, H a = some o -> H' a = some o) {o : MO} (h : MoRep K cl α H a o) : MoRep K cl α' H' a o := h.kp (E.kp W) s
theorem Wd.same (W : Wd K cl α m H) (s : Same H H') : Wd K cl α m H' := ⟨W.len, W.nd, fun k a o h1 h2 => (W.at' k a o h1 h2).mono W (Ext.of_same W s) fun o h => s a o h⟩
theorem Wd.join (W : Wd K cl α m H) {p : Addr} {u : HO} {o : MO} (hn : p ∉ α) (kp : Kp α H (α ++ [p]) (upd H p u)) (h : MoRep K cl (α ++ [p]) (upd H p u) p o) : Wd K cl (α ++ [p]) (m ++ [o]) (upd H p u) := by
 refine ⟨by rw [List.length_append, List.length_append, W.len]; rfl, ?_, fun k a o' h1 h2 => ?_⟩
 ·rw [List.nodup_append]
  exact ⟨W.nd, by simp, fun a ha b hb e => hn (by rw [<- List.mem_singleton.mp hb, <- e]; exact ha)⟩
 ·by_cases hk : k < α.length
  ·rw [List.getElem?_append_left hk] at h1
   rw [List.getElem?_append_left (by rw [<- W.len]; exact hk)] at h2
   exact (W.at' k a o' h1 h2).kp kp fun o h => by rw [upd_ne (fun z => hn (by rw [<- z]; exact List.mem_of_getElem? h1))]; exact h
  ·have hk2 : k = α.length := by
    have := (List.getElem?_eq_some_iff.mp h1).1
    rw [List.length_append] at this
    have : [p].length = 1 := rfl
    omega
   subst hk2
   rw [List.getElem?_append_right (Nat.le_refl _)] at h1
   rw [W.len, List.getElem?_append_right (Nat.le_refl _)] at h2
   simp at h1 h2
   subst h1 h2
   exact h
theorem Wd.new (W : Wd K cl α m H) {p : Addr} {u : HO} {o : MO} (hp : H p = none) (h : MoRep K cl (α ++ [p]) (upd H p u) p o) : Wd K cl (α ++ [p]) (m ++ [o]) (upd H p u) /\ Ext α H (α ++ [p]) (upd H p u) := by
 have s : Same H (upd H p u) := fun b o e => by rw [upd_ne (ne_of_none e hp)]; exact e
 have E : Ext α H (α ++ [p]) (upd H p u) := ⟨⟨[p], rfl, fun b hb => by rw [List.mem_singleton.mp hb]; exact hp⟩, fun a o h _ => s a o h, (Ext.of_same W s).there, fun a o u h => s a _ h⟩
 exact ⟨W.join (fun z => W.has z hp) (E.kp W) h, E⟩
end
theorem ex3 {A B C : Type} {P Q R : A -> B -> C -> Prop} {G : Prop} (h : ∃ a b c, P a b c /\ Q a b c /\ R a b c) (k : ∀ a b c, P a b c -> Q a b c -> R a b c -> G) : G := h.elim fun a h => h.elim fun b h => h.elim fun c h => k a b c h.1 h.2.1 h.2.2
abbrev XD := Exc -> List Addr -> Sto -> Hp -> Prop
abbrev RD (τ : Type) := τ -> List Addr -> Sto -> Hp -> Prop
def PQ (K : PySem.W.Frag) (cl : Str -> Addr) (ex : XD) {τ : Type} (r : Res τ) (α : List Addr) (H : Hp) (R : RD τ) : Prop :=
 Post r (fun d m' => ∀ α' H', Ext α H α' H' -> Wd K cl α' m' H' -> R d α' m' H') fun c m' => ∀ α' H', Ext α H α' H' -> Wd K cl α' m' H' -> ex c α' m' H'
structure RepE (K : PySem.W.Frag) (α : List Addr) (H : Hp) (ρ : En) (σ : L2.St) : Prop where
 len : ρ.length = σ.length
 at' : ∀ (i : Nat) (d : D), ρ[i]? = some (some d) -> ∃ v, σ[i]? = some (some v) /\ Rep K α H d v
section
variable {K : PySem.W.Frag} {cl : Str -> Addr} {ex : XD} {α α' α2 : List Addr} {m m' : Sto} {H H' H2 : Hp} {ρ ρ' : En} {σ σ' : L2.St} {τ υ : Type}
theorem RepE.mono (W : Wd K cl α m H) (E : Ext α H α' H') (h : RepE K α H ρ σ) : RepE K α' H' ρ σ := ⟨h.len, fun i d e => let ⟨v, a, b⟩ := h.at' i d e; ⟨v, a, b.mono W E⟩⟩
theorem RepE.set {i : Nat} {d : D} {v : V} (h : RepE K α H ρ σ) (r : Rep K α H d v) : RepE K α H (ρ.set i (some d)) (σ.set i (some v)) := by
 refine ⟨by rw [List.length_set, List.length_set, h.len], fun j e hj => ?_⟩
 by_cases hij : i = j
 ·subst hij
  have hl : i < ρ.length := by
   have := (List.getElem?_eq_some_iff.mp hj).1
   rwa [List.length_set] at this
  rw [List.getElem?_set_self hl] at hj
  cases hj
  exact ⟨v, List.getElem?_set_self (by rw [<- h.len]; exact hl), r⟩
 ·rw [List.getElem?_set_ne hij] at hj ⊢
  exact h.at' j e hj
theorem RepE.more (h : RepE K α H ρ σ) (n : Nat) : RepE K α H (ρ ++ List.replicate n none) (σ ++ List.replicate n none) := by
 refine ⟨by simp [h.len], fun j e hj => ?_⟩
 by_cases hl : j < ρ.length
 ·rw [List.getElem?_append_left hl] at hj
  rw [List.getElem?_append_left (by rw [<- h.len]; exact hl)]
  exact h.at' j e hj
 ·rw [List.getElem?_append_right (by omega), List.getElem?_replicate] at hj
  split at hj <;> cases hj
theorem PQ.mono {r : Res τ} {R R' : RD τ} (E : Ext α H α' H') (h : PQ K cl ex r α H R) (hR : ∀ d α2 m2 H2, Ext α' H' α2 H2 -> Wd K cl α2 m2 H2 -> R d α2 m2 H2 -> R' d α2 m2 H2) : PQ K cl ex r α' H' R' := by
 cases r with
 | ok d m2 => exact fun α2 H2 E2 W2 => hR d α2 m2 H2 E2 W2 (h α2 H2 (E.trans E2) W2)
 | exc c m2 => exact fun α2 H2 E2 W2 => h α2 H2 (E.trans E2) W2
 | bad => exact h
theorem PQ.bind {r : Res τ} {k : τ -> Sto -> Res υ} {R : RD υ} (h : PQ K cl ex (r.bind k) α H R) : PQ K cl ex r α H fun d α1 m1 H1 => PQ K cl ex (k d m1) α1 H1 R := by
 cases r with
 | ok d m1 => exact fun α1 H1 E1 _ => PQ.mono E1 h fun _ _ _ _ _ _ q => q
 | exc c m1 => exact h
 | bad => exact h
theorem PQ.ok {d : τ} {R : RD τ} (W : Wd K cl α m H) (h : PQ K cl ex (.ok d m) α H R) : R d α m H := h α H (Ext.refl W) W
theorem PQ.okS {d : τ} {R : RD τ} (W : Wd K cl α m H) (s : Same H H') (h : PQ K cl ex (.ok d m) α H R) : R d α m H' := h α H' (Ext.of_same W s) (W.same s)
def tD (K : PySem.W.Frag) (cl : Str -> Addr) (ex : XD) (f : En -> Sto -> Res D) : TE := fun σ H Q => ∃ α ρ m, Wd K cl α m H /\ RepE K α H ρ σ /\ PQ K cl ex (f ρ m) α H fun d α' _ H' => ∀ v, Rep K α' H' d v -> Q v H'
def tDT (K : PySem.W.Frag) (cl : Str -> Addr) (ex : XD) (f : En -> Sto -> Res Bool) : TT := fun σ H Q => ∃ α ρ m, Wd K cl α m H /\ RepE K α H ρ σ /\ PQ K cl ex (f ρ m) α H fun d _ _ H' => Q d H'
def tDA (K : PySem.W.Frag) (cl : Str -> Addr) (ex : XD) (f : En -> Sto -> Res (List D)) : TA := fun σ H Q => ∃ α ρ m, Wd K cl α m H /\ RepE K α H ρ σ /\ PQ K cl ex (f ρ m) α H fun d α' _ H' => ∀ v, RepL K α' H' d v -> Q v H'
theorem tD.use {f : En -> Sto -> Res D} {k : D -> Sto -> Res τ} {R : RD τ} {Q : VK} (W : Wd K cl α m H) (hr : RepE K α H ρ σ) (h : PQ K cl ex ((f ρ m).bind k) α H R)
  (hQ : ∀ α1 m1 H1 d v, Ext α H α1 H1 -> Wd K cl α1 m1 H1 -> RepE K α1 H1 ρ σ -> Rep K α1 H1 d v -> PQ K cl ex (k d m1) α1 H1 R -> Q v H1) : tD K cl ex f σ H Q :=
 ⟨α, ρ, m, W, hr, PQ.mono (Ext.refl W) h.bind fun d α1 m1 H1 E1 W1 q v rv => hQ α1 m1 H1 d v E1 W1 (hr.mono W E1) rv q⟩
theorem tDT.use {f : En -> Sto -> Res Bool} {k : Bool -> Sto -> Res τ} {R : RD τ} {Q : Bool -> Hp -> Prop} (W : Wd K cl α m H) (hr : RepE K α H ρ σ) (h : PQ K cl ex ((f ρ m).bind k) α H R)
  (hQ : ∀ α1 m1 H1 d, Ext α H α1 H1 -> Wd K cl α1 m1 H1 -> RepE K α1 H1 ρ σ -> PQ K cl ex (k d m1) α1 H1 R -> Q d H1) : tDT K cl ex f σ H Q :=
 ⟨α, ρ, m, W, hr, PQ.mono (Ext.refl W) h.bind fun d α1 m1 H1 E1 W1 q => hQ α1 m1 H1 d E1 W1 (hr.mono W E1) q⟩
theorem tDA.use {f : En -> Sto -> Res (List D)} {k : List D -> Sto -> Res τ} {R : RD τ} {Q : List V -> Hp -> Prop} (W : Wd K cl α m H) (hr : RepE K α H ρ σ) (h : PQ K cl ex ((f ρ m).bind k) α H R)
  (hQ : ∀ α1 m1 H1 d v, Ext α H α1 H1 -> Wd K cl α1 m1 H1 -> RepE K α1 H1 ρ σ -> RepL K α1 H1 d v -> PQ K cl ex (k d m1) α1 H1 R -> Q v H1) : tDA K cl ex f σ H Q :=
 ⟨α, ρ, m, W, hr, PQ.mono (Ext.refl W) h.bind fun d α1 m1 H1 E1 W1 q v rv => hQ α1 m1 H1 d v E1 W1 (hr.mono W E1) rv q⟩
end
section
variable (X : Cx) (cl : Str -> Addr) (ex : XD)
abbrev EV := En -> Sto -> Res D
abbrev TV := En -> Sto -> Res Bool
abbrev AV := En -> Sto -> Res (List D)
structure QE (e : Expr) (f : EV) : Prop where
 out : PE X e (tD X.K cl ex f)
structure QT (e : Expr) (f : TV) : Prop where
 out : PT X e (tDT X.K cl ex f)
structure QW (e : Expr) (f : TV) : Prop where
 out : PW X e (tDT X.K cl ex f)
structure QA (es : List Expr) (f : AV) : Prop where
 out : PA X es (tDA X.K cl ex f)
end
theorem PE.weak {X : Cx} {e : Expr} {t t' : TE} (h : PE X e t) (w : ∀ σ H Q, t' σ H Q -> t σ H Q) : PE X e t' := fun pins s σ H Q I q => h pins s σ H Q I (w σ H Q q)
theorem PT.weak {X : Cx} {e : Expr} {t t' : TT} (h : PT X e t) (w : ∀ σ H Q, t' σ H Q -> t σ H Q) : PT X e t' := fun pins s σ H Q I q => h pins s σ H Q I (w σ H Q q)
theorem PW.weak {X : Cx} {e : Expr} {t t' : TT} (h : PW X e t) (w : ∀ σ H Q, t' σ H Q -> t σ H Q) : PW X e t' := fun wh pins s σ H Q I q => h wh pins s σ H Q I (w σ H Q q)
theorem PA.weak {X : Cx} {e : List Expr} {t t' : TA} (h : PA X e t) (w : ∀ σ H Q, t' σ H Q -> t σ H Q) : PA X e t' := fun p pins s σ H Q I q => h p pins s σ H Q I (w σ H Q q)
theorem PS.weak {X : Cx} {e : Stmt} {t t' : TS} (h : PS X e t) (w : ∀ D σ H, t' D σ H -> t D σ H) : PS X e t' := fun pins s σ H D I q => h pins s σ H D I (w D σ H q)
theorem PSs.weak {X : Cx} {e : List Stmt} {t t' : TS} (h : PSs X e t) (w : ∀ D σ H, t' D σ H -> t D σ H) : PSs X e t' := fun pins s σ H D I q => h pins s σ H D I (w D σ H q)
def zag (i : Nat) : EV := fun ρ m => match ρ[i]? with
 | some (some d) => .ok d m
 | _ => .bad
def eC (d : D) : EV := fun _ m => .ok d m
def eOp (g : D -> D -> Sto -> Res D) (fa fb : EV) : EV := fun ρ m => (fa ρ m).bind fun x m1 => (fb ρ m1).bind fun y m2 => g x y m2
def eUn (g : D -> Sto -> Res D) (fa : EV) : EV := fun ρ m => (fa ρ m).bind g
def eIf (c : TV) (fa fb : EV) : EV := fun ρ m => (c ρ m).bind fun b m1 => if b = true then fa ρ m1 else fb ρ m1
def zaj : AV := fun _ m => .ok [] m
def zab (fa : EV) (fr : AV) : AV := fun ρ m => (fa ρ m).bind fun x m1 => (fr ρ m1).bind fun xs m2 => .ok (x :: xs) m2
def eFn (g : List D -> Sto -> Res D) (fa : AV) : EV := fun ρ m => (fa ρ m).bind g
def asB (d : D) (m : Sto) : Res Bool := match d with
 | .bl b => .ok b m
 | _ => .bad
def tV (fa : EV) : TV := fun ρ m => (fa ρ m).bind asB
def tAndM (a b : TV) : TV := fun ρ m => (a ρ m).bind fun c m1 => if c = true then b ρ m1 else .ok false m1
def tOrM (a b : TV) : TV := fun ρ m => (a ρ m).bind fun c m1 => if c = true then .ok true m1 else b ρ m1
def tNotM (a : TV) : TV := fun ρ m => (a ρ m).bind fun c m1 => .ok (!c) m1
def eAnd (a b : EV) : EV := fun ρ m => (a ρ m).bind fun c m1 => (asB c m1).bind fun c m1 => if c = true then b ρ m1 else .ok (.bl false) m1
def eOr (a b : EV) : EV := fun ρ m => (a ρ m).bind fun c m1 => (asB c m1).bind fun c m1 => if c = true then .ok (.bl true) m1 else b ρ m1
def eNot (a : EV) : EV := fun ρ m => (a ρ m).bind fun c m1 => (asB c m1).bind fun c m1 => .ok (.bl (!c)) m1
def OpD (K : PySem.W.Frag) (cl : Str -> Addr) (ex : XD) (r : R2) (g : D -> D -> Sto -> Res D) : Prop :=
 ∀ (α : List Addr) (m : Sto) (H : Hp) (x y : D) (vx vy : V) (Q : VK), Wd K cl α m H -> Rep K α H x vx -> Rep K α H y vy -> PQ K cl ex (g x y m) α H (fun d α' _ H' => ∀ v, Rep K α' H' d v -> Q v H') -> r vx vy H Q
def UnD (K : PySem.W.Frag) (cl : Str -> Addr) (ex : XD) (r : V -> Hp -> VK -> Prop) (g : D -> Sto -> Res D) : Prop :=
 ∀ (α : List Addr) (m : Sto) (H : Hp) (x : D) (vx : V) (Q : VK), Wd K cl α m H -> Rep K α H x vx -> PQ K cl ex (g x m) α H (fun d α' _ H' => ∀ v, Rep K α' H' d v -> Q v H') -> r vx H Q
def FnD (K : PySem.W.Frag) (cl : Str -> Addr) (ex : XD) (r : List V -> Hp -> VK -> Prop) (g : List D -> Sto -> Res D) : Prop :=
 ∀ (α : List Addr) (m : Sto) (H : Hp) (x : List D) (vx : List V) (Q : VK), Wd K cl α m H -> RepL K α H x vx -> PQ K cl ex (g x m) α H (fun d α' _ H' => ∀ v, Rep K α' H' d v -> Q v H') -> r vx H Q
section
variable {X : Cx} {cl : Str -> Addr} {ex : XD} {a b c e : Expr} {es rest : List Expr} {fa fb : EV} {ta tb : TV} {fr : AV} {pos : Pos}
theorem zac (i : Nat) {x : Str} (hN : autoParam (X.N[i]? = some x) AutoP.a3._auto_1) (hv : Vis X.env.scope x := by first | exact Or.inl rfl | exact Or.inr (Or.inl rfl) | exact Or.inr (Or.inr rfl)) (hd : autoParam ((x == ("__debug__" : Str)) = false) AutoP.a1._auto_1) (hcd : autoParam ((x == ("__classdict__" : Str)) = false) AutoP.a1._auto_1) : QE X cl ex (.Name x pos) (zag i) :=
 ⟨PE.weak (pe_var hN hv hd hcd) fun σ H Q hh => ex3 hh fun α ρ m W hr h => by
  unfold zag at h
  split at h
  ·rename_i d e
   obtain ⟨v, e1, r⟩ := hr.at' i d e
   exact ⟨v, e1, PQ.ok W h v r⟩
  ·exact h.elim⟩
theorem qe_c {d : D} {v : V} (h : PE X e (tC v)) (r : ∀ α H, Rep X.K α H d v) : QE X cl ex e (eC d) :=
 ⟨PE.weak h fun σ H Q hh => ex3 hh fun α ρ m W hr h => PQ.ok W h v (r α H)⟩
theorem zad {i : Int} {j} : QE X cl ex (.Constant (.int i) j pos) (eC (.int i)) := qe_c pe_int fun α H => by rw [Rep]
theorem qe_bl {i : Bool} {j} : QE X cl ex (.Constant (.bool i) j pos) (eC (.bl i)) := qe_c pe_bl fun α H => by rw [Rep]
theorem qe_non {j} : QE X cl ex (.Constant .none j pos) (eC .non) := qe_c pe_non fun α H => by rw [Rep]
theorem zam {i : Str} {j} : QE X cl ex (.Constant (.str i) j pos) (eC (.str i)) := qe_c pe_str fun α H => by rw [Rep]
theorem tOp_of {r : R2} {g : D -> D -> Sto -> Res D} (hd : OpD X.K cl ex r g) : ∀ σ H Q, tD X.K cl ex (eOp g fa fb) σ H Q -> tOp r (tD X.K cl ex fa) (tD X.K cl ex fb) σ H Q := fun σ H Q hh => ex3 hh fun α ρ m W hr h =>
 tD.use W hr h fun α1 m1 H1 d v E1 W1 hr1 rv h1 => tD.use W1 hr1 h1 fun α2 m2 H2 d2 v2 E2 W2 hr2 rv2 h2 => hd α2 m2 H2 d d2 v v2 Q W2 (rv.mono W1 E2) rv2 h2
theorem qe_op {op : Operator} {r : R2} {g : D -> D -> Sto -> Res D} (ho : OpR X (binaryOp op) r) (hd : OpD X.K cl ex r g) (ha : QE X cl ex a fa) (hb : QE X cl ex b fb) : QE X cl ex (.BinOp a op b pos) (eOp g fa fb) :=
 ⟨PE.weak (pe_op ho ha.out hb.out) (tOp_of hd)⟩
theorem qe_un {op : UnaryOp} {r : V -> Hp -> VK -> Prop} {g : D -> Sto -> Res D} (ho : UnR X (unaryOp op) r) (hd : UnD X.K cl ex r g) (ha : QE X cl ex a fa) : QE X cl ex (.UnaryOp op a pos) (eUn g fa) :=
 ⟨PE.weak (pe_un ho ha.out) fun σ H Q hh => ex3 hh fun α ρ m W hr h => tD.use W hr h fun α1 m1 H1 d v E1 W1 hr1 rv h1 => hd α1 m1 H1 d v Q W1 rv h1⟩
theorem qe_ix {r : R2} {g : D -> D -> Sto -> Res D} (ho : IxR X r) (hd : OpD X.K cl ex r g) (ha : QE X cl ex a fa) (hb : QE X cl ex b fb) (hs : PlainIx b) : QE X cl ex (.Subscript a b pos) (eOp g fa fb) :=
 ⟨PE.weak (pe_ix ho ha.out hb.out hs) (tOp_of hd)⟩
theorem qe_cmp {op : CmpOp} {r : R2} {g : D -> D -> Sto -> Res D} (ho : OpR X (compareOp op) r) (hd : OpD X.K cl ex r g) (ha : QE X cl ex a fa) (hb : QE X cl ex b fb) (hm : behindInMarks op b = false) : QE X cl ex (.Compare a [op] [b] pos) (eOp g fa fb) :=
 ⟨PE.weak (pe_cmpR ho ha.out hb.out hm) (tOp_of hd)⟩
theorem tTest_of {t : TE} (h : ∀ σ H Q, tD X.K cl ex fa σ H Q -> t σ H Q) : ∀ σ H Q, tDT X.K cl ex (tV fa) σ H Q -> tTest t σ H Q := fun σ H Q hh => ex3 hh fun α ρ m W hr q =>
 h σ H _ (tD.use W hr q fun α1 m1 H1 d v E1 W1 hr1 rv h1 => by
  cases d with
  | bl b => rw [Rep] at rv; exact ⟨b, rv, PQ.ok W1 h1⟩
  | _ => exact h1.elim)
theorem qt_cmp {op : CmpOp} {r : R2} {g : D -> D -> Sto -> Res D} (ho : OpR X (compareOp op) r) (hd : OpD X.K cl ex r g) (ha : QE X cl ex a fa) (hb : QE X cl ex b fb) (hm : behindInMarks op b = false) : QT X cl ex (.Compare a [op] [b] pos) (tV (eOp g fa fb)) :=
 ⟨PT.weak (pt_cmpR ho ha.out hb.out hm) (tTest_of (tOp_of hd))⟩
theorem qt_val (hq : QE X cl ex e fa) (he : autoParam (∀ whole, isTrue e X.env whole = (do let v <- whole; standAt e.pos; holding [v] (truthy v))) AutoP.a2._auto_1) : QT X cl ex e (tV fa) :=
 ⟨PT.weak (pt_val hq.out he) (tTest_of fun _ _ _ h => h)⟩
def eChain (g g' : D -> D -> Sto -> Res D) (fa fb fc : EV) : EV := fun ρ m => (fa ρ m).bind fun x m1 => (fb ρ m1).bind fun y m2 => (g x y m2).bind fun z m3 => (asB z m3).bind fun k m3 => if k = true then (fc ρ m3).bind fun w m4 => g' y w m4 else .ok (.bl false) m3
theorem OpD.go {K : PySem.W.Frag} {r : R2} {g : D -> D -> Sto -> Res D} (hd : OpD K cl ex r g) {α : List Addr} {m : Sto} {H : Hp} {x y : D} {vx vy : V} {τ : Type} {k : D -> Sto -> Res τ} {R : RD τ} {Q : VK} (W : Wd K cl α m H) (rx : Rep K α H x vx) (ry : Rep K α H y vy)
  (h : PQ K cl ex ((g x y m).bind k) α H R) (hQ : ∀ α1 m1 H1 d v, Ext α H α1 H1 -> Wd K cl α1 m1 H1 -> Rep K α1 H1 d v -> PQ K cl ex (k d m1) α1 H1 R -> Q v H1) : r vx vy H Q :=
 hd α m H x y vx vy Q W rx ry (PQ.mono (Ext.refl W) h.bind fun d α1 m1 H1 E1 W1 q v rv => hQ α1 m1 H1 d v E1 W1 rv q)
theorem tChain_of {r r' : R2} {g g' : D -> D -> Sto -> Res D} {fc : EV} (hd : OpD X.K cl ex r g) (hd' : OpD X.K cl ex r' g') : ∀ σ H Q, tD X.K cl ex (eChain g g' fa fb fc) σ H Q -> tChain r r' (tD X.K cl ex fa) (tD X.K cl ex fb) (tD X.K cl ex fc) σ H Q := fun σ H Q hh => ex3 hh fun α ρ m W hr h =>
 tD.use W hr h fun α1 m1 H1 d v E1 W1 hr1 rv h1 => tD.use W1 hr1 h1 fun α2 m2 H2 d2 v2 E2 W2 hr2 rv2 h2 => hd.go W2 (rv.mono W1 E2) rv2 h2 fun α3 m3 H3 d3 v3 E3 W3 rv3 h3 => by
  cases d3 with
  | bl k =>
   rw [Rep] at rv3
   refine ⟨k, rv3, ?_⟩
   cases k with
   | true => exact tD.use W3 (hr2.mono W2 E3) h3 fun α4 m4 H4 d4 v4 E4 W4 hr4 rv4 h4 => hd' α4 m4 H4 d2 d4 v2 v4 Q W4 ((rv2.mono W2 E3).mono W3 E4) rv4 h4
   | false => exact PQ.ok W3 h3 _ (by rw [Rep])
  | _ => exact h3.elim
theorem qe_chain {op op' : CmpOp} {r r' : R2} {g g' : D -> D -> Sto -> Res D} {fc : EV} (ho : OpR X (compareOp op) r) (hd : OpD X.K cl ex r g) (ho' : OpR X (compareOp op') r') (hd' : OpD X.K cl ex r' g') (ha : QE X cl ex a fa) (hb : QE X cl ex b fb) (hc : QE X cl ex c fc)
  (hm : autoParam (lastMarks [op, op'] [b, c] = false) AutoP.a4._auto_1) : QE X cl ex (.Compare a [op, op'] [b, c] pos) (eChain g g' fa fb fc) :=
 ⟨PE.weak (pe_chain ho ho' ha.out hb.out hc.out hm) (tChain_of hd hd')⟩
theorem qt_chain {op op' : CmpOp} {r r' : R2} {g g' : D -> D -> Sto -> Res D} {fc : EV} (ho : OpR X (compareOp op) r) (hd : OpD X.K cl ex r g) (ho' : OpR X (compareOp op') r') (hd' : OpD X.K cl ex r' g') (ha : QE X cl ex a fa) (hb : QE X cl ex b fb) (hc : QE X cl ex c fc)
  (hm : autoParam (lastMarks [op, op'] [b, c] = false) AutoP.a4._auto_1) : QT X cl ex (.Compare a [op, op'] [b, c] pos) (tV (eChain g g' fa fb fc)) :=
 ⟨PT.weak (pt_chain ho ho' ha.out hb.out hc.out hm) (tTest_of (tChain_of hd hd'))⟩
theorem qw_and1 (ha : QT X cl ex a ta) : QW X cl ex (.BoolOp .And [a] pos) ta := ⟨pw_and1 ha.out⟩
theorem qw_or1 (ha : QT X cl ex a ta) : QW X cl ex (.BoolOp .Or [a] pos) ta := ⟨pw_or1 ha.out⟩
theorem qw_and (ha : QT X cl ex a ta) (hb : QW X cl ex (.BoolOp .And (b :: rest) pos) tb) : QW X cl ex (.BoolOp .And (a :: b :: rest) pos) (tAndM ta tb) :=
 ⟨PW.weak (pw_and ha.out hb.out) fun σ H Q hh => ex3 hh fun α ρ m W hr h => tDT.use W hr h fun α1 m1 H1 d E1 W1 hr1 h1 => by
  cases d with
  | true => exact ⟨α1, ρ, m1, W1, hr1, h1⟩
  | false => exact PQ.ok W1 h1⟩
theorem qw_or (ha : QT X cl ex a ta) (hb : QW X cl ex (.BoolOp .Or (b :: rest) pos) tb) : QW X cl ex (.BoolOp .Or (a :: b :: rest) pos) (tOrM ta tb) :=
 ⟨PW.weak (pw_or ha.out hb.out) fun σ H Q hh => ex3 hh fun α ρ m W hr h => tDT.use W hr h fun α1 m1 H1 d E1 W1 hr1 h1 => by
  cases d with
  | false => exact ⟨α1, ρ, m1, W1, hr1, h1⟩
  | true => exact PQ.ok W1 h1⟩
theorem qt_bool (hq : QW X cl ex a ta) : QT X cl ex a ta := ⟨PW.pt hq.out⟩
theorem qt_not (ha : QT X cl ex a ta) : QT X cl ex (.UnaryOp .Not a pos) (tNotM ta) :=
 ⟨PT.weak (pt_not ha.out) fun σ H Q hh => ex3 hh fun α ρ m W hr h => tDT.use W hr h fun α1 m1 H1 d E1 W1 hr1 h1 => PQ.ok W1 h1⟩
theorem qe_one {op} (ha : QE X cl ex a fa) : QE X cl ex (.BoolOp op [a] pos) fa := ⟨pe_one ha.out⟩
theorem asB.use {d : D} {v : V} {τ : Type} {k : Bool -> Sto -> Res τ} {R : RD τ} {α : List Addr} {m : Sto} {H : Hp} (W : Wd X.K cl α m H) (rv : Rep X.K α H d v) (h : PQ X.K cl ex ((asB d m).bind k) α H R) : ∃ b, v = .bl b /\ PQ X.K cl ex (k b m) α H R := by
 cases d with
 | bl b => rw [Rep] at rv; exact ⟨b, rv, h⟩
 | _ => exact h.elim
theorem qe_and (ha : QE X cl ex a fa) (hb : QE X cl ex (.BoolOp .And (b :: rest) pos) fb) : QE X cl ex (.BoolOp .And (a :: b :: rest) pos) (eAnd fa fb) :=
 ⟨PE.weak (pe_and ha.out hb.out) fun σ H Q hh => ex3 hh fun α ρ m W hr h => tD.use W hr h fun α1 m1 H1 d v E1 W1 hr1 rv h1 => by
  obtain ⟨c, e, h2⟩ := asB.use W1 rv h1
  refine ⟨c, e, ?_⟩
  cases c with
  | true => exact ⟨α1, ρ, m1, W1, hr1, h2⟩
  | false => exact PQ.ok W1 h2 _ (by rw [Rep])⟩
theorem qe_not (ha : QE X cl ex a fa) : QE X cl ex (.UnaryOp .Not a pos) (eNot fa) :=
 ⟨PE.weak (pe_not ha.out) fun σ H Q hh => ex3 hh fun α ρ m W hr h => tD.use W hr h fun α1 m1 H1 d v E1 W1 hr1 rv h1 => by
  obtain ⟨c, e, h2⟩ := asB.use W1 rv h1
  exact ⟨c, e, PQ.ok W1 h2 _ (by rw [Rep])⟩⟩
theorem zae : QA X cl ex [] zaj := ⟨PA.weak pa_nil fun σ H Q hh => ex3 hh fun α ρ m W hr h => PQ.ok W h _ (by rw [RepL])⟩
theorem zaa (ha : QE X cl ex e fa) (hrq : QA X cl ex es fr) (hs : autoParam (starEach (e :: es) X.env = (false, eval e X.env) :: starEach es X.env) AutoP.a3._auto_1) : QA X cl ex (e :: es) (zab fa fr) :=
 ⟨PA.weak (pa_cons ha.out hrq.out hs) fun σ H Q hh => ex3 hh fun α ρ m W hr h => tD.use W hr h fun α1 m1 H1 d v E1 W1 hr1 rv h1 => tDA.use W1 hr1 h1 fun α2 m2 H2 d2 v2 E2 W2 hr2 rv2 h2 => PQ.ok W2 h2 _ (by rw [RepL]; exact ⟨v, v2, rfl, rv.mono W1 E2, rv2⟩)⟩
theorem RepL.length {K : PySem.W.Frag} {α : List Addr} {H : Hp} : ∀ {ds : List D} {vs : List V}, RepL K α H ds vs -> ds.length = vs.length
 | [], _, h => by rw [RepL] at h; rw [h]; rfl
 | _ :: _, _, h => by
  rw [RepL] at h
  obtain ⟨v, r, rfl, _, h2⟩ := h
  rw [List.length_cons, List.length_cons, RepL.length h2]
def gTup : List D -> Sto -> Res D := fun ds m => if ds.length <= sizeLine then .ok (.tup ds) m else .bad
def gLst : List D -> Sto -> Res D := fun ds m => if ds.length <= sizeLine then .ok (.lst ds) m else .bad
def gNewL : List D -> Sto -> Res D := fun ds m => if ds.length <= sizeLine then .ok (.ob m.length) (m ++ [.lst ds]) else .bad
theorem PQ.if {K : PySem.W.Frag} {τ : Type} {c : Prop} [Decidable c] {r : Res τ} {α : List Addr} {H : Hp} {R : RD τ} (h : PQ K cl ex (if c then r else .bad) α H R) : c /\ PQ K cl ex r α H R := by
 by_cases hc : c
 ·rw [if_pos hc] at h; exact ⟨hc, h⟩
 ·rw [if_neg hc] at h; exact h.elim
theorem Same.new {H : Hp} {p : Addr} {o : HO} (hp : H p = none) : Same H (upd H p o) := fun b u e => by rw [upd_ne (ne_of_none e hp)]; exact e
theorem qe_tup {x1} (hq : QA X cl ex es fr) : QE X cl ex (.Tuple es x1 pos) (eFn gTup fr) :=
 ⟨PE.weak (pe_tup hq.out) fun σ H Q hh => ex3 hh fun α ρ m W hr h => tDA.use W hr h fun α1 m1 H1 d v E1 W1 hr1 rv h1 => by
  obtain ⟨hl, h2⟩ := h1.if
  refine ⟨by rw [<- rv.length]; exact hl, fun p hp => ?_⟩
  have s := Same.new (o := .tup v) hp
  exact PQ.okS W1 s h2 _ (by rw [Rep]; exact ⟨p, v, rfl, .inl upd_same, rv.mono W1 (Ext.of_same W1 s)⟩)⟩
theorem Wd.nin {K : PySem.W.Frag} {α : List Addr} {m : Sto} {H : Hp} (W : Wd K cl α m H) {p : Addr} (hp : H p = none) : p ∉ α := fun z => W.has z hp
theorem rep_lst {K : PySem.W.Frag} {α : List Addr} {m : Sto} {H : Hp} {p : Addr} {ds : List D} {vs : List V} (W : Wd K cl α m H) (hp : H p = none) (r : RepL K α H ds vs) : Rep K α (upd H p (.lst vs)) (.lst ds) (.ref p) := by
 rw [Rep]
 exact ⟨p, vs, rfl, W.nin hp, .inl upd_same, r.mono W (Ext.of_same W (Same.new hp))⟩
theorem qe_lst (hq : QA X cl ex es fr) : QE X cl ex (.List es pos) (eFn gLst fr) :=
 ⟨PE.weak (pe_lst hq.out) fun σ H Q hh => ex3 hh fun α ρ m W hr h => tDA.use W hr h fun α1 m1 H1 d v E1 W1 hr1 rv h1 => by
  obtain ⟨hl, h2⟩ := h1.if
  exact ⟨by rw [<- rv.length]; exact hl, fun p hp => PQ.okS W1 (Same.new hp) h2 _ (rep_lst W1 hp rv)⟩⟩
theorem new_lst {K : PySem.W.Frag} {α : List Addr} {m : Sto} {H : Hp} {p : Addr} {ds : List D} {vs : List V} {R : RD D} (W : Wd K cl α m H) (hp : H p = none) (r : RepL K α H ds vs) (h : PQ K cl ex (.ok (.ob m.length) (m ++ [.lst ds])) α H R) : ∃ α' m', R (.ob m.length) α' m' (upd H p (.lst vs)) /\ Rep K α' (upd H p (.lst vs)) (.ob m.length) (.ref p) := by
 have E0 : Ext α H (α ++ [p]) (upd H p (.lst vs)) := ⟨⟨[p], rfl, fun b hb => by rw [List.mem_singleton.mp hb]; exact hp⟩, fun a o h _ => Same.new hp a o h, (Ext.of_same W (Same.new hp)).there, fun a o u h => Same.new hp a _ h⟩
 obtain ⟨W2, E2⟩ := W.new (u := .lst vs) (o := .lst ds) hp ⟨vs, upd_same, r.mono W E0⟩
 refine ⟨_, _, h _ _ E2 W2, ?_⟩
 rw [Rep]
 refine ⟨p, ?_, rfl⟩
 rw [<- W.len, List.getElem?_append_right (Nat.le_refl _)]
 simp
theorem qe_newl (hq : QA X cl ex es fr) : QE X cl ex (.List es pos) (eFn gNewL fr) :=
 ⟨PE.weak (pe_lst hq.out) fun σ H Q hh => ex3 hh fun α ρ m W hr h => tDA.use W hr h fun α1 m1 H1 d v E1 W1 hr1 rv h1 => by
  obtain ⟨hl, h2⟩ := h1.if
  refine ⟨by rw [<- rv.length]; exact hl, fun p hp => ?_⟩
  obtain ⟨_, _, q, r⟩ := new_lst W1 hp rv h2
  exact q _ r⟩
theorem tCB_of {r : List V -> Hp -> VK -> Prop} {g : List D -> Sto -> Res D} (hd : FnD X.K cl ex r g) : ∀ σ H Q, tD X.K cl ex (eFn g fr) σ H Q -> tCB r (tDA X.K cl ex fr) σ H Q := fun σ H Q hh => ex3 hh fun α ρ m W hr h =>
 tDA.use W hr h fun α1 m1 H1 d v E1 W1 hr1 rv h1 => hd α1 m1 H1 d v Q W1 rv h1
theorem qe_callB {x : Str} {id : String} {p : Pos} {r : List V -> Hp -> VK -> Prop} {g : List D -> Sto -> Res D} (hc : CallR X (.builtin id) r) (hd : FnD X.K cl ex r g) (hg : Gl X x) (hm : X.mg x = none) (hv : bootBuiltins x = some (.builtin id)) (ha : QA X cl ex (e :: es) fr) (hn : autoParam (x ≠ "__name__") AutoP.a1._auto_1) (hdb : autoParam ((x == ("__debug__" : Str)) = false) AutoP.a1._auto_1)
  (he : autoParam (starEach (e :: es) X.env = (false, eval e X.env) :: starEach es X.env) AutoP.a3._auto_1) (hpl : autoParam ((backTo pos (starEach es X.env)).any (·.1) = false) AutoP.a3._auto_1) : QE X cl ex (.Call (.Name x p) (e :: es) [] pos) (eFn g fr) :=
 ⟨PE.weak (pe_callB hc hg hm hv ha.out hn hdb he hpl) (tCB_of hd)⟩
theorem qe_callTy {x : Str} {T : String} {p : Pos} {r : List V -> Hp -> VK -> Prop} {g : List D -> Sto -> Res D} (hc : CallR X (.type T) r) (hd : FnD X.K cl ex r g) (hg : Gl X x) (hm : X.mg x = none) (hv : bootBuiltins x = some (.type T)) (ha : QA X cl ex (e :: es) fr) (hn : autoParam (x ≠ "__name__") AutoP.a1._auto_1) (hdb : autoParam ((x == ("__debug__" : Str)) = false) AutoP.a1._auto_1)
  (he : autoParam (starEach (e :: es) X.env = (false, eval e X.env) :: starEach es X.env) AutoP.a3._auto_1) (hpl : autoParam ((backTo pos (starEach es X.env)).any (·.1) = false) AutoP.a3._auto_1) : QE X cl ex (.Call (.Name x p) (e :: es) [] pos) (eFn g fr) :=
 ⟨PE.weak (pe_callTy hc hg hm hv ha.out hn hdb he hpl) (tCB_of hd)⟩
end
inductive Fl where
 | nx (ρ : En) | rt (d : D) | bk (ρ : En) | ct (ρ : En)
abbrev SV := En -> Sto -> Res Fl
def EndsOk (K : PySem.W.Frag) (D : Ends) (fl : Fl) (α : List Addr) (H : Hp) : Prop := match fl with
 | .nx ρ => ∀ σ, RepE K α H ρ σ -> D.nx σ H
 | .rt d => ∀ v, Rep K α H d v -> D.rt v H
 | .bk ρ => ∀ σ, RepE K α H ρ σ -> D.bk σ H
 | .ct ρ => ∀ σ, RepE K α H ρ σ -> D.ct σ H
def tDS (K : PySem.W.Frag) (cl : Str -> Addr) (ex : XD) (f : SV) : TS := fun D σ H => ∃ α ρ m, Wd K cl α m H /\ RepE K α H ρ σ /\ PQ K cl ex (f ρ m) α H fun fl α' _ H' => EndsOk K D fl α' H'
abbrev GV := D -> En -> Sto -> Res En
def tDG (K : PySem.W.Frag) (cl : Str -> Addr) (ex : XD) (f : GV) : TG := fun v σ H Q => ∃ α ρ m d, Wd K cl α m H /\ RepE K α H ρ σ /\ Rep K α H d v /\ PQ K cl ex (f d ρ m) α H fun ρ' α' _ H' => ∀ σ', RepE K α' H' ρ' σ' -> Q σ' H'
def tDGs (K : PySem.W.Frag) (cl : Str -> Addr) (ex : XD) (f : List D -> En -> Sto -> Res En) : TGs := fun v σ H Q => ∃ α ρ m d, Wd K cl α m H /\ RepE K α H ρ σ /\ RepL K α H d v /\ PQ K cl ex (f d ρ m) α H fun ρ' α' _ H' => ∀ σ', RepE K α' H' ρ' σ' -> Q σ' H'
def ItD (K : PySem.W.Frag) (cl : Str -> Addr) (α : List Addr) (H : Hp) (J : It) (ds : List D) : Prop :=
 ∀ (i : Nat) (α1 : List Addr) (m1 : Sto) (H1 : Hp), Ext α H α1 H1 -> Wd K cl α1 m1 H1 -> (∀ d, ds[i]? = some d -> J.go i H1 /\ ∀ x H2, J.yld i H1 x H2 -> Same H1 H2 /\ Rep K α1 H2 d x) /\ (i = ds.length -> J.stop i H1)
def tDI (K : PySem.W.Frag) (cl : Str -> Addr) (ex : XD) (f : AV) : TI := fun σ H R => ∃ α ρ m, Wd K cl α m H /\ RepE K α H ρ σ /\ PQ K cl ex (f ρ m) α H fun ds α' _ H' => ∀ J, ItD K cl α' H' J ds -> R J H'
section
variable (X : Cx) (cl : Str -> Addr) (ex : XD)
structure QS (st : Stmt) (f : SV) : Prop where
 out : PS X st (tDS X.K cl ex f)
structure QSs (st : List Stmt) (f : SV) : Prop where
 out : PSs X st (tDS X.K cl ex f)
structure QG (tg : Expr) (f : GV) : Prop where
 out : PG X tg (tDG X.K cl ex f)
structure QGs (tg : List Expr) (f : List D -> En -> Sto -> Res En) : Prop where
 out : PGs X tg (tDGs X.K cl ex f)
structure QI (tg it : Expr) (f : AV) : Prop where
 out : PI X tg it (tDI X.K cl ex f)
end
theorem PG.weak {X : Cx} {e : Expr} {t t' : TG} (h : PG X e t) (w : ∀ v σ H Q, t' v σ H Q -> t v σ H Q) : PG X e t' := fun pins s σ H v u Q I r q => h pins s σ H v u Q I r (w v σ H Q q)
theorem PGs.weak {X : Cx} {e : List Expr} {t t' : TGs} (h : PGs X e t) (w : ∀ v σ H Q, t' v σ H Q -> t v σ H Q) : PGs X e t' := fun pins s σ H v u Q I r q => h pins s σ H v u Q I r (w v σ H Q q)
theorem PI.weak {X : Cx} {tg e : Expr} {t t' : TI} (h : PI X tg e t) (w : ∀ σ H Q, t' σ H Q -> t σ H Q) : PI X tg e t' := fun pins s σ H Q I q => h pins s σ H Q I (w σ H Q q)
def sSeq (f g : SV) : SV := fun ρ m => (f ρ m).bind fun fl m1 => match fl with
 | .nx ρ1 => g ρ1 m1
 | fl => .ok fl m1
def sNil : SV := fun ρ m => .ok (.nx ρ) m
def sBad : SV := fun _ _ => .bad
def sRet (f : EV) : SV := fun ρ m => (f ρ m).bind fun d m1 => .ok (.rt d) m1
def sRetN : SV := fun _ m => .ok (.rt .non) m
def sDrop (f : EV) : SV := fun ρ m => (f ρ m).bind fun _ m1 => .ok (.nx ρ) m1
def sIf (c : TV) (f g : SV) : SV := fun ρ m => (c ρ m).bind fun b m1 => if b = true then f ρ m1 else g ρ m1
def sAsg (f : EV) (g : GV) : SV := fun ρ m => (f ρ m).bind fun d m1 => (g d ρ m1).bind fun ρ1 m2 => .ok (.nx ρ1) m2
def gN (i : Nat) : GV := fun d ρ m => .ok (ρ.set i (some d)) m
def gsNil : List D -> En -> Sto -> Res En := fun ds ρ m => match ds with
 | [] => .ok ρ m
 | _ :: _ => .bad
def gsCons (g : GV) (gs : List D -> En -> Sto -> Res En) : List D -> En -> Sto -> Res En := fun ds ρ m => match ds with
 | [] => .bad
 | d :: r => (g d ρ m).bind fun ρ1 m1 => gs r ρ1 m1
def gT (n : Nat) (gs : List D -> En -> Sto -> Res En) : GV := fun d ρ m => match d with
 | .tup ds => if ds.length = n then gs ds ρ m else .bad
 | _ => .bad
def sPar (i j : Nat) (fa : AV) : SV := fun ρ m => (fa ρ m).bind fun ds m1 => match ds with
 | [x, y] => .ok (.nx ((ρ.set i (some x)).set j (some y))) m1
 | _ => .bad
def sPar3 (i j k : Nat) (fa : AV) : SV := fun ρ m => (fa ρ m).bind fun ds m1 => match ds with
 | [x, y, z] => .ok (.nx (((ρ.set i (some x)).set j (some y)).set k (some z))) m1
 | _ => .bad
def loopF (g : GV) (body : SV) : List D -> En -> Sto -> Res Fl
 | [], ρ, m => .ok (.nx ρ) m
 | d :: r, ρ, m => (g d ρ m).bind fun ρ1 m1 => (body ρ1 m1).bind fun fl m2 => match fl with
  | .nx ρ2 => loopF g body r ρ2 m2
  | .ct ρ2 => loopF g body r ρ2 m2
  | .bk ρ2 => .ok (.nx ρ2) m2
  | .rt d => .ok (.rt d) m2
def sFor (it : AV) (g : GV) (body : SV) : SV := fun ρ m => (it ρ m).bind fun ds m1 => loopF g body ds ρ m1
def loopW (c : TV) (body : SV) : Nat -> En -> Sto -> Res Fl
 | 0, _, _ => .bad
 | n + 1, ρ, m => (c ρ m).bind fun b m1 => if b = true then (body ρ m1).bind fun fl m2 => match fl with
  | .nx ρ2 => loopW c body n ρ2 m2
  | .ct ρ2 => loopW c body n ρ2 m2
  | .bk ρ2 => .ok (.nx ρ2) m2
  | .rt d => .ok (.rt d) m2 else .ok (.nx ρ) m1
def sWhile (n : Nat) (c : TV) (body : SV) : SV := fun ρ m => loopW c body n ρ m
def compM (g : GV) (c : TV) (el : EV) (ρ : En) : List D -> Sto -> Res (List D)
 | [], m => .ok [] m
 | d :: r, m => (g d ρ m).bind fun ρ1 m1 => (c ρ1 m1).bind fun b m2 => if b = true then (el ρ1 m2).bind fun x m3 => (compM g c el ρ r m3).bind fun xs m4 => .ok (x :: xs) m4 else compM g c el ρ r m2
def aComp (n : Nat) (it : AV) (g : GV) (c : TV) (el : EV) : AV := fun ρ m => (it ρ m).bind fun ds m1 => if ds.length <= 1000000 then compM g c el (ρ ++ List.replicate n none) ds m1 else .bad
def tYesM : TV := fun _ m => .ok true m
section
variable {X : Cx} {cl : Str -> Addr} {ex : XD} {a b c e tg it : Expr} {es : List Expr} {fa fb : EV} {ta tb : TV} {fr : AV} {pos : Pos} {st : Stmt} {sts sts' : List Stmt} {f g : SV} {gt : GV}
theorem qss_nil : QSs X cl ex [] sNil := ⟨PSs.weak pss_nil fun D σ H hh => ex3 hh fun α ρ m W hr h => PQ.ok W h σ hr⟩
theorem zah (hq : QS X cl ex st f) : QSs X cl ex [st] f := ⟨pss_one hq.out⟩
theorem zaf (h1 : QS X cl ex st f) (h2 : QSs X cl ex sts g) : QSs X cl ex (st :: sts) (sSeq f g) :=
 ⟨PSs.weak (pss_cons h1.out h2.out) fun D σ H hh => ex3 hh fun α ρ m W hr h => ⟨α, ρ, m, W, hr, PQ.mono (Ext.refl W) h.bind fun fl α1 m1 H1 E1 W1 q => by
  cases fl with
  | nx ρ1 => exact fun σ1 hr1 => ⟨α1, ρ1, m1, W1, hr1, q⟩
  | rt d => exact PQ.ok W1 q
  | bk ρ1 => exact PQ.ok W1 q
  | ct ρ1 => exact PQ.ok W1 q⟩⟩
theorem qs_never : QS X cl ex st sBad := ⟨PS.weak ps_never fun D σ H hh => ex3 hh fun α ρ m W hr h => h.elim⟩
theorem zan (he : QE X cl ex e fa) : QS X cl ex (.Return (some e) pos) (sRet fa) :=
 ⟨PS.weak (ps_ret he.out) fun D σ H hh => ex3 hh fun α ρ m W hr h => tD.use W hr h fun α1 m1 H1 d v E1 W1 hr1 rv h1 => PQ.ok W1 h1 v rv⟩
theorem qs_drop (he : QE X cl ex e fa) (hs : autoParam (swapsWith e none pos.line X.env = pure false) AutoP.a3._auto_1) : QS X cl ex (.Expr e pos) (sDrop fa) :=
 ⟨PS.weak (ps_expr he.out hs) fun D σ H hh => ex3 hh fun α ρ m W hr h => tD.use W hr h fun α1 m1 H1 d v E1 W1 hr1 rv h1 => PQ.ok W1 h1 _ hr1⟩
theorem qs_if (hc : QT X cl ex c ta) (ha : QSs X cl ex sts f) (hb : QSs X cl ex sts' g) : QS X cl ex (.If c sts sts' pos) (sIf ta f g) :=
 ⟨PS.weak (ps_if hc.out ha.out hb.out) fun D σ H hh => ex3 hh fun α ρ m W hr h => tDT.use W hr h fun α1 m1 H1 d E1 W1 hr1 h1 => by
  cases d with
  | true => exact ⟨α1, ρ, m1, W1, hr1, h1⟩
  | false => exact ⟨α1, ρ, m1, W1, hr1, h1⟩⟩
theorem zal {i : Nat} {x : Str} (hN : X.N.Nodup) (hi : X.N[i]? = some x) (hx : Loc X.env.scope x) (hf : autoParam (X.fn x = true ∨ X.env.scope.names.lookup x = some .local) AutoP.a0._auto_1) : QG X cl ex (.Name x pos) (gN i) :=
 ⟨PG.weak (pg_name hN hi hx hf) fun v σ H Q ⟨α, ρ, m, d, W, hr, rv, h⟩ => PQ.ok W h _ (hr.set rv)⟩
theorem qgs_nil : QGs X cl ex [] gsNil := ⟨PGs.weak pgs_nil fun v σ H Q ⟨α, ρ, m, d, W, hr, rv, h⟩ => by
 cases d with
 | nil => rw [RepL] at rv; exact ⟨rv, PQ.ok W h _ hr⟩
 | cons d r => exact h.elim⟩
theorem qgs_cons {gs : List D -> En -> Sto -> Res En} (h1 : QG X cl ex e gt) (h2 : QGs X cl ex es gs) (hs : autoParam ((assignEach (e :: es) X.env).map (·.2) = assign e X.env :: (assignEach es X.env).map (·.2)) AutoP.a3._auto_1) : QGs X cl ex (e :: es) (gsCons gt gs) :=
 ⟨PGs.weak (pgs_cons h1.out h2.out hs) fun v σ H Q ⟨α, ρ, m, d, W, hr, rv, h⟩ => by
  cases d with
  | nil => exact h.elim
  | cons d r =>
   rw [RepL] at rv
   obtain ⟨v0, vr, rfl, r0, rr⟩ := rv
   refine ⟨v0, vr, rfl, α, ρ, m, d, W, hr, r0, PQ.mono (Ext.refl W) (show PQ X.K cl ex ((gt d ρ m).bind fun ρ1 m1 => gs r ρ1 m1) α H _ from h).bind fun ρ1 α1 m1 H1 E1 W1 q σ1 hr1 => ?_⟩
   exact ⟨α1, ρ1, m1, r, W1, hr1, rr.mono W E1, q⟩⟩
theorem qg_tup {k n : Nat} {gs : List D -> En -> Sto -> Res En} (hc : X.calm = true) (hq : QGs X cl ex es gs) (hn : autoParam ((assignEach es X.env).length = n) AutoP.a3._auto_1) (hst : autoParam ((assignEach es X.env).findIdx? (·.1) = none) AutoP.a3._auto_1) : QG X cl ex (.Tuple es k pos) (gT n gs) :=
 ⟨PG.weak (pg_tup hc hq.out hn hst) fun v σ H Q ⟨α, ρ, m, d, W, hr, rv, h⟩ => by
  cases d with
  | tup ds =>
   rw [Rep] at rv
   obtain ⟨a, xs, e, h1, h2⟩ := rv
   obtain ⟨hl, h3⟩ := PQ.if h
   exact ⟨a, xs, e, h1.sq, by rw [<- h2.length]; exact hl, α, ρ, m, ds, W, hr, h2, h3⟩
  | _ => exact h.elim⟩
theorem tAsg_of {t : TE} {u : TG} (h1 : ∀ σ H Q, tD X.K cl ex fa σ H Q -> t σ H Q) (h2 : ∀ v σ H Q, tDG X.K cl ex gt v σ H Q -> u v σ H Q) : ∀ D σ H, tDS X.K cl ex (sAsg fa gt) D σ H -> tAsg t u D σ H := fun D σ H hh => ex3 hh fun α ρ m W hr h =>
 h1 σ H _ (tD.use W hr h fun α1 m1 H1 d v E1 W1 hr1 rv q => h2 v σ H1 _ ⟨α1, ρ, m1, d, W1, hr1, rv, PQ.mono (Ext.refl W1) q.bind fun ρ2 α2 m2 H2 E2 W2 q2 => PQ.ok W2 q2⟩)
theorem qs_set {i : Nat} {x : Str} {pos' : Pos} (hN : X.N.Nodup) (hi : X.N[i]? = some x) (hx : Loc X.env.scope x) (he : QE X cl ex e fa) (hs : autoParam (swapsWith e (some (.Name x pos')) pos.line X.env = pure false) AutoP.a3._auto_1) (hf : autoParam (X.fn x = true ∨ X.env.scope.names.lookup x = some .local) AutoP.a0._auto_1) :
  QS X cl ex (.Assign [.Name x pos'] e pos) (sAsg fa (gN i)) :=
 ⟨PS.weak (ps_set hN hi hx he.out hs hf) (tAsg_of (fun _ _ _ h => h) fun v σ H Q ⟨α, ρ, m, d, W, hr, rv, h⟩ => PQ.ok W h _ (hr.set rv))⟩
theorem qs_asg (he : QE X cl ex e fa) (hg : QG X cl ex tg gt) (hs : autoParam (swapsWithSole [tg] e pos.line X.env = pure false) AutoP.a3._auto_1) (hw : autoParam (swappedStores [tg] e X.env = pure none) AutoP.a3._auto_1)
  (h1 : autoParam ((assignEach [tg] X.env).map (·.2) = [assign tg X.env]) AutoP.a3._auto_1) : QS X cl ex (.Assign [tg] e pos) (sAsg fa gt) :=
 ⟨PS.weak (ps_asg he.out hg.out hs hw h1) (tAsg_of (fun _ _ _ h => h) fun _ _ _ _ h => h)⟩
theorem qs_par {i j : Nat} {x y : Str} {px py pt : Pos} {kt k2 pt2} (hc : X.calm = true) (hN : X.N.Nodup) (hi : X.N[i]? = some x) (hj : X.N[j]? = some y) (hij : i ≠ j)
  (hx : X.env.scope.names.lookup x = some .local) (hy : X.env.scope.names.lookup y = some .local) (ha : QA X cl ex [a, b] fr)
  (hw : swappedStores [.Tuple [.Name x px, .Name y py] kt pt] (.Tuple [a, b] k2 pt2) X.env = pure (some [x, y]))
  (hs : autoParam (swapsWithSole [.Tuple [.Name x px, .Name y py] kt pt] (.Tuple [a, b] k2 pt2) pos.line X.env = pure false) AutoP.a3._auto_1) :
  QS X cl ex (.Assign [.Tuple [.Name x px, .Name y py] kt pt] (.Tuple [a, b] k2 pt2) pos) (sPar i j fr) :=
 ⟨PS.weak (ps_par hc hN hi hj hij hx hy ha.out hw hs) fun D σ H hh => ex3 hh fun α ρ m W hr h => tDA.use W hr h fun α1 m1 H1 d v E1 W1 hr1 rv h1 => by
  match d, rv, h1 with
  | [p, q], rv, h1 =>
   rw [RepL] at rv
   obtain ⟨v1, r1, rfl, a1, rv⟩ := rv
   rw [RepL] at rv
   obtain ⟨v2, r2, rfl, a2, rv⟩ := rv
   rw [RepL] at rv
   subst rv
   exact ⟨v1, v2, rfl, PQ.ok W1 h1 _ ((hr1.set a1).set a2)⟩
  | [], _, h1 => exact h1.elim
  | [_], _, h1 => exact h1.elim
  | _ :: _ :: _ :: _, _, h1 => exact h1.elim⟩
theorem qs_for (hp : PassesOwn (model X.prog X.w) X.A X.env X.xe) (hc : X.calm = true) (hi : QI X cl ex tg it fr) (hg : QG X cl ex tg gt) (hb : QSs X cl ex sts f)
  (hs : autoParam (∀ x, foldedSetIterable it X.env x = pure x) AutoP.a2._auto_1) : QS X cl ex (.For tg it sts [] pos) (sFor fr gt f) :=
 ⟨PS.weak (ps_for hp hc hi.out hg.out hb.out hs) fun D σ H hh => ex3 hh fun α ρ m W hr h => ⟨α, ρ, m, W, hr, PQ.mono (Ext.refl W) h.bind fun ds α1 m1 H1 E1 W1 q J hJ => by
  refine ⟨fun i n σ2 H2 => n = ds.length - i /\ i <= ds.length /\ ∃ α2 m2 ρ2, Ext α1 H1 α2 H2 /\ Wd X.K cl α2 m2 H2 /\ RepE X.K α2 H2 ρ2 σ2 /\ PQ X.K cl ex (loopF gt f (ds.drop i) ρ2 m2) α2 H2 fun fl α' _ H' => EndsOk X.K D fl α' H',
   ⟨ds.length, by simp, Nat.zero_le _, α1, m1, ρ, Ext.refl W1, W1, hr.mono W E1, q⟩, ?_⟩
  rintro i n σ2 H2 ⟨rfl, hi, α2, m2, ρ2, E2, W2, hr2, q2⟩
  obtain ⟨go, stop⟩ := hJ i α2 m2 H2 E2 W2
  by_cases hlt : i < ds.length
  ·have hd : ds[i]? = some ds[i] := by simp [hlt]
   obtain ⟨g1, g2⟩ := go _ hd
   rw [List.drop_eq_getElem_cons hlt, loopF] at q2
   refine .inr ⟨g1, fun σ3 H3 => ∃ α3 m3 ρ3, Ext α1 H1 α3 H3 /\ Wd X.K cl α3 m3 H3 /\ RepE X.K α3 H3 ρ3 σ3 /\ PQ X.K cl ex (loopF gt f (ds.drop (i + 1)) ρ3 m3) α3 H3 fun fl α' _ H' => EndsOk X.K D fl α' H',
    fun σ3 H3 ⟨α3, m3, ρ3, E3, W3, hr3, q3⟩ => ⟨ds.length - (i + 1), by omega, rfl, hlt, α3, m3, ρ3, E3, W3, hr3, q3⟩, fun x H3 y => ?_⟩
   obtain ⟨sm, rx⟩ := g2 x H3 y
   have Es := Ext.of_same W2 sm
   have W3 := W2.same sm
   refine ⟨α2, ρ2, m2, ds[i], W3, hr2.mono W2 Es, rx, PQ.mono Es q2.bind fun ρ4 α4 m4 H4 E4 W4 q4 σ4 hr4 => ?_⟩
   have E04 := E2.trans (Es.trans E4)
   refine ⟨α4, ρ4, m4, W4, hr4, PQ.mono (Ext.refl W4) q4.bind fun fl α5 m5 H5 E5 W5 q5 => ?_⟩
   cases fl with
   | nx ρ5 => exact fun σ5 hr5 => ⟨α5, m5, ρ5, E04.trans E5, W5, hr5, q5⟩
   | ct ρ5 => exact fun σ5 hr5 => ⟨α5, m5, ρ5, E04.trans E5, W5, hr5, q5⟩
   | bk ρ5 => exact PQ.ok W5 q5
   | rt d => exact PQ.ok W5 q5
  ·have e : i = ds.length := by omega
   subst e
   rw [List.drop_of_length_le (Nat.le_refl _), loopF] at q2
   exact .inl ⟨stop rfl, PQ.ok W2 q2 σ2 hr2⟩⟩⟩
theorem qs_while {n : Nat} (hp : PassesOwn (model X.prog X.w) X.A X.env X.xe) (hc : QT X cl ex c ta) (hb : QSs X cl ex sts f) : QS X cl ex (.While c sts [] pos) (sWhile n ta f) :=
 ⟨PS.weak (ps_while hp hc.out hb.out) fun D σ H hh => ex3 hh fun α ρ m W hr h => by
  refine ⟨fun k σ2 H2 => ∃ α2 m2 ρ2, Wd X.K cl α2 m2 H2 /\ RepE X.K α2 H2 ρ2 σ2 /\ PQ X.K cl ex (loopW ta f k ρ2 m2) α2 H2 fun fl α' _ H' => EndsOk X.K D fl α' H', ⟨n, α, m, ρ, W, hr, h⟩, ?_⟩
  rintro k σ2 H2 ⟨α2, m2, ρ2, W2, hr2, q2⟩
  cases k with
  | zero => exact q2.elim
  | succ k =>
   rw [loopW] at q2
   refine tDT.use W2 hr2 q2 fun α3 m3 H3 b E3 W3 hr3 q3 => ?_
   cases b with
   | false => exact PQ.ok W3 q3 σ2 hr3
   | true =>
    refine ⟨fun σ4 H4 => ∃ α4 m4 ρ4, Wd X.K cl α4 m4 H4 /\ RepE X.K α4 H4 ρ4 σ4 /\ PQ X.K cl ex (loopW ta f k ρ4 m4) α4 H4 fun fl α' _ H' => EndsOk X.K D fl α' H', fun σ4 H4 q4 => ⟨k, Nat.lt_succ_self _, q4⟩, ?_⟩
    refine ⟨α3, ρ2, m3, W3, hr3, PQ.mono (Ext.refl W3) q3.bind fun fl α5 m5 H5 E5 W5 q5 => ?_⟩
    cases fl with
    | nx ρ5 => exact fun σ5 hr5 => ⟨α5, m5, ρ5, W5, hr5, q5⟩
    | ct ρ5 => exact fun σ5 hr5 => ⟨α5, m5, ρ5, W5, hr5, q5⟩
    | bk ρ5 => exact PQ.ok W5 q5
    | rt d => exact PQ.ok W5 q5⟩
end
end MD
namespace L2
open PySem PySem.Spec PyProof.Rows
abbrev CQ := PySem.W.Frag -> Hp -> Addr -> List V -> Prop
structure SeqKd (c : CQ) (IsS : Heap -> Addr -> Array Value -> Prop) (IsI : Heap -> Addr -> Addr -> Nat -> Prop) : Prop where
 obj : ∀ h it l i, IsI h it l i -> ∃ o, h.get? it = some o /\ ∀ v, o.data ≠ .cell v
 kp : ∀ (h h' : Heap) it l i, IsI h it l i -> (∀ o, h.get? it = some o -> h'.get? it = some o) -> IsI h' it l i
 seq : ∀ (X : Cx) (pins : List (Addr × Obj)) (σ : St) (H : Hp) (s : Shared) (l : Addr) (xs : List V), Inv X pins σ H s -> c X.K H l xs -> ∃ its : List Value, Vals xs its /\ IsS s.heap l its.toArray
 dr : ∀ (P : Program) (w : World) (A : Around), A.handled = none -> ∀ (it l : Addr), l ≠ it -> ∀ items : Array Value, Draws P w A it [it, l] items.size (fun i v => items[i]? = some v) (fun i h => IsI h it l i /\ IsS h l items)
 ne : ∀ (X : Cx) (pins : List (Addr × Obj)) (σ : St) (H : Hp) (s : Shared) (l : Addr) (xs : List V) (b : Addr), Inv X pins σ H s -> c X.K H l xs -> FpOk X pins H b -> l ≠ b
 inj : ∀ (X : Cx) (pins : List (Addr × Obj)) (σ : St) (H : Hp) (s : Shared) (l : Addr) (xs ys : List V), Inv X pins σ H s -> c X.K H l xs -> c X.K H l ys -> xs = ys
theorem base_ne {X : Cx} {pins : List (Addr × Obj)} {σ : St} {H : Hp} {s : Shared} {l b : Addr} {o : Obj} (I : Inv X pins σ H s) (e : X.K.lookup l = some o) (f : FpOk X pins H b) : l ≠ b := fun z => by
 subst z
 have hb : X.base.get? l = some o := I.mod.kin l o e
 rcases f.2.2.2.1 with h | h
 ·exact I.ok.noex l o hb h
 ·have h1 := Heap.lt_size hb
  have h2 := I.ok.bsz
  exact absurd (Nat.lt_of_lt_of_le h1 (Nat.le_trans h2 h)) (Nat.lt_irrefl _)
theorem rd_ne {H : Hp} {l b : Addr} {u : HO} (h : Rd H l u) (n : H b = none) : l ≠ b := by
 rcases h with h | ⟨o, h⟩
 ·exact ne_of_none h n
 ·exact ne_of_none h n
theorem sq_lst : SeqKd SqL Heap.IsList Heap.IsListIter where
 obj := seq_lst.obj
 kp := seq_lst.kp
 seq := fun X pins σ H s l xs I e => by
  obtain ⟨its, r, p, _⟩ := I.list e
  exact ⟨its, r, p.isList⟩
 dr := seq_lst.dr
 ne := fun X pins σ H s l xs b I e f => by
  rcases e with e | ⟨o, _, _, e, _⟩
  ·exact rd_ne e f.1
  ·exact base_ne I e f
 inj := fun X pins σ H s l xs ys I => I.list_inj
theorem sq_tup : SeqKd SqT Heap.IsTuple Heap.IsTupleIter where
 obj := seq_tup.obj
 kp := seq_tup.kp
 seq := fun X pins σ H s l xs I e => by
  obtain ⟨its, r, p, _⟩ := I.tuple e
  exact ⟨its, r, p⟩
 dr := seq_tup.dr
 ne := fun X pins σ H s l xs b I e f => by
  rcases e with e | ⟨o, _, _, e, _⟩
  ·exact rd_ne e f.1
  ·exact base_ne I e f
 inj := fun X pins σ H s l xs ys I => I.tuple_inj
def IteQ (c : CQ) (K : PySem.W.Frag) (l : Addr) : It :=
 ⟨fun i H => ∃ xs x, c K H l xs /\ xs[i]? = some x, fun i H x H' => ∃ T y, H T = none /\ x = .ref T /\ (∀ xs, c K H l xs -> xs[i]? = some y) /\ H' = upd H T (.tup [.int (i : Int), y]), fun i H => ∃ xs, c K H l xs /\ xs.length = i⟩
theorem turn_enumQ {c : CQ} {IsS : Heap -> Addr -> Array Value -> Prop} {IsI : Heap -> Addr -> Addr -> Nat -> Prop} (S : SeqKd c IsS IsI) {P : Program} {w : World} {K : PySem.W.Frag} {elts : List Expr} {kt : Nat} {pt : Pos} {e it l : Addr} (hei : e ≠ it) :
  Turn P w K (.Tuple elts kt pt) (IteQ c K l) [e, it] e (fun i h => (∃ old, IsEnum h e it i old) /\ IsI h it l i) where
 mem := by simp
 obj := fun i h st b hb => by
  obtain ⟨⟨old, he⟩, st⟩ := st
  have q : b = e ∨ b = it := by simpa using hb
  rcases q with rfl | rfl
  ·exact ⟨_, he, fun v z => by cases z⟩
  ·exact S.obj _ _ _ _ st
 keep := fun i h h' st k => ⟨let ⟨old, he⟩ := st.1; ⟨old, k e (by simp) _ he⟩, S.kp _ _ _ _ _ st.2 fun o q => k it (by simp) o q⟩
 item := by
  intro X hP' hw hK hc i pins s σ H E I hf st hg
  subst hP' hw hK
  obtain ⟨xs, y, hl, hy⟩ := hg
  obtain ⟨its, rv, p⟩ := S.seq X pins σ H s l xs I hl
  obtain ⟨u, hu, ru⟩ := rv.get hy
  have fe := hf e (by simp)
  have fi := hf it (by simp)
  have hle : l ≠ e := S.ne X pins σ H s l xs e I hl fe
  have hli : l ≠ it := S.ne X pins σ H s l xs it I hl fi
  have hlt : i < its.toArray.size := by
   have := List.getElem?_eq_some_iff.mp hu
   simpa using this.1
  obtain ⟨⟨old, he⟩, hs⟩ := st
  have het : e < s.heap.objs.size := Heap.lt_size he
  have hit : it < s.heap.objs.size := by obtain ⟨o, q, _⟩ := S.obj _ _ _ _ hs; exact Heap.lt_size q
  refine wpAny_pyNext_enum_itemD (S.dr X.prog X.w X.A.in1 (I.ok.hd hc) it l hli its.toArray) he ⟨hs, p⟩ hlt hei (by simp [hei, Ne.symm hle]) fun x h' tk hx ho' hs' hT hsz hk => ?_
  refine ⟨.ref s.heap.objs.size, rfl, wpAny_letOwnedTupleGo_enum (s := { s with heap := h', toks := tk + 1 }) ho' fun h2 he2 hs2 => ?_⟩
  have hxu : x = u := by
   have h1 : its[i]? = some x := by simpa using hx
   rw [hu] at h1
   exact (Option.some.inj h1).symm
  subst hxu
  have hT2 : h2.get? s.heap.objs.size = some { cls := .type "tuple", data := .seq #[.int i tk, x] } := (hs2.2 _ (Nat.ne_of_gt het)).trans hT
  have new : ObjOk X.prog X.w (upd H s.heap.objs.size (.tup [.int (i : Int), y])) h2 s.heap.objs.size (.tup [.int (i : Int), y]) := ⟨(by show 2 <= sizeLine; decide), [.int i tk, x], .cons ⟨tk, rfl⟩ (.cons ru .nil), ⟨_, hT2, rfl, _, rfl⟩, _, hT2, rfl⟩
  refine ⟨.ref s.heap.objs.size, _, I.turn2l fe fi (fun c o c1 c2 q => (hs2.2 c c1).trans (hk c o c1 c2 q)) (Nat.le_refl _) new, rfl, ⟨s.heap.objs.size, y, I.hok.fresh (Nat.le_refl _), rfl, fun us h => by rw [S.inj X pins σ H s l us xs I h hl]; exact hy, rfl⟩, ⟨⟨x, by simpa using he2⟩, S.kp _ _ _ _ _ hs'.1 fun o q => (hs2.2 it (Ne.symm hei)).trans q⟩, fun b hb => ?_⟩
  have q : b = e ∨ b = it := by simpa using hb
  rcases q with rfl | rfl
  ·rw [upd_ne (Nat.ne_of_lt het)]; exact fe.1
  ·rw [upd_ne (Nat.ne_of_lt hit)]; exact fi.1
 done := by
  intro X hP' hw hK hc i pins s σ H E I hf st hg
  subst hP' hw hK
  obtain ⟨xs, hl, hn⟩ := hg
  obtain ⟨its, rv, p⟩ := S.seq X pins σ H s l xs I hl
  have fe := hf e (by simp)
  have fi := hf it (by simp)
  have hle : l ≠ e := S.ne X pins σ H s l xs e I hl fe
  have hli : l ≠ it := S.ne X pins σ H s l xs it I hl fi
  have hi : i = its.toArray.size := by rw [<- hn, rv.length]; simp
  subst hi
  have W := WalksT.enumerateD (S.dr X.prog X.w X.A.in1 (I.ok.hd hc) it l hli its.toArray) e hei (by simp [hei, Ne.symm hle]) (by simp)
  exact W.done s _ _ ⟨st.1, st.2, p⟩ fun h' tk kk => ⟨rfl, I.turn2 fe fi fun c o c1 c2 q => kk c o (by simp [c1, c2]) q⟩
 self := fun A i s Q E st q => by
  obtain ⟨⟨old, he⟩, _⟩ := st
  exact wpAny_pyIter_enum he q
def iEnumQ (c : CQ) (K : PySem.W.Frag) (te : TE) : TI := fun σ H R => te σ H fun x H1 => ∃ l xs, [x] = [V.ref l] /\ c K H1 l xs /\ R (IteQ c K l) H1
section
variable {X : Cx} {elts : List Expr} {kt : Nat} {pt : Pos} {e : Expr} {te : TE} {p pos : Pos}
theorem enum_pieQ {c : CQ} {IsS : Heap -> Addr -> Array Value -> Prop} {IsI : Heap -> Addr -> Addr -> Nat -> Prop} (S : SeqKd c IsS IsI) {pins : List (Addr × Obj)} {σ : St} {H : Hp} {s : Shared} {R : It -> Hp -> Prop} {l : Addr} {h' : Heap} (I : Inv X pins σ H s)
  (he : IsEnum h' (s.heap.objs.size + 1) s.heap.objs.size 0 .none) (hi : IsI h' s.heap.objs.size l 0) (k : ∀ b o, s.heap.get? b = some o -> h'.get? b = some o) (q : R (IteQ c X.K l) H) :
  PIE X pins σ (.Tuple elts kt pt) R (.ref (s.heap.objs.size + 1)) { s with heap := h' } := by
 refine ⟨s.heap.objs.size + 1, [s.heap.objs.size + 1, s.heap.objs.size], _, _, H, rfl, I.kept (t' := s.toks) k, turn_enumQ S (Nat.ne_of_gt (Nat.lt_succ_self _)), ⟨⟨.none, he⟩, hi⟩, fun b hb => ?_, q⟩
 have e : b = s.heap.objs.size + 1 ∨ b = s.heap.objs.size := by simpa using hb
 rcases e with rfl | rfl
 ·exact I.fpOk (Nat.le_succ _) (I.hok.fresh (Nat.le_succ _))
 ·exact I.fpOk (Nat.le_refl _) (I.hok.fresh (Nat.le_refl _))
theorem pi_enumQL (hg : Gl X "enumerate") (hm : X.mg "enumerate" = none) (he : PE X e te) (hs : autoParam (starEach [e] X.env = [(false, eval e X.env)]) AutoP.a3._auto_1) : PI X (.Tuple elts kt pt) (.Call (.Name "enumerate" p) [e] [] pos) (iEnumQ SqL X.K te) := by
 intro pins s σ H R I h
 refine Call_ (ld_blt I hg hm boot_enumerate (PyProof.Rows.callWith_type1 (thn (pa_cons he pa_nil hs pos pins s σ H (fun zs H1 => ∃ l xs, zs = [V.ref l] /\ SqL X.K H1 l xs /\ R (IteQ SqL X.K l) H1) I h) fun us s1 ⟨vs, H1, I1, r1, q1⟩ => ?_) hs rfl))
 obtain ⟨l, xs, rfl, hl, q⟩ := q1
 obtain ⟨u, rfl, ru⟩ := vals1 r1
 cases ru
 obtain ⟨its, rv, pl⟩ := sq_lst.seq X pins σ H1 s1 l xs I1 hl
 exact call_enumerate_list pl fun h' hen hit _ k => wpAny_pyIter_enum hen (enum_pieQ sq_lst I1 hen hit k q)
theorem pi_enumQT (hg : Gl X "enumerate") (hm : X.mg "enumerate" = none) (he : PE X e te) (hs : autoParam (starEach [e] X.env = [(false, eval e X.env)]) AutoP.a3._auto_1) : PI X (.Tuple elts kt pt) (.Call (.Name "enumerate" p) [e] [] pos) (iEnumQ SqT X.K te) := by
 intro pins s σ H R I h
 refine Call_ (ld_blt I hg hm boot_enumerate (PyProof.Rows.callWith_type1 (thn (pa_cons he pa_nil hs pos pins s σ H (fun zs H1 => ∃ l xs, zs = [V.ref l] /\ SqT X.K H1 l xs /\ R (IteQ SqT X.K l) H1) I h) fun us s1 ⟨vs, H1, I1, r1, q1⟩ => ?_) hs rfl))
 obtain ⟨l, xs, rfl, hl, q⟩ := q1
 obtain ⟨u, rfl, ru⟩ := vals1 r1
 cases ru
 obtain ⟨its, rv, pl⟩ := sq_tup.seq X pins σ H1 s1 l xs I1 hl
 exact call_enumerate_tup pl fun h' hen hit k => wpAny_pyIter_enum hen (enum_pieQ sq_tup I1 hen hit k q)
end
def IteZQ (c1 c2 : CQ) (K : PySem.W.Frag) (l1 l2 : Addr) : It :=
 ⟨fun i H => ∃ xs ys x y, c1 K H l1 xs /\ c2 K H l2 ys /\ xs[i]? = some x /\ ys[i]? = some y, fun i H v H' => ∃ T x y, H T = none /\ v = .ref T /\ (∀ xs, c1 K H l1 xs -> xs[i]? = some x) /\ (∀ ys, c2 K H l2 ys -> ys[i]? = some y) /\ H' = upd H T (.tup [x, y]), fun i H => ∃ xs, c1 K H l1 xs /\ xs.length = i⟩
theorem turn_zipQ {c1 c2 : CQ} {IsS1 IsS2 : Heap -> Addr -> Array Value -> Prop} {IsI1 IsI2 : Heap -> Addr -> Addr -> Nat -> Prop} (S1 : SeqKd c1 IsS1 IsI1) (S2 : SeqKd c2 IsS2 IsI2) {P : Program} {w : World} {K : PySem.W.Frag} {elts : List Expr} {kt : Nat} {pt : Pos} {z TI TO i1 i2 l1 l2 : Addr} (nTO : TO ≠ z) (nTI : TI ≠ z) (n1z : i1 ≠ z) (n2z : i2 ≠ z) (nTT : TI ≠ TO) (n1I : TI ≠ i1) (n2I : TI ≠ i2) (n1T : i1 ≠ TO) (n2T : i2 ≠ TO) (n12 : i1 ≠ i2) :
  Turn P w K (.Tuple elts kt pt) (IteZQ c1 c2 K l1 l2) [z, TI, TO, i1, i2] z (fun i h => IsZip h z TI TO .none /\ IsPair h TI (.ref i1) (.ref i2) /\ (∃ a b, IsPair h TO a b) /\ IsI1 h i1 l1 i /\ IsI2 h i2 l2 i) where
 mem := by simp
 obj := fun i h st b hb => by
  obtain ⟨h1, h2, ⟨a, c, h3⟩, h4, h5⟩ := st
  simp only [List.mem_cons, List.not_mem_nil, or_false] at hb
  rcases hb with rfl | rfl | rfl | rfl | rfl
  ·exact ⟨_, h1, fun v z => by cases z⟩
  ·exact ⟨_, h2, fun v z => by cases z⟩
  ·exact ⟨_, h3, fun v z => by cases z⟩
  ·exact S1.obj _ _ _ _ h4
  ·exact S2.obj _ _ _ _ h5
 keep := fun i h h' st k => by
  obtain ⟨h1, h2, ⟨a, c, h3⟩, h4, h5⟩ := st
  exact ⟨k _ (by simp) _ h1, k _ (by simp) _ h2, ⟨a, c, k _ (by simp) _ h3⟩, S1.kp _ _ _ _ _ h4 fun o q => k _ (by simp) o q, S2.kp _ _ _ _ _ h5 fun o q => k _ (by simp) o q⟩
 item := by
  intro X hP' hw hK hc i pins s σ H E I hf st hg
  subst hP' hw hK
  obtain ⟨xs, ys, x, y, hl1, hl2, hx, hy⟩ := hg
  obtain ⟨its1, rv1, p1⟩ := S1.seq X pins σ H s l1 xs I hl1
  obtain ⟨its2, rv2, p2⟩ := S2.seq X pins σ H s l2 ys I hl2
  obtain ⟨u1, hu1, ru1⟩ := rv1.get hx
  obtain ⟨u2, hu2, ru2⟩ := rv2.get hy
  have fz := hf z (by simp)
  have fT := hf TO (by simp)
  have f1 := hf i1 (by simp)
  have f2 := hf i2 (by simp)
  have hlt1 : i < its1.toArray.size := by
   have := List.getElem?_eq_some_iff.mp hu1
   simpa using this.1
  have hlt2 : i < its2.toArray.size := by
   have := List.getElem?_eq_some_iff.mp hu2
   simpa using this.1
  obtain ⟨h1, h2, ⟨a, c, h3⟩, h4, h5⟩ := st
  have a1 := S1.ne X pins σ H s l1 xs z I hl1 fz
  have a2 := S1.ne X pins σ H s l1 xs TO I hl1 fT
  have a3 := S1.ne X pins σ H s l1 xs i1 I hl1 f1
  have a4 := S1.ne X pins σ H s l1 xs i2 I hl1 f2
  have b1 := S2.ne X pins σ H s l2 ys z I hl2 fz
  have b2 := S2.ne X pins σ H s l2 ys TO I hl2 fT
  have b3 := S2.ne X pins σ H s l2 ys i1 I hl2 f1
  have b4 := S2.ne X pins σ H s l2 ys i2 I hl2 f2
  refine wpAny_pyNext_zip_itemD (S1.dr X.prog X.w X.A.in1 (I.ok.hd hc) i1 l1 a3 its1.toArray) (S2.dr X.prog X.w X.A.in1 (I.ok.hd hc) i2 l2 b4 its2.toArray) h1 h2 h3 ⟨h4, p1⟩ ⟨h5, p2⟩ hlt1 hlt2 nTO nTI n1z n2z n1T n2T
   (by simp [Ne.symm n1z, Ne.symm a1]) (by simp [Ne.symm n1T, Ne.symm a2]) (by simp [Ne.symm n12, Ne.symm a4]) (by simp [Ne.symm n2z, Ne.symm b1]) (by simp [Ne.symm n2T, Ne.symm b2]) (by simp [n12, Ne.symm b3]) fun v1 v2 h' tk e1 e2 q1 q2 q3 q4 q5 q6 q7 => ?_
  refine ⟨.ref s.heap.objs.size, rfl, wpAny_letOwnedTupleGo_zip (s := { s with heap := h', toks := tk }) q1 fun g r1 r2 => ?_⟩
  have hv1 : v1 = u1 := by
   have h1 : its1[i]? = some v1 := by simpa using e1
   rw [hu1] at h1
   exact (Option.some.inj h1).symm
  have hv2 : v2 = u2 := by
   have h1 : its2[i]? = some v2 := by simpa using e2
   rw [hu2] at h1
   exact (Option.some.inj h1).symm
  subst hv1 hv2
  have hzt : z < s.heap.objs.size := Heap.lt_size h1
  have hT2 : g.get? s.heap.objs.size = some { cls := .type "tuple", data := .seq #[v1, v2] } := (r2.2 _ (Nat.ne_of_gt hzt)).trans q5
  have new : ObjOk X.prog X.w (upd H s.heap.objs.size (.tup [x, y])) g s.heap.objs.size (.tup [x, y]) := ⟨(by show 2 <= sizeLine; decide), [v1, v2], .cons ru1 (.cons ru2 .nil), ⟨_, hT2, rfl, _, rfl⟩, _, hT2, rfl⟩
  refine ⟨.ref s.heap.objs.size, _, I.turnNl (ch := [z, TO, i1, i2]) (fun b hb => hf b ?_) (fun c o hc q => (r2.2 c ?_).trans (q7 c o ?_ ?_ ?_ ?_ q)) (Nat.le_refl _) new, rfl, ⟨s.heap.objs.size, x, y, I.hok.fresh (Nat.le_refl _), rfl, (fun us h => by rw [S1.inj X pins σ H s l1 us xs I h hl1]; exact hx), (fun us h => by rw [S2.inj X pins σ H s l2 us ys I h hl2]; exact hy), rfl⟩, ⟨r1, (r2.2 _ nTI).trans (q7 _ _ nTI nTT n1I n2I h2), ⟨_, _, (r2.2 _ nTO).trans q2⟩, S1.kp _ _ _ _ _ q3.1 fun o q => (r2.2 _ n1z).trans q, S2.kp _ _ _ _ _ q4.1 fun o q => (r2.2 _ n2z).trans q⟩, fun b hb => ?_⟩
  ·simp only [List.mem_cons, List.not_mem_nil, or_false] at hb ⊢
   rcases hb with h | h | h | h <;> simp [h]
  ·exact fun z => hc (by simp [z])
  ·exact fun z => hc (by simp [z])
  ·exact fun z => hc (by simp [z])
  ·exact fun z => hc (by simp [z])
  ·exact fun z => hc (by simp [z])
  ·have fb := hf b hb
   have lt : b < s.heap.objs.size := by
    simp only [List.mem_cons, List.not_mem_nil, or_false] at hb
    rcases hb with rfl | rfl | rfl | rfl | rfl
    ·exact hzt
    ·exact Heap.lt_size h2
    ·exact Heap.lt_size h3
    ·obtain ⟨o, q, _⟩ := S1.obj _ _ _ _ h4; exact Heap.lt_size q
    ·obtain ⟨o, q, _⟩ := S2.obj _ _ _ _ h5; exact Heap.lt_size q
   rw [upd_ne (Nat.ne_of_lt lt)]
   exact fb.1
 done := by
  intro X hP' hw hK hc i pins s σ H E I hf st hg
  subst hP' hw hK
  obtain ⟨xs, hl1, hn⟩ := hg
  obtain ⟨its1, rv1, p1⟩ := S1.seq X pins σ H s l1 xs I hl1
  have fz := hf z (by simp)
  have f1 := hf i1 (by simp)
  obtain ⟨h1, h2, ⟨a, c, h3⟩, h4, h5⟩ := st
  have a1 := S1.ne X pins σ H s l1 xs z I hl1 fz
  have a3 := S1.ne X pins σ H s l1 xs i1 I hl1 f1
  have hi : i = its1.toArray.size := by rw [<- hn, rv1.length]; simp
  subst hi
  refine wpAny_pyNext_zip_endD (S1.dr X.prog X.w X.A.in1 (I.ok.hd hc) i1 l1 a3 its1.toArray) h1 h2 h3 ⟨h4, p1⟩ nTO n1z (by simp [Ne.symm n1z, Ne.symm a1]) fun h' k => ⟨rfl, I.turnN (t' := s.toks) (ch := [z, TO, i1, i2]) (fun b hb => hf b ?_) fun c o hc q => k c o (fun z => hc (by simp [z])) (fun z => hc (by simp [z])) (fun z => hc (by simp [z])) (fun z => hc (by simp [z])) q⟩
  simp only [List.mem_cons, List.not_mem_nil, or_false] at hb ⊢
  rcases hb with h | h | h | h <;> simp [h]
 self := fun A i s Q E st q => wpAny_pyIter_zip st.1 q
def iZipQ (c1 c2 : CQ) (K : PySem.W.Frag) (te1 te2 : TE) : TI := fun σ H R => te1 σ H fun x H1 => te2 σ H1 fun y H2 => ∃ l1 l2 xs ys, [x, y] = [V.ref l1, V.ref l2] /\ c1 K H2 l1 xs /\ c2 K H2 l2 ys /\ R (IteZQ c1 c2 K l1 l2) H2
section
variable {X : Cx} {elts : List Expr} {kt : Nat} {pt : Pos} {e1 e2 : Expr} {te1 te2 : TE} {p pos : Pos}
theorem zip_pieQ {c1 c2 : CQ} {IsS1 IsS2 : Heap -> Addr -> Array Value -> Prop} {IsI1 IsI2 : Heap -> Addr -> Addr -> Nat -> Prop} (S1 : SeqKd c1 IsS1 IsI1) (S2 : SeqKd c2 IsS2 IsI2) {pins : List (Addr × Obj)} {σ : St} {H1 : Hp} {s1 : Shared} {R : It -> Hp -> Prop} {l1 l2 : Addr} {h' : Heap} (I1 : Inv X pins σ H1 s1)
  (a1 : IsZip h' (s1.heap.objs.size + 4) (s1.heap.objs.size + 2) (s1.heap.objs.size + 3) .none) (a2 : IsPair h' (s1.heap.objs.size + 2) (.ref s1.heap.objs.size) (.ref (s1.heap.objs.size + 1))) (a3 : IsPair h' (s1.heap.objs.size + 3) .none .none)
  (a4 : IsI1 h' s1.heap.objs.size l1 0) (a5 : IsI2 h' (s1.heap.objs.size + 1) l2 0) (k : ∀ b o, s1.heap.get? b = some o -> h'.get? b = some o) (q : R (IteZQ c1 c2 X.K l1 l2) H1) :
  PIE X pins σ (.Tuple elts kt pt) R (.ref (s1.heap.objs.size + 4)) { s1 with heap := h' } := by
 have nn : ∀ i j : Nat, i ≠ j -> s1.heap.objs.size + i ≠ s1.heap.objs.size + j := fun i j h e => h (by exact Nat.add_left_cancel e)
 refine ⟨s1.heap.objs.size + 4, [s1.heap.objs.size + 4, s1.heap.objs.size + 2, s1.heap.objs.size + 3, s1.heap.objs.size, s1.heap.objs.size + 1], _, _, H1, rfl, I1.kept (t' := s1.toks) k, turn_zipQ S1 S2 (nn 3 4 (by decide)) (nn 2 4 (by decide)) (nn 0 4 (by decide)) (nn 1 4 (by decide)) (nn 2 3 (by decide)) (nn 2 0 (by decide)) (nn 2 1 (by decide)) (nn 0 3 (by decide)) (nn 1 3 (by decide)) (nn 0 1 (by decide)), ⟨a1, a2, ⟨_, _, a3⟩, a4, a5⟩, fun b hb => ?_, q⟩
 have le : s1.heap.objs.size <= b := by
  simp only [List.mem_cons, List.not_mem_nil, or_false] at hb
  rcases hb with h | h | h | h | h
  ·rw [h]; exact Nat.le_add_right _ _
  ·rw [h]; exact Nat.le_add_right _ _
  ·rw [h]; exact Nat.le_add_right _ _
  ·rw [h]; exact Nat.le_refl _
  ·rw [h]; exact Nat.le_add_right _ _
 exact I1.fpOk le (I1.hok.fresh le)
theorem pi_zipQTL (hg : Gl X "zip") (hm : X.mg "zip" = none) (he1 : PE X e1 te1) (he2 : PE X e2 te2) (hs : autoParam (starEach [e1, e2] X.env = (false, eval e1 X.env) :: starEach [e2] X.env) AutoP.a3._auto_1) (hs2 : autoParam (starEach [e2] X.env = [(false, eval e2 X.env)]) AutoP.a3._auto_1) : PI X (.Tuple elts kt pt) (.Call (.Name "zip" p) [e1, e2] [] pos) (iZipQ SqT SqL X.K te1 te2) := by
 intro pins s σ H R I h
 refine Call_ (ld_blt I hg hm boot_zip (PyProof.Rows.callWith_type1 (thn (pa_cons he1 (pa_cons he2 pa_nil hs2) hs pos pins s σ H (fun zs H1 => ∃ l1 l2 xs ys, zs = [V.ref l1, V.ref l2] /\ SqT X.K H1 l1 xs /\ SqL X.K H1 l2 ys /\ R (IteZQ SqT SqL X.K l1 l2) H1) I h) fun us s1 ⟨vs, H1, I1, r1, q1⟩ => ?_) hs (by rw [hs2]; rfl)))
 obtain ⟨l1, l2, xs, ys, rfl, hl1, hl2, q⟩ := q1
 obtain ⟨u, v, rfl, ru, rv⟩ := vals2 r1
 cases ru
 cases rv
 obtain ⟨its1, rv1, p1⟩ := sq_tup.seq X pins σ H1 s1 l1 xs I1 hl1
 obtain ⟨its2, rv2, p2⟩ := sq_lst.seq X pins σ H1 s1 l2 ys I1 hl2
 exact call_zip_TL p1 p2 fun h' a1 a2 a3 a4 a5 k => wpAny_pyIter_zip a1 (zip_pieQ sq_tup sq_lst I1 a1 a2 a3 a4 a5 k q)
theorem pi_zipQTT (hg : Gl X "zip") (hm : X.mg "zip" = none) (he1 : PE X e1 te1) (he2 : PE X e2 te2) (hs : autoParam (starEach [e1, e2] X.env = (false, eval e1 X.env) :: starEach [e2] X.env) AutoP.a3._auto_1) (hs2 : autoParam (starEach [e2] X.env = [(false, eval e2 X.env)]) AutoP.a3._auto_1) : PI X (.Tuple elts kt pt) (.Call (.Name "zip" p) [e1, e2] [] pos) (iZipQ SqT SqT X.K te1 te2) := by
 intro pins s σ H R I h
 refine Call_ (ld_blt I hg hm boot_zip (PyProof.Rows.callWith_type1 (thn (pa_cons he1 (pa_cons he2 pa_nil hs2) hs pos pins s σ H (fun zs H1 => ∃ l1 l2 xs ys, zs = [V.ref l1, V.ref l2] /\ SqT X.K H1 l1 xs /\ SqT X.K H1 l2 ys /\ R (IteZQ SqT SqT X.K l1 l2) H1) I h) fun us s1 ⟨vs, H1, I1, r1, q1⟩ => ?_) hs (by rw [hs2]; rfl)))
 obtain ⟨l1, l2, xs, ys, rfl, hl1, hl2, q⟩ := q1
 obtain ⟨u, v, rfl, ru, rv⟩ := vals2 r1
 cases ru
 cases rv
 obtain ⟨its1, rv1, p1⟩ := sq_tup.seq X pins σ H1 s1 l1 xs I1 hl1
 obtain ⟨its2, rv2, p2⟩ := sq_tup.seq X pins σ H1 s1 l2 ys I1 hl2
 exact call_zip_TT p1 p2 fun h' a1 a2 a3 a4 a5 k => wpAny_pyIter_zip a1 (zip_pieQ sq_tup sq_tup I1 a1 a2 a3 a4 a5 k q)
end
end L2
set_option autoImplicit false
namespace MD
open PySem PySem.Spec PyProof.Rows L2
theorem Res.bind_assoc {α β γ : Type} (r : Res α) (k : α -> Sto -> Res β) (l : β -> Sto -> Res γ) : (r.bind k).bind l = r.bind fun a m => (k a m).bind l := by
 cases r <;> rfl
theorem Res.bind_ok' {α : Type} (r : Res α) : (r.bind fun a m => .ok a m) = r := by cases r <;> rfl
theorem RepL.append {K : PySem.W.Frag} {α : List Addr} {H : Hp} : ∀ {ds es : List D} {vs ws : List V}, RepL K α H ds vs -> RepL K α H es ws -> RepL K α H (ds ++ es) (vs ++ ws)
 | [], _, _, _, h1, h2 => by rw [RepL] at h1; subst h1; exact h2
 | _ :: _, _, _, _, h1, h2 => by
  rw [RepL] at h1
  obtain ⟨v, r, rfl, a, b⟩ := h1
  rw [List.cons_append, RepL]
  exact ⟨v, r ++ _, rfl, a, RepL.append b h2⟩
theorem RepL.one {K : PySem.W.Frag} {α : List Addr} {H : Hp} {d : D} {v : V} (h : Rep K α H d v) : RepL K α H [d] [v] := by
 rw [RepL]
 exact ⟨v, [], rfl, h, by rw [RepL]⟩
theorem RepL.get {K : PySem.W.Frag} {α : List Addr} {H : Hp} : ∀ {ds : List D} {vs : List V} {i : Nat} {d : D}, RepL K α H ds vs -> ds[i]? = some d -> ∃ v, vs[i]? = some v /\ Rep K α H d v
 | [], _, _, _, _, e => by simp at e
 | _ :: _, _, 0, _, h, e => by
  rw [RepL] at h
  obtain ⟨v, r, rfl, a, b⟩ := h
  simp at e
  subst e
  exact ⟨v, rfl, a⟩
 | _ :: _, _, i + 1, d, h, e => by
  rw [RepL] at h
  obtain ⟨v, r, rfl, a, b⟩ := h
  obtain ⟨w, h1, h2⟩ := RepL.get (i := i) (d := d) b (by simpa using e)
  exact ⟨w, by simpa using h1, h2⟩
section
variable {K : PySem.W.Frag} {cl : Str -> Addr} {ex : XD} {gt : GV} {ta : TV} {fa : EV} {fr : AV}
theorem tComp_of {n : Nat} {fin : List V -> Hp -> Prop} {σ : L2.St} {H : Hp} (h : ∃ α ρ m, Wd K cl α m H /\ RepE K α H ρ σ /\ PQ K cl ex (aComp n fr gt ta fa ρ m) α H fun ds α' _ H' => ∀ vs, RepL K α' H' ds vs -> fin vs H') :
  tComp n (tDI K cl ex fr) (tDG K cl ex gt) (tDT K cl ex ta) (tD K cl ex fa) fin σ H := by
 obtain ⟨α, ρ, m, W, hr, h⟩ := h
 refine ⟨α, ρ, m, W, hr, PQ.mono (Ext.refl W) h.bind fun ds α1 m1 H1 E1 W1 q J hJ => ?_⟩
 obtain ⟨hk, q⟩ := PQ.if q
 have hr1 := hr.mono W E1
 refine comp_by (k := ds.length) (fun i ys H2 => ∃ α2 m2 done, Ext α1 H1 α2 H2 /\ Wd K cl α2 m2 H2 /\ RepL K α2 H2 done ys /\ done.length <= i /\ PQ K cl ex ((compM gt ta fa (ρ ++ List.replicate n none) (ds.drop i) m2).bind fun xs m4 => .ok (done ++ xs) m4) α2 H2 fun ds α' _ H' => ∀ vs, RepL K α' H' ds vs -> fin vs H') hk ?_ ?_ ?_ ?_
 ·refine ⟨α1, m1, [], Ext.refl W1, W1, by rw [RepL], Nat.le_refl _, ?_⟩
  simp only [List.nil_append, List.drop_zero, Res.bind_ok']
  exact q
 ·rintro i ys H2 ⟨_, _, done, _, _, r, l, _⟩
  rw [<- r.length]
  exact l
 ·rintro i ys H2 hi ⟨α2, m2, done, E2, W2, r2, l2, q2⟩
  have hd : ds[i]? = some ds[i] := by simp [hi]
  obtain ⟨g1, g2⟩ := (hJ i α2 m2 H2 E2 W2).1 _ hd
  refine ⟨g1, fun x H3 y => ?_⟩
  obtain ⟨sm, rx⟩ := g2 x H3 y
  have Es := Ext.of_same W2 sm
  have W3 := W2.same sm
  rw [List.drop_eq_getElem_cons hi, compM, Res.bind_assoc] at q2
  have E23 := E2.trans Es
  refine ⟨α2, ρ ++ List.replicate n none, m2, ds[i], W3, (hr1.mono W1 E23).more n, rx, PQ.mono Es q2.bind fun ρ4 α4 m4 H4 E4 W4 q4 σ4 hr4 => ?_⟩
  rw [Res.bind_assoc] at q4
  refine tDT.use W4 hr4 q4 fun α5 m5 H5 b E5 W5 hr5 q5 => ?_
  have E45 := E4.trans E5
  cases b with
  | false => exact ⟨α5, m5, done, E23.trans E45, W5, (r2.mono W2 Es).mono W3 E45, Nat.le_succ_of_le l2, q5⟩
  | true =>
   have q5' : PQ K cl ex (((fa ρ4 m5).bind fun x m3 => (compM gt ta fa (ρ ++ List.replicate n none) (ds.drop (i + 1)) m3).bind fun xs m4 => .ok (x :: xs) m4).bind fun xs m4 => .ok (done ++ xs) m4) α5 H5 fun ds α' _ H' => ∀ vs, RepL K α' H' ds vs -> fin vs H' := q5
   rw [Res.bind_assoc] at q5'
   refine tD.use W5 hr5 q5' fun α6 m6 H6 d v E6 W6 hr6 rv q6 => ?_
   rw [Res.bind_assoc] at q6
   refine ⟨α6, m6, done ++ [d], E23.trans (E45.trans E6), W6, RepL.append (((r2.mono W2 Es).mono W3 E45).mono W5 E6) (RepL.one rv), by rw [List.length_append]; show done.length + 1 <= i + 1; omega, ?_⟩
   simp only [List.append_assoc, List.singleton_append]
   exact q6
 ·rintro ys H2 ⟨α2, m2, done, E2, W2, r2, l2, q2⟩
  rw [List.drop_of_length_le (Nat.le_refl _), compM] at q2
  refine ⟨(hJ ds.length α2 m2 H2 E2 W2).2 rfl, ?_⟩
  have q3 : PQ K cl ex (.ok (done ++ []) m2) α2 H2 fun ds α' _ H' => ∀ vs, RepL K α' H' ds vs -> fin vs H' := q2
  rw [List.append_nil] at q3
  exact PQ.ok W2 q3 ys r2
end
def gL1 (ds : List D) (m : Sto) : Res D := .ok (.lst ds) m
def signs (z : Str) : List D := (List.range z.cps.size).map fun i => .str ⟨#[z.cps.getD i 0]⟩
def asSeq (d : D) (m : Sto) : Res (List D) := match d with
 | .tup ds => .ok ds m
 | .lst ds => .ok ds m
 | .str z => .ok (signs z) m
 | .scr ds => .ok ds m
 | _ => .bad
def aIt (fa : EV) : AV := fun ρ m => (fa ρ m).bind asSeq
def intsD (lo : Int) (n : Nat) : List D := (List.range n).map fun i => .int (lo + (i : Nat))
def rng1R (ds : List D) (m : Sto) : Res (List D) := match ds with
 | [.int j] => if -(2 ^ 62) <= j /\ j < 2 ^ 62 then .ok (intsD 0 j.toNat) m else .bad
 | _ => .bad
theorem rng1_ex : ∃ f : List D -> Sto -> Res (List D), f = rng1R := ⟨_, rfl⟩
def rng1 : List D -> Sto -> Res (List D) := Classical.choose rng1_ex
theorem rng1_eq : rng1 = rng1R := Classical.choose_spec rng1_ex
def rng2R (ds : List D) (m : Sto) : Res (List D) := match ds with
 | [.int i, .int j] => if -(2 ^ 62) <= i /\ i < 2 ^ 62 /\ -(2 ^ 62) <= j /\ j < 2 ^ 62 then .ok (intsD i (j - i).toNat) m else .bad
 | _ => .bad
theorem rng2_ex : ∃ f : List D -> Sto -> Res (List D), f = rng2R := ⟨_, rfl⟩
def rng2 : List D -> Sto -> Res (List D) := Classical.choose rng2_ex
theorem rng2_eq : rng2 = rng2R := Classical.choose_spec rng2_ex
def aRng (g : List D -> Sto -> Res (List D)) (fr : AV) : AV := fun ρ m => (fr ρ m).bind g
def enumD (i : Nat) : List D -> List D
 | [] => []
 | d :: r => .tup [.int i, d] :: enumD (i + 1) r
def asSq2 (d : D) (m : Sto) : Res (List D) := match d with
 | .tup ds => .ok ds m
 | .lst ds => .ok ds m
 | _ => .bad
def aEnum (fa : EV) : AV := fun ρ m => (fa ρ m).bind fun d m1 => (asSq2 d m1).bind fun ds m2 => .ok (enumD 0 ds) m2
def zipD : List D -> List D -> List D
 | x :: xs, y :: ys => .tup [x, y] :: zipD xs ys
 | _, _ => []
def zipD3 : List D -> List D -> List D -> List D
 | x :: xs, y :: ys, z :: zs => .tup [x, y, z] :: zipD3 xs ys zs
 | _, _, _ => []
def zip2 (x y : D) (m : Sto) : Res (List D) := match x, y with
 | .tup xs, .tup ys => if xs.length <= ys.length then .ok (zipD xs ys) m else .bad
 | .tup xs, .lst ys => if xs.length <= ys.length then .ok (zipD xs ys) m else .bad
 | _, _ => .bad
def aZip (fa fb : EV) : AV := fun ρ m => (fa ρ m).bind fun x m1 => (fb ρ m1).bind fun y m2 => zip2 x y m2
def zip3 (x y z : D) (m : Sto) : Res (List D) := match x, y, z with
 | .tup xs, .tup ys, .tup zs => if xs.length <= ys.length /\ xs.length <= zs.length then .ok (zipD3 xs ys zs) m else .bad
 | _, _, _ => .bad
def aZip3 (fa fb fc : EV) : AV := fun ρ m => (fa ρ m).bind fun x m1 => (fb ρ m1).bind fun y m2 => (fc ρ m2).bind fun z m3 => zip3 x y z m3
theorem enumD_get : ∀ (ds : List D) (k i : Nat) (d : D), (enumD k ds)[i]? = some d -> ∃ e, ds[i]? = some e /\ d = .tup [.int ((k + i : Nat) : Int), e]
 | [], k, i, d, h => by simp [enumD] at h
 | e :: r, k, 0, d, h => by
  simp [enumD] at h
  exact ⟨e, rfl, h.symm⟩
 | e :: r, k, i + 1, d, h => by
  obtain ⟨f, h1, h2⟩ := enumD_get r (k + 1) i d (by simpa [enumD] using h)
  refine ⟨f, by simpa using h1, ?_⟩
  rw [h2, show k + 1 + i = k + (i + 1) by omega]
theorem enumD_len : ∀ (ds : List D) (k : Nat), (enumD k ds).length = ds.length
 | [], _ => rfl
 | _ :: r, k => by rw [enumD, List.length_cons, List.length_cons, enumD_len r]
theorem zipD_get : ∀ (xs ys : List D) (i : Nat) (d : D), (zipD xs ys)[i]? = some d -> ∃ a b, xs[i]? = some a /\ ys[i]? = some b /\ d = .tup [a, b]
 | [], _, i, d, h => by simp [zipD] at h
 | _ :: _, [], i, d, h => by simp [zipD] at h
 | a :: r, b :: s, 0, d, h => by
  simp [zipD] at h
  exact ⟨a, b, rfl, rfl, h.symm⟩
 | a :: r, b :: s, i + 1, d, h => by
  obtain ⟨x, y, h1, h2, h3⟩ := zipD_get r s i d (by simpa [zipD] using h)
  exact ⟨x, y, by simpa using h1, by simpa using h2, h3⟩
theorem zipD_len : ∀ (xs ys : List D), xs.length <= ys.length -> (zipD xs ys).length = xs.length
 | [], _, _ => by simp [zipD]
 | _ :: _, [], h => by simp at h
 | _ :: r, _ :: s, h => by rw [zipD, List.length_cons, List.length_cons, zipD_len r s (by simpa using h)]
section
variable {X : Cx} {N0 : List Str} {cl : Str -> Addr} {ex : XD} {a b c e tg it : Expr} {es ifs : List Expr} {fa fb fc : EV} {ta tb : TV} {fr : AV} {pos p : Pos} {gt : GV} {scope : Scope} {xs : List Str} {clo : List (Str × Addr)}
theorem qe_comp (hc : X.calm = true) (hx : X.xe = fun _ _ => False) (S : CompOk X N0 scope xs clo) (hi : QI X cl ex tg it fr)
  (hg : ∀ C s H fp, QG (X.comp N0 scope xs clo C s H fp) cl ex tg gt) (hf : ∀ C s H fp, PIf (X.comp N0 scope xs clo C s H fp) ifs (tDT X.K cl ex ta)) (he : ∀ C s H fp, QE (X.comp N0 scope xs clo C s H fp) cl ex e fa)
  (hs : autoParam (∀ x, foldedSetIterable it X.env x = pure x) AutoP.a2._auto_1) : QE X cl ex (.ListComp e [⟨tg, it, ifs, 0⟩] scope pos) (eFn gL1 (aComp xs.length fr gt ta fa)) :=
 ⟨PE.weak (pe_comp (g := tDG X.K cl ex gt) (tf := tDT X.K cl ex ta) (te := tD X.K cl ex fa) hc hx S hi.out (fun C s H fp => (hg C s H fp).out) hf (fun C s H fp => (he C s H fp).out) hs) fun σ H Q hh => ex3 hh fun α ρ m W hr h => tComp_of ⟨α, ρ, m, W, hr, PQ.mono (Ext.refl W) h.bind fun ds α1 m1 H1 E1 W1 q vs rv p hp => PQ.okS W1 (Same.new hp) q _ (rep_lst W1 hp rv)⟩⟩
theorem qs_setC {i : Nat} {y : Str} {py spos : Pos} (hc : X.calm = true) (hx : X.xe = fun _ _ => False) (hN : X.N.Nodup) (hy : X.N[i]? = some y) (hl : X.env.scope.names.lookup y = some .local) (S : CompOk X N0 scope xs clo) (hi : QI X cl ex tg it fr)
  (hg : ∀ C s H fp, QG (X.comp N0 scope xs clo C s H fp) cl ex tg gt) (hf : ∀ C s H fp, PIf (X.comp N0 scope xs clo C s H fp) ifs (tDT X.K cl ex ta)) (he : ∀ C s H fp, QE (X.comp N0 scope xs clo C s H fp) cl ex e fa)
  (hsw : autoParam (swapsWith (.ListComp e [⟨tg, it, ifs, 0⟩] scope pos) (some (.Name y py)) spos.line X.env = pure true) AutoP.a4._auto_1)
  (hs : autoParam (∀ x, foldedSetIterable it X.env x = pure x) AutoP.a2._auto_1) : QS X cl ex (.Assign [.Name y py] (.ListComp e [⟨tg, it, ifs, 0⟩] scope pos) spos) (sAsg (eFn gL1 (aComp xs.length fr gt ta fa)) (gN i)) :=
 ⟨PS.weak (ps_setC (g := tDG X.K cl ex gt) (tf := tDT X.K cl ex ta) (te := tD X.K cl ex fa) hc hx hN hy hl S hi.out (fun C s H fp => (hg C s H fp).out) hf (fun C s H fp => (he C s H fp).out) hsw hs) fun D σ H hh => ex3 hh fun α ρ m W hr h => tComp_of ⟨α, ρ, m, W, hr, by
  have h2 : PQ X.K cl ex (((aComp xs.length fr gt ta fa ρ m).bind gL1).bind fun d m1 => (gN i d ρ m1).bind fun ρ1 m2 => .ok (.nx ρ1) m2) α H fun fl α' _ H' => EndsOk X.K D fl α' H' := h
  rw [Res.bind_assoc] at h2
  exact PQ.mono (Ext.refl W) h2.bind fun ds α1 m1 H1 E1 W1 q vs rv p hp => PQ.okS W1 (Same.new hp) (show PQ X.K cl ex (.ok (.nx (ρ.set i (some (.lst ds)))) m1) α1 H1 fun fl α' _ H' => EndsOk X.K D fl α' H' from q) _ (((hr.mono W E1).mono W1 (Ext.of_same W1 (Same.new hp))).set (rep_lst W1 hp rv))⟩⟩
theorem qif_nil : PIf X [] (tDT X.K cl ex tYesM) := fun pins s σ H Q I hh => ex3 hh fun α ρ m W hr h => pif_nil pins s σ H Q I (PQ.ok W h)
theorem PI.or {t t' : TI} (h : PI X tg it t) (h' : PI X tg it t') : PI X tg it fun σ H R => t σ H R ∨ t' σ H R := fun pins s σ H R I q => q.elim (h pins s σ H R I) (h' pins s σ H R I)
end
section
variable {K : PySem.W.Frag} {cl : Str -> Addr} {ex : XD} {α α' : List Addr} {m m1 : Sto} {H H' : Hp} {ρ : En} {σ : L2.St}
theorem tD.at {f : EV} {d : D} {Q : VK} (W : Wd K cl α m H) (hr : RepE K α H ρ σ) (hf : f ρ m = .ok d m1) (hQ : ∀ α1 H1 v, Ext α H α1 H1 -> Wd K cl α1 m1 H1 -> RepE K α1 H1 ρ σ -> Rep K α1 H1 d v -> Q v H1) : tD K cl ex f σ H Q :=
 ⟨α, ρ, m, W, hr, by rw [hf]; exact fun α1 H1 E1 W1 v rv => hQ α1 H1 v E1 W1 (hr.mono W E1) rv⟩
theorem tDA.at {f : AV} {d : List D} {Q : List V -> Hp -> Prop} (W : Wd K cl α m H) (hr : RepE K α H ρ σ) (hf : f ρ m = .ok d m1) (hQ : ∀ α1 H1 v, Ext α H α1 H1 -> Wd K cl α1 m1 H1 -> RepE K α1 H1 ρ σ -> RepL K α1 H1 d v -> Q v H1) : tDA K cl ex f σ H Q :=
 ⟨α, ρ, m, W, hr, by rw [hf]; exact fun α1 H1 E1 W1 v rv => hQ α1 H1 v E1 W1 (hr.mono W E1) rv⟩
theorem tD.exc {f : EV} {τ : Type} {c : Exc} {k : D -> Sto -> Res τ} {R : RD τ} {Q : VK} (W : Wd K cl α m H) (hr : RepE K α H ρ σ) (hf : f ρ m = .exc c m1) (q : PQ K cl ex ((f ρ m).bind k) α H R) : tD K cl ex f σ H Q :=
 ⟨α, ρ, m, W, hr, by rw [hf] at q ⊢; exact q⟩
theorem tDA.exc {f : AV} {τ : Type} {c : Exc} {k : List D -> Sto -> Res τ} {R : RD τ} {Q : List V -> Hp -> Prop} (W : Wd K cl α m H) (hr : RepE K α H ρ σ) (hf : f ρ m = .exc c m1) (q : PQ K cl ex ((f ρ m).bind k) α H R) : tDA K cl ex f σ H Q :=
 ⟨α, ρ, m, W, hr, by rw [hf] at q ⊢; exact q⟩
theorem itd_l {l : Addr} {ds : List D} {vs : List V} (W : Wd K cl α m H) (n : l ∉ α) (h : Rd H l (.lst vs)) (r : RepL K α H ds vs) : ItD K cl α H (Itl K l) ds := fun i α1 m1 H1 E1 W1 => by
 have sq : SqL K H1 l vs := .inl (E1.rd h n)
 refine ⟨fun d e => ?_, fun e => ⟨vs, sq, by rw [e, r.length]; exact Nat.le_refl _⟩⟩
 obtain ⟨v, h1, h2⟩ := (r.mono W E1).get e
 refine ⟨⟨vs, v, sq, h1⟩, fun x H2 y => ?_⟩
 obtain ⟨rfl, y⟩ := y
 have := y vs sq
 rw [h1] at this
 cases this
 exact ⟨Same.refl _, h2⟩
theorem itd_s {l : Addr} {ds : List D} {vs : List V} (W : Wd K cl α m H) (h : LstAt K α H l vs) (r : RepL K α H ds vs) : ItD K cl α H (Itl K l) ds := fun i α1 m1 H1 E1 W1 => by
 have sq : SqL K H1 l vs := ((E1.kp W).lstAt h).sq
 refine ⟨fun d e => ?_, fun e => ⟨vs, sq, by rw [e, r.length]; exact Nat.le_refl _⟩⟩
 obtain ⟨v, h1, h2⟩ := (r.mono W E1).get e
 refine ⟨⟨vs, v, sq, h1⟩, fun x H2 y => ?_⟩
 obtain ⟨rfl, y⟩ := y
 have := y vs sq
 rw [h1] at this
 cases this
 exact ⟨Same.refl _, h2⟩
theorem itd_t {l : Addr} {ds : List D} {vs : List V} (W : Wd K cl α m H) (h : SqT K H l vs) (r : RepL K α H ds vs) : ItD K cl α H (Itt K l) ds := fun i α1 m1 H1 E1 W1 => by
 have sq : SqT K H1 l vs := E1.sqt W h
 refine ⟨fun d e => ?_, fun e => ⟨vs, sq, by rw [e, r.length]; exact Nat.le_refl _⟩⟩
 obtain ⟨v, h1, h2⟩ := (r.mono W E1).get e
 refine ⟨⟨vs, v, sq, h1⟩, fun x H2 y => ?_⟩
 obtain ⟨rfl, y⟩ := y
 have := y vs sq
 rw [h1] at this
 cases this
 exact ⟨Same.refl _, h2⟩
theorem itd_f {f : Nat -> V} {g : Nat -> D} {n : Nat} (hg : ∀ i α H, Rep K α H (g i) (f i)) : ItD K cl α H (Itf f n) ((List.range n).map g) := fun i α1 m1 H1 E1 W1 => by
 refine ⟨fun d e => ?_, fun e => by rw [List.length_map, List.length_range] at e; exact e⟩
 obtain ⟨hi, e⟩ := List.getElem?_eq_some_iff.mp e
 rw [List.length_map, List.length_range] at hi
 simp only [List.getElem_map, List.getElem_range] at e
 subst e
 refine ⟨hi, fun x H2 y => ?_⟩
 obtain ⟨rfl, rfl⟩ := y
 exact ⟨Same.refl _, hg _ _ _⟩
theorem itd_r {lo : Int} {n : Nat} : ItD K cl α H (Itr lo n) (intsD lo n) := fun i α1 m1 H1 E1 W1 => by
 unfold intsD
 refine ⟨fun d e => ?_, fun e => by rw [List.length_map, List.length_range] at e; exact Nat.le_of_eq e.symm⟩
 obtain ⟨hi, e⟩ := List.getElem?_eq_some_iff.mp e
 rw [List.length_map, List.length_range] at hi
 simp only [List.getElem_map, List.getElem_range] at e
 subst e
 refine ⟨hi, fun x H2 y => ?_⟩
 obtain ⟨rfl, rfl⟩ := y
 exact ⟨Same.refl _, by rw [Rep]⟩
theorem rep_new_tup {T : Addr} {ds : List D} {vs : List V} (W : Wd K cl α m H) (hT : H T = none) (r : RepL K α H ds vs) : Rep K α (upd H T (.tup vs)) (.tup ds) (.ref T) := by
 rw [Rep]
 exact ⟨T, vs, rfl, .inl upd_same, r.mono W (Ext.of_same W (Same.new hT))⟩
theorem RepL.two {d e : D} {v w : V} (h : Rep K α H d v) (h' : Rep K α H e w) : RepL K α H [d, e] [v, w] := RepL.append (RepL.one h) (RepL.one h')
def Stays (K : PySem.W.Frag) (cl : Str -> Addr) (c : CQ) (α : List Addr) (H : Hp) (l : Addr) (vs : List V) : Prop := ∀ α1 m1 H1, Ext α H α1 H1 -> Wd K cl α1 m1 H1 -> c K H1 l vs
theorem itd_e {c : CQ} {l : Addr} {ds : List D} {vs : List V} (W : Wd K cl α m H) (h : Stays K cl c α H l vs) (r : RepL K α H ds vs) : ItD K cl α H (IteQ c K l) (enumD 0 ds) := fun i α1 m1 H1 E1 W1 => by
 have sq := h α1 m1 H1 E1 W1
 refine ⟨fun d e => ?_, fun e => ⟨vs, sq, by rw [e, enumD_len, r.length]⟩⟩
 obtain ⟨f, h1, rfl⟩ := enumD_get ds 0 i d e
 obtain ⟨v, h2, h3⟩ := (r.mono W E1).get h1
 refine ⟨⟨vs, v, sq, h2⟩, fun x H2 y => ?_⟩
 obtain ⟨T, y, hT, rfl, hy, rfl⟩ := y
 have := hy vs sq
 rw [h2] at this
 cases this
 refine ⟨Same.new hT, rep_new_tup W1 hT (RepL.two (by rw [Rep, Nat.zero_add]) h3)⟩
theorem itd_z {c1 c2 : CQ} {l1 l2 : Addr} {xs ys : List D} {vs us : List V} (W : Wd K cl α m H) (h : Stays K cl c1 α H l1 vs) (h' : Stays K cl c2 α H l2 us) (r : RepL K α H xs vs) (r' : RepL K α H ys us) (hl : xs.length <= ys.length) : ItD K cl α H (IteZQ c1 c2 K l1 l2) (zipD xs ys) := fun i α1 m1 H1 E1 W1 => by
 have sq := h α1 m1 H1 E1 W1
 have sq' := h' α1 m1 H1 E1 W1
 refine ⟨fun d e => ?_, fun e => ⟨vs, sq, by rw [e, zipD_len _ _ hl, r.length]⟩⟩
 obtain ⟨x, y, h1, h2, rfl⟩ := zipD_get xs ys i d e
 obtain ⟨v, h3, h4⟩ := (r.mono W E1).get h1
 obtain ⟨u, h5, h6⟩ := (r'.mono W E1).get h2
 refine ⟨⟨vs, us, v, u, sq, sq', h3, h5⟩, fun x H2 y => ?_⟩
 obtain ⟨T, x, y, hT, rfl, hx, hy, rfl⟩ := y
 have e1 := hx vs sq
 have e2 := hy us sq'
 rw [h3] at e1
 rw [h5] at e2
 cases e1
 cases e2
 exact ⟨Same.new hT, rep_new_tup W1 hT (RepL.two h4 h6)⟩
theorem stays_t {l : Addr} {vs : List V} (W : Wd K cl α m H) (h : SqT K H l vs) : Stays K cl SqT α H l vs := fun α1 m1 H1 E1 W1 => E1.sqt W h
theorem stays_l {l : Addr} {vs : List V} (n : l ∉ α) (h : Rd H l (.lst vs)) : Stays K cl SqL α H l vs := fun α1 m1 H1 E1 W1 => .inl (E1.rd h n)
end
section
variable {X : Cx} {cl : Str -> Addr} {ex : XD} {a b c e tg it : Expr} {es ifs : List Expr} {fa fb fc : EV} {ta tb : TV} {fr : AV} {pos p : Pos} {gt : GV}
theorem qi_seq (hq : QE X cl ex e fa) : QI X cl ex tg e (aIt fa) :=
 ⟨PI.weak (PI.or (pi_list hq.out) (PI.or (pi_tup hq.out) (pi_txt hq.out))) fun σ H R hh => ex3 hh fun α ρ m W hr q => by
  unfold aIt at q
  cases hf : fa ρ m with
  | bad => rw [hf] at q; exact q.elim
  | exc c m1 => exact .inl (tD.exc W hr hf q)
  | ok d m1 =>
   rw [hf] at q
   cases d with
   | lst ds =>
    refine .inl (tD.at W hr hf fun α1 H1 v E1 W1 hr1 rv => ?_)
    rw [Rep] at rv
    obtain ⟨l, vs, rfl, n, h1, h2⟩ := rv
    exact ⟨l, rfl, ⟨vs, .inl h1⟩, q α1 H1 E1 W1 _ (itd_l W1 n h1 h2)⟩
   | tup ds =>
    refine .inr (.inl (tD.at W hr hf fun α1 H1 v E1 W1 hr1 rv => ?_))
    rw [Rep] at rv
    obtain ⟨l, vs, rfl, h1, h2⟩ := rv
    exact ⟨l, rfl, ⟨vs, h1.sq⟩, q α1 H1 E1 W1 _ (itd_t W1 h1.sq h2)⟩
   | str z =>
    refine .inr (.inr (tD.at W hr hf fun α1 H1 v E1 W1 hr1 rv => ?_))
    rw [Rep] at rv
    exact ⟨z, rv, q α1 H1 E1 W1 _ (itd_f fun i α H => by rw [Rep]; rfl)⟩
   | scr ds =>
    refine .inl (tD.at W hr hf fun α1 H1 v E1 W1 hr1 rv => ?_)
    rw [Rep] at rv
    obtain ⟨l, vs, rfl, h1, h2⟩ := rv
    exact ⟨l, rfl, ⟨vs, h1.sq⟩, q α1 H1 E1 W1 _ (itd_s W1 h1 h2)⟩
   | _ => exact q.elim⟩
theorem qi_rng1 (hg : Gl X "range") (hm : X.mg "range" = none) (ha : QA X cl ex [a] fr) (hs : autoParam (starEach [a] X.env = [(false, eval a X.env)]) AutoP.a3._auto_1) : QI X cl ex tg (.Call (.Name "range" p) [a] [] pos) (aRng rng1 fr) :=
 ⟨PI.weak (pi_range1 hg hm ha.out hs) fun σ H R hh => ex3 hh fun α ρ m W hr q => tDA.use W hr q fun α1 m1 H1 d v E1 W1 hr1 rv q1 => by
  rw [rng1_eq] at q1; unfold rng1R at q1
  split at q1
  ·obtain ⟨h1, h2⟩ := PQ.if q1
   rw [RepL] at rv
   obtain ⟨v, r, rfl, a1, a2⟩ := rv
   rw [Rep] at a1
   rw [RepL] at a2
   subst a1 a2
   exact ⟨_, rfl, h1.1, h1.2, PQ.ok W1 h2 _ itd_r⟩
  ·exact q1.elim⟩
theorem qi_rng2 (hg : Gl X "range") (hm : X.mg "range" = none) (ha : QA X cl ex [a, b] fr) (hs : autoParam (starEach [a, b] X.env = [(false, eval a X.env), (false, eval b X.env)]) AutoP.a3._auto_1) (hs2 : autoParam (starEach [b] X.env = [(false, eval b X.env)]) AutoP.a3._auto_1) : QI X cl ex tg (.Call (.Name "range" p) [a, b] [] pos) (aRng rng2 fr) :=
 ⟨PI.weak (pi_range2 hg hm ha.out hs hs2) fun σ H R hh => ex3 hh fun α ρ m W hr q => tDA.use W hr q fun α1 m1 H1 d v E1 W1 hr1 rv q1 => by
  rw [rng2_eq] at q1; unfold rng2R at q1
  split at q1
  ·obtain ⟨h1, h2⟩ := PQ.if q1
   rw [RepL] at rv
   obtain ⟨v, r, rfl, a1, rv⟩ := rv
   rw [RepL] at rv
   obtain ⟨v', r', rfl, a2, rv⟩ := rv
   rw [RepL] at rv
   rw [Rep] at a1 a2
   subst a1 a2 rv
   exact ⟨_, _, rfl, h1, PQ.ok W1 h2 _ itd_r⟩
  ·exact q1.elim⟩
variable {elts : List Expr} {kt : Nat} {pt : Pos}
theorem qi_enum (hg : Gl X "enumerate") (hm : X.mg "enumerate" = none) (hq : QE X cl ex e fa) (hs : autoParam (starEach [e] X.env = [(false, eval e X.env)]) AutoP.a3._auto_1) : QI X cl ex (.Tuple elts kt pt) (.Call (.Name "enumerate" p) [e] [] pos) (aEnum fa) :=
 ⟨PI.weak (PI.or (pi_enumQL hg hm hq.out hs) (pi_enumQT hg hm hq.out hs)) fun σ H R hh => ex3 hh fun α ρ m W hr q => by
  unfold aEnum at q
  cases hf : fa ρ m with
  | bad => rw [hf] at q; exact q.elim
  | exc c m1 => exact .inl (tD.exc W hr hf q)
  | ok d m1 =>
   rw [hf] at q
   cases d with
   | lst ds =>
    refine .inl (tD.at W hr hf fun α1 H1 v E1 W1 hr1 rv => ?_)
    rw [Rep] at rv
    obtain ⟨l, vs, rfl, n, h1, h2⟩ := rv
    exact ⟨l, vs, rfl, .inl h1, q α1 H1 E1 W1 _ (itd_e W1 (stays_l n h1) h2)⟩
   | tup ds =>
    refine .inr (tD.at W hr hf fun α1 H1 v E1 W1 hr1 rv => ?_)
    rw [Rep] at rv
    obtain ⟨l, vs, rfl, h1, h2⟩ := rv
    exact ⟨l, vs, rfl, h1.sq, q α1 H1 E1 W1 _ (itd_e W1 (stays_t W1 h1.sq) h2)⟩
   | _ => exact q.elim⟩
theorem qi_zip (hg : Gl X "zip") (hm : X.mg "zip" = none) (h1 : QE X cl ex a fa) (h2 : QE X cl ex b fb) (hs : autoParam (starEach [a, b] X.env = (false, eval a X.env) :: starEach [b] X.env) AutoP.a3._auto_1) (hs2 : autoParam (starEach [b] X.env = [(false, eval b X.env)]) AutoP.a3._auto_1) : QI X cl ex (.Tuple elts kt pt) (.Call (.Name "zip" p) [a, b] [] pos) (aZip fa fb) :=
 ⟨PI.weak (PI.or (pi_zipQTL hg hm h1.out h2.out hs hs2) (pi_zipQTT hg hm h1.out h2.out hs hs2)) fun σ H R hh => ex3 hh fun α ρ m W hr q => by
  unfold aZip at q
  cases hf : fa ρ m with
  | bad => rw [hf] at q; exact q.elim
  | exc c m1 => exact .inl (tD.exc W hr hf q)
  | ok d m1 =>
   cases hf2 : fb ρ m1 with
   | bad => rw [hf] at q; exact absurd q (by show ¬ PQ X.K cl ex ((fb ρ m1).bind _) _ _ _; rw [hf2]; exact fun z => z)
   | exc c m2 =>
    refine .inl (tD.at W hr hf fun α1 H1 v E1 W1 hr1 rv => ?_)
    rw [hf] at q
    exact tD.exc (k := fun y m2 => zip2 d y m2) W1 hr1 hf2 (PQ.mono E1 q fun _ _ _ _ _ _ z => z)
   | ok d2 m2 =>
    rw [hf] at q
    have q' : PQ X.K cl ex ((fb ρ m1).bind fun y m2 => zip2 d y m2) α H fun ds α' _ H' => ∀ J, ItD X.K cl α' H' J ds -> R J H' := q
    rw [hf2] at q'
    have q2 : PQ X.K cl ex (zip2 d d2 m2) α H fun ds α' _ H' => ∀ J, ItD X.K cl α' H' J ds -> R J H' := q'
    unfold zip2 at q2
    split at q2
    ·obtain ⟨hl, q3⟩ := PQ.if q2
     refine .inr (tD.at W hr hf fun α1 H1 v E1 W1 hr1 rv => tD.at W1 hr1 hf2 fun α2 H2 v2 E2 W2 hr2 rv2 => ?_)
     have rv := rv.mono W1 E2
     rw [Rep] at rv rv2
     obtain ⟨l1, vs, rfl, h1, r1⟩ := rv
     obtain ⟨l2, us, rfl, h2, r2⟩ := rv2
     exact ⟨l1, l2, vs, us, rfl, h1.sq, h2.sq, q3 α2 H2 (E1.trans E2) W2 _ (itd_z W2 (stays_t W2 h1.sq) (stays_t W2 h2.sq) r1 r2 hl)⟩
    ·obtain ⟨hl, q3⟩ := PQ.if q2
     refine .inl (tD.at W hr hf fun α1 H1 v E1 W1 hr1 rv => tD.at W1 hr1 hf2 fun α2 H2 v2 E2 W2 hr2 rv2 => ?_)
     have rv := rv.mono W1 E2
     rw [Rep] at rv; rw [Rep] at rv2
     obtain ⟨l1, vs, rfl, h1, r1⟩ := rv
     obtain ⟨l2, us, rfl, n, h2, r2⟩ := rv2
     exact ⟨l1, l2, vs, us, rfl, h1.sq, .inl h2, q3 α2 H2 (E1.trans E2) W2 _ (itd_z W2 (stays_t W2 h1.sq) (stays_l n h2) r1 r2 hl)⟩
    ·exact q2.elim⟩
end
def finF (fl : Fl) (m : Sto) : Res D := match fl with
 | .nx _ => .ok .non m
 | .rt d => .ok d m
 | _ => .bad
def runF (n : Nat) (body : SV) : List D -> Sto -> Res D := fun ds m => (body (ds.map some ++ List.replicate (n - ds.length) none) m).bind finF
def spD (K : PySem.W.Frag) (cl : Str -> Addr) (ex : XD) (n : Nat) (g : List D -> Sto -> Res D) : Sp := fun vs H Q _ => vs.length = n /\ ∃ α m ds, Wd K cl α m H /\ RepL K α H ds vs /\ PQ K cl ex (g ds m) α H fun d α' _ H' => ∀ v, Rep K α' H' d v -> Q v H'
theorem repE_start {K : PySem.W.Frag} {α : List Addr} {H : Hp} {N : List Str} : ∀ {ds : List D} {vs : List V}, RepL K α H ds vs -> RepE K α H (ds.map some ++ List.replicate (N.length - ds.length) none) (L2.start N vs) := by
 intro ds vs r
 unfold L2.start
 rw [r.length]
 refine RepE.more ⟨by rw [List.length_map, List.length_map, r.length], fun i d e => ?_⟩ _
 rw [List.getElem?_map] at e
 cases h : ds[i]? with
 | none => rw [h] at e; cases e
 | some d' =>
  rw [h] at e
  cases e
  obtain ⟨v, h1, h2⟩ := r.get h
  exact ⟨v, by rw [List.getElem?_map, h1]; rfl, h2⟩
theorem fn_d {K : PySem.W.Frag} {cl : Str -> Addr} {ex : XD} {n : Nat} {N : List Str} {body : SV} {vs : List V} {H : Hp} {Q : VK} {E : XK} (h : spD K cl ex n (runF N.length body) vs H Q E) : tDS K cl ex body { nx := fun _ H' => Q .non H', rt := Q } (L2.start N vs) H := by
 obtain ⟨_, α, m, ds, W, r, q⟩ := h
 refine ⟨α, _, m, W, repE_start r, PQ.mono (Ext.refl W) q.bind fun fl α1 m1 H1 E1 W1 q1 => ?_⟩
 cases fl with
 | nx ρ => exact fun σ _ => PQ.ok W1 q1 _ (by rw [Rep])
 | rt d => exact PQ.ok W1 q1
 | bk ρ => exact q1.elim
 | ct ρ => exact q1.elim
def X0 : XD := fun _ _ _ _ => False
theorem qe_call {X : Cx} {cl : Str -> Addr} {e : Expr} {es : List Expr} {fr : AV} {p pos : Pos} {x : Str} {k n : Nat} {f : Addr} {fd : FuncData} {ps : List Str} {g : List D -> Sto -> Res D} (F : FnOk X.prog X.w X.K X.mg X.base CX0 k f fd ps (spD X.K cl X0 n g)) (hn : n = (e :: es).length) (hr : Room k X.A) (hg : Gl X x) (hm : X.mg x = some (.ref f)) (hk : PySem.W.keepIn X.K (.ref f) = true) (hb : Binds X.K fd ps [])
  (ha : QA X cl X0 (e :: es) fr) (hlen : ∀ ρ m ds m1, fr ρ m = .ok ds m1 -> ds.length = (e :: es).length) (hdb : autoParam ((x == ("__debug__" : Str)) = false) AutoP.a1._auto_1) (he : autoParam (starEach (e :: es) X.env = (false, eval e X.env) :: starEach es X.env) AutoP.a3._auto_1) (hpl : autoParam ((backTo pos (starEach es X.env)).any (·.1) = false) AutoP.a3._auto_1) :
  QE X cl X0 (.Call (.Name x p) (e :: es) [] pos) (eFn g fr) :=
 ⟨PE.weak (pe_call (E := E0) F hr hg hm hk hb .nil pass0 ha.out hdb he hpl) fun σ H Q hh => ex3 hh fun α ρ m W hr h => by
  unfold eFn at h
  cases hf : fr ρ m with
  | bad => rw [hf] at h; exact h.elim
  | exc c m1 => exact tDA.exc W hr hf h
  | ok ds m1 =>
   rw [hf] at h
   refine tDA.at W hr hf fun α1 H1 v E1 W1 hr1 rv => ?_
   refine ⟨?_, α1, m1, ds, W1, by rw [List.append_nil]; exact rv, PQ.mono E1 h fun _ _ _ _ _ _ z => z⟩
   rw [List.append_nil, <- rv.length, hlen ρ m ds m1 hf, hn]⟩
theorem aNil_len : ∀ ρ m ds m1, zaj ρ m = .ok ds m1 -> ds.length = ([] : List Expr).length := fun ρ m ds m1 h => by cases h; rfl
theorem aCons_len {fa : EV} {fr : AV} {e : Expr} {es : List Expr} (h : ∀ ρ m ds m1, fr ρ m = .ok ds m1 -> ds.length = es.length) : ∀ ρ m ds m1, zab fa fr ρ m = .ok ds m1 -> ds.length = (e :: es).length := fun ρ m ds m1 q => by
 unfold zab at q
 cases hf : fa ρ m with
 | ok x m2 =>
  rw [hf] at q
  have q : ((fr ρ m2).bind fun xs m3 => Res.ok (x :: xs) m3) = .ok ds m1 := q
  cases hr : fr ρ m2 with
  | ok xs m3 => rw [hr] at q; cases q; rw [List.length_cons, List.length_cons, h ρ m2 xs _ hr]
  | _ => rw [hr] at q; cases q
 | _ => rw [hf] at q; cases q
end MD
set_option autoImplicit false
namespace L2
open PySem PySem.Spec PyProof.Rows
section
variable {X : Cx}
def rCatQ (K : PySem.W.Frag) : R2 := fun x y H Q => ∃ a b xs ys, x = .ref a /\ y = .ref b /\ MD.TupAt K H a xs /\ MD.TupAt K H b ys /\ xs.length + ys.length <= sizeLine /\ ∀ r H', MD.TupAt K H' r (xs ++ ys) -> Same H H' -> Q (.ref r) H'
end
end L2
namespace MD
open PySem PySem.Spec PyProof.Rows L2
def addD (x y : D) (m : Sto) : Res D := match x, y with
 | .int i, .int j => .ok (.int (i + j)) m
 | .str a, .str b => if a.length + b.length <= sizeLine then .ok (.str (a ++ b)) m else .bad
 | .tup a, .tup b => if a.length + b.length <= sizeLine then .ok (.tup (a ++ b)) m else .bad
 | .lst a, .lst b => if a.length + b.length <= sizeLine then .ok (.lst (a ++ b)) m else .bad
 | _, _ => .bad
def subD (x y : D) (m : Sto) : Res D := match x, y with
 | .int i, .int j => .ok (.int (i - j)) m
 | _, _ => .bad
def mulR (x y : D) (m : Sto) : Res D := match x, y with
 | .int i, .int j => if (-(2 ^ 64) < i /\ i < 2 ^ 64) ∨ (-(2 ^ 64) < j /\ j < 2 ^ 64) then .ok (.int (i * j)) m else .bad
 | .str z, .int n => if 0 <= n /\ n <= 1000 /\ z.length <= 1000 then .ok (.str (Txt.mul z n)) m else .bad
 | .tup [d], .int n => if 1 <= n /\ n <= 1000 then .ok (.tup (List.replicate n.toNat d)) m else .bad
 | _, _ => .bad
theorem mulD_ex : ∃ f : D -> D -> Sto -> Res D, f = mulR := ⟨_, rfl⟩
def mulD : D -> D -> Sto -> Res D := Classical.choose mulD_ex
theorem mulD_eq : mulD = mulR := Classical.choose_spec mulD_ex
def fdivR (x y : D) (m : Sto) : Res D := match x, y with
 | .int i, .int j => if 0 < j /\ j < 2 ^ 64 then .ok (.int (i / j)) m else .bad
 | _, _ => .bad
theorem fdivD_ex : ∃ f : D -> D -> Sto -> Res D, f = fdivR := ⟨_, rfl⟩
def fdivD : D -> D -> Sto -> Res D := Classical.choose fdivD_ex
theorem fdivD_eq : fdivD = fdivR := Classical.choose_spec fdivD_ex
def modD (x y : D) (m : Sto) : Res D := match x, y with
 | .int i, .int j => if 0 < j then .ok (.int (i % j)) m else .bad
 | _, _ => .bad
def powR (x y : D) (m : Sto) : Res D := match x, y with
 | .int i, .int j => if 0 <= j /\ j <= 1000000 /\ i.natAbs < 2 ^ 64 then .ok (.int (i ^ j.toNat)) m else .bad
 | _, _ => .bad
theorem powD_ex : ∃ f : D -> D -> Sto -> Res D, f = powR := ⟨_, rfl⟩
def powD : D -> D -> Sto -> Res D := Classical.choose powD_ex
theorem powD_eq : powD = powR := Classical.choose_spec powD_ex
def shlR (x y : D) (m : Sto) : Res D := match x, y with
 | .int i, .int j => if 0 <= j /\ j <= 1000000 /\ i.natAbs < 2 ^ 64 then .ok (.int (i * 2 ^ j.toNat)) m else .bad
 | _, _ => .bad
theorem shlD_ex : ∃ f : D -> D -> Sto -> Res D, f = shlR := ⟨_, rfl⟩
def shlD : D -> D -> Sto -> Res D := Classical.choose shlD_ex
theorem shlD_eq : shlD = shlR := Classical.choose_spec shlD_ex
def negD (x : D) (m : Sto) : Res D := match x with
 | .int i => .ok (.int (-i)) m
 | _ => .bad
section
variable {X : Cx} {K : PySem.W.Frag} {cl : Str -> Addr} {ex : XD}
theorem repI {α : List Addr} {H : Hp} {i : Int} : Rep K α H (.int i) (.int i) := by rw [Rep]
theorem repS {α : List Addr} {H : Hp} {i : Str} : Rep K α H (.str i) (.str i) := by rw [Rep]
theorem repB {α : List Addr} {H : Hp} {i : Bool} : Rep K α H (.bl i) (.bl i) := by rw [Rep]
theorem repN {α : List Addr} {H : Hp} : Rep K α H .non .non := by rw [Rep]
theorem od_sub : OpD K cl ex (rI0 fun i j => .int (i - j)) subD := fun α m H x y vx vy Q W rx ry h => by
 unfold subD at h
 split at h
 ·rw [Rep] at rx ry; exact ⟨_, _, rx, ry, PQ.ok W h _ repI⟩
 ·exact h.elim
theorem od_fdiv : OpD K cl ex (rI (fun _ j => 0 < j /\ j < 2 ^ 64) fun i j => .int (i / j)) fdivD := fun α m H x y vx vy Q W rx ry h => by
 rw [fdivD_eq] at h; unfold fdivR at h
 split at h
 ·rw [Rep] at rx ry; obtain ⟨hc, h⟩ := PQ.if h; exact ⟨_, _, rx, ry, hc, PQ.ok W h _ repI⟩
 ·exact h.elim
theorem od_mod : OpD K cl ex (rI (fun _ j => 0 < j) fun i j => .int (i % j)) modD := fun α m H x y vx vy Q W rx ry h => by
 unfold modD at h
 split at h
 ·rw [Rep] at rx ry; obtain ⟨hc, h⟩ := PQ.if h; exact ⟨_, _, rx, ry, hc, PQ.ok W h _ repI⟩
 ·exact h.elim
theorem od_pow : OpD K cl ex (rI CPow fun i j => .int (i ^ j.toNat)) powD := fun α m H x y vx vy Q W rx ry h => by
 rw [powD_eq] at h; unfold powR at h
 split at h
 ·rw [Rep] at rx ry; obtain ⟨hc, h⟩ := PQ.if h; exact ⟨_, _, rx, ry, hc, PQ.ok W h _ repI⟩
 ·exact h.elim
theorem od_shl : OpD K cl ex (rI CPow fun i j => .int (i * 2 ^ j.toNat)) shlD := fun α m H x y vx vy Q W rx ry h => by
 rw [shlD_eq] at h; unfold shlR at h
 split at h
 ·rw [Rep] at rx ry; obtain ⟨hc, h⟩ := PQ.if h; exact ⟨_, _, rx, ry, hc, PQ.ok W h _ repI⟩
 ·exact h.elim
theorem ud_neg : UnD K cl ex (rU fun i => .int (-i)) negD := fun α m H x vx Q W rx h => by
 unfold negD at h
 split at h
 ·rw [Rep] at rx; exact ⟨_, rx, PQ.ok W h _ repI⟩
 ·exact h.elim
theorem op_catQ : OpR X (binaryOp .Add) (rCatQ X.K) := by
 intro pins s σ H x y v u Q I rx ry h
 obtain ⟨a, b, xs, ys, rfl, rfl, ha, hb, hz, q⟩ := h
 by_cases hx : xs = []
 ·subst hx
  cases rx
  cases ry
  obtain ⟨its, r1, p1, _⟩ := I.tuple ha.sq
  obtain ⟨its2, r2, p2, _⟩ := I.tuple hb.sq
  cases r1
  obtain ⟨⟨cls, dd, data, sl⟩, ho, hc, n, hd⟩ := id p1
  obtain ⟨⟨cls2, dd2, data2, sl2⟩, ho2, hc2, n2, hd2⟩ := id p2
  simp only at hc hd hc2 hd2
  subst hc hd hc2 hd2
  exact concat_meets ⟨_, ho, rfl⟩ ⟨_, ho2, rfl⟩ noFill_tuple_add seq_tuple_add PySem.F.slot_tuple_add PySem.F.entry_tuple_add (PySem.F.args_tuple_add_2 _ _)
   (tuple_addW0 a b #[] its2.toArray n n2 dd dd2 sl sl2 rfl) ⟨ho, ho2, ⟨.ref b, H, I, rfl, q b H (by rw [List.nil_append]; exact hb) (L2.Same.refl H)⟩⟩
 ·refine op_catT pins s σ H (.ref a) (.ref b) v u Q I rx ry ⟨a, b, xs, ys, rfl, rfl, ha.sq, hb.sq, hx, hz, fun e => ?_, fun _ p hp => ?_⟩
  ·subst e
   exact q a H (by rw [List.append_nil]; exact ha) (L2.Same.refl H)
  ·exact q p _ (.inl upd_same) (MD.Same.new hp)
def rCatR : R2 := fun x y H Q => ∃ l b xs zs, x = .ref l /\ y = .ref b /\ Rd H l (.lst xs) /\ Rd H b (.lst zs) /\ xs.length + zs.length <= sizeLine /\ ∀ p, H p = none -> Q (.ref p) (upd H p (.lst (xs ++ zs)))
theorem op_catR : OpR X (binaryOp .Add) rCatR := by
 intro pins s σ H x y v u Q I rx ry h
 obtain ⟨l, b, xs, zs, rfl, rfl, hH, hB, hz, q⟩ := h
 cases rx
 cases ry
 obtain ⟨z, its, n, r, e⟩ := hH.ok I.hok
 obtain ⟨z2, its2, n2, r2, e2⟩ := hB.ok I.hok
 have hl := r.length
 have hl2 := r2.length
 refine PySem.P.add_list e e2 ?_ (by rw [List.size_toArray, List.size_toArray]; omega)
 have ea : its.toArray ++ its2.toArray = (its ++ its2).toArray := by simp
 rw [ea]
 exact ⟨.ref _, _, I.lnew (t' := s.toks) (r.append r2) (by rw [List.length_append]; omega), rfl, q _ I.fresh⟩
def rAddA (K : PySem.W.Frag) : R2 := fun x y H Q => (rI0 (fun i j => .int (i + j))) x y H Q ∨ (∃ i j, x = .str i /\ y = .str j /\ i.length + j.length <= sizeLine /\ Q (.str (i ++ j)) H) ∨ rCatQ K x y H Q ∨ rCatR x y H Q
theorem op_addA : OpR X (binaryOp .Add) (rAddA X.K) := OpR.or op_add (OpR.or op_add_str (OpR.or op_catQ op_catR))
theorem od_add : OpD K cl ex (rAddA K) addD := fun α m H x y vx vy Q W rx ry h => by
 unfold addD at h
 split at h
 ·rw [Rep] at rx ry; exact .inl ⟨_, _, rx, ry, PQ.ok W h _ repI⟩
 ·rw [Rep] at rx ry; obtain ⟨hc, h⟩ := PQ.if h; exact .inr (.inl ⟨_, _, rx, ry, hc, PQ.ok W h _ repS⟩)
 ·obtain ⟨hc, h⟩ := PQ.if h
  rw [Rep] at rx ry
  obtain ⟨a, xs, rfl, h1, r1⟩ := rx
  obtain ⟨b, ys, rfl, h2, r2⟩ := ry
  refine .inr (.inr (.inl ⟨a, b, xs, ys, rfl, rfl, h1, h2, by rw [<- r1.length, <- r2.length]; exact hc, fun r H' hr sm => ?_⟩))
  exact PQ.okS W sm h _ (by rw [Rep]; exact ⟨r, _, rfl, hr, (RepL.append r1 r2).mono W (Ext.of_same W sm)⟩)
 ·obtain ⟨hc, h⟩ := PQ.if h
  rw [Rep] at rx ry
  obtain ⟨a, xs, rfl, n1, h1, r1⟩ := rx
  obtain ⟨b, ys, rfl, n2, h2, r2⟩ := ry
  refine .inr (.inr (.inr ⟨a, b, xs, ys, rfl, rfl, h1, h2, by rw [<- r1.length, <- r2.length]; exact hc, fun p hp => ?_⟩))
  exact PQ.okS W (Same.new hp) h _ (rep_lst W hp (RepL.append r1 r2))
 ·exact h.elim
def rMulQ (K : PySem.W.Frag) : R2 := fun x y H Q => ∃ a v n, x = .ref a /\ y = .int n /\ TupAt K H a [v] /\ 1 <= n /\ n <= 1000 /\ ∀ r H', TupAt K H' r (List.replicate n.toNat v) -> L2.Same H H' -> Q (.ref r) H'
theorem op_mulQ : OpR X (binaryOp .Mult) (rMulQ X.K) := by
 intro pins s σ H x y v u Q I rx ry h
 obtain ⟨a, w, n, rfl, rfl, ha, n1, n2, q⟩ := h
 cases rx
 obtain ⟨t, rfl⟩ := ry
 obtain ⟨its, r1, p1, _⟩ := I.tuple ha.sq
 obtain ⟨u, rfl, ru⟩ := vals1 r1
 obtain ⟨⟨cls, dd, data, sl⟩, ho, hc, k, hd⟩ := id p1
 simp only at hc hd
 subst hc hd
 refine wpAny_binaryOp_repeat_ref (by decide) ⟨_, ho, rfl⟩ (fun s' => typeIs_int s' n t) noFill_tuple_mul F.fills_int_mul F.slot_int_rmul repeat_tuple F.slot_int_index.lookup
  (call_meets F.slot_int_rmul (typeIs_int s n t) F.entry_int_rmul (F.args_int_rmul_2 _ _) (int_rmul_tup n t a _ k dd sl) ⟨ho, rfl, ⟨_, ho, rfl⟩, ?_⟩)
 by_cases e : n = 1
 ·subst e
  exact call_meets F.slot_tuple_mul ⟨_, ho, rfl⟩ F.entry_tuple_mul (F.args_tuple_mul_2 _ _) (tup_mul1 a u t k dd sl) ⟨ho, ⟨.ref a, H, I, rfl, q a H ha (L2.Same.refl H)⟩⟩
 ·refine call_meets F.slot_tuple_mul ⟨_, ho, rfl⟩ F.entry_tuple_mul (F.args_tuple_mul_2 _ _) (tup_mulN a u n t k dd sl (by omega) n2) ⟨ho, ?_⟩
  rw [fold_rep]
  have z : (List.replicate n.toNat w).length <= sizeLine := by
   rw [List.length_replicate]
   have : sizeLine = 16777216 := by decide
   omega
  exact ⟨.ref s.heap.objs.size, upd H s.heap.objs.size (.tup (List.replicate n.toNat w)), I.laid (t' := s.toks) (fun b o e => Heap.get?_push_of_some _ e) (Nat.le_refl _) ⟨z, List.replicate n.toNat u, vals_rep ru _, ⟨_, Heap.get?_push_size _ rfl, rfl, 0, rfl⟩, _, Heap.get?_push_size _ rfl, rfl⟩, rfl, q _ _ (.inl upd_same) (Same.new (I.hok.fresh (Nat.le_refl _)))⟩
theorem mulOk_small {z : Str} {n : Int} (h : 0 <= n /\ n <= 1000 /\ z.length <= 1000) : MulOk z n := by
 obtain ⟨h0, h1, h2⟩ := h
 refine ⟨by simp; omega, fun h3 _ => ?_, fun h3 _ => ?_⟩
 ·have h4 : (1000 : Int) <= (2 ^ 63 - 1) / n := (Int.le_ediv_iff_mul_le (by omega)).mpr (by omega)
  omega
 ·have h6 : z.length * n.toNat <= 1000 * 1000 := Nat.mul_le_mul h2 (by omega)
  have h7 := sizeLine_eq
  unfold Builtin.Str.tooLong
  simp
  omega
def rMulA (K : PySem.W.Frag) : R2 := fun x y H Q => (rI CMul fun i j => .int (i * j)) x y H Q ∨ (∃ z n, x = .str z /\ y = .int n /\ MulOk z n /\ Q (.str (Txt.mul z n)) H) ∨ rMulQ K x y H Q
theorem op_mulA : OpR X (binaryOp .Mult) (rMulA X.K) := OpR.or op_mul (OpR.or op_mul_str op_mulQ)
theorem RepL.rep {α : List Addr} {H : Hp} {d : D} {v : V} (h : Rep K α H d v) : ∀ n : Nat, RepL K α H (List.replicate n d) (List.replicate n v)
 | 0 => by simp [RepL]
 | n + 1 => by
  rw [List.replicate_succ, List.replicate_succ, RepL]
  exact ⟨v, _, rfl, h, RepL.rep h n⟩
theorem od_mul : OpD K cl ex (rMulA K) mulD := fun α m H x y vx vy Q W rx ry h => by
 rw [mulD_eq] at h; unfold mulR at h
 split at h
 ·rw [Rep] at rx ry; obtain ⟨hc, h⟩ := PQ.if h; exact .inl ⟨_, _, rx, ry, hc, PQ.ok W h _ repI⟩
 ·rw [Rep] at rx; rw [Rep] at ry; obtain ⟨hc, h⟩ := PQ.if h; exact .inr (.inl ⟨_, _, rx, ry, mulOk_small hc, PQ.ok W h _ repS⟩)
 ·obtain ⟨hc, h⟩ := PQ.if h
  rw [Rep] at rx
  rw [Rep] at ry
  obtain ⟨a, xs, rfl, h1, r1⟩ := rx
  rw [RepL] at r1
  obtain ⟨v, r, rfl, rv, r2⟩ := r1
  rw [RepL] at r2
  subst r2
  refine .inr (.inr ⟨a, v, _, rfl, ry, h1, hc.1, hc.2, fun r H' hr sm => ?_⟩)
  exact PQ.okS W sm h _ (by rw [Rep]; exact ⟨r, _, rfl, hr, (RepL.rep rv _).mono W (Ext.of_same W sm)⟩)
 ·exact h.elim
end
mutual
def py : D -> PyData
 | .bl b => .bool b
 | .int i => .int i
 | .str x => .str x
 | .tup ds => .tuple (pyL ds)
 | .lst ds => .list (pyL ds)
 | _ => .none
def pyL : List D -> List PyData
 | [] => []
 | d :: r => py d :: pyL r
end
mutual
def pyOk : D -> Bool
 | .non => true
 | .bl _ => true
 | .int _ => true
 | .str _ => true
 | .tup ds => pyOkL ds
 | .lst ds => pyOkL ds
 | _ => false
def pyOkL : List D -> Bool
 | [] => true
 | d :: r => pyOk d && pyOkL r
end
def deep (d : D) : Bool := pyOk d && SeqAt.shaped (py d)
def eqB (x y : D) : Option Bool := match x, y with
 | .int i, .int j => some (decide (i = j))
 | .str a, .str b => some (decide (a = b))
 | .bl a, .bl b => some (decide (a = b))
 | .non, .non => some true
 | .non, .int _ => some false
 | .non, .str _ => some false
 | .non, .bl _ => some false
 | .int _, .non => some false
 | .str _, .non => some false
 | .bl _, .non => some false
 | .int _, .str _ => some false
 | .str _, .int _ => some false
 | .bl _, .str _ => some false
 | .str _, .bl _ => some false
 | x, y => if deep x && deep y then some (PyData.eqv (py x) (py y)) else none
def rs (m : Sto) (d : D) : D := match d with
 | .ob k => match m[k]? with
  | some (.lst xs) => .lst xs
  | _ => .ob k
 | d => d
def eqD (x y : D) (m : Sto) : Res D := match eqB (rs m x) (rs m y) with
 | some b => .ok (.bl b) m
 | none => .bad
def neD (x y : D) (m : Sto) : Res D := match eqB (rs m x) (rs m y) with
 | some b => .ok (.bl (!b)) m
 | none => .bad
section
variable {X : Cx} {K : PySem.W.Frag} {cl : Str -> Addr} {ex : XD} {pins : List (Addr × Obj)} {σ : L2.St} {H : Hp} {s : Shared} {α : List Addr}
mutual
theorem rep_reads (I : Inv X pins σ H s) : ∀ {d : D} {v : V} {u : Value}, pyOk d = true -> Rep X.K α H d v -> RelV v u -> ∃ as, Reads s.heap u (py d) as
 | .non, v, u, _, r, rv => by rw [Rep] at r; subst r; cases rv; exact ⟨_, .none⟩
 | .bl b, v, u, _, r, rv => by rw [Rep] at r; subst r; cases rv; exact ⟨_, .bool b⟩
 | .int i, v, u, _, r, rv => by rw [Rep] at r; subst r; obtain ⟨t, rfl⟩ := rv; exact ⟨_, .int i t⟩
 | .str x, v, u, _, r, rv => by rw [Rep] at r; subst r; obtain ⟨t, rfl⟩ := rv; exact ⟨_, .str x t⟩
 | .tup ds, v, u, ok, r, rv => by
  rw [Rep] at r
  obtain ⟨a, xs, rfl, h1, h2⟩ := r
  cases rv
  obtain ⟨its, r1, ⟨o, e1, e2, n, e3⟩, _⟩ := I.tuple h1.sq
  obtain ⟨as, h⟩ := rep_readsL I (by rw [pyOk] at ok; exact ok) h2 r1
  exact ⟨as, .tuple e1 e2 e3 (by simpa using h)⟩
 | .lst ds, v, u, ok, r, rv => by
  rw [Rep] at r
  obtain ⟨a, xs, rfl, _, h1, h2⟩ := r
  cases rv
  obtain ⟨its, r1, ⟨o, n, e1, e2, _, e3⟩, _⟩ := I.list (xs := xs) (.inl h1)
  obtain ⟨as, h⟩ := rep_readsL I (by rw [pyOk] at ok; exact ok) h2 r1
  exact ⟨_, .list e1 e2 e3 (by simpa using h)⟩
 | .flt _, _, _, ok, _, _ => by simp [pyOk] at ok
 | .byt _, _, _, ok, _, _ => by simp [pyOk] at ok
 | .ob _, _, _, ok, _, _ => by simp [pyOk] at ok
 | .scr _, _, _, ok, _, _ => by simp [pyOk] at ok
theorem rep_readsL (I : Inv X pins σ H s) : ∀ {ds : List D} {vs : List V} {us : List Value}, pyOkL ds = true -> RepL X.K α H ds vs -> Vals vs us -> ∃ as, ReadsAll s.heap us (pyL ds) as
 | [], vs, us, _, r, rv => by rw [RepL] at r; subst r; cases rv; exact ⟨_, .nil⟩
 | d :: ds, vs, us, ok, r, rv => by
  rw [RepL] at r
  obtain ⟨v, r', rfl, h1, h2⟩ := r
  rw [pyOkL, Bool.and_eq_true] at ok
  cases rv with
  | cons a b =>
   obtain ⟨as, q1⟩ := rep_reads I ok.1 h1 a
   obtain ⟨bs, q2⟩ := rep_readsL I ok.2 h2 b
   exact ⟨_, .cons q1 q2⟩
end
def rDeep (K : PySem.W.Frag) (f : Bool -> Bool) : R2 := fun vx vy H Q => ∃ x y α, Rep K α H x vx /\ Rep K α H y vy /\ deep x = true /\ deep y = true /\ Q (.bl (f (PyData.eqv (py x) (py y)))) H
theorem op_eqDeep (hu : X.A.units + 64 < cLine) : OpR X (compareOp .Eq) (rDeep X.K id) := by
 intro pins s σ H vx vy v u Q I rx ry h
 obtain ⟨x, y, α, r1, r2, d1, d2, q⟩ := h
 rw [deep, Bool.and_eq_true] at d1 d2
 obtain ⟨as, h1⟩ := rep_reads I d1.1 r1 rx
 obtain ⟨bs, h2⟩ := rep_reads I d2.1 r2 ry
 exact eq_dataH h1 h2 d1.2 d2.2 hu ⟨.bl _, H, I, rfl, q⟩
theorem op_neDeep (hu : X.A.units + 64 < cLine) : OpR X (compareOp .NotEq) (rDeep X.K not) := by
 intro pins s σ H vx vy v u Q I rx ry h
 obtain ⟨x, y, α, r1, r2, d1, d2, q⟩ := h
 rw [deep, Bool.and_eq_true] at d1 d2
 obtain ⟨as, h1⟩ := rep_reads I d1.1 r1 rx
 obtain ⟨bs, h2⟩ := rep_reads I d2.1 r2 ry
 exact ne_dataH h1 h2 d1.2 d2.2 hu ⟨.bl _, H, I, rfl, q⟩
def rEqA (K : PySem.W.Frag) : R2 := fun x y H Q => rEq x y H Q ∨ rDeep K id x y H Q
def rNeA (K : PySem.W.Frag) : R2 := fun x y H Q => rNe x y H Q ∨ rDeep K not x y H Q
theorem op_eqA (hu : X.A.units + 64 < cLine) : OpR X (compareOp .Eq) (rEqA X.K) := OpR.or op_eq (op_eqDeep hu)
theorem op_neA (hu : X.A.units + 64 < cLine) : OpR X (compareOp .NotEq) (rNeA X.K) := OpR.or op_ne (op_neDeep hu)
mutual
theorem Rep.bare {K : PySem.W.Frag} {α : List Addr} {H : Hp} : ∀ {d : D} {v : V}, pyOk d = true -> Rep K α H d v -> Rep K [] H d v
 | .non, _, _, h => by simpa [Rep] using h
 | .bl _, _, _, h => by simpa [Rep] using h
 | .int _, _, _, h => by simpa [Rep] using h
 | .str _, _, _, h => by simpa [Rep] using h
 | .flt _, _, c, _ => by simp [pyOk] at c
 | .byt _, _, c, _ => by simp [pyOk] at c
 | .ob _, _, c, _ => by simp [pyOk] at c
 | .scr _, _, c, _ => by simp [pyOk] at c
 | .tup ds, _, c, h => by
  rw [Rep] at h ⊢
  obtain ⟨a, xs, e, h1, h2⟩ := h
  rw [pyOk] at c
  exact ⟨a, xs, e, h1, RepL.bare c h2⟩
 | .lst ds, _, c, h => by
  rw [Rep] at h ⊢
  obtain ⟨a, xs, e, n, h1, h2⟩ := h
  rw [pyOk] at c
  exact ⟨a, xs, e, (by simp), h1, RepL.bare c h2⟩
theorem RepL.bare {K : PySem.W.Frag} {α : List Addr} {H : Hp} : ∀ {ds : List D} {vs : List V}, pyOkL ds = true -> RepL K α H ds vs -> RepL K [] H ds vs
 | [], _, _, h => by rw [RepL] at h ⊢; exact h
 | _ :: _, _, c, h => by
  rw [RepL] at h ⊢
  obtain ⟨v, r, e, h1, h2⟩ := h
  rw [pyOkL, Bool.and_eq_true] at c
  exact ⟨v, r, e, Rep.bare c.1 h1, RepL.bare c.2 h2⟩
end
def RepW (K : PySem.W.Frag) (α : List Addr) (H : Hp) (x : D) (v : V) : Prop := Rep K α H x v ∨ ∃ xs a ys, x = .lst xs /\ v = .ref a /\ H a = some (.lst ys) /\ RepL K α H xs ys
theorem RepW.bare {x : D} {v : V} (c : deep x = true) (h : RepW K α H x v) : Rep K [] H x v := by
 rw [deep, Bool.and_eq_true] at c
 rcases h with h | ⟨xs, a, ys, rfl, rfl, h1, h2⟩
 ·exact h.bare c.1
 ·rw [Rep]
  have c1 := c.1
  rw [pyOk] at c1
  exact ⟨a, ys, rfl, (by simp), .inl h1, h2.bare c1⟩
theorem rs_rep {m : Sto} (W : Wd K cl α m H) {x : D} {v : V} (r : Rep K α H x v) : RepW K α H (rs m x) v := by
 unfold rs
 split
 ·split
  ·rename_i xs hx
   rw [Rep] at r
   obtain ⟨a, h1, rfl⟩ := r
   obtain ⟨ys, h2, h3⟩ := (show MoRep K cl α H a (.lst xs) from W.at' _ a _ h1 hx)
   exact .inr ⟨_, a, ys, rfl, rfl, h2, h3⟩
  ·exact .inl r
 ·exact .inl r
theorem eqB_use {x y : D} {vx vy : V} {b : Bool} (e : eqB x y = some b) (rx : RepW K α H x vx) (ry : RepW K α H y vy) : (scal vx vy = true /\ decide (vx = vy) = b) ∨ (deep x = true /\ deep y = true /\ PyData.eqv (py x) (py y) = b) := by
 unfold eqB at e
 split at e
 case h_15 =>
  split at e
  ·rename_i hc
   rw [Bool.and_eq_true] at hc
   exact .inr ⟨hc.1, hc.2, Option.some.inj e⟩
  ·cases e
 all_goals (
  rcases rx with rx | ⟨_, _, _, z, _⟩
  case inr => cases z
  rcases ry with ry | ⟨_, _, _, z, _⟩
  case inr => cases z
  rw [Rep] at rx; rw [Rep] at ry; subst rx ry; refine .inl ⟨rfl, ?_⟩; rw [<- Option.some.inj e]; simp)
theorem od_eq : OpD K cl ex (rEqA K) eqD := fun α m H x y vx vy Q W rx ry h => by
 unfold eqD at h
 split at h
 ·rename_i b e
  have rx := rs_rep W rx
  have ry := rs_rep W ry
  rcases eqB_use e rx ry with ⟨h1, h2⟩ | ⟨h1, h2, h3⟩
  ·exact .inl ⟨h1, by rw [h2]; exact PQ.ok W h _ repB⟩
  ·exact .inr ⟨_, _, [], rx.bare h1, ry.bare h2, h1, h2, by rw [h3]; exact PQ.ok W h _ repB⟩
 ·exact h.elim
theorem od_ne : OpD K cl ex (rNeA K) neD := fun α m H x y vx vy Q W rx ry h => by
 unfold neD at h
 split at h
 ·rename_i b e
  have rx := rs_rep W rx
  have ry := rs_rep W ry
  rcases eqB_use e rx ry with ⟨h1, h2⟩ | ⟨h1, h2, h3⟩
  ·exact .inl ⟨h1, by rw [h2]; exact PQ.ok W h _ repB⟩
  ·exact .inr ⟨_, _, [], rx.bare h1, ry.bare h2, h1, h2, by rw [h3]; exact PQ.ok W h _ repB⟩
 ·exact h.elim
end
def ltS (x y : Str) : Bool := decide (x.cps.toList < y.cps.toList)
def ltD (x y : D) (m : Sto) : Res D := match x, y with
 | .int i, .int j => .ok (.bl (decide (i < j))) m
 | .str a, .str b => .ok (.bl (ltS a b)) m
 | _, _ => .bad
def leD (x y : D) (m : Sto) : Res D := match x, y with
 | .int i, .int j => .ok (.bl (decide (i <= j))) m
 | .str a, .str b => .ok (.bl (!ltS b a)) m
 | _, _ => .bad
def gtD (x y : D) (m : Sto) : Res D := match x, y with
 | .int i, .int j => .ok (.bl (decide (j < i))) m
 | _, _ => .bad
def geD (x y : D) (m : Sto) : Res D := match x, y with
 | .int i, .int j => .ok (.bl (decide (j <= i))) m
 | _, _ => .bad
def isB (x y : D) : Option Bool := match x, y with
 | .bl a, .bl b => some (a == b)
 | .non, .non => some true
 | _, .non => some false
 | _, _ => none
def isD (x y : D) (m : Sto) : Res D := match isB x y with
 | some b => .ok (.bl b) m
 | none => .bad
def isntD (x y : D) (m : Sto) : Res D := match isB x y with
 | some b => .ok (.bl (!b)) m
 | none => .bad
section
variable {X : Cx} {K : PySem.W.Frag} {cl : Str -> Addr} {ex : XD}
theorem op_le_str : OpR X (compareOp .LtE) (fun x y H Q => ∃ i j, x = .str i /\ y = .str j /\ Q (.bl (!ltS j i)) H) := by
 intro pins s σ H x y v u Q I rx ry h
 obtain ⟨i, j, rfl, rfl, q⟩ := h
 obtain ⟨t, rfl⟩ := rx
 obtain ⟨t', rfl⟩ := ry
 exact PySem.P.le_str (fin_bl I q rfl)
def rLtA : R2 := fun x y H Q => (rI0 (fun i j => .bl (decide (i < j)))) x y H Q ∨ ∃ i j, x = .str i /\ y = .str j /\ Q (.bl (decide (i.cps.toList < j.cps.toList))) H
def rLeA : R2 := fun x y H Q => (rI0 (fun i j => .bl (decide (i <= j)))) x y H Q ∨ ∃ i j, x = .str i /\ y = .str j /\ Q (.bl (!ltS j i)) H
theorem op_ltA : OpR X (compareOp .Lt) rLtA := OpR.or op_lt op_lt_str
theorem op_leA : OpR X (compareOp .LtE) rLeA := OpR.or op_le op_le_str
theorem od_lt : OpD K cl ex rLtA ltD := fun α m H x y vx vy Q W rx ry h => by
 unfold ltD at h
 split at h
 ·rw [Rep] at rx ry; exact .inl ⟨_, _, rx, ry, PQ.ok W h _ repB⟩
 ·rw [Rep] at rx ry; exact .inr ⟨_, _, rx, ry, PQ.ok W h _ repB⟩
 ·exact h.elim
theorem od_le : OpD K cl ex rLeA leD := fun α m H x y vx vy Q W rx ry h => by
 unfold leD at h
 split at h
 ·rw [Rep] at rx ry; exact .inl ⟨_, _, rx, ry, PQ.ok W h _ repB⟩
 ·rw [Rep] at rx ry; exact .inr ⟨_, _, rx, ry, PQ.ok W h _ repB⟩
 ·exact h.elim
theorem od_gt : OpD K cl ex (rI0 (fun i j => .bl (decide (j < i)))) gtD := fun α m H x y vx vy Q W rx ry h => by
 unfold gtD at h
 split at h
 ·rw [Rep] at rx ry; exact ⟨_, _, rx, ry, PQ.ok W h _ repB⟩
 ·exact h.elim
theorem od_ge : OpD K cl ex (rI0 (fun i j => .bl (decide (j <= i)))) geD := fun α m H x y vx vy Q W rx ry h => by
 unfold geD at h
 split at h
 ·rw [Rep] at rx ry; exact ⟨_, _, rx, ry, PQ.ok W h _ repB⟩
 ·exact h.elim
def rIs (f : Bool -> Bool) : R2 := fun x y H Q => (y = .non /\ Q (.bl (f (decide (x = .non)))) H) ∨ ∃ b c, x = .bl b /\ y = .bl c /\ Q (.bl (f (b == c))) H
theorem op_isA : OpR X (compareOp .Is) (rIs id) := OpR.or op_isN op_isT
def isNon : D -> Bool
 | .non => true
 | _ => false
theorem rep_non {α : List Addr} {H : Hp} {x : D} {vx : V} (rx : Rep K α H x vx) : decide (vx = .non) = isNon x := by
 cases x <;> rw [Rep] at rx
 case ob => obtain ⟨_, _, rfl⟩ := rx; rfl
 case tup => obtain ⟨_, _, rfl, _⟩ := rx; rfl
 case lst => obtain ⟨_, _, rfl, _⟩ := rx; rfl
 case scr => obtain ⟨_, _, rfl, _⟩ := rx; rfl
 all_goals (subst rx; rfl)
theorem isB_use {α : List Addr} {H : Hp} {x y : D} {vx vy : V} {b : Bool} {f : Bool -> Bool} {Q : VK} (e : isB x y = some b) (rx : Rep K α H x vx) (ry : Rep K α H y vy) (q : Q (.bl (f b)) H) : rIs f vx vy H Q := by
 unfold isB at e
 split at e
 ·rw [Rep] at rx ry
  exact .inr ⟨_, _, rx, ry, by rw [Option.some.inj e]; exact q⟩
 ·have h := rep_non rx
  rw [Rep] at ry
  exact .inl ⟨ry, by rw [h]; show Q (.bl (f true)) H; rw [Option.some.inj e]; exact q⟩
 ·rename_i hn
  have h := rep_non rx
  rw [Rep] at ry
  refine .inl ⟨ry, ?_⟩
  have : isNon x = false := by
   cases x with
   | non => exact (hn rfl).elim
   | _ => rfl
  rw [h, this, Option.some.inj e]
  exact q
 ·cases e
theorem od_is : OpD K cl ex (rIs id) isD := fun α m H x y vx vy Q W rx ry h => by
 unfold isD at h
 split at h
 ·exact isB_use (f := id) ‹_› rx ry (PQ.ok W h _ repB)
 ·exact h.elim
end
section
variable {K : PySem.W.Frag} {cl : Str -> Addr} {ex : XD} {α : List Addr} {m : Sto} {H : Hp}
theorem Wd.lst (W : Wd K cl α m H) {k : Nat} {a : Addr} {ds : List D} (h1 : α[k]? = some a) (h2 : m[k]? = some (.lst ds)) : ∃ xs, H a = some (.lst xs) /\ RepL K α H ds xs := W.at' k a _ h1 h2
theorem Wd.dct (W : Wd K cl α m H) {k : Nat} {a : Addr} {ds : List (L2.Key × D)} (h1 : α[k]? = some a) (h2 : m[k]? = some (.dct ds)) : ∃ xs, H a = some (.dK xs) /\ RepKV K α H ds xs := W.at' k a _ h1 h2
theorem Wd.set (W : Wd K cl α m H) {k : Nat} {a : Addr} {u : HO} {o : MO} (h1 : α[k]? = some a) (h2 : ∀ _ : Ext α H α (upd H a u), MoRep K cl α (upd H a u) a o) (hn : autoParam (∀ o v, H a ≠ some (.frz o v)) AutoP.a5._auto_1) : Wd K cl α (m.set k o) (upd H a u) /\ Ext α H α (upd H a u) := by
 have ha : a ∈ α := List.mem_of_getElem? h1
 have E : Ext α H α (upd H a u) := by
  refine ⟨⟨[], by simp, fun _ h => nomatch h⟩, fun b o h n => by rw [upd_ne (fun z => n (by rw [z]; exact ha))]; exact h, fun b hb => ?_, fun b o v q => by rw [upd_ne fun z => hn o v (by rw [<- z]; exact q)]; exact q⟩
  by_cases hba : b = a
  ·rw [hba, upd_same]; exact fun z => nomatch z
  ·rw [upd_ne hba]; exact W.has hb
 refine ⟨⟨by rw [List.length_set]; exact W.len, W.nd, fun j b o' e1 e2 => ?_⟩, E⟩
 by_cases hj : k = j
 ·subst hj
  rw [h1] at e1
  cases e1
  have hk : k < m.length := by rw [<- W.len]; exact (List.getElem?_eq_some_iff.mp h1).1
  rw [List.getElem?_set_self hk] at e2
  cases e2
  exact h2 E
 ·rw [List.getElem?_set_ne hj] at e2
  have hne : b ≠ a := fun z => by
   subst z
   obtain ⟨hk, e3⟩ := List.getElem?_eq_some_iff.mp h1
   obtain ⟨hk2, e4⟩ := List.getElem?_eq_some_iff.mp e1
   exact hj ((List.getElem_inj W.nd).mp (e3.trans e4.symm))
  exact (W.at' j b o' e1 e2).mono W E fun o h => by rw [upd_ne hne]; exact h
end
theorem RepL.atI {K : PySem.W.Frag} {α : List Addr} {H : Hp} {ds : List D} {vs : List V} {i : Int} {d : D} (r : RepL K α H ds vs) (h : L2.atI ds i = some d) : ∃ v, L2.atI vs i = some v /\ Rep K α H d v := by
 unfold L2.atI at h ⊢
 rw [r.length] at h
 cases e : ixN vs.length i with
 | none => rw [e] at h; cases h
 | some j =>
  rw [e] at h
  exact r.get (i := j) h
def valD (kvs : List (L2.Key × D)) (k : L2.Key) : Option D := match kvs with
 | [] => none
 | p :: r => if p.1 = k then some p.2 else valD r k
def putD (kvs : List (L2.Key × D)) (k : L2.Key) (d : D) : List (L2.Key × D) := match kvs with
 | [] => [(k, d)]
 | p :: r => if p.1 = k then (p.1, d) :: r.map (fun q => if q.1 = k then (q.1, d) else q) else p :: putD r k d
theorem RepKV.val {K : PySem.W.Frag} {α : List Addr} {H : Hp} {k : L2.Key} : ∀ {ds : List (L2.Key × D)} {vs : List (L2.Key × V)}, RepKV K α H ds vs -> (∀ d, valD ds k = some d -> ∃ v, valV vs k = some v /\ Rep K α H d v) /\ (valD ds k = none -> valV vs k = none)
 | [], _, h => by
  cases (show _ = [] from h)
  exact ⟨fun d e => (nomatch e), fun _ => rfl⟩
 | p :: r, _, ⟨v, r', e, h1, h2⟩ => by
  subst e
  have ih := RepKV.val (k := k) h2
  unfold valD
  by_cases hk : p.1 = k
  ·rw [if_pos hk, valV_pos hk]
   exact ⟨fun d e => by cases e; exact ⟨v, rfl, h1⟩, fun e => nomatch e⟩
  ·rw [if_neg hk, valV_neg hk]
   exact ih
theorem RepKV.length {K : PySem.W.Frag} {α : List Addr} {H : Hp} : ∀ {ds : List (L2.Key × D)} {vs : List (L2.Key × V)}, RepKV K α H ds vs -> ds.length = vs.length
 | [], _, h => by
  have h : _ = [] := h
  subst h; rfl
 | p :: r, _, ⟨v, r', e, h1, h2⟩ => by subst e; rw [List.length_cons, List.length_cons, RepKV.length h2]
theorem RepKV.map {K : PySem.W.Frag} {α : List Addr} {H : Hp} {k : L2.Key} {d : D} {v : V} (r : Rep K α H d v) : ∀ {ds : List (L2.Key × D)} {vs : List (L2.Key × V)}, RepKV K α H ds vs -> RepKV K α H (ds.map fun q => if q.1 = k then (q.1, d) else q) (vs.map fun q => if q.1 = k then (q.1, v) else q)
 | [], _, h => by
  have h : _ = [] := h
  subst h; rfl
 | p :: t, _, ⟨w, r', e, h1, h2⟩ => by
  subst e
  rw [List.map_cons, List.map_cons]
  by_cases hk : p.1 = k
  ·rw [if_pos hk, if_pos hk]
   exact ⟨v, _, rfl, r, RepKV.map r h2⟩
  ·rw [if_neg hk, if_neg hk]
   exact ⟨w, _, rfl, h1, RepKV.map r h2⟩
theorem RepKV.put {K : PySem.W.Frag} {α : List Addr} {H : Hp} {k : L2.Key} {d : D} {v : V} (r : Rep K α H d v) : ∀ {ds : List (L2.Key × D)} {vs : List (L2.Key × V)}, RepKV K α H ds vs -> RepKV K α H (putD ds k d) (putK vs k v)
 | [], _, h => by
  have h : _ = [] := h
  subst h
  exact ⟨v, [], rfl, r, rfl⟩
 | p :: t, _, ⟨w, r', e, h1, h2⟩ => by
  subst e
  unfold putD
  by_cases hk : p.1 = k
  ·rw [if_pos hk]
   have e2 : putK ((p.1, w) :: r') k v = (p.1, v) :: r'.map fun q => if q.1 = k then (q.1, v) else q := by
    unfold putK
    rw [if_pos (by simp [hk]), List.map_cons, if_pos hk]
   rw [e2]
   exact ⟨v, _, rfl, r, RepKV.map r h2⟩
  ·rw [if_neg hk]
   have ih := RepKV.put (k := k) r h2
   have e2 : putK ((p.1, w) :: r') k v = (p.1, w) :: putK r' k v := by
    unfold putK
    by_cases ha : (r'.any fun kv => decide (kv.1 = k)) = true
    ·rw [if_pos (by rw [List.any_cons, ha, Bool.or_true]), if_pos ha, List.map_cons, if_neg hk]
    ·rw [if_neg ha, if_neg (by rw [List.any_cons]; simp only [decide_eq_false hk, Bool.false_or]; exact ha)]
     rfl
   rw [e2]
   exact ⟨w, _, rfl, h1, ih⟩
def opt {τ : Type} (o : Option τ) (m : Sto) : Res τ := match o with
 | some d => .ok d m
 | none => .bad
def ixD (x y : D) (m : Sto) : Res D := match x, y with
 | .tup ds, .int i => opt (L2.atI ds i) m
 | .lst ds, .int i => opt (L2.atI ds i) m
 | .str z, .int i => if z.length <= sizeLine then opt ((L2.atI z.cps.toList i).map fun c => D.str ⟨#[c]⟩) m else .bad
 | .ob k, .int i => match m[k]? with
  | some (.lst ds) => opt (L2.atI ds i) m
  | some (.dct kvs) => opt (valD kvs (.inl i)) m
  | _ => .bad
 | .ob k, .str z => match m[k]? with
  | some (.dct kvs) => opt (valD kvs (.inr z)) m
  | _ => .bad
 | _, _ => .bad
section
variable {X : Cx} {K : PySem.W.Frag} {cl : Str -> Addr} {ex : XD}
def rIxD : R2 := fun x y H Q => ∃ a v, x = .ref a /\ DGet H a y (some v) /\ Q v H
theorem ix_dict (hu : X.A.units + 1 < cLine) : IxR X rIxD := by
 intro value slice pins s σ H x y v u Q I rx ry h hs
 obtain ⟨a, w, rfl, g, q⟩ := h
 cases rx
 have hT := dict_typeIs I g
 unfold subscriptTail
 refine wpAny_bind ?_
 rw [getitemInPython_of_ne hT.not_modules]
 refine wpAny_bind (wpAny_specialOf hT PySem.F.slot_dict_getitem.lookup ?_)
 have fin : wpAny (model X.prog X.w) X.A (subscripted slice false (.ref a) u) (fun r s₃ => wpAny (model X.prog X.w) X.A (letTemporaryGo value (.ref a) r >>= fun _ => pure r) (EP X pins σ Q) X.xe s₃) X.xe s := by
  rw [hs]
  exact wpAny_operating (wpAny_mono (d_getItem hu I g ry fun w' s3 I3 rw' => (⟨w, H, I3, rw', q⟩ : EP X pins σ Q w' s3)) (fun r s₃ h₃ => wpAny_bind (wpAny_letTemporaryGo (wpAny_pure h₃))) fun _ _ x => x)
 first
  | exact wpAny_pure (wpAny_bind fin)
  | exact wpAny_bind (wpAny_pure (wpAny_bind fin))
  | exact wpAny_bind fin
def rIxA (K : PySem.W.Frag) : R2 := fun x y H Q => rIx K x y H Q ∨ rIxD x y H Q
theorem ix_A (hu : X.A.units + 1 < cLine) : IxR X (rIxA X.K) := IxR.or ix_seq (ix_dict hu)
theorem opt_use {τ : Type} {o : Option τ} {α : List Addr} {m : Sto} {H : Hp} {R : RD τ} (h : PQ K cl ex (opt o m) α H R) : ∃ d, o = some d /\ PQ K cl ex (.ok d m) α H R := by
 cases o with
 | none => exact h.elim
 | some d => exact ⟨d, rfl, h⟩
theorem od_ix : OpD K cl ex (rIxA K) ixD := fun α m H x y vx vy Q W rx ry h => by
 unfold ixD at h
 split at h
 ·obtain ⟨d, e, h⟩ := opt_use h
  rw [Rep] at rx
  rw [Rep] at ry
  obtain ⟨a, xs, rfl, h1, r1⟩ := rx
  obtain ⟨v, e2, rv⟩ := r1.atI e
  exact .inl (.inr (.inl ⟨a, xs, _, v, rfl, ry, h1.sq, e2, PQ.ok W h _ rv⟩))
 ·obtain ⟨d, e, h⟩ := opt_use h
  rw [Rep] at rx
  rw [Rep] at ry
  obtain ⟨a, xs, rfl, _, h1, r1⟩ := rx
  obtain ⟨v, e2, rv⟩ := r1.atI e
  exact .inl (.inl ⟨a, xs, _, v, rfl, ry, .inl h1, e2, PQ.ok W h _ rv⟩)
 ·obtain ⟨hc, h⟩ := PQ.if h
  obtain ⟨d, e, h⟩ := opt_use h
  rw [Rep] at rx
  rw [Rep] at ry
  obtain ⟨c, e2, rfl⟩ := Option.map_eq_some_iff.mp e
  exact .inl (.inr (.inr ⟨_, _, c, rx, ry, hc, e2, PQ.ok W h _ repS⟩))
 ·rw [Rep] at rx
  rw [Rep] at ry
  obtain ⟨a, ha, rfl⟩ := rx
  split at h
  ·obtain ⟨d, e, h⟩ := opt_use h
   obtain ⟨xs, h1, r1⟩ := W.lst ha ‹_›
   obtain ⟨v, e2, rv⟩ := r1.atI e
   exact .inl (.inl ⟨a, xs, _, v, rfl, ry, SqL.of h1, e2, PQ.ok W h _ rv⟩)
  ·obtain ⟨d, e, h⟩ := opt_use h
   obtain ⟨xs, h1, r1⟩ := W.dct ha ‹_›
   obtain ⟨v, e2, rv⟩ := (RepKV.val r1).1 d e
   refine .inr ⟨a, v, rfl, ?_, PQ.ok W h _ rv⟩
   rw [ry, <- e2]
   exact DGet.k (k := .inl _) h1
  ·exact h.elim
 ·rw [Rep] at rx
  rw [Rep] at ry
  obtain ⟨a, ha, rfl⟩ := rx
  split at h
  ·obtain ⟨d, e, h⟩ := opt_use h
   obtain ⟨xs, h1, r1⟩ := W.dct ha ‹_›
   obtain ⟨v, e2, rv⟩ := (RepKV.val r1).1 d e
   refine .inr ⟨a, v, rfl, ?_, PQ.ok W h _ rv⟩
   rw [ry, <- e2]
   exact DGet.k (k := .inr _) h1
  ·exact h.elim
 ·exact h.elim
end
def cutD {τ : Type} (xs : List τ) (lo hi : Option Int) : List τ := (xs.drop (HT.sIx xs.length 0 lo)).take (HT.sIx xs.length xs.length hi - HT.sIx xs.length 0 lo)
theorem RepL.take {K : PySem.W.Frag} {α : List Addr} {H : Hp} : ∀ {ds : List D} {vs : List V} (n : Nat), RepL K α H ds vs -> RepL K α H (ds.take n) (vs.take n)
 | [], _, _, h => by rw [RepL] at h; subst h; simp [RepL]
 | _ :: _, _, 0, h => by simp [RepL]
 | _ :: _, _, n + 1, h => by
  rw [RepL] at h
  obtain ⟨v, r, rfl, a, b⟩ := h
  rw [List.take_succ_cons, List.take_succ_cons, RepL]
  exact ⟨v, _, rfl, a, RepL.take n b⟩
theorem RepL.drop {K : PySem.W.Frag} {α : List Addr} {H : Hp} : ∀ {ds : List D} {vs : List V} (n : Nat), RepL K α H ds vs -> RepL K α H (ds.drop n) (vs.drop n)
 | _, _, 0, h => h
 | [], _, n + 1, h => by rw [RepL] at h; subst h; simp [RepL]
 | _ :: _, _, n + 1, h => by
  rw [RepL] at h
  obtain ⟨v, r, rfl, a, b⟩ := h
  exact RepL.drop n b
theorem RepL.cut {K : PySem.W.Frag} {α : List Addr} {H : Hp} {ds : List D} {vs : List V} (lo hi : Option Int) (r : RepL K α H ds vs) : RepL K α H (cutD ds lo hi) (cutV vs lo hi) := by
 unfold cutD cutV
 rw [r.length]
 exact RepL.take _ (RepL.drop _ r)
abbrev OV := En -> Sto -> Res (Option Int)
def oNone : OV := fun _ m => .ok none m
def oSome (f : EV) : OV := fun ρ m => (f ρ m).bind fun d m1 => match d with
 | .int i => .ok (some i) m1
 | _ => .bad
def tDO (K : PySem.W.Frag) (cl : Str -> Addr) (ex : XD) (f : OV) : TO := fun σ H Q => ∃ α ρ m, Wd K cl α m H /\ RepE K α H ρ σ /\ PQ K cl ex (f ρ m) α H fun d _ _ H' => Q d H'
structure QO (X : Cx) (cl : Str -> Addr) (ex : XD) (e : Option Expr) (f : OV) : Prop where
 out : PO X e (tDO X.K cl ex f)
theorem PO.weak {X : Cx} {e : Option Expr} {t t' : TO} (h : PO X e t) (w : ∀ σ H Q, t' σ H Q -> t σ H Q) : PO X e t' := fun pins s σ H Q I q => h pins s σ H Q I (w σ H Q q)
def slD (x : D) (lo hi : Option Int) (m : Sto) : Res D := match x with
 | .tup ds => if HT.sIx ds.length 0 lo = 0 /\ HT.sIx ds.length ds.length hi = ds.length then .bad else .ok (.tup (cutD ds lo hi)) m
 | .lst ds => .ok (.lst (cutD ds lo hi)) m
 | .scr ds => .ok (.lst (cutD ds lo hi)) m
 | .str z => if z.length <= sizeLine then .ok (.str (Txt.slice z lo hi)) m else .bad
 | .ob k => match m[k]? with
  | some (.lst ds) => .ok (.lst (cutD ds lo hi)) m
  | _ => .bad
 | _ => .bad
def eSl (f : EV) (lo hi : OV) : EV := fun ρ m => (f ρ m).bind fun x m1 => (lo ρ m1).bind fun l m2 => (hi ρ m2).bind fun h m3 => slD x l h m3
section
variable {X : Cx} {cl : Str -> Addr} {ex : XD} {e : Expr} {fa : EV} {lo hi : OV} {el eh : Option Expr} {pos p2 : Pos}
theorem qo_none : QO X cl ex none oNone := ⟨PO.weak po_none fun σ H Q hh => ex3 hh fun α ρ m W hr h => PQ.ok W h⟩
theorem qo_some (hq : QE X cl ex e fa) : QO X cl ex (some e) (oSome fa) := ⟨PO.weak (po_some hq.out) fun σ H Q hh => ex3 hh fun α ρ m W hr h => tD.use W hr h fun α1 m1 H1 d v E1 W1 hr1 rv q1 => by
 split at q1
 ·rw [Rep] at rv; exact ⟨_, rv, PQ.ok W1 q1⟩
 ·exact q1.elim⟩
theorem tDO.use {K : PySem.W.Frag} {α : List Addr} {m : Sto} {H : Hp} {ρ : En} {σ : L2.St} {τ : Type} {f : OV} {k : Option Int -> Sto -> Res τ} {R : RD τ} {Q : Option Int -> Hp -> Prop} (W : Wd K cl α m H) (hr : RepE K α H ρ σ) (h : PQ K cl ex ((f ρ m).bind k) α H R)
  (hQ : ∀ α1 m1 H1 d, Ext α H α1 H1 -> Wd K cl α1 m1 H1 -> RepE K α1 H1 ρ σ -> PQ K cl ex (k d m1) α1 H1 R -> Q d H1) : tDO K cl ex f σ H Q :=
 ⟨α, ρ, m, W, hr, PQ.mono (Ext.refl W) h.bind fun d α1 m1 H1 E1 W1 q => hQ α1 m1 H1 d E1 W1 (hr.mono W E1) q⟩
theorem qe_sl (he : QE X cl ex e fa) (hl : QO X cl ex el lo) (hh : QO X cl ex eh hi) : QE X cl ex (.Subscript e (.Slice el eh none p2) pos) (eSl fa lo hi) :=
 ⟨PE.weak (pe_slice (SlR.or sl_tup (SlR.or sl_list sl_txt)) he.out hl.out hh.out) fun σ H Q hh => ex3 hh fun α ρ m W hr h =>
  tD.use W hr h fun α1 m1 H1 d v E1 W1 hr1 rv q1 => tDO.use W1 hr1 q1 fun α2 m2 H2 l E2 W2 hr2 q2 => tDO.use W2 hr2 q2 fun α3 m3 H3 u E3 W3 hr3 q3 => by
   have rv := rv.mono W1 (E2.trans E3)
   unfold slD at q3
   split at q3
   ·split at q3
    ·exact q3.elim
    ·rename_i hn
     rw [Rep] at rv
     obtain ⟨a, xs, rfl, h1, r1⟩ := rv
     refine .inl ⟨a, xs, rfl, h1.sq, by rw [<- r1.length]; exact hn, fun p hp => ?_⟩
     exact PQ.okS W3 (Same.new hp) q3 _ (rep_new_tup W3 hp (r1.cut l u))
   ·rw [Rep] at rv
    obtain ⟨a, xs, rfl, _, h1, r1⟩ := rv
    exact .inr (.inl ⟨a, xs, rfl, .inl h1, fun p hp => PQ.okS W3 (Same.new hp) q3 _ (rep_lst W3 hp (r1.cut l u))⟩)
   ·rw [Rep] at rv
    obtain ⟨a, xs, rfl, h1, r1⟩ := rv
    exact .inr (.inl ⟨a, xs, rfl, h1.sq, fun p hp => PQ.okS W3 (Same.new hp) q3 _ (rep_lst W3 hp (r1.cut l u))⟩)
   ·rw [Rep] at rv
    obtain ⟨hc, q3⟩ := PQ.if q3
    exact .inr (.inr ⟨_, rv, hc, PQ.ok W3 q3 _ repS⟩)
   ·rw [Rep] at rv
    obtain ⟨a, ha, rfl⟩ := rv
    split at q3
    ·obtain ⟨xs, h1, r1⟩ := W3.lst ha ‹_›
     exact .inr (.inl ⟨a, xs, rfl, SqL.of h1, fun p hp => PQ.okS W3 (Same.new hp) q3 _ (rep_lst W3 hp (r1.cut l u))⟩)
    ·exact q3.elim
   ·exact q3.elim⟩
end
section
variable {X : Cx} {K : PySem.W.Frag} {cl : Str -> Addr} {ex : XD} {α : List Addr} {m : Sto} {H : Hp}
theorem RepL.one_of {d : D} {vs : List V} (h : RepL K α H [d] vs) : ∃ v, vs = [v] /\ Rep K α H d v := by
 rw [RepL] at h
 obtain ⟨v, r, rfl, a, b⟩ := h
 rw [RepL] at b
 subst b
 exact ⟨v, rfl, a⟩
theorem RepL.two_of {d e : D} {vs : List V} (h : RepL K α H [d, e] vs) : ∃ v w, vs = [v, w] /\ Rep K α H d v /\ Rep K α H e w := by
 rw [RepL] at h
 obtain ⟨v, r, rfl, a, b⟩ := h
 obtain ⟨w, rfl, c⟩ := b.one_of
 exact ⟨v, w, rfl, a, c⟩
def lenF (ds : List D) (m : Sto) : Res D := match ds with
 | [.tup xs] => .ok (.int xs.length) m
 | [.lst xs] => .ok (.int xs.length) m
 | [.scr xs] => .ok (.int xs.length) m
 | [.str z] => if z.length <= sizeLine then .ok (.int z.length) m else .bad
 | [.ob k] => match m[k]? with
  | some (.lst xs) => .ok (.int xs.length) m
  | some (.dct xs) => .ok (.int xs.length) m
  | _ => .bad
 | _ => .bad
def rLen (K : PySem.W.Frag) : List V -> Hp -> VK -> Prop := fun xs H Q => (∃ p ys, xs = [.ref p] /\ (SqL K H p ys ∨ SqT K H p ys) /\ Q (.int ys.length) H) ∨ (∃ z, xs = [.str z] /\ z.length <= sizeLine /\ Q (.int z.length) H) ∨ ∃ a kvs, xs = [V.ref a] /\ H a = some (.dK kvs) /\ Q (.int kvs.length) H
theorem call_lenK : CallR X (.builtin "len") (fun xs H Q => ∃ a kvs, xs = [V.ref a] /\ H a = some (.dK kvs) /\ Q (.int kvs.length) H) := by
 intro pins s σ H xs us Q I r h
 obtain ⟨a, kvs, rfl, e, q⟩ := h
 obtain ⟨u, rfl, ru⟩ := vals1 r
 cases ru
 exact d_len I (.inl e) fun t s' I' => ⟨.int kvs.length, H, I', ⟨t, rfl⟩, q⟩
theorem call_lenA : CallR X (.builtin "len") (rLen X.K) := CallR.or call_len_seq (CallR.or call_len_str call_lenK)
theorem fd_len : FnD K cl ex (rLen K) lenF := fun α m H x vx Q W rx h => by
 unfold lenF at h
 split at h
 ·obtain ⟨v, rfl, rv⟩ := rx.one_of
  rw [Rep] at rv
  obtain ⟨a, xs, rfl, h1, r1⟩ := rv
  exact .inl ⟨a, xs, rfl, .inr h1.sq, by rw [<- r1.length]; exact PQ.ok W h _ repI⟩
 ·obtain ⟨v, rfl, rv⟩ := rx.one_of
  rw [Rep] at rv
  obtain ⟨a, xs, rfl, _, h1, r1⟩ := rv
  exact .inl ⟨a, xs, rfl, .inl (.inl h1), by rw [<- r1.length]; exact PQ.ok W h _ repI⟩
 ·obtain ⟨v, rfl, rv⟩ := rx.one_of
  rw [Rep] at rv
  obtain ⟨a, xs, rfl, h1, r1⟩ := rv
  exact .inl ⟨a, xs, rfl, .inl h1.sq, by rw [<- r1.length]; exact PQ.ok W h _ repI⟩
 ·obtain ⟨v, rfl, rv⟩ := rx.one_of
  rw [Rep] at rv
  subst rv
  obtain ⟨hc, h⟩ := PQ.if h
  exact .inr (.inl ⟨_, rfl, hc, PQ.ok W h _ repI⟩)
 ·obtain ⟨v, rfl, rv⟩ := rx.one_of
  rw [Rep] at rv
  obtain ⟨a, ha, rfl⟩ := rv
  split at h
  ·obtain ⟨xs, h1, r1⟩ := W.lst ha ‹_›
   exact .inl ⟨a, xs, rfl, .inl (SqL.of h1), by rw [<- r1.length]; exact PQ.ok W h _ repI⟩
  ·obtain ⟨xs, h1, r1⟩ := W.dct ha ‹_›
   exact .inr (.inr ⟨a, xs, rfl, h1, by rw [<- r1.length]; exact PQ.ok W h _ repI⟩)
  ·exact h.elim
 ·exact h.elim
def intF (ds : List D) (m : Sto) : Res D := match ds with
 | [.int i] => .ok (.int i) m
 | [.bl b] => .ok (.int (if b then 1 else 0)) m
 | [.str z] => match PySem.intText? z with
  | some n => if z.length <= 640 then .ok (.int n) m else .bad
  | none => .bad
 | _ => .bad
def rInt : List V -> Hp -> VK -> Prop := fun xs H Q => ((∃ i, xs = [.int i] /\ Q (.int i) H) ∨ ∃ k, xs = [.bl k] /\ Q (.int (if k then 1 else 0)) H) ∨ ∃ z n, xs = [.str z] /\ PySem.intText? z = some n /\ z.length <= 640 /\ Q (.int n) H
theorem call_intA : CallR X (.type "int") rInt := CallR.or call_int1 call_int_txt
theorem fd_int : FnD K cl ex rInt intF := fun α m H x vx Q W rx h => by
 unfold intF at h
 split at h
 ·obtain ⟨v, rfl, rv⟩ := rx.one_of
  rw [Rep] at rv; subst rv
  exact .inl (.inl ⟨_, rfl, PQ.ok W h _ repI⟩)
 ·obtain ⟨v, rfl, rv⟩ := rx.one_of
  rw [Rep] at rv; subst rv
  exact .inl (.inr ⟨_, rfl, PQ.ok W h _ repI⟩)
 ·obtain ⟨v, rfl, rv⟩ := rx.one_of
  rw [Rep] at rv; subst rv
  split at h
  ·obtain ⟨hc, h⟩ := PQ.if h
   exact .inr ⟨_, _, rfl, ‹_›, hc, PQ.ok W h _ repI⟩
  ·exact h.elim
 ·exact h.elim
def strF (ds : List D) (m : Sto) : Res D := match ds with
 | [.int i] => if i.natAbs.log2 < 1920 then .ok (.str (toString i)) m else .bad
 | _ => .bad
theorem fd_str : FnD K cl ex (fun xs H Q => ∃ i, xs = [.int i] /\ i.natAbs.log2 < 1920 /\ Q (.str (toString i)) H) strF := fun α m H x vx Q W rx h => by
 unfold strF at h
 split at h
 ·obtain ⟨v, rfl, rv⟩ := rx.one_of
  rw [Rep] at rv; subst rv
  obtain ⟨hc, h⟩ := PQ.if h
  exact ⟨_, rfl, hc, PQ.ok W h _ repS⟩
 ·exact h.elim
def absF (ds : List D) (m : Sto) : Res D := match ds with
 | [.int i] => .ok (.int (if i < 0 then -i else i)) m
 | _ => .bad
theorem fd_abs : FnD K cl ex (fun xs H Q => ∃ i, xs = [.int i] /\ Q (.int (if i < 0 then -i else i)) H) absF := fun α m H x vx Q W rx h => by
 unfold absF at h
 split at h
 ·obtain ⟨v, rfl, rv⟩ := rx.one_of
  rw [Rep] at rv; subst rv
  exact ⟨_, rfl, PQ.ok W h _ repI⟩
 ·exact h.elim
def max2F (ds : List D) (m : Sto) : Res D := match ds with
 | [.int i, .int j] => .ok (.int (if j > i then j else i)) m
 | _ => .bad
def min2F (ds : List D) (m : Sto) : Res D := match ds with
 | [.int i, .int j] => .ok (.int (if j < i then j else i)) m
 | _ => .bad
theorem fd_min2 : FnD K cl ex (fun xs H Q => ∃ i j, xs = [.int i, .int j] /\ Q (.int (if j < i then j else i)) H) min2F := fun α m H x vx Q W rx h => by
 unfold min2F at h
 split at h
 ·obtain ⟨v, w, rfl, rv, rw'⟩ := rx.two_of
  rw [Rep] at rv rw'; subst rv rw'
  exact ⟨_, _, rfl, PQ.ok W h _ repI⟩
 ·exact h.elim
def tupF (ds : List D) (m : Sto) : Res D := match ds with
 | [.lst xs] => .ok (.tup xs) m
 | [.tup xs] => .ok (.tup xs) m
 | [.ob k] => match m[k]? with
  | some (.lst xs) => .ok (.tup xs) m
  | _ => .bad
 | [.str z] => if z.cps.size <= sizeLine then .ok (.tup (signs z)) m else .bad
 | _ => .bad
def rTup (K : PySem.W.Frag) : List V -> Hp -> VK -> Prop := fun xs H Q => (∃ p ys, xs = [.ref p] /\ ((SqL K H p ys /\ ∀ l, H l = none -> Q (.ref l) (upd H l (.tup ys))) ∨ (SqT K H p ys /\ Q (.ref p) H))) ∨ ∃ z, xs = [.str z] /\ z.cps.size <= sizeLine /\ ∀ l, H l = none -> Q (.ref l) (upd H l (.tup ((List.range z.cps.size).map (sgn z))))
theorem call_tupA (hc : X.calm = true) : CallR X (.type "tuple") (rTup X.K) := CallR.or call_tuple_of (call_tuple_txt hc)
theorem rep_signs {z : Str} : RepL K α H (signs z) ((List.range z.cps.size).map (sgn z)) := by
 unfold signs
 generalize List.range z.cps.size = l
 induction l with
 | nil => simp [RepL]
 | cons i r ih => rw [List.map_cons, List.map_cons, RepL]; exact ⟨_, _, rfl, by rw [Rep]; rfl, ih⟩
theorem fd_tup : FnD K cl ex (rTup K) tupF := fun α m H x vx Q W rx h => by
 unfold tupF at h
 split at h
 ·obtain ⟨v, rfl, rv⟩ := rx.one_of
  rw [Rep] at rv
  obtain ⟨a, xs, rfl, _, h1, r1⟩ := rv
  exact .inl ⟨a, xs, rfl, .inl ⟨.inl h1, fun l hl => PQ.okS W (Same.new hl) h _ (rep_new_tup W hl r1)⟩⟩
 ·obtain ⟨v, rfl, rv⟩ := rx.one_of
  have rv2 := rv
  rw [Rep] at rv
  obtain ⟨a, xs, rfl, h1, r1⟩ := rv
  exact .inl ⟨a, xs, rfl, .inr ⟨h1.sq, PQ.ok W h _ rv2⟩⟩
 ·obtain ⟨v, rfl, rv⟩ := rx.one_of
  rw [Rep] at rv
  obtain ⟨a, ha, rfl⟩ := rv
  split at h
  ·obtain ⟨xs, h1, r1⟩ := W.lst ha ‹_›
   exact .inl ⟨a, xs, rfl, .inl ⟨SqL.of h1, fun l hl => PQ.okS W (Same.new hl) h _ (rep_new_tup W hl r1)⟩⟩
  ·exact h.elim
 ·obtain ⟨v, rfl, rv⟩ := rx.one_of
  rw [Rep] at rv; subst rv
  obtain ⟨hc, h⟩ := PQ.if h
  exact .inr ⟨_, rfl, hc, fun l hl => PQ.okS W (Same.new hl) h _ (rep_new_tup W hl rep_signs)⟩
 ·exact h.elim
def asInts : List D -> Option (List Int)
 | [] => some []
 | .int i :: r => (asInts r).map (i :: ·)
 | _ => none
def asBls : List D -> Option (List Bool)
 | [] => some []
 | .bl i :: r => (asBls r).map (i :: ·)
 | _ => none
def asStrs : List D -> Option (List Str)
 | [] => some []
 | .str i :: r => (asStrs r).map (i :: ·)
 | _ => none
theorem asInts_use : ∀ {ds : List D} {ns : List Int} {vs : List V}, asInts ds = some ns -> RepL K α H ds vs -> vs = ns.map V.int
 | [], ns, vs, e, r => by cases e; rw [RepL] at r; exact r
 | d :: t, ns, vs, e, r => by
  unfold asInts at e
  split at e
  ·exact absurd ‹d :: t = []› (by simp)
  ·rename_i i t' e1
   cases e1
   obtain ⟨ms, e2, rfl⟩ := Option.map_eq_some_iff.mp e
   rw [RepL] at r
   obtain ⟨v, r', rfl, a, b⟩ := r
   rw [Rep] at a
   subst a
   rw [asInts_use e2 b]
   rfl
  ·cases e
theorem asBls_use : ∀ {ds : List D} {ns : List Bool} {vs : List V}, asBls ds = some ns -> RepL K α H ds vs -> vs = ns.map V.bl
 | [], ns, vs, e, r => by cases e; rw [RepL] at r; exact r
 | d :: t, ns, vs, e, r => by
  unfold asBls at e
  split at e
  ·exact absurd ‹d :: t = []› (by simp)
  ·rename_i i t' e1
   cases e1
   obtain ⟨ms, e2, rfl⟩ := Option.map_eq_some_iff.mp e
   rw [RepL] at r
   obtain ⟨v, r', rfl, a, b⟩ := r
   rw [Rep] at a
   subst a
   rw [asBls_use e2 b]
   rfl
  ·cases e
theorem asStrs_use : ∀ {ds : List D} {ns : List Str} {vs : List V}, asStrs ds = some ns -> RepL K α H ds vs -> vs = ns.map V.str
 | [], ns, vs, e, r => by cases e; rw [RepL] at r; exact r
 | d :: t, ns, vs, e, r => by
  unfold asStrs at e
  split at e
  ·exact absurd ‹d :: t = []› (by simp)
  ·rename_i i t' e1
   cases e1
   obtain ⟨ms, e2, rfl⟩ := Option.map_eq_some_iff.mp e
   rw [RepL] at r
   obtain ⟨v, r', rfl, a, b⟩ := r
   rw [Rep] at a
   subst a
   rw [asStrs_use e2 b]
   rfl
  ·cases e
def lOf (d : D) (m : Sto) : Option (List D) := match d with
 | .lst xs => some xs
 | .ob k => match m[k]? with
  | some (.lst xs) => some xs
  | _ => none
 | _ => none
theorem lOf_use {d : D} {v : V} {xs : List D} (W : Wd K cl α m H) (e : lOf d m = some xs) (rv : Rep K α H d v) : ∃ p ys, v = .ref p /\ SqL K H p ys /\ RepL K α H xs ys := by
 unfold lOf at e
 split at e
 ·cases e; rw [Rep] at rv; obtain ⟨a, ys, rfl, _, h1, r1⟩ := rv; exact ⟨a, ys, rfl, .inl h1, r1⟩
 ·rw [Rep] at rv
  obtain ⟨a, ha, rfl⟩ := rv
  split at e
  ·cases e; obtain ⟨ys, h1, r1⟩ := W.lst ha ‹_›; exact ⟨a, ys, rfl, SqL.of h1, r1⟩
  ·cases e
 ·cases e
def sumOk (ns : List Int) : Prop := (∀ a, a ∈ ns -> 0 <= a /\ a <= 2 ^ 50) /\ ns.length <= 1000
instance (ns : List Int) : Decidable (sumOk ns) := by unfold sumOk; infer_instance
def allF (ds : List D) (m : Sto) : Res D := match ds with
 | [d] => match (lOf d m).bind asBls with
  | some bs => .ok (.bl (bs.all id)) m
  | none => .bad
 | _ => .bad
theorem fd_all : FnD K cl ex (fun xs H Q => ∃ (l : Addr) (bs : List Bool), xs = [.ref l] /\ SqL K H l (bs.map V.bl) /\ Q (.bl (bs.all id)) H) allF := fun α m H x vx Q W rx h => by
 unfold allF at h
 split at h
 ·split at h
  ·rename_i ns e
   obtain ⟨v, rfl, rv⟩ := rx.one_of
   obtain ⟨xs, e1, e2⟩ := Option.bind_eq_some_iff.mp e
   obtain ⟨p, ys, rfl, h1, r1⟩ := lOf_use W e1 rv
   rw [asBls_use e2 r1] at h1
   exact ⟨p, ns, rfl, h1, PQ.ok W h _ repB⟩
  ·exact h.elim
 ·exact h.elim
end
def eMeth (ty : D -> Sto -> Bool) (g : D -> List D -> Sto -> Res D) (fo : EV) (fr : AV) : EV := fun ρ m => (fo ρ m).bind fun o m1 => if ty o m1 = true then (fr ρ m1).bind fun ds m2 => g o ds m2 else .bad
def MtD (K : PySem.W.Frag) (cl : Str -> Addr) (ex : XD) (r : V -> List V -> Hp -> VK -> Prop) (g : D -> List D -> Sto -> Res D) : Prop :=
 ∀ (α : List Addr) (m : Sto) (H : Hp) (x : D) (xs : List D) (vx : V) (vs : List V) (Q : VK), Wd K cl α m H -> Rep K α H x vx -> RepL K α H xs vs -> PQ K cl ex (g x xs m) α H (fun d α' _ H' => ∀ v, Rep K α' H' d v -> Q v H') -> r vx vs H Q
def isStr (d : D) (_ : Sto) : Bool := match d with
 | .str _ => true
 | _ => false
def isLst (d : D) (m : Sto) : Bool := match d with
 | .lst _ => true
 | .ob k => match m[k]? with
  | some (.lst _) => true
  | _ => false
 | _ => false
def isTup (d : D) (_ : Sto) : Bool := match d with
 | .tup _ => true
 | _ => false
section
variable {X : Cx} {K : PySem.W.Frag} {cl : Str -> Addr} {ex : XD} {α : List Addr} {m : Sto} {H : Hp} {o e : Expr} {es : List Expr} {fo : EV} {fr : AV} {name : Str} {apos cpos : Pos} {T id : String} {r : V -> List V -> Hp -> VK -> Prop} {g : D -> List D -> Sto -> Res D} {ty : D -> Sto -> Bool}
theorem ty_str {d : D} {v : V} (h : isStr d m = true) (W : Wd K cl α m H) (r : Rep K α H d v) : tyV K "str" v H := by
 cases d with
 | str z => rw [Rep] at r; subst r; rfl
 | _ => cases h
theorem ty_lst {d : D} {v : V} (h : isLst d m = true) (W : Wd K cl α m H) (r : Rep K α H d v) : tyV K "list" v H := by
 unfold isLst at h
 split at h
 ·rw [Rep] at r; obtain ⟨a, ys, rfl, _, h1, r1⟩ := r; exact .inl ⟨rfl, ys, .inl h1⟩
 ·rw [Rep] at r
  obtain ⟨a, ha, rfl⟩ := r
  split at h
  ·obtain ⟨ys, h1, _⟩ := W.lst ha ‹_›; exact .inl ⟨rfl, ys, SqL.of h1⟩
  ·cases h
 ·cases h
theorem tBM_of (hty : ∀ {α : List Addr} {m : Sto} {H : Hp} {d : D} {v : V}, ty d m = true -> Wd X.K cl α m H -> Rep X.K α H d v -> tyV X.K T v H) (hd : MtD X.K cl ex r g) : ∀ σ H Q, tD X.K cl ex (eMeth ty g fo fr) σ H Q -> tBM X.K T r (tD X.K cl ex fo) (tDA X.K cl ex fr) σ H Q := fun σ H Q hh => ex3 hh fun α ρ m W hr h =>
 tD.use W hr h fun α1 m1 H1 d v E1 W1 hr1 rv q1 => by
  obtain ⟨ht, q1⟩ := PQ.if q1
  exact ⟨hty ht W1 rv, tDA.use W1 hr1 q1 fun α2 m2 H2 ds vs E2 W2 hr2 rvs q2 => hd α2 m2 H2 d ds v vs Q W2 (rv.mono W1 E2) rvs q2⟩
theorem qe_bm (pa : PlainAttrs T) (slot : Slot T name id) (hty : typeOf (.builtin id) = pure (.type "method_descriptor")) (hm : MtR X id r) (hT : ∀ {α : List Addr} {m : Sto} {H : Hp} {d : D} {v : V}, ty d m = true -> Wd X.K cl α m H -> Rep X.K α H d v -> tyV X.K T v H) (hd : MtD X.K cl ex r g) (ho : QE X cl ex o fo) (ha : QA X cl ex (e :: es) fr)
  (hbase : autoParam (attributeBase o name X.env (eval o X.env) = eval o X.env) AutoP.a3._auto_1)
  (hfew : autoParam (((backTo cpos (starEach (e :: es) X.env)).all (fun x => !x.1) && (backToKw cpos (keywordEach [] X.env)).all (fun x => x.1.isSome)
   && decide ((e :: es).length + ([] : List Keyword).length + (if ([] : List Keyword).isEmpty then 0 else 1) < 30)) = true) AutoP.a3._auto_1)
  (hline : autoParam ((apos.endLine == cpos.line) = true) AutoP.a3._auto_1) (hs : autoParam (starEach (e :: es) X.env = (false, eval e X.env) :: starEach es X.env) AutoP.a3._auto_1) (hplain : autoParam ((backTo cpos (starEach es X.env)).any (·.1) = false) AutoP.a3._auto_1) :
  QE X cl ex (.Call (.Attribute o name apos) (e :: es) [] cpos) (eMeth ty g fo fr) :=
 ⟨PE.weak (pe_bm pa slot hty hm ho.out ha.out hbase hfew hline hs hplain) (tBM_of hT hd)⟩
def joinM (o : D) (ds : List D) (m : Sto) : Res D := match o, ds with
 | .str z, [d] => match (lOf d m).bind asStrs with
  | some ts => if JoinOk z ts = true then .ok (.str (Txt.join z ts)) m else .bad
  | none => .bad
 | _, _ => .bad
theorem md_join : MtD K cl ex (fun x xs H Q => ∃ (z : Str) (l : Addr) (ts : List Str), x = .str z /\ xs = [.ref l] /\ SqL K H l (ts.map V.str) /\ JoinOk z ts = true /\ Q (.str (Txt.join z ts)) H) joinM := fun α m H x xs vx vs Q W rx rxs h => by
 unfold joinM at h
 split at h
 ·split at h
  ·rename_i e
   obtain ⟨hc, h⟩ := PQ.if h
   rw [Rep] at rx
   obtain ⟨v, rfl, rv⟩ := rxs.one_of
   obtain ⟨xs, e1, e2⟩ := Option.bind_eq_some_iff.mp e
   obtain ⟨p, ys, rfl, h1, r1⟩ := lOf_use W e1 rv
   rw [asStrs_use e2 r1] at h1
   exact ⟨_, p, _, rx, rfl, h1, hc, PQ.ok W h _ repS⟩
  ·exact h.elim
 ·exact h.elim
def appendM (o : D) (ds : List D) (m : Sto) : Res D := match o, ds with
 | .ob k, [d] => match m[k]? with
  | some (.lst xs) => if xs.length < sizeLine then .ok .non (m.set k (.lst (xs ++ [d]))) else .bad
  | _ => .bad
 | _, _ => .bad
theorem md_append : MtD K cl ex rAppend appendM := fun α m H x xs vx vs Q W rx rxs h => by
 unfold appendM at h
 split at h
 ·split at h
  ·rename_i k d _ ds e
   obtain ⟨hc, h⟩ := PQ.if h
   rw [Rep] at rx
   obtain ⟨a, ha, rfl⟩ := rx
   obtain ⟨v, rfl, rv⟩ := rxs.one_of
   obtain ⟨ys, h1, r1⟩ := W.lst ha e
   obtain ⟨W2, E2⟩ := W.set (u := .lst (ys ++ [v])) (o := .lst (ds ++ [d])) ha fun E => ⟨_, upd_same, RepL.append (r1.mono W E) (RepL.one (rv.mono W E))⟩
   exact ⟨a, ys, v, rfl, rfl, h1, by rw [<- r1.length]; exact hc, h _ _ E2 W2 _ repN⟩
  ·exact h.elim
 ·exact h.elim
def popM (o : D) (ds : List D) (m : Sto) : Res D := match o, ds with
 | .ob k, [.int i] => match m[k]? with
  | some (.lst xs) => if -(2 ^ 63) <= i /\ i < 2 ^ 63 then match seqIndex? i xs.length with
   | some j => match xs[j]? with
    | some d => .ok d (m.set k (.lst (xs.eraseIdx j)))
    | none => .bad
   | none => .bad else .bad
  | _ => .bad
 | _, _ => .bad
theorem RepL.erase {ds : List D} {vs : List V} (j : Nat) (r : RepL K α H ds vs) : RepL K α H (ds.eraseIdx j) (vs.eraseIdx j) := by
 rw [List.eraseIdx_eq_take_drop_succ, List.eraseIdx_eq_take_drop_succ]
 exact RepL.append (r.take j) (r.drop (j + 1))
theorem md_pop : MtD K cl ex rPopAt popM := fun α m H x xs vx vs Q W rx rxs h => by
 unfold popM at h
 split at h
 ·split at h
  ·rename_i k i _ ds e
   obtain ⟨hc, h⟩ := PQ.if h
   rw [Rep] at rx
   obtain ⟨a, ha, rfl⟩ := rx
   obtain ⟨v, rfl, rv⟩ := rxs.one_of
   rw [Rep] at rv
   subst rv
   obtain ⟨ys, h1, r1⟩ := W.lst ha e
   split at h
   ·rename_i j ej
    split at h
    ·rename_i d ed
     obtain ⟨w, hw, rw'⟩ := r1.get ed
     obtain ⟨W2, E2⟩ := W.set (u := .lst (ys.eraseIdx j)) (o := .lst (ds.eraseIdx j)) ha fun E => ⟨_, upd_same, (r1.mono W E).erase j⟩
     exact ⟨a, ys, i, j, w, rfl, rfl, h1, hc.1, hc.2, by rw [<- r1.length]; exact ej, hw, h _ _ E2 W2 _ (rw'.mono W E2)⟩
    ·exact h.elim
   ·exact h.elim
  ·exact h.elim
 ·exact h.elim
end
section
variable {X : Cx} {K : PySem.W.Frag} {cl : Str -> Addr} {ex : XD} {α : List Addr} {m : Sto} {H : Hp}
def tyN (d : D) (m : Sto) : Option String := match d with
 | .non => some "NoneType"
 | .bl _ => some "bool"
 | .int _ => some "int"
 | .str _ => some "str"
 | .flt _ => some "float"
 | .tup _ => some "tuple"
 | .lst _ => some "list"
 | .ob k => match m[k]? with
  | some (.lst _) => some "list"
  | some (.dct _) => some "dict"
  | _ => none
 | _ => none
def isiB (t n : String) : Bool := t == n || (t == "bool" && n == "int")
def isiD (n : String) (d : D) (m : Sto) : Res D := match tyN d m with
 | some t => .ok (.bl (isiB t n)) m
 | none => .bad
def askTy : List String := ["int", "bool", "str", "tuple", "list", "dict"]
theorem kit_tab {d : D} {t n : String} (h : tyN d m = some t) (hn : n ∈ askTy) : PySem.W.kitOne K (.type t) (.type n) = some (isiB t n) := by
 have ht : t ∈ ["NoneType", "bool", "int", "str", "float", "tuple", "list", "dict"] := by
  unfold tyN at h
  split at h <;> first | (cases h; simp; done) | (split at h <;> first | (cases h; simp; done) | cases h) | cases h
 simp only [askTy, List.mem_cons, List.not_mem_nil, or_false] at hn ht
 rcases hn with rfl | rfl | rfl | rfl | rfl | rfl <;> rcases ht with rfl | rfl | rfl | rfl | rfl | rfl | rfl | rfl <;> rfl
theorem call_isiD {n : String} (hn : n ∈ askTy) : CallR X (.builtin "isinstance") (fun xs H Q => ∃ cl α m d v t, xs = [v, .ty n] /\ Wd X.K cl α m H /\ Rep X.K α H d v /\ tyN d m = some t /\ Q (.bl (isiB t n)) H) := by
 intro pins s σ H xs us Q I r h
 obtain ⟨cl, α, m, d, v, t, rfl, W, rv, ht, q⟩ := h
 obtain ⟨u, w, rfl, ru, rw'⟩ := vals2 r
 cases rw'
 have kt := kit_tab (K := X.K) ht hn
 have old : ∀ {t' : Value}, TyOf X.K H v t' -> t' = .type t -> wpAny (model X.prog X.w) X.A (call (.builtin "isinstance") [u, .type n]) (EP X pins σ Q) X.xe s := fun {t'} ty e => by
  subst e
  exact isinst_ok I ru ty kt fun tk => ⟨.bl _, H, I.tok _, rfl, q⟩
 unfold tyN at ht
 split at ht
 ·cases ht; rw [Rep] at rv; subst rv; exact old .non rfl
 ·cases ht; rw [Rep] at rv; subst rv; exact old (.bl _) rfl
 ·cases ht; rw [Rep] at rv; subst rv; exact old (.int _) rfl
 ·cases ht; rw [Rep] at rv; subst rv; exact old (.str _) rfl
 ·cases ht; rw [Rep] at rv; subst rv; exact old (.flt _) rfl
 ·cases ht
  rw [Rep] at rv
  obtain ⟨a, xs, rfl, h1, _⟩ := rv
  rcases h1 with h1 | ⟨o, _, _, k1, k2, _⟩
  ·exact old (.tup h1) rfl
  ·cases ru
   exact PySem.W.kia_one PySem.W.kitx_tuple I.kIn ⟨o, I.kIn a o k1, k2⟩ kt (fun z => nomatch z) fun tk => ⟨.bl _, H, I.tok _, rfl, q⟩
 ·cases ht
  rw [Rep] at rv
  obtain ⟨a, xs, rfl, _, h1, _⟩ := rv
  rcases h1 with h1 | ⟨o, h1⟩
  ·exact old (.lst h1) rfl
  ·exact old (.frz h1) rfl
 ·rw [Rep] at rv
  obtain ⟨a, ha, rfl⟩ := rv
  split at ht
  ·cases ht; obtain ⟨xs, h1, _⟩ := W.lst ha ‹_›; exact old (.lst h1) rfl
  ·cases ht; obtain ⟨xs, h1, _⟩ := W.dct ha ‹_›; exact old (.dK h1) rfl
  ·cases ht
 ·cases ht
theorem qe_isi {e : Expr} {fa : EV} {p p2 pos : Pos} {x : Str} {n : String} (hn : n ∈ askTy) (hg : Gl X "isinstance") (hm : X.mg "isinstance" = none) (hg2 : Gl X x) (hm2 : X.mg x = none) (hv : bootBuiltins x = some (.type n)) (ha : QE X cl ex e fa) (hx : autoParam (x ≠ "__name__") AutoP.a1._auto_1) (hdb : autoParam ((x == ("__debug__" : Str)) = false) AutoP.a1._auto_1)
  (he : autoParam (starEach [e, .Name x p2] X.env = (false, eval e X.env) :: starEach [.Name x p2] X.env) AutoP.a3._auto_1) (he2 : autoParam (starEach [.Name x p2] X.env = (false, eval (.Name x p2) X.env) :: starEach [] X.env) AutoP.a3._auto_1) (hpl : autoParam ((backTo pos (starEach [.Name x p2] X.env)).any (·.1) = false) AutoP.a3._auto_1) :
  QE X cl ex (.Call (.Name "isinstance" p) [e, .Name x p2] [] pos) (eUn (isiD n) fa) :=
 ⟨PE.weak (pe_callB (call_isiD hn) hg hm boot_isinstance (pa_cons ha.out (pa_cons (pe_bltn (v := .ty n) hg2 hm2 hv rfl hx hdb) pa_nil he2) he) (by decide) (by decide) he hpl) fun σ H Q hh => ex3 hh fun α ρ m W hr h => tD.use W hr h fun α1 m1 H1 d v E1 W1 hr1 rv q1 => by
  unfold isiD at q1
  split at q1
  ·exact ⟨cl, α1, m1, d, v, _, rfl, W1, rv, ‹_›, PQ.ok W1 q1 _ repB⟩
  ·exact q1.elim⟩
def inB (x : D) (ds : List D) : Option Bool := if deep x && (pyOkL ds && PyData.canLayAll0 (pyL ds)) then some ((pyL ds).any fun y => PyData.eqv y (py x)) else none
def inO (x y : D) (m : Sto) : Option Bool := match y with
 | .tup ds => inB x ds
 | .lst ds => inB x ds
 | .ob k => match m[k]? with
  | some (.lst ds) => inB x ds
  | some (.dct kvs) => match x with
   | .int i => some (valD kvs (.inl i)).isSome
   | .str z => some (valD kvs (.inr z)).isSome
   | _ => none
  | _ => none
 | .str j => match x with
  | .str i => some (!(Builtin.Str.occurrences j i 0 j.length 1).isEmpty)
  | _ => none
 | _ => none
def inD (x y : D) (m : Sto) : Res D := match inO x y m with
 | some b => .ok (.bl b) m
 | none => .bad
def rInS (K : PySem.W.Frag) (f : Bool -> Bool) : R2 := fun vx vy H Q => ∃ (α : List Addr) (x : D) (ds : List D) (p : Addr) (ys : List V), vy = .ref p /\ (SqL K H p ys ∨ SqT K H p ys) /\ RepL K α H ds ys /\ Rep K α H x vx /\ deep x = true /\ pyOkL ds = true /\ PyData.canLayAll0 (pyL ds) = true /\ Q (.bl (f ((pyL ds).any fun y => PyData.eqv y (py x)))) H
def rInD (f : Bool -> Bool) : R2 := fun x y H Q => ∃ a o, y = .ref a /\ DGet H a x o /\ Q (.bl (f o.isSome)) H
def rInT (f : Bool -> Bool) : R2 := fun x y H Q => ∃ i j, x = .str i /\ y = .str j /\ Q (.bl (f (!(Builtin.Str.occurrences j i 0 j.length 1).isEmpty))) H
def rInA (K : PySem.W.Frag) (f : Bool -> Bool) : R2 := fun x y H Q => rInS K f x y H Q ∨ rInD f x y H Q ∨ rInT f x y H Q
theorem op_inS (hu : X.A.units + 65 < cLine) : OpR X (compareOp .In) (rInS X.K id) := by
 intro pins s σ H vx vy v u Q I rx ry h
 obtain ⟨α, x, ds, p, ys, rfl, sq, r1, r2, d1, ok, cL, q⟩ := h
 cases ry
 rw [deep, Bool.and_eq_true] at d1
 obtain ⟨bs, h2⟩ := rep_reads I d1.1 r2 rx
 have c2 := SeqAt.canLay_of_shaped d1.2
 have rm := PyProof.Rows.room_in_shaped (A := X.A) (xs := pyL ds) d1.2 hu
 rcases sq with sq | sq
 ·obtain ⟨its, rv, ⟨o, n, e1, e2, _, e3⟩, _⟩ := I.list sq
  obtain ⟨as, h1⟩ := rep_readsL I ok r1 rv
  exact SeqAt.in_list_reads (Reads.list e1 e2 e3 (by simpa using h1)) h2 cL c2 rm ⟨.bl _, H, I, rfl, q⟩
 ·obtain ⟨its, rv, ⟨o, e1, e2, n, e3⟩, _⟩ := I.tuple sq
  obtain ⟨as, h1⟩ := rep_readsL I ok r1 rv
  exact SeqAt.in_tuple_reads (Reads.tuple e1 e2 e3 (by simpa using h1)) h2 cL c2 rm ⟨.bl _, H, I, rfl, q⟩
theorem op_inD (hu : X.A.units + 1 < cLine) : OpR X (compareOp .In) (rInD id) := by
 intro pins s σ H x y v u Q I rx ry h
 obtain ⟨a, o, rfl, g, q⟩ := h
 cases ry
 exact d_in hu I g rx fun s' I' => ⟨.bl _, H, I', rfl, q⟩
theorem hu65 {A : Around} {k : Nat} (hr : Room k A) : A.units + 65 < cLine := by have := hr.un; omega
theorem op_inA {k : Nat} (hr : Room k X.A) : OpR X (compareOp .In) (rInA X.K id) := OpR.or (op_inS (hu65 hr)) (OpR.or (op_inD (hu_of hr)) op_in_str)
theorem inO_use {f : Bool -> Bool} {x y : D} {vx vy : V} {b : Bool} {Q : VK} (W : Wd K cl α m H) (e : inO x y m = some b) (rx : Rep K α H x vx) (ry : Rep K α H y vy) (q : Q (.bl (f b)) H) : rInA K f vx vy H Q := by
 have seq : ∀ {ds : List D} {p : Addr} {ys : List V}, inB x ds = some b -> vy = .ref p -> (SqL K H p ys ∨ SqT K H p ys) -> RepL K α H ds ys -> rInA K f vx vy H Q := fun {ds p ys} e1 e2 e3 e4 => by
  unfold inB at e1
  split at e1
  ·rename_i hc
   rw [Bool.and_eq_true, Bool.and_eq_true] at hc
   exact .inl ⟨α, x, ds, p, ys, e2, e3, e4, rx, hc.1, hc.2.1, hc.2.2, by rw [Option.some.inj e1]; exact q⟩
  ·cases e1
 unfold inO at e
 split at e
 ·rw [Rep] at ry; obtain ⟨a, ys, rfl, h1, r1⟩ := ry; exact seq e rfl (.inr h1.sq) r1
 ·rw [Rep] at ry; obtain ⟨a, ys, rfl, _, h1, r1⟩ := ry; exact seq e rfl (.inl (.inl h1)) r1
 ·rw [Rep] at ry
  obtain ⟨a, ha, rfl⟩ := ry
  split at e
  ·obtain ⟨ys, h1, r1⟩ := W.lst ha ‹_›; exact seq e rfl (.inl (SqL.of h1)) r1
  ·obtain ⟨ys, h1, r1⟩ := W.dct ha ‹_›
   have key : ∀ {k : L2.Key}, vx = kV k -> some (valD _ k).isSome = some b -> rInA K f vx (.ref a) H Q := fun {k} e1 e2 => by
    refine .inr (.inl ⟨a, valV ys k, rfl, by rw [e1]; exact DGet.k h1, ?_⟩)
    have : (valV ys k).isSome = b := by
     rw [<- Option.some.inj e2]
     cases h : valD _ k with
     | none => rw [(RepKV.val r1).2 h]; rfl
     | some d => obtain ⟨v, hv, _⟩ := (RepKV.val r1).1 d h; rw [hv]; rfl
    rw [this]
    exact q
   split at e
   ·rw [Rep] at rx; exact key (k := .inl _) rx e
   ·rw [Rep] at rx; exact key (k := .inr _) rx e
   ·cases e
  ·cases e
 ·split at e
  ·rw [Rep] at rx; rw [Rep] at ry; exact .inr (.inr ⟨_, _, rx, ry, by rw [Option.some.inj e]; exact q⟩)
  ·cases e
 ·cases e
theorem od_in : OpD K cl ex (rInA K id) inD := fun α m H x y vx vy Q W rx ry h => by
 unfold inD at h
 split at h
 ·exact inO_use (f := id) W ‹_› rx ry (PQ.ok W h _ repB)
 ·exact h.elim
end
section
variable {X : Cx} {cl : Str -> Addr} {ex : XD} {o i e value : Expr} {fo fi fv : EV} {fr : AV} {pos p pos' : Pos}
def keyOf (d : D) : Option L2.Key := match d with
 | .int i => some (.inl i)
 | .str z => some (.inr z)
 | _ => none
def putS (x y v : D) (m : Sto) : Res Unit := match x with
 | .ob k => match m[k]?, keyOf y with
  | some (.dct kvs), some q => if kvs.length < sizeLine then .ok () (m.set k (.dct (putD kvs q v))) else .bad
  | some (.lst ds), some (.inl i) => match ixN ds.length i with
   | some j => .ok () (m.set k (.lst (ds.set j v)))
   | none => .bad
  | _, _ => .bad
 | _ => .bad
theorem keyOf_use {K : PySem.W.Frag} {α : List Addr} {H : Hp} {d : D} {v : V} {k : L2.Key} (h : keyOf d = some k) (r : Rep K α H d v) : v = kV k := by
 unfold keyOf at h
 split at h
 ·cases h; rw [Rep] at r; exact r
 ·cases h; rw [Rep] at r; exact r
 ·cases h
def putDS (x y v : D) (m : Sto) : Res Unit := match x with
 | .ob k => match m[k]? with
  | some (.dct kvs) => match keyOf y with
   | some q => if kvs.length < sizeLine then .ok () (m.set k (.dct (putD kvs q v))) else .bad
   | none => .bad
  | _ => .bad
 | _ => .bad
def sPutD (fo fi fv : EV) : SV := fun ρ m => (fv ρ m).bind fun v m1 => (fo ρ m1).bind fun x m2 => (fi ρ m2).bind fun y m3 => (putDS x y v m3).bind fun _ m4 => .ok (.nx ρ) m4
theorem qs_dput (hu : X.A.units + 1 < cLine) (ho : QE X cl ex o fo) (hi : QE X cl ex i fi) (hv : QE X cl ex value fv) (hs : swapsWith value (some (.Subscript o i pos')) pos.line X.env = pure false) :
  QS X cl ex (.Assign [.Subscript o i pos'] value pos) (sPutD fo fi fv) :=
 ⟨PS.weak (ps_dput hu ho.out hi.out hv.out hs) fun D σ H hh => ex3 hh fun α ρ m W hr h => tD.use W hr h fun α1 m1 H1 dv v E1 W1 hr1 rv q1 => tD.use W1 hr1 q1 fun α2 m2 H2 dx x E2 W2 hr2 rx q2 => tD.use W2 hr2 q2 fun α3 m3 H3 dy y E3 W3 hr3 ry q3 => by
  have rv := rv.mono W1 (E2.trans E3)
  have rx := rx.mono W2 E3
  unfold putDS at q3
  split at q3
  ·rw [Rep] at rx
   obtain ⟨a, ha, rfl⟩ := rx
   split at q3
   ·rename_i k _ kvs e
    split at q3
    ·rename_i q ek
     split at q3
     ·rename_i hc
      obtain ⟨ys, h1, r1⟩ := W3.dct ha e
      obtain ⟨W4, E4⟩ := W3.set (u := .dK (putK ys q v)) (o := .dct (putD kvs q dv)) ha fun E => ⟨_, upd_same, RepKV.put (rv.mono W3 E) (r1.mono W3 E)⟩
      refine ⟨a, _, rfl, by rw [keyOf_use ek ry]; exact DPut.k h1 (by rw [<- r1.length]; exact hc), ?_⟩
      exact (show PQ X.K cl ex (.ok (.nx ρ) (m3.set k (.dct (putD kvs q dv)))) α3 H3 fun fl α' _ H' => EndsOk X.K D fl α' H' from q3) _ _ E4 W4 _ (hr3.mono W3 E4)
     ·exact q3.elim
    ·exact q3.elim
   ·exact q3.elim
  ·exact q3.elim⟩
def pairsM : List (Str × EV) -> En -> Sto -> Res (List (L2.Key × D))
 | [], _, m => .ok [] m
 | (k, f) :: r, ρ, m => (f ρ m).bind fun d m1 => (pairsM r ρ m1).bind fun ps m2 => .ok ((.inr k, d) :: ps) m2
def mergeD (more : List (L2.Key × D)) : List (L2.Key × D) := more.foldl (fun acc kv => putD acc kv.1 kv.2) []
def eDict (fs : List (Str × EV)) : EV := fun ρ m => (pairsM fs ρ m).bind fun ps m1 => .ok (.ob m1.length) (m1 ++ [.dct (mergeD ps)])
inductive QPs (X : Cx) (cl : Str -> Addr) (ex : XD) : List (Option Expr) -> List Expr -> List (Str × EV) -> Prop where
 | nil : QPs X cl ex [] [] []
 | cons {k : Str} {j} {pk : Pos} {v : Expr} {f : EV} {ks : List (Option Expr)} {vs : List Expr} {fs : List (Str × EV)} : QE X cl ex v f -> QPs X cl ex ks vs fs -> QPs X cl ex (some (.Constant (.str k) j pk) :: ks) (v :: vs) ((k, f) :: fs)
theorem QPs.pps {ks : List (Option Expr)} {vs : List Expr} {fs : List (Str × EV)} (h : QPs X cl ex ks vs fs) : PPs X pos ks vs (fs.map fun q => (tC (.str q.1), tD X.K cl ex q.2)) := by
 induction h with
 | nil => exact pps_nil
 | cons hv _ ih => exact pps_cons pe_str hv.out ih
theorem QPs.keys {ks : List (Option Expr)} {vs : List Expr} {fs : List (Str × EV)} (h : QPs X cl ex ks vs fs) : ks.all (·.isSome) = true /\ ks.length = vs.length /\ ks.length = fs.length := by
 induction h with
 | nil => exact ⟨rfl, rfl, rfl⟩
 | cons _ _ ih => exact ⟨by rw [List.all_cons, ih.1]; rfl, by rw [List.length_cons, List.length_cons, ih.2.1], by rw [List.length_cons, List.length_cons, ih.2.2]⟩
theorem tPairs_of {K : PySem.W.Frag} {σ : L2.St} {ρ : En} {R : RD (List (L2.Key × D))} : ∀ (fs : List (Str × EV)) {α : List Addr} {m : Sto} {H : Hp} {Q : List (V × V) -> Hp -> Prop}, Wd K cl α m H -> RepE K α H ρ σ -> PQ K cl ex (pairsM fs ρ m) α H R →
  (∀ α1 m1 H1 ps vs, Ext α H α1 H1 -> Wd K cl α1 m1 H1 -> RepE K α1 H1 ρ σ -> ps.length = fs.length -> RepKV K α1 H1 ps vs -> R ps α1 m1 H1 -> Q (vs.map fun kv => (kV kv.1, kv.2)) H1) -> tPairs (fs.map fun q => (tC (.str q.1), tD K cl ex q.2)) σ H Q
 | [], α, m, H, Q, W, hr, h, hQ => hQ α m H [] [] (Ext.refl W) W hr rfl rfl (PQ.ok W h)
 | (k, f) :: r, α, m, H, Q, W, hr, h, hQ => by
  refine tD.use W hr h fun α1 m1 H1 d v E1 W1 hr1 rv q1 => ?_
  refine tPairs_of (R := fun ps α2 m2 H2 => R ((.inr k, d) :: ps) α2 m2 H2) r W1 hr1 (PQ.mono (Ext.refl W1) q1.bind fun ps α2 m2 H2 E2 W2 q2 => PQ.ok W2 q2) fun α2 m2 H2 ps vs E2 W2 hr2 hl rps q2 => ?_
  exact hQ α2 m2 H2 ((.inr k, d) :: ps) ((.inr k, v) :: vs) (E1.trans E2) W2 hr2 (by rw [List.length_cons, List.length_cons, hl]) ⟨v, vs, rfl, rv.mono W1 E2, rps⟩ q2
theorem rep_merge {K : PySem.W.Frag} {α : List Addr} {H : Hp} : ∀ (ps : List (L2.Key × D)) {vs : List (L2.Key × V)} {qs : List (L2.Key × D)} {us : List (L2.Key × V)}, RepKV K α H ps vs -> RepKV K α H qs us -> RepKV K α H (ps.foldl (fun acc kv => putD acc kv.1 kv.2) qs) (mergeK us vs)
 | [], _, _, _, h, h' => by
  cases (show _ = [] from h)
  exact h'
 | p :: r, _, _, _, ⟨v, r', e, h1, h2⟩, h' => by
  subst e
  exact (show RepKV K α H _ (mergeK (putK _ p.1 v) r') from rep_merge r h2 (RepKV.put h1 h'))
theorem qe_dict {ks : List (Option Expr)} {vs : List Expr} {fs : List (Str × EV)} (h : QPs X cl ex ks vs fs) (h0 : ks ≠ []) (h15 : ks.length <= 15) : QE X cl ex (.Dict ks vs pos) (eDict fs) :=
 ⟨PE.weak (pe_disp h.pps h.keys.1 h.keys.2.1 h0 h15) fun σ H Q hh => ex3 hh fun α ρ m W hr q p hp => by
  have s0 := Same.new (o := .dK []) hp
  have W0 := W.same s0
  have E0 := Ext.of_same W s0
  refine tPairs_of (R := fun ps α1 m1 H1 => PQ X.K cl ex (.ok (.ob m1.length) (m1 ++ [.dct (mergeD ps)])) α H fun d α' _ H' => ∀ v, Rep X.K α' H' d v -> Q v H') fs W0 (hr.mono W E0) ?_ fun α1 m1 H1 ps us E1 W1 hr1 hl rps q1 => ?_
  ·cases hf : pairsM fs ρ m with
   | ok ps m1 => rw [show eDict fs ρ m = (pairsM fs ρ m).bind _ from rfl, hf] at q; exact fun _ _ _ _ => q
   | exc c m1 => rw [show eDict fs ρ m = (pairsM fs ρ m).bind _ from rfl, hf] at q; exact fun α2 H2 E2 W2 => q α2 H2 (E0.trans E2) W2
   | bad => rw [show eDict fs ρ m = (pairsM fs ρ m).bind _ from rfl, hf] at q; exact q
  have pn : p ∉ α := W.nin hp
  have pk : H1 p = some (.dK []) := E1.keep p _ upd_same pn
  have E01 : Ext α H α1 H1 := E0.trans E1
  have pn1 : p ∉ α1 := fun z => by
   obtain ⟨β, rfl, hb⟩ := E1.pre
   rcases List.mem_append.mp z with z | z
   ·exact pn z
   ·have := hb p z
    rw [upd_same] at this
    cases this
  refine ⟨pk, us, rfl, by rw [<- rps.length, hl, <- h.keys.2.2]; exact h15, ?_⟩
  have keep : ∀ a o, H1 a = some o -> a ≠ p -> upd H1 p (.dK (mergeK [] us)) a = some o := fun a o e n => by rw [upd_ne n]; exact e
  have kp : Kp α1 H1 (α1 ++ [p]) (upd H1 p (.dK (mergeK [] us))) := by
   refine ⟨⟨[p], rfl⟩, (fun a xs e => keep a _ e fun z => by rw [z, pk] at e; cases e), fun a xs n e => ?_⟩
   have hap : a ≠ p := fun z => by
    rcases e with e | ⟨_, e⟩ <;> rw [z, pk] at e <;> cases e
   refine ⟨fun z => ?_, ?_⟩
   ·rcases List.mem_append.mp z with z | z
    ·exact n z
    ·exact hap (List.mem_singleton.mp z)
   ·rcases e with e | ⟨o, e⟩
    ·exact .inl (keep a _ e hap)
    ·exact .inr ⟨o, keep a _ e hap⟩
  have W2 := W1.join (u := .dK (mergeK [] us)) (o := .dct (mergeD ps)) pn1 kp ⟨_, upd_same, rep_merge ps (rps.kp kp) (show RepKV X.K _ _ [] [] from rfl)⟩
  have E2 : Ext α H (α1 ++ [p]) (upd H1 p (.dK (mergeK [] us))) := by
   obtain ⟨β, hβ, hb⟩ := E01.pre
   refine ⟨⟨β ++ [p], by rw [hβ, List.append_assoc], fun b hbm => ?_⟩, fun a o e n => ?_, fun a ha => ?_, fun a o u e => keep a _ (E01.frzs a o u e) (ne_of_none e hp)⟩
   ·rcases List.mem_append.mp hbm with z | z
    ·exact hb b z
    ·rw [List.mem_singleton.mp z]; exact hp
   ·exact keep a o (E01.keep a o e n) (ne_of_none e hp)
   ·rw [upd_ne (fun z => pn (by rw [<- z]; exact ha))]; exact E01.there a ha
  refine q1 _ _ E2 W2 _ ?_
  rw [Rep]
  refine ⟨p, ?_, rfl⟩
  rw [<- W1.len, List.getElem?_append_right (Nat.le_refl _)]
  simp⟩
end
structure FnX (P : Program) (w : World) (K : PySem.W.Frag) (mg : Str -> Option Value) (base : Heap) (cl : Str -> Addr) (x : Str) (k n : Nat) (g : List D -> Sto -> Res D) : Prop where
 ex : ∃ (f : Addr) (fd : FuncData) (ps : List Str), mg x = some (.ref f) /\ PySem.W.keepIn K (.ref f) = true /\ Binds K fd ps [] /\ FnOk P w K mg base CX0 k f fd ps (spD K cl X0 n g)
theorem qe_fn {X : Cx} {cl : Str -> Addr} {e : Expr} {es : List Expr} {fr : AV} {p pos : Pos} {x : Str} {k n : Nat} {g : List D -> Sto -> Res D} (h : FnX X.prog X.w X.K X.mg X.base cl x k n g) (hn : n = (e :: es).length) (hr : Room k X.A) (hg : Gl X x)
  (ha : QA X cl X0 (e :: es) fr) (hlen : ∀ ρ m ds m1, fr ρ m = .ok ds m1 -> ds.length = (e :: es).length) (hdb : autoParam ((x == ("__debug__" : Str)) = false) AutoP.a1._auto_1) (he : autoParam (starEach (e :: es) X.env = (false, eval e X.env) :: starEach es X.env) AutoP.a3._auto_1) (hpl : autoParam ((backTo pos (starEach es X.env)).any (·.1) = false) AutoP.a3._auto_1) :
  QE X cl X0 (.Call (.Name x p) (e :: es) [] pos) (eFn g fr) := by
 obtain ⟨f, fd, ps, h1, h2, h3, h4⟩ := h.ex
 exact qe_call h4 hn hr hg h1 h2 h3 ha hlen hdb he hpl
theorem FnX.mk' {P : Program} {w : World} {K : PySem.W.Frag} {mg : Str -> Option Value} {base : Heap} {cl : Str -> Addr} {x qual : Str} {st : Stmt} {f : Addr} {fd : FuncData} {N ps : List Str} {k n : Nat} {body : SV} (F : Fun K x qual st f fd) (b : Binds K fd ps []) (m : mg x = some (.ref f)) (S : FnScope N ps (zak st)) (hn : n = ps.length)
  (h : ∀ (cdv : Value) (A : Around) (outer : List PySem.Env) (s : Shared) (H : Hp) (E : XK), Room k (A.deeper (envOfC qual (zak st) s.heap.objs.size f cdv)) -> QSs (cxOf CX0 P w K mg base N qual (zak st) f cdv A outer s H E).nox cl X0 (defBody st) body) : FnX P w K mg base cl x (k + 1) n (runF N.length body) :=
 ⟨f, fd, ps, m, F.kp, b, F.ok S (fun vs H Q E h => by rw [<- hn]; exact h.1) fun cdv A outer s H vs Q E hr q => ⟨_, (h cdv A outer s H E hr).out, fn_d q⟩⟩
theorem FnX.none {P : Program} {w : World} {K : PySem.W.Frag} {mg : Str -> Option Value} {base : Heap} {cl : Str -> Addr} {x qual : Str} {st : Stmt} {f : Addr} {fd : FuncData} {ps : List Str} {k n : Nat} (F : Fun K x qual st f fd) (b : Binds K fd ps []) (m : mg x = some (.ref f)) : FnX P w K mg base cl x k n (fun _ _ => .bad) :=
 ⟨f, fd, ps, m, F.kp, b, ⟨fun vs H Q E h => (by obtain ⟨_, _, _, _, _, _, q⟩ := h; exact q.elim), fun A outer s H args us vs Q E _ _ _ _ h => (by obtain ⟨_, _, _, _, _, _, q⟩ := h; exact q.elim)⟩⟩
theorem fnO {P : Program} {w : World} {K : PySem.W.Frag} {mg : Str -> Option Value} {base : Heap} {cl : Str -> Addr} {x qual : Str} {st : Stmt} {f : Addr} {fd : FuncData} {N ps : List Str} {k n : Nat} {body : SV} (F : Fun K x qual st f fd) (S : FnScope N ps (zak st)) (hn : n = ps.length)
  (h : ∀ (cdv : Value) (A : Around) (outer : List PySem.Env) (s : Shared) (H : Hp) (E : XK), Room k (A.deeper (envOfC qual (zak st) s.heap.objs.size f cdv)) -> QSs (cxOf CX0 P w K mg base N qual (zak st) f cdv A outer s H E).nox cl X0 (defBody st) body) : FnOk P w K mg base CX0 (k + 1) f fd ps (spD K cl X0 n (runF N.length body)) :=
 F.ok S (fun vs H Q E h => by rw [<- hn]; exact h.1) fun cdv A outer s H vs Q E hr q => ⟨_, (h cdv A outer s H E hr).out, fn_d q⟩
def spLaw (K : PySem.W.Frag) : Sp := fun vs H Q _ => ∃ (a : Addr) (ns : List Int), vs = [.ref a] /\ SqL K H a (ns.map V.int) /\ ns.length <= 63 /\ ∀ H', Q (.bl true) H'
theorem repL_ints {K : PySem.W.Frag} {α : List Addr} {H : Hp} : ∀ ns : List Int, RepL K α H (ns.map D.int) (ns.map V.int)
 | [] => by simp [RepL]
 | a :: r => by
  rw [List.map_cons, List.map_cons, RepL]
  exact ⟨_, _, rfl, by rw [Rep], repL_ints r⟩
theorem law_sp {K : PySem.W.Frag} {cl : Str -> Addr} {g : List D -> Sto -> Res D} (h : ∀ ns : List Int, ns.length <= 63 -> ∃ a m, g [.scr (ns.map D.int)] [] = .ok a m /\ a = .bl true) : ∀ vs H Q E, spLaw K vs H Q E -> spD K cl X0 1 g vs H Q E := by
 rintro vs H Q E ⟨a, ns, rfl, hS, hlen, q⟩
 obtain ⟨_, m', e, rfl⟩ := h ns hlen
 refine ⟨rfl, [], [], [.scr (ns.map D.int)], ⟨rfl, List.nodup_nil, fun k a o h => by simp at h⟩, ?_, ?_⟩
 ·rw [RepL]
  refine ⟨_, _, rfl, ?_, by rw [RepL]⟩
  rw [Rep]
  refine ⟨a, _, rfl, ?_, repL_ints ns⟩
  rcases hS with hS | hS
  ·exact .inl ⟨by simp, hS⟩
  ·exact .inr hS
 ·rw [e]
  intro α' H' _ _ v r
  rw [Rep] at r
  subst r
  exact q H'
theorem law_fn {P : Program} {w : World} {K : PySem.W.Frag} {mg : Str -> Option Value} {base : Heap} {cl : Str -> Addr} {k : Nat} {f : Addr} {fd : FuncData} {ps : List Str} {g : List D -> Sto -> Res D} (F : FnOk P w K mg base CX0 k f fd ps (spD K cl X0 1 g)) (h : ∀ ns : List Int, ns.length <= 63 -> ∃ a m, g [.scr (ns.map D.int)] [] = .ok a m /\ a = .bl true) : FnOk P w K mg base CX0 k f fd ps (spLaw K) := F.imp (law_sp h)
theorem usS {us : List Value} {n : Nat} (hl : us.length = n + 1) : ∃ a r, us = a :: r /\ r.length = n := by
 cases us with
 | nil => exact absurd hl (by simp)
 | cons a r => exact ⟨a, r, rfl, Nat.succ.inj hl⟩
theorem us0 {us : List Value} (hl : us.length = 0) : us = [] := List.length_eq_zero_iff.mp hl
theorem us1 {us : List Value} (hl : us.length = 1) : ∃ (a0 : Value), us = [a0] := by
 obtain ⟨a0, r, rfl, h⟩ := usS hl
 obtain rfl := us0 h
 exact ⟨a0, rfl⟩
theorem us2 {us : List Value} (hl : us.length = 2) : ∃ (a0 a1 : Value), us = [a0, a1] := by
 obtain ⟨a0, r, rfl, h⟩ := usS hl
 obtain ⟨a1, rfl⟩ := us1 h
 exact ⟨a0, a1, rfl⟩
theorem us3 {us : List Value} (hl : us.length = 3) : ∃ (a0 a1 a2 : Value), us = [a0, a1, a2] := by
 obtain ⟨a0, r, rfl, h⟩ := usS hl
 obtain ⟨a1, a2, rfl⟩ := us2 h
 exact ⟨a0, a1, a2, rfl⟩
theorem us4 {us : List Value} (hl : us.length = 4) : ∃ (a0 a1 a2 a3 : Value), us = [a0, a1, a2, a3] := by
 obtain ⟨a0, r, rfl, h⟩ := usS hl
 obtain ⟨a1, a2, a3, rfl⟩ := us3 h
 exact ⟨a0, a1, a2, a3, rfl⟩
end MD
set_option autoImplicit false
namespace HT
open PySem PySem.Spec PyProof.Rows L2
end HT
namespace MD
open PySem PySem.Spec PyProof.Rows L2
def slA (x : D) (lo hi : Option Int) (m : Sto) : Res D := match x with
 | .tup ds => .ok (.tup (cutD ds lo hi)) m
 | d => slD d lo hi m
def eSlA (f : EV) (lo hi : OV) : EV := fun ρ m => (f ρ m).bind fun x m1 => (lo ρ m1).bind fun l m2 => (hi ρ m2).bind fun h m3 => slA x l h m3
end MD
set_option autoImplicit false
namespace HT
open PySem PySem.Spec PyProof.Rows L2
end HT
namespace MD
open PySem PySem.Spec PyProof.Rows L2
section
variable {X : Cx} {K : PySem.W.Frag} {cl : Str -> Addr} {ex : XD} {α : List Addr} {m : Sto} {H : Hp} {pos : Pos}
theorem lOf_rd {d : D} {v : V} {xs : List D} (W : Wd K cl α m H) (e : lOf d m = some xs) (rv : Rep K α H d v) : ∃ p ys, v = .ref p /\ Rd H p (.lst ys) /\ RepL K α H xs ys := by
 unfold lOf at e
 split at e
 ·cases e; rw [Rep] at rv; obtain ⟨a, ys, rfl, _, h1, r1⟩ := rv; exact ⟨a, ys, rfl, h1, r1⟩
 ·rw [Rep] at rv
  obtain ⟨a, ha, rfl⟩ := rv
  split at e
  ·cases e; obtain ⟨ys, h1, r1⟩ := W.lst ha ‹_›; exact ⟨a, ys, rfl, .inl h1, r1⟩
  ·cases e
 ·cases e
def addN (x y : D) (m : Sto) : Res D := match lOf x m, lOf y m with
 | some a, some b => if a.length + b.length <= sizeLine then gNewL (a ++ b) m else .bad
 | _, _ => .bad
theorem od_addN : OpD K cl ex (rAddA K) addN := fun α m H x y vx vy Q W rx ry h => by
 unfold addN at h
 split at h
 ·rename_i a b e1 e2
  obtain ⟨hc, h⟩ := PQ.if h
  obtain ⟨p, xs, rfl, h1, r1⟩ := lOf_rd W e1 rx
  obtain ⟨p', ys, rfl, h2, r2⟩ := lOf_rd W e2 ry
  obtain ⟨_, h⟩ := PQ.if h
  refine .inr (.inr (.inr ⟨p, p', xs, ys, rfl, rfl, h1, h2, by rw [<- r1.length, <- r2.length]; exact hc, fun l hl => ?_⟩))
  obtain ⟨_, _, q, r⟩ := new_lst W hl (RepL.append r1 r2) h
  exact q _ r
 ·exact h.elim
end
def fuelW : Nat := 1000000
def gBreadths0 : SV :=
 (sRet (eFn gL1 (aComp 1 (aIt (eOp ixD (zag 0) (eC (.int 0)))) (gN 1) tYesM (eOp ixD (zag 1) (eC (.int 1))))))
def gBreadths : List D -> Sto -> Res D := runF 1 gBreadths0
def gIsWhole0 : SV :=
 (sRet (eAnd (eUn (isiD "int") (zag 0)) (eNot (eUn (isiD "bool") (zag 0)))))
def gIsWhole : List D -> Sto -> Res D := runF 1 gIsWhole0
def gIsBetween0 : SV :=
 (sRet (eAnd (eFn gIsWhole (zab (zag 0) zaj)) (eChain leD leD (zag 1) (zag 0) (zag 2))))
def gIsBetween : List D -> Sto -> Res D := runF 3 gIsBetween0
def gIsValue0 : SV :=
 (sRet (eFn gIsBetween (zab (zag 0) (zab (eC (.int 0)) (zab (eOp subD (eOp shlD (eC (.int 1)) (zag 1)) (eC (.int 1))) zaj)))))
def gIsValue : List D -> Sto -> Res D := runF 2 gIsValue0
def gIsRow0 : SV :=
 (sRet (eAnd (eUn (isiD "tuple") (zag 0)) (eChain leD leD (zag 1) (eFn lenF (zab (zag 0) zaj)) (zag 2))))
def gIsRow : List D -> Sto -> Res D := runF 3 gIsRow0
def gIsWorded0 : SV :=
 (sRet (eAnd (eFn gIsRow (zab (zag 0) (zab (zag 2) (zab (zag 2) zaj)))) (eAnd (eUn (isiD "str") (eOp ixD (zag 0) (eC (.int 0)))) (eOp eqD (eOp ixD (zag 0) (eC (.int 0))) (zag 1)))))
def gIsWorded : List D -> Sto -> Res D := runF 3 gIsWorded0
def gIsWay0 : SV :=
 (sSeq (sIf (tOrM (tV (eFn gIsWorded (zab (zag 0) (zab (eC (.str "keep")) (zab (eC (.int 1)) zaj))))) (tV (eFn gIsWorded (zab (zag 0) (zab (eC (.str "whole")) (zab (eC (.int 1)) zaj))))))
 (sRet (eC (.bl true)))
 sNil)
 (sSeq (sIf (tNotM (tV (eFn gIsWorded (zab (zag 0) (zab (eC (.str "low")) (zab (eC (.int 3)) zaj))))))
 (sRet (eC (.bl false)))
 sNil)
 (sRet (eAnd (eFn gIsBetween (zab (eOp ixD (zag 0) (eC (.int 1))) (zab (eC (.int 1)) (zab (zag 1) zaj)))) (eFn gIsValue (zab (eOp ixD (zag 0) (eC (.int 2))) (zab (eOp ixD (zag 0) (eC (.int 1))) zaj)))))))
def gIsWay : List D -> Sto -> Res D := runF 2 gIsWay0
def gAreWays0 : SV :=
 (sSeq (sAsg (eFn gBreadths (zab (zag 0) zaj)) (gN 2))
 (sSeq (sIf (tNotM (tV (eFn gIsRow (zab (zag 1) (zab (eFn lenF (zab (zag 2) zaj)) (zab (eFn lenF (zab (zag 2) zaj)) zaj))))))
 (sRet (eC (.bl false)))
 sNil)
 (sRet (eFn allF (zab (eFn gL1 (aComp 2 (aZip (zag 1) (zag 2)) (gT 2 (gsCons (gN 3) (gsCons (gN 4) gsNil))) tYesM (eFn gIsWay (zab (zag 3) (zab (zag 4) zaj))))) zaj)))))
def gAreWays : List D -> Sto -> Res D := runF 3 gAreWays0
def gIsForm0 : SV :=
 (sSeq (sIf (tNotM (tV (eFn gIsRow (zab (zag 1) (zab (eC (.int 3)) (zab (eC (.int 3)) zaj))))))
 (sRet (eC (.bl false)))
 sNil)
 (sSeq (sAsg (zag 1) (gT 3 (gsCons (gN 2) (gsCons (gN 3) (gsCons (gN 4) gsNil)))))
 (sRet (eAnd (eFn gIsBetween (zab (zag 2) (zab (eC (.int 1)) (zab (eC (.int 40)) zaj)))) (eAnd (eFn gIsBetween (zab (zag 3) (zab (eC (.int 1)) (zab (eC (.int 40)) zaj)))) (eFn gAreWays (zab (zag 0) (zab (zag 4) zaj))))))))
def gIsForm : List D -> Sto -> Res D := runF 5 gIsForm0
section
variable {X : Cx} {K : PySem.W.Frag} {cl : Str -> Addr} {ex : XD} {o i : Expr} {fo fi : EV} {pos : Pos}
def putL (x y v : D) (m : Sto) : Res Unit := match x, y with
 | .ob k, .int i => match m[k]? with
  | some (.lst ds) => match ixN ds.length i with
   | some j => .ok () (m.set k (.lst (ds.set j v)))
   | none => .bad
  | _ => .bad
 | _, _ => .bad
def gI (fo fi : EV) : GV := fun d ρ m => (fo ρ m).bind fun x m1 => (fi ρ m1).bind fun y m2 => (putL x y d m2).bind fun _ m3 => .ok ρ m3
theorem RepL.put {α : List Addr} {H : Hp} {d : D} {v : V} (h : Rep K α H d v) : ∀ {ds : List D} {vs : List V} (j : Nat), RepL K α H ds vs -> RepL K α H (ds.set j d) (vs.set j v)
 | [], vs, j, r => by
  rw [RepL] at r
  subst r
  simp [RepL]
 | e :: ds, vs, j, r => by
  rw [RepL] at r
  obtain ⟨u, us, rfl, r1, r2⟩ := r
  cases j with
  | zero => rw [List.set_cons_zero, List.set_cons_zero, RepL]; exact ⟨v, us, rfl, h, r2⟩
  | succ j => rw [List.set_cons_succ, List.set_cons_succ, RepL]; exact ⟨u, _, rfl, r1, RepL.put h j r2⟩
theorem qg_item (ho : QE X cl ex o fo) (hi : QE X cl ex i fi) (ha : autoParam (∀ v, assign (.Subscript o i pos) X.env v = (do
   let ov <- holding [v] (eval o X.env)
   let iv <- holding [v, ov] (eval i X.env)
   standAt pos
   holding [v, ov, iv] (setItem ov iv v)
   release [v, ov, iv] [])) AutoP.a2._auto_1) : QG X cl ex (.Subscript o i pos) (gI fo fi) :=
 ⟨PG.weak (pg_sub ho.out hi.out set_list ha) fun v σ H Q ⟨α, ρ, m, d, W, hr, rv, h⟩ => tD.use W hr h fun α1 m1 H1 dx x E1 W1 hr1 rx q1 => tD.use W1 hr1 q1 fun α2 m2 H2 dy y E2 W2 hr2 ry q2 => by
  have rv := rv.mono W (E1.trans E2)
  have rx := rx.mono W1 E2
  unfold putL at q2
  split at q2
  ·rw [Rep] at rx
   rw [Rep] at ry
   obtain ⟨a, ha, rfl⟩ := rx
   subst ry
   split at q2
   ·rename_i ds e
    split at q2
    ·rename_i j' ej
     obtain ⟨ys, h1, r1⟩ := W2.lst ha e
     obtain ⟨W4, E4⟩ := W2.set (u := .lst (ys.set j' v)) (o := .lst (ds.set j' d)) ha fun E => ⟨_, upd_same, RepL.put (rv.mono W2 E) j' (r1.mono W2 E)⟩
     refine ⟨a, ys, _, j', rfl, rfl, h1, by rw [<- r1.length]; exact ej, ?_⟩
     exact (show PQ X.K cl ex (.ok ρ (m2.set _ (.lst (ds.set j' d)))) α2 H2 _ from q2) _ _ E4 W4 _ (hr2.mono W2 E4)
    ·exact q2.elim
   ·exact q2.elim
  ·exact q2.elim⟩
end
end MD
namespace L2
open PySem PySem.Spec PyProof.Rows
theorem nodup_rev {τ : Type} {l : List τ} : l.reverse.Nodup ↔ l.Nodup := by
 unfold List.Nodup
 rw [List.pairwise_reverse]
 exact ⟨fun h => h.imp fun a => Ne.symm a, fun h => h.imp fun a => Ne.symm a⟩
def hasK (ks : List Key) (k : Key) : Bool := ks.any fun q => decide (q = k)
theorem hasK_iff {ks : List Key} {k : Key} : hasK ks k = true ↔ k ∈ ks := by
 unfold hasK
 rw [List.any_eq_true]
 constructor
 ·rintro ⟨q, h, e⟩
  rw [decide_eq_true_eq] at e
  rw [<- e]
  exact h
 ·exact fun h => ⟨k, h, by simp⟩
theorem hasK_rev (ks : List Key) (k : Key) : hasK ks.reverse k = hasK ks k := by
 rw [Bool.eq_iff_iff, hasK_iff, hasK_iff, List.mem_reverse]
theorem hasK_push (ks : List Key) (q k : Key) : hasK (ks ++ [q]) k = (hasK ks k || decide (k = q)) := by
 rw [Bool.eq_iff_iff, hasK_iff, Bool.or_eq_true, hasK_iff, decide_eq_true_eq, List.mem_append, List.mem_singleton]
def dR : List Key -> Nat
 | [] => 0
 | k :: r => if hasK r k then dR r else dR r + 1
def dN (ks : List Key) : Nat := dR ks.reverse
theorem dN_push (ks : List Key) (k : Key) : dN (ks ++ [k]) = if hasK ks k then dN ks else dN ks + 1 := by
 unfold dN
 rw [List.reverse_append]
 show (if hasK ks.reverse k = true then dR ks.reverse else dR ks.reverse + 1) = _
 rw [hasK_rev]
theorem dR_le : ∀ ks : List Key, dR ks <= ks.length
 | [] => Nat.le_refl _
 | k :: r => by
  have := dR_le r
  rw [dR, List.length_cons]
  split <;> omega
theorem dN_le (ks : List Key) : dN ks <= ks.length := by
 have := dR_le ks.reverse
 rw [List.length_reverse] at this
 exact this
theorem dR_nodup : ∀ {ks : List Key}, ks.Nodup -> dR ks = ks.length
 | [], _ => rfl
 | k :: r, h => by
  rw [List.nodup_cons] at h
  rw [dR, if_neg (fun z => h.1 (hasK_iff.mp z)), dR_nodup h.2, List.length_cons]
theorem dN_nodup {ks : List Key} (h : ks.Nodup) : dN ks = ks.length := by
 unfold dN
 rw [dR_nodup (nodup_rev.mpr h), List.length_reverse]
def SObj (P : Program) (w : World) (o : Obj) (ks : List Key) : Prop :=
 o.ExactSet /\ ∃ es ep t, o.data = .set es ep t /\ ElemsOf (mixKind P w) es.toList /\ (∀ k, hasK ks k = true ↔ ∃ e ∈ es.toList, (mixKind P w).is k e.2 = true) /\ es.size = dN ks /\ t.fits es.size = true
theorem SObj.setOf {P : Program} {w : World} {o : Obj} {ks : List Key} {h : Heap} {a : Addr} (x : SObj P w o ks) (e : h.get? a = some o) (hk : ks.length <= 4000) : h.SetOf (mixKind P w) a (hasK ks) (dN ks) := by
 obtain ⟨x1, es, ep, t, x2, x3, x4, x5, x6⟩ := x
 have := dN_le ks
 exact ⟨o, es, ep, t, e, x1, x2, x3, x4, by unfold scanBound; omega, x6, x5⟩
theorem SObj.of {P : Program} {w : World} {ks : List Key} {h : Heap} {a : Addr} (x : h.SetOf (mixKind P w) a (hasK ks) (dN ks)) : ∃ o, h.get? a = some o /\ SObj P w o ks := by
 obtain ⟨o, es, ep, t, e, x1, x2, x3, x4, _, x6, x5⟩ := x
 exact ⟨o, e, x1, es, ep, t, x2, x3, x4, x5, x6⟩
theorem SObj.noCell {P : Program} {w : World} {o : Obj} {ks : List Key} (x : SObj P w o ks) : ∀ v, o.data ≠ .cell v := by
 obtain ⟨_, es, ep, t, e, _⟩ := x
 intro v z
 rw [e] at z
 cases z
theorem compTurn_setC (elt tg iter : Expr) (scope : Scope) (pos : Pos) (it acc : Value) (env : Env) : compTurn (.SetComp elt [⟨tg, iter, [], 0⟩] scope pos) 0 it acc env = (standAt iter.pos >>= fun _ => pyNext it >>= fun r => match r with
  | none => pure (.done .next)
  | some v => letOwnedTupleGo tg it v >>= fun _ => assign tg env v >>= fun _ => (eval elt env >>= fun x => standAt elt.pos >>= fun _ => call (.builtin "set.add") [acc, x] >>= fun _ => pure ()) >>= fun _ => again (.compLoop (.SetComp elt [⟨tg, iter, [], 0⟩] scope pos) 0 it acc env)) := by rfl
theorem compS_turns {prog : Program} {w : World} {A : Around} {R : Result -> Shared -> Prop} {s : Shared} {elt tg iter : Expr} {scope : Scope} {pos : Pos} {it acc : Value} {env : Env} (I : Nat -> Shared -> Prop)
  (turn : ∀ n s, I n s -> wpAny (model prog w) A (pyNext it) (fun r s₁ => match r with
   | none => R (.ok .next) s₁
   | some v => wpAny (model prog w) A (letOwnedTupleGo tg it v) (fun _ t₁ => wpAny (model prog w) A (assign tg env v) (fun _ s₂ =>
      wpAny (model prog w) A (eval elt env) (fun x s₄ => wpAny (model prog w) A (call (.builtin "set.add") [acc, x]) (fun _ s₅ => ∃ m, m < n /\ I m s₅) (fun _ _ => False) s₄) (fun _ _ => False) s₂) (fun _ _ => False) t₁) (fun _ _ => False) s₁) (fun _ _ => False) s)
  (n : Nat) (h : I n s) : codeAny (model prog w) A (.compLoop (.SetComp elt [⟨tg, iter, [], 0⟩] scope pos) 0 it acc env) R s := by
 refine codeAny_loop rfl I (fun n s hI => ?_) n h
 show wpAny _ A (Sem.onRaise (compTurn _ 0 it acc env) fun x => do noteFrame x env; theTreesLotGoes x) _ _ s
 refine wpAny_noted ?_
 rw [compTurn_setC]
 refine wpAny_bind (wpAny_standAt (wpAny_bind (wpAny_mono (turn n s hI) (fun r s₁ h₁ => ?_) fun _ _ z => z.elim)))
 cases r with
 | none => exact wpAny_pure h₁
 | some v =>
  refine wpAny_bind (wpAny_mono h₁ (fun _ t₁ k₁ => ?_) fun _ _ z => z.elim)
  refine wpAny_bind (wpAny_mono k₁ (fun _ s₂ h₂ => ?_) fun _ _ z => z.elim)
  refine wpAny_bind (wpAny_bind (wpAny_mono h₂ (fun x s₄ h₄ => ?_) fun _ _ z => z.elim))
  refine wpAny_bind (wpAny_standAt ?_)
  exact wpAny_bind (wpAny_mono h₄ (fun _ s₅ h₅ => wpAny_pure (wpAny_pure ⟨rfl, h₅⟩)) fun _ _ z => z.elim)
theorem compS_start {prog : Program} {w : World} {A : Around} {R : Result -> Shared -> Prop} {s : Shared} {elt tg iter : Expr} {scope : Scope} {pos : Pos} {it acc : Value} {env : Env}
  (h0 : codeAny (model prog w) A (.compLoop (.SetComp elt [⟨tg, iter, [], 0⟩] scope pos) 0 it acc env) R s)
  (h : wpAny (model prog w) A (pyIter it) (fun i' s' => codeAny (model prog w) A (.compLoop (.SetComp elt [⟨tg, iter, [], 0⟩] scope pos) 0 i' acc env) R s') (notedBy (model prog w) A env fun x s' => R (.error x) s') s) :
  codeAny (model prog w) A (.compStart (.SetComp elt [⟨tg, iter, [], 0⟩] scope pos) 0 it acc env) R s := by
 refine codeAny_of_tree ?_
 show wpAny _ _ ((compStart (.SetComp elt [⟨tg, iter, [], 0⟩] scope pos) 0 it acc env).onRaise (fun x => do noteFrame x env; standAt theWindowsPlace)) _ _ s
 refine wpAny_notedAt ?_
 unfold compStart
 show wpAny _ _ (ask >>= _) _ _ s
 refine wpAny_bind (wpAny_askSetting (wpAny_ite ?_))
 split
 ·first
   | exact wpAny_bind (wpAny_pure (wpAny_pure ⟨rfl, h0⟩))
   | exact wpAny_pure ⟨rfl, h0⟩
 ·first
   | exact wpAny_bind (wpAny_rule (wpAny_bind (wpAny_standAt (wpAny_bind (wpAny_mono h (fun i' s' h' => wpAny_pure ⟨rfl, h'⟩) fun _ _ x => x)))))
   | (refine wpAny_bind (wpAny_rule ?_); show wpAny _ _ (standAt iter.pos >>= _) _ _ s; exact wpAny_bind (wpAny_standAt (wpAny_bind (wpAny_mono h (fun i' s' h' => wpAny_pure ⟨rfl, h'⟩) fun _ _ x => x))))
def tCompS (n : Nat) (wi : TI) (g : TG) (te : TE) (fin : List Key -> Hp -> Prop) : St -> Hp -> Prop := fun σ H => wi σ H fun J H1 => ∃ k, k <= 4000 /\ ∃ W : Nat -> List Key -> Hp -> Prop, W 0 [] H1 /\ ∀ i ks H, W i ks H -> ks.length <= i /\ i <= k ∧
 ((J.stop i H /\ fin ks H) ∨ (i < k /\ J.go i H /\ ∀ x H', J.yld i H x H' -> g x (σ ++ List.replicate n none) H' fun σ2 H2 => te σ2 H2 fun y H4 => ∃ q, y = kV q /\ W (i + 1) (ks ++ [q]) H4))
def LSet (o : Obj) (n : Nat) : Prop := o.ExactSet /\ ∃ es ep t, o.data = .set es ep t /\ t.fits es.size = true /\ es.size = n /\ n <= 4000
theorem SObj.lset {P : Program} {w : World} {o : Obj} {ks : List Key} (x : SObj P w o ks) (hk : ks.length <= 4000) : LSet o (dN ks) := by
 obtain ⟨x1, es, ep, tb, x2, _, _, x5, x6⟩ := x
 exact ⟨x1, es, ep, tb, x2, x6, x5, Nat.le_trans (dN_le ks) hk⟩
def PEs (X : Cx) (e : Expr) (t : St -> Hp -> (Nat -> Hp -> Prop) -> Prop) : Prop :=
 ∀ (pins : List (Addr × Obj)) (s : Shared) (σ : St) (H : Hp) (Q : Nat -> Hp -> Prop), Inv X pins σ H s -> t σ H Q →
  wpAny (model X.prog X.w) X.A (eval e X.env) (fun u s' => ∃ a o n H', u = .ref a /\ Inv X pins σ H' s' /\ s'.heap.get? a = some o /\ LSet o n /\ Q n H') X.xe s
section
variable {X : Cx} {N0 : List Str} {tg elt iter : Expr} {scope : Scope} {xs : List Str} {cl : List (Str × Addr)} {pos : Pos} {wi : TI} {g : TG} {te : TE}
theorem compS_end {pins pins' : List (Addr × Obj)} {σ σ' : St} {H2 H' : Hp} {s2 s' : Shared} {C : Addr} {fp : List Addr} (I2 : Inv X pins σ H2 s2) (f2 : ∀ b ∈ fp, FpOk X pins H2 b)
  (J : Inv (X.comp N0 scope xs cl C s2 H2 fp) pins' σ' H' s') : Inv X pins σ H' s' := by
 have u : Un (frs X.stack) fp H2 H' s2.heap s'.heap := J.base
 refine I2.call' (ch := fp) J.os u J.hok J.bare fun b hb => ?_
 obtain ⟨_, z1, _, z2, z3, z4⟩ := f2 b hb
 exact ⟨z2, z1, z3, z4⟩
theorem kV_isS {P : Program} {w : World} {q : Key} {u : Value} (r : RelV (kV q) u) : (mixKind P w).is q u = true /\ u.scannable = true := by
 cases q with
 | inl i => obtain ⟨t, rfl⟩ := r; exact ⟨mixKind_int _ _ _ _, rfl⟩
 | inr z => obtain ⟨t, rfl⟩ := r; exact ⟨mixKind_str _ _ _ _, rfl⟩
theorem compS_block {pins : List (Addr × Obj)} {σ : St} {H2 : Hp} {s2 : Shared} {it : Addr} {fp : List Addr} {tn : Nat -> Heap -> Prop} {J : It} {k : Nat} {W : Nat -> List Key -> Hp -> Prop} {fin : List Key -> Hp -> Prop} {RR : Value -> Addr -> Result -> Shared -> Prop}
  (hc : X.calm = true) (hx : X.xe = fun _ _ => False) (S : CompOk X N0 scope xs cl)
  (hg : ∀ C s H fp, PG (X.comp N0 scope xs cl C s H fp) tg g) (he : ∀ C s H fp, PE (X.comp N0 scope xs cl C s H fp) elt te)
  (I2 : Inv X pins σ H2 s2) (T : Turn X.prog X.w X.K tg J fp it tn) (st2 : tn 0 s2.heap) (f2 : ∀ b ∈ fp, FpOk X pins H2 b) (hk : k <= 4000) (w0 : W 0 [] H2)
  (turn : ∀ i ks H, W i ks H -> ks.length <= i /\ i <= k /\ ((J.stop i H /\ fin ks H) ∨ (i < k /\ J.go i H /\ ∀ x H', J.yld i H x H' -> g x (σ ++ List.replicate xs.length none) H' fun σ2 H2 => te σ2 H2 fun y H4 => ∃ q, y = kV q /\ W (i + 1) (ks ++ [q]) H4)))
  (hRR : ∀ (D C : Addr) (s' : Shared) (o : Obj) (ks : List Key) (H' : Hp) (m' : Str -> Option Value), Inv X pins σ H' s' -> D ≠ C -> s'.heap.get? D = some o -> SObj X.prog X.w o ks -> ks.length <= 4000 -> s'.heap.Ns C m' -> FpOk X pins H' C -> fin ks H' -> RR (.ref D) C (.ok .next) s') :
  wpAny (model X.prog X.w) X.A (newSet (.type "set")) (fun acc s₃ => wpAny (model X.prog X.w) X.A (newFunctionEnv scope X.env.globals cl [] X.env.qual none .none (some X.env)) (fun cenv s₄ =>
   codeAny (model X.prog X.w) X.A (.compStart (.SetComp elt [⟨tg, iter, [], 0⟩] scope pos) 0 (.ref it) acc { cenv with scope := relabel scope X.env }) (RR acc cenv.locals) s₄) X.xe s₃) X.xe s2 := by
 refine wpAny_newSet_of (knd := mixKind X.prog X.w) fun led hS0 => wpAny_newFunctionEnv S.nc (by intro y hy; simp at hy) (fun h₁ hns₁ hsb₁ => ?_) S.kind
 dsimp only at hns₁ hsb₁ ⊢
 generalize hG : s2.heap.push { cls := .type "set", dict := none, data := .set #[] 0 (.fresh 0 0 led) } = G at hns₁ hsb₁ hS0 ⊢
 have szG : G.objs.size = s2.heap.objs.size + 1 := by rw [<- hG, Heap.size_push]
 have hDC : s2.heap.objs.size ≠ G.objs.size := by rw [szG]; exact Nat.ne_of_lt (Nat.lt_succ_self _)
 have hC : s2.heap.objs.size <= G.objs.size := by rw [szG]; exact Nat.le_succ _
 have hfp : ∀ b ∈ fp, b < s2.heap.objs.size := fun b hb => let ⟨_, e, _⟩ := T.obj 0 _ st2 b hb; Heap.lt_size e
 have old : ∀ b o, s2.heap.get? b = some o -> h₁.get? b = some o := fun b o e =>
  hsb₁.extBut b o (Nat.ne_of_lt (Nat.lt_of_lt_of_le (Heap.lt_size e) hC)) (Heap.get?_push_of_some _ (hG ▸ Heap.get?_push_of_some _ e))
 obtain ⟨o0, eo0, so0⟩ := SObj.of (ks := []) (show G.SetOf (mixKind X.prog X.w) s2.heap.objs.size (hasK []) (dN []) from hS0)
 have hacc : h₁.get? s2.heap.objs.size = some o0 := hsb₁.extBut _ _ hDC (Heap.get?_push_of_some _ eo0)
 have hst₁ : tn 0 h₁ := T.keep 0 _ _ st2 fun b _ o e => old b o e
 have I3 : ∀ tk, Inv (X.comp N0 scope xs cl G.objs.size s2 H2 fp) [(s2.heap.objs.size, o0)] (σ ++ List.replicate xs.length none) H2 { s2 with heap := h₁, toks := tk } := fun tk =>
  comp_start I2 S f2 hfp hC (Nat.le_refl _) hDC old rfl I2.bare hns₁ hacc so0.noCell
 have stat : ∀ {H' : Hp} {o : Obj}, (∀ b ∈ fp, H' b = none) -> ∀ b ∈ fp, FpOk (X.comp N0 scope xs cl G.objs.size s2 H2 fp) [(s2.heap.objs.size, o)] H' b := fun {H' o} hn b hb => by
  refine ⟨hn b hb, Nat.ne_of_lt (Nat.lt_of_lt_of_le (hfp b hb) hC), fun z => ?_, .inl hb, fun x c e => (f2 b hb).2.2.2.2.1 x c (S.sub.at e), fun p hp => ?_⟩
  ·rcases List.mem_cons.mp (I2.stkSub b z) with q | q
   ·exact (f2 b hb).2.1 q
   ·exact (f2 b hb).2.2.1 q
  ·have e : p = (s2.heap.objs.size, o) := List.mem_singleton.mp (show p ∈ [(s2.heap.objs.size, o)] from hp)
   subst e
   exact Nat.ne_of_gt (hfp b hb)
 have loop : ∀ tk, codeAny (model X.prog X.w) X.A (.compLoop (.SetComp elt [⟨tg, iter, [], 0⟩] scope pos) 0 (.ref it) (.ref s2.heap.objs.size) (compEnvC scope cl G.objs.size X.env)) (RR (.ref s2.heap.objs.size) G.objs.size) { s2 with heap := h₁, toks := tk } := by
  intro tk
  refine compS_turns (fun n s' => ∃ i ks o H', Inv (X.comp N0 scope xs cl G.objs.size s2 H2 fp) [(s2.heap.objs.size, o)] (σ ++ List.replicate xs.length none) H' s' /\ tn i s'.heap /\ (∀ b ∈ fp, H' b = none) /\ SObj X.prog X.w o ks /\ W i ks H' /\ n = k - i)
   ?_ k ⟨0, [], o0, H2, I3 tk, hst₁, fun b hb => (f2 b hb).1, so0, w0, rfl⟩
  rintro n s' ⟨i, ks, o, H', I', st', fr', so, w', rfl⟩
  obtain ⟨hlen, hik, way⟩ := turn i ks H' w'
  rcases way with ⟨stop, qf⟩ | ⟨hlt, go, step⟩
  ·refine thn (T.done (X.comp N0 scope xs cl G.objs.size s2 H2 fp) rfl rfl rfl hc i _ s' _ H' (fun _ _ => False) I' (stat fr') st' stop) fun r s1 ⟨hr, I1⟩ => ?_
   subst hr
   obtain ⟨e, n1, _⟩ := I1.pin _ (List.mem_singleton.mpr rfl)
   obtain ⟨m1, hn1, _⟩ := I1.loc
   exact hRR _ _ s1 o ks H' m1 (compS_end I2 f2 I1) hDC e so (by omega) hn1 (I2.fpOk hC I1.free) qf
  ·refine thn (T.item (X.comp N0 scope xs cl G.objs.size s2 H2 fp) rfl rfl rfl hc i _ s' _ H' (fun _ _ => False) I' (stat fr') st' go) fun r s1 ⟨u, hr, h1⟩ => ?_
   subst hr
   refine thn h1 fun _ s5 ⟨x, H5, I5, r5, y5, st5, fr5⟩ => ?_
   have I5' := I5.pinned (stat fr5) (T.obj _ _ st5)
   have hxe : (X.comp N0 scope xs cl G.objs.size s2 H2 fp).xe = fun _ _ => False := hx
   have q6 := hg _ s2 H2 fp _ s5 _ H5 x u _ I5' r5 (step x H5 y5)
   rw [hxe] at q6
   refine thn q6 fun _ s6 ⟨σ6, H6, I6, q6⟩ => ?_
   have kept : ∀ {σ' : St} {H' : Hp} {s' : Shared}, Inv (X.comp N0 scope xs cl G.objs.size s2 H2 fp) ([(s2.heap.objs.size, o)] ++ pinsAt fp s5.heap) σ' H' s' -> tn (i + 1) s'.heap /\ ∀ b ∈ fp, H' b = none := fun {σ' H' s'} Z => by
    refine ⟨T.keep _ _ _ st5 fun b hb o e => (Z.pin (b, o) (List.mem_append_right _ (List.mem_append_right _ (mem_pinsAt hb e)))).1, fun b hb => ?_⟩
    obtain ⟨o, e, d⟩ := T.obj _ _ st5 b hb
    exact (Z.pin (b, o) (List.mem_append_right _ (List.mem_append_right _ (mem_pinsAt hb e)))).2.1
   have q8 := he _ s2 H2 fp _ s6 σ6 H6 _ I6 q6
   rw [hxe] at q8
   refine thn q8 fun y s8 ⟨yv, H8, I8, r8, q, eq, w8⟩ => ?_
   subst eq
   obtain ⟨eD, nD, neC, nfD, _⟩ := I8.pin (s2.heap.objs.size, o) (List.mem_append_right _ (List.mem_append_left _ (List.mem_singleton.mpr rfl)))
   obtain ⟨hkey, hsc⟩ := kV_isS (P := X.prog) (w := X.w) r8
   have hdn := dN_le ks
   refine call_set_add (knd := mixKind X.prog X.w) hkey hsc (so.setOf eD (by omega)) (by unfold scanBound; omega) fun h' hsb hS' => ?_
   have hS2 : h'.SetOf (mixKind X.prog X.w) s2.heap.objs.size (hasK (ks ++ [q])) (dN (ks ++ [q])) := by
    rw [dN_push, show hasK (ks ++ [q]) = fun k' => (hasK ks k' || decide (k' = q)) from funext fun k' => hasK_push ks q k']
    exact hS'
   obtain ⟨o', eN, so'⟩ := SObj.of hS2
   have drop : Inv (X.comp N0 scope xs cl G.objs.size s2 H2 fp) (pinsAt fp s5.heap) σ6 H8 s8 := I8.pins_of fun p hp => I8.pin p (List.mem_append_right _ (List.mem_append_right _ hp))
   have I9 : Inv (X.comp N0 scope xs cl G.objs.size s2 H2 fp) (pinsAt fp s5.heap) σ6 H8 { s8 with heap := h', toks := s8.toks + 1 } := by
    refine drop.turned (it := s2.heap.objs.size) (t' := s8.toks + 1) (fun b o hb q => hsb.extBut b o hb q) nD neC (.inr (Nat.le_refl _)) (fun x c e z => ?_) fun p hp z => ?_
    ·obtain ⟨v, q⟩ := I2.cell x c (S.sub.at e)
     exact absurd (q.lt) (by rw [z]; exact Nat.lt_irrefl _)
    ·have hp' : p ∈ pinsAt fp s5.heap := hp
     exact absurd (hfp _ (of_pinsAt hp').1) (by rw [z]; exact Nat.lt_irrefl _)
   have I10 : Inv (X.comp N0 scope xs cl G.objs.size s2 H2 fp) ([(s2.heap.objs.size, o')] ++ pinsAt fp s5.heap) σ6 H8 { s8 with heap := h', toks := s8.toks + 1 } := I9.pins_of fun p hp => by
    rcases List.mem_append.mp hp with z | z
    ·have e := List.mem_singleton.mp z
     subst e
     exact ⟨eN, nD, neC, nfD, so'.noCell⟩
    ·exact I9.pin p (List.mem_append_right _ z)
   have kp : tn (i + 1) h' /\ ∀ b ∈ fp, H8 b = none :=
    ⟨T.keep _ _ _ (kept I8).1 fun b hb o e => hsb.extBut b o (Nat.ne_of_lt (hfp b hb)) e, (kept I8).2⟩
   exact ⟨k - (i + 1), by omega, i + 1, ks ++ [q], o', H8, comp_reset I2 S f2 I10.unpinned, kp.1, kp.2, so', w8, rfl⟩
 exact compS_start (loop _) (T.self _ 0 _ _ _ hst₁ (loop _))
theorem pes_comp (hc : X.calm = true) (hx : X.xe = fun _ _ => False) (S : CompOk X N0 scope xs cl) (hi : PI X tg iter wi)
  (hg : ∀ C s H fp, PG (X.comp N0 scope xs cl C s H fp) tg g) (he : ∀ C s H fp, PE (X.comp N0 scope xs cl C s H fp) elt te)
  (hs : autoParam (∀ x, foldedSetIterable iter X.env x = pure x) AutoP.a2._auto_1) :
  PEs X (.SetComp elt [⟨tg, iter, [], 0⟩] scope pos) (fun σ H Q => tCompS xs.length wi g te (fun ks H' => Q (dN ks) H') σ H) := by
 intro pins s σ H Q I h
 show wpAny _ _ (comprehension (.SetComp elt [⟨tg, iter, [], 0⟩] scope pos) scope X.env _ (newSet (.type "set")) false (eval iter X.env)) _ _ s
 refine wpAny_comprehension_free (use := none) rfl hs S.clos S.kind (fun y hy hl => (S.lo hy hl).1) ?_
 refine thn (hi pins s σ H _ I h) fun xv s1 h1 => thn h1 fun itv s2 h2 => ?_
 obtain ⟨it, fp, tn, J, H2, rfl, I2, T, st2, f2, k, hk, W, w0, turn⟩ := h2
 refine compS_block (RR := fun acc C => compPost (model X.prog X.w) X.A X.xe none _ acc C) hc hx S hg he I2 T st2 f2 hk w0 turn ?_
 intro D C s' o ks H' m' I' hDC eD so hkl hn fC fin
 exact ⟨m', hn, fun h' k => ⟨D, o, dN ks, H', rfl, comp_gone I' fC k, k.extBut _ _ hDC eD, so.lset hkl, fin⟩⟩
theorem pe_lenOf {t : St -> Hp -> (Nat -> Hp -> Prop) -> Prop} {e : Expr} {x : Str} {p pos : Pos} (he : PEs X e t) (hg : Gl X x) (hm : X.mg x = none) (hv : bootBuiltins x = some (.builtin "len")) (hn : autoParam (x ≠ "__name__") AutoP.a1._auto_1) (hdb : autoParam ((x == ("__debug__" : Str)) = false) AutoP.a1._auto_1)
  (hst : autoParam (starEach [e] X.env = (false, eval e X.env) :: starEach [] X.env) AutoP.a3._auto_1) : PE X (.Call (.Name x p) [e] [] pos) (fun σ H Q => t σ H fun n H' => Q (.int n) H') := by
 intro pins s σ H Q I h
 refine wpAny_Call_Name_kw (ld_blt I hg hm hv ?_ hn hdb)
 refine PyProof.Rows.callWith_builtin1 ?_ hst rfl
 rw [hst]
 show wpAny _ _ (spliced ((false, eval e X.env) :: backTo pos (starEach [] X.env))) _ _ s
 refine Calls.spliced_cons (thn (he pins s σ H _ I h) fun u s1 ⟨a, o, n, H1, eu, I1, eo, so, q⟩ => ?_)
 subst eu
 refine Calls.spliced_nil ?_
 obtain ⟨x1, es, ep, tb, x2, x6, x5, hk⟩ := so
 refine call_len_set eo x1 x2 x6 ?_ ?_
 ·have : (es.size : Int) <= 4000 := by omega
  exact Int.lt_of_le_of_lt this (by decide)
 ·rw [x5]
  exact ⟨.int _, H1, I1.tok _, ⟨_, rfl⟩, q⟩
end
theorem firstMet_dN {ns : List Int} : ∀ i, i <= ns.length -> (firstMet (fun i => ns.getD i 0) i).length = dN ((ns.take i).map Sum.inl)
 | 0, _ => by rw [firstMet_zero]; rfl
 | i + 1, h => by
  have hi : i < ns.length := h
  have ih := firstMet_dN (ns := ns) i (by omega)
  have e : ns.getD i 0 = ns[i] := by simp [List.getD, hi]
  have et : ns.take (i + 1) = ns.take i ++ [ns[i]] := by rw [List.take_add_one, List.getElem?_eq_getElem hi]; rfl
  rw [firstMet_succ, step_length, et, List.map_append, List.map_cons, List.map_nil, dN_push, ih]
  have em : (firstMet (fun i => ns.getD i 0) i).any (· == (ns.getD i 0)) = hasK ((ns.take i).map Sum.inl) (Sum.inl ns[i]) := by
   rw [firstMet_any, e, Bool.eq_iff_iff, hasK_iff, List.any_eq_true]
   constructor
   ·rintro ⟨x, hx, hxe⟩
    obtain ⟨j, hj, rfl⟩ := List.mem_map.mp hx
    rw [List.mem_range] at hj
    have h2 : ns.getD j 0 = ns[j]'(by omega) := by simp [List.getD, show j < ns.length by omega]
    have h3 : ns[j]'(by omega) = ns[i] := by rw [<- h2]; simpa using hxe
    refine List.mem_map.mpr ⟨ns[i], ?_, rfl⟩
    rw [<- h3]
    exact List.mem_take_iff_getElem.mpr ⟨j, by omega, rfl⟩
   ·intro hx
    obtain ⟨x, hx, hxe⟩ := List.mem_map.mp hx
    cases hxe
    obtain ⟨j, hj, hje⟩ := List.mem_take_iff_getElem.mp hx
    refine ⟨ns.getD j 0, List.mem_map.mpr ⟨j, List.mem_range.mpr (by omega), rfl⟩, ?_⟩
    have h2 : ns.getD j 0 = ns[j]'(by omega) := by simp [List.getD, show j < ns.length by omega]
    rw [h2]
    simpa using hje
  rw [em]
section
variable {prog : Program} {w : World} {A : Around} {E : Value -> Shared -> Prop} {s : Shared}
theorem push2 {h : Heap} {o o2 : Obj} {b : Addr} {x : Obj} (e : h.get? b = some x) : ((h.push o).push o2).get? b = some x := Heap.get?_push_of_some _ (Heap.get?_push_of_some _ e)
def SetLeft (prog : Program) (w : World) (s : Shared) (ns : List Int) (h' : Heap) : Prop :=
 h'.SetOf (intKind prog w) s.heap.objs.size (fun j => (firstMet (fun i => ns.getD i 0) ns.length).any (· == j)) (firstMet (fun i => ns.getD i 0) ns.length).length /\ ∀ b o, b < s.heap.objs.size -> s.heap.get? b = some o -> h'.get? b = some o
abbrev noSet (led : Bool) : Obj := { cls := .type "set", dict := none, data := .set #[] 0 (.fresh 0 0 led) }
theorem set_init_tup {q : Addr} {its : Array Value} {ns : List Int} {led : Bool} (hh : A.handled = none) (hq : s.heap.IsTuple q its) (hi : IntsAre its.toList ns) (hb : its.size + 1 < scanBound) (hn : its.size = ns.length) :
  wpAny (model prog w) A (Builtin.«set.__init__» ⟨[.ref s.heap.objs.size, .ref q], []⟩) (fun fin s₂ => ∃ r, fin = .done (.ret r) /\ r = .none /\ ∃ h' tk, s₂ = { s with heap := h', toks := tk } /\ SetLeft prog w s ns h') E { s with heap := s.heap.push (noSet led) } := by
 obtain ⟨ot, hot, hct, nt, hdt⟩ := hq
 obtain ⟨kc, kd, kx, ks⟩ := ot
 simp only at hct hdt
 subst hct
 subst hdt
 have hot' : (s.heap.push (noSet led)).get? q = some { cls := .type "tuple", dict := kd, data := .seq its nt, slots := ks } := Heap.get?_push_of_some _ hot
 have ha := F.sub_tuple_set
 have hb2 := F.sub_tuple_frozenset
 have hc : (Value.type "tuple" == Value.type "dict") = false := by decide
 have hq1 : (s.heap.push (noSet led)).IsTuple q its := ⟨_, hot', rfl, nt, rfl⟩
 have hS : (s.heap.push (noSet led)).get? s.heap.objs.size = some (noSet led) := Heap.get?_push_size _ rfl
 unfold Builtin.«set.__init__» noKeywords Builtin.Frozenset.updateFrom
 generalize hPI : pyIter = PI
 wp_walk
 subst hPI
 refine wpAny_pyIter_tuple hq1 (wpAny_bind (wpAny_runValue ?_))
 have hlt : q < s.heap.objs.size := Heap.lt_size hot
 have sz1 : (s.heap.push (noSet led)).objs.size = s.heap.objs.size + 1 := Heap.size_push _ _
 have hne : q ≠ (s.heap.push (noSet led)).objs.size := by rw [sz1]; exact Nat.ne_of_lt (Nat.lt_succ_of_lt hlt)
 have hSf : s.heap.objs.size ∉ [(s.heap.push (noSet led)).objs.size, q] := by
  rw [sz1]
  simp only [List.mem_cons, List.not_mem_nil, or_false, not_or]
  exact ⟨Nat.ne_of_lt (Nat.lt_succ_self _), Nat.ne_of_gt hlt⟩
 have hval : ∀ (i : Nat) (v : Value), its[i]? = some v -> ∃ t, v = .int ((fun i => ns.getD i 0) i) t := fun i v hv => IntsAre.int_at hi i v (by rw [Array.getElem?_toList]; exact hv)
 refine codeAny_set_update_loopS ((Walks.tuple (by simp [hh]) _ q hne its).toS) s.heap.objs.size hSf (fun i => ns.getD i 0) hval hb its.size 0 _ (Nat.sub_zero _) (Nat.zero_le _) ⟨⟨_, Heap.get?_push_size _ rfl, rfl, rfl⟩, hq1.push _⟩ ?_ ?_
 ·exact SetOf_congr ((setObjOf_fresh (knd := intKind prog w) led).setOf (Heap.get?_push_of_some _ hS) (by decide)) (fun _ => rfl) rfl
 ·intro s' hm hS'
  obtain ⟨h', g', d', tk', os'⟩ := s'
  have eg : g' = s.gens := hm.gens
  have ed : d' = s.drawn := hm.drawn
  have eo : os' = s.os := hm.os
  subst eg ed eo
  refine wpAny_pure (wpAny_pure ⟨_, rfl, rfl, h', tk', rfl, by rw [<- hn]; exact hS', fun b o hbl e => ?_⟩)
  refine hm.heap b o ?_ (push2 e)
  rw [sz1]
  simp only [List.mem_cons, List.not_mem_nil, or_false, not_or]
  exact ⟨Nat.ne_of_lt hbl, Nat.ne_of_lt (Nat.lt_succ_of_lt hbl)⟩
theorem call_set_tup {q : Addr} {its : Array Value} {ns : List Int} {Q : Value -> Shared -> Prop} (hh : A.handled = none) (hq : s.heap.IsTuple q its) (hi : IntsAre its.toList ns) (hb : its.size + 1 < scanBound) (hn : its.size = ns.length)
  (h : ∀ h' tk, SetLeft prog w s ns h' -> Q (.ref s.heap.objs.size) { s with heap := h', toks := tk }) : wpAny (model prog w) A (call (.type "set") [.ref q]) Q E s := by
 have C := F.called_set
 obtain ⟨c, tl, hmro⟩ := C.mro
 have hmade := C.made
 have hsub := C.sub
 refine wpAny_call (codeAny_of_tree (wpAny_pure ⟨Code.quiet_builtin _ (by decide +kernel), codeAny_builtin F.entry_type_call ?_⟩))
 rw [Around.under_plain (weight_type_call_type "set" [.ref q] []) rfl]
 have h1 := C.notType
 have h2 := C.canCreate
 have hct := F.typeCall_set_1 (.ref q)
 repeat (any_goals (first | assumption | wp_step))
 refine codeAny_mono (code_set_new_1 (.ref q) (E := E) (Q₁ := fun ob s₁ => ∃ led : Bool, ob = .ref s.heap.objs.size /\ s₁ = { s with heap := s.heap.push (noSet led) }) fun led => ⟨led, rfl, rfl⟩) fun r s₁ hr => ?_
 cases r with
 | error e => exact hr
 | ok fl =>
  cases fl with
  | ret ob =>
   obtain ⟨led, rfl, rfl⟩ := hr
   have hS : (s.heap.push (noSet led)).get? s.heap.objs.size = some (noSet led) := Heap.get?_push_size _ rfl
   have hT : Shared.TypeIs { s with heap := s.heap.push (noSet led) } (.ref s.heap.objs.size) "set" := ⟨_, hS, rfl⟩
   have hli := C.init.lookup
   have hbi := C.init.bind (.ref s.heap.objs.size)
   repeat (any_goals (first | assumption | wp_step))
   refine codeAny_mono (codeAny_call_builtin (R := wants (fun r s₂ => r = .none /\ ∃ h' tk, s₂ = { s with heap := h', toks := tk } /\ SetLeft prog w s ns h') E) C.init.plain F.entry_set_init (check_set_init_1 hT ?_)) fun r₂ s₂ hr₂ => ?_
   ·refine wpAny_mono (set_init_tup (led := led) (by simp [hh]) hq hi hb hn) (fun fin s₂ hf => ?_) fun _ _ z => z
    obtain ⟨r, rfl, rfl, h', tk, rfl, hl⟩ := hf
    exact ⟨rfl, h', tk, rfl, hl⟩
   ·cases r₂ with
    | error e => exact hr₂
    | ok f2 =>
     cases f2 with
     | ret r =>
      obtain ⟨rfl, h', tk, rfl, hl⟩ := hr₂
      repeat (any_goals (first | assumption | wp_step))
      exact h _ _ hl
     | _ => exact hr₂.elim
  | _ => exact hr.elim
end
theorem vals_intsS : ∀ {ns : List Int} {us : List Value}, Vals (ns.map V.int) us -> IntsAre us ns
 | [], _, h => by cases h; exact .nil
 | n :: r, _, h => by
  cases h with
  | cons a b =>
   obtain ⟨t, rfl⟩ := a
   exact .cons n t (vals_intsS b)
variable {X : Cx} {e : Expr} {te : TE} {pos : Pos}
theorem pes_set {x : Str} {p : Pos} (hc : X.calm = true) (he : PE X e te) (hg : Gl X x) (hm : X.mg x = none) (hv : bootBuiltins x = some (.type "set")) (hn : autoParam (x ≠ "__name__") AutoP.a1._auto_1) (hdb : autoParam ((x == ("__debug__" : Str)) = false) AutoP.a1._auto_1)
  (hst : autoParam (starEach [e] X.env = (false, eval e X.env) :: starEach [] X.env) AutoP.a3._auto_1) :
  PEs X (.Call (.Name x p) [e] [] pos) (fun σ H Q => te σ H fun v H' => ∃ (a : Addr) (ns : List Int), v = .ref a /\ (SqT X.K H' a (ns.map V.int) ∨ SqL X.K H' a (ns.map V.int)) /\ ns.length <= 4000 /\ Q (dN (ns.map Sum.inl)) H') := by
 intro pins s σ H Q I h
 refine wpAny_Call_Name_kw (ld_blt I hg hm hv ?_ hn hdb)
 refine PyProof.Rows.callWith_type1 ?_ hst rfl
 rw [hst]
 show wpAny _ _ (spliced ((false, eval e X.env) :: backTo pos (starEach [] X.env))) _ _ s
 refine Calls.spliced_cons (thn (he pins s σ H _ I h) fun u s1 ⟨v, H1, I1, rv, a, ns, ev, hsq, hl, q⟩ => ?_)
 subst ev
 obtain rfl : u = Value.ref a := rv
 refine Calls.spliced_nil ?_
 have fin : ∀ h' tk, SetLeft X.prog X.w s1 ns h' -> ∃ a o n H', Value.ref s1.heap.objs.size = .ref a /\ Inv X pins σ H' { s1 with heap := h', toks := tk } /\ h'.get? a = some o /\ LSet o n /\ Q n H' := by
  intro h' tk ⟨hS, hk⟩
  rw [firstMet_dN _ (Nat.le_refl _), List.take_length] at hS
  obtain ⟨o, es, ep, t, e, x1, x2, x3, x4, _, x6, x5⟩ := hS
  have := dN_le (ns.map Sum.inl)
  rw [List.length_map] at this
  exact ⟨_, o, _, H1, rfl, I1.kept (t' := tk) fun b o e => hk b o (Heap.lt_size e) e, e, ⟨x1, es, ep, t, x2, x6, x5, Nat.le_trans this hl⟩, q⟩
 rcases hsq with hsq | hsq
 ·obtain ⟨its, r, ⟨o, e1, e2, n, e3⟩, _⟩ := I1.tuple hsq
  have hlen := r.length
  rw [List.length_map] at hlen
  exact call_set_tup (its := its.toArray) (I1.ok.hd hc) ⟨o, e1, e2, n, e3⟩ (by simpa using vals_intsS r) (by rw [List.size_toArray]; unfold scanBound; omega) (by rw [List.size_toArray]; omega) fin
 ·obtain ⟨its, r, ⟨o, n, e1, e2, e4, e3⟩, _⟩ := I1.list hsq
  have hlen := r.length
  rw [List.length_map] at hlen
  have hsz : its.toArray.size = ns.length := by rw [List.size_toArray]; omega
  refine PySem.call_set_list (items := its.toArray) (ns := ns) (I1.ok.hd hc) ⟨o, e1, e2, n, e3⟩ (by simpa using vals_intsS r) (by rw [hsz]; unfold scanBound; omega) fun h' tk hS hk => ?_
  rw [hsz] at hS
  exact fin h' tk ⟨hS, hk⟩
end L2
set_option autoImplicit false
namespace MD
open PySem PySem.Spec PyProof.Rows L2
def compK (gt : GV) (fa : EV) (ρ : En) : List D -> Sto -> Res (List Key)
 | [], m => .ok [] m
 | d :: r, m => (gt d ρ m).bind fun ρ1 m1 => (fa ρ1 m1).bind fun x m2 => match keyOf x with
  | some q => (compK gt fa ρ r m2).bind fun ks m3 => .ok (q :: ks) m3
  | none => .bad
def eLenC (n : Nat) (fr : AV) (gt : GV) (fa : EV) : EV := fun ρ m => (fr ρ m).bind fun ds m1 => if ds.length <= 4000 then (compK gt fa (ρ ++ List.replicate n none) ds m1).bind fun ks m2 => .ok (.int (dN ks)) m2 else .bad
section
variable {X : Cx} {K : PySem.W.Frag} {cl : Str -> Addr} {ex : XD} {gt : GV} {fa : EV} {fr : AV}
theorem keyOf_rep {α : List Addr} {H : Hp} {d : D} {v : V} {q : Key} (e : keyOf d = some q) (r : Rep K α H d v) : v = kV q := by
 unfold keyOf at e
 split at e
 ·cases e; rw [Rep] at r; exact r
 ·cases e; rw [Rep] at r; exact r
 ·cases e
theorem tCompS_of {n : Nat} {σ : L2.St} {H : Hp} {Q : V -> Hp -> Prop} (h : tD K cl ex (eLenC n fr gt fa) σ H Q) :
  tCompS n (tDI K cl ex fr) (tDG K cl ex gt) (tD K cl ex fa) (fun ks H' => Q (.int (dN ks)) H') σ H := by
 obtain ⟨α, ρ, m, W, hr, h⟩ := h
 refine ⟨α, ρ, m, W, hr, PQ.mono (Ext.refl W) h.bind fun ds α1 m1 H1 E1 W1 q J hJ => ?_⟩
 obtain ⟨hk, q⟩ := PQ.if q
 have hr1 := hr.mono W E1
 refine ⟨ds.length, hk, fun i ks H2 => i <= ds.length /\ ks.length <= i /\ ∃ α2 m2, Ext α1 H1 α2 H2 /\ Wd K cl α2 m2 H2 /\ PQ K cl ex ((compK gt fa (ρ ++ List.replicate n none) (ds.drop i) m2).bind fun ys m4 => .ok (D.int (dN (ks ++ ys))) m4) α2 H2 fun d α' _ H' => ∀ v, Rep K α' H' d v -> Q v H', ⟨Nat.zero_le _, Nat.le_refl _, α1, m1, Ext.refl W1, W1, by simpa using q⟩, ?_⟩
 rintro i ks H2 ⟨hi, hl, α2, m2, E2, W2, q2⟩
 refine ⟨hl, hi, ?_⟩
 by_cases hlt : i < ds.length
 ·right
  have hd : ds[i]? = some ds[i] := by simp [hlt]
  obtain ⟨g1, g2⟩ := (hJ i α2 m2 H2 E2 W2).1 _ hd
  refine ⟨hlt, g1, fun x H3 y => ?_⟩
  obtain ⟨sm, rx⟩ := g2 x H3 y
  have Es := Ext.of_same W2 sm
  have W3 := W2.same sm
  rw [List.drop_eq_getElem_cons hlt, compK, Res.bind_assoc] at q2
  have E23 := E2.trans Es
  refine ⟨α2, ρ ++ List.replicate n none, m2, ds[i], W3, (hr1.mono W1 E23).more n, rx, PQ.mono Es q2.bind fun ρ4 α4 m4 H4 E4 W4 q4 σ4 hr4 => ?_⟩
  rw [Res.bind_assoc] at q4
  refine tD.use W4 hr4 q4 fun α6 m6 H6 d v E6 W6 hr6 rv q6 => ?_
  cases ek : keyOf d with
  | none => rw [ek] at q6; exact q6.elim
  | some k =>
   rw [ek] at q6
   refine ⟨k, keyOf_rep ek rv, hlt, by rw [List.length_append]; show ks.length + 1 <= i + 1; omega, α6, m6, E23.trans (E4.trans E6), W6, ?_⟩
   have q7 : PQ K cl ex (((compK gt fa (ρ ++ List.replicate n none) (ds.drop (i + 1)) m6).bind fun ks m3 => .ok (k :: ks) m3).bind fun ys m4 => .ok (D.int (dN (ks ++ ys))) m4) α6 H6 fun d α' _ H' => ∀ v, Rep K α' H' d v -> Q v H' := q6
   rw [Res.bind_assoc] at q7
   simp only [List.append_assoc, List.singleton_append]
   exact q7
 ·left
  have hi2 : i = ds.length := by omega
  subst hi2
  refine ⟨(hJ ds.length α2 m2 H2 E2 W2).2 rfl, ?_⟩
  rw [List.drop_of_length_le (Nat.le_refl _), compK] at q2
  have q3 : PQ K cl ex (.ok (D.int (dN (ks ++ []))) m2) α2 H2 fun d α' _ H' => ∀ v, Rep K α' H' d v -> Q v H' := q2
  rw [List.append_nil] at q3
  exact PQ.ok W2 q3 _ repI
end
section
variable {X : Cx} {N0 : List Str} {cl : Str -> Addr} {ex : XD} {e tg it : Expr} {fa : EV} {fr : AV} {pos p pos' : Pos} {gt : GV} {scope : Scope} {xs : List Str} {clo : List (Str × Addr)} {x : Str}
theorem qe_lenC (hc : X.calm = true) (hx : X.xe = fun _ _ => False) (S : CompOk X N0 scope xs clo) (hi : QI X cl ex tg it fr)
  (hg : ∀ C s H fp, QG (X.comp N0 scope xs clo C s H fp) cl ex tg gt) (he : ∀ C s H fp, QE (X.comp N0 scope xs clo C s H fp) cl ex e fa)
  (hgl : Gl X x) (hm : X.mg x = none) (hv : bootBuiltins x = some (.builtin "len")) (hn : autoParam (x ≠ "__name__") AutoP.a1._auto_1) (hdb : autoParam ((x == ("__debug__" : Str)) = false) AutoP.a1._auto_1)
  (hst : autoParam (starEach [.SetComp e [⟨tg, it, [], 0⟩] scope pos] X.env = (false, eval (.SetComp e [⟨tg, it, [], 0⟩] scope pos) X.env) :: starEach [] X.env) AutoP.a3._auto_1)
  (hs : autoParam (∀ x, foldedSetIterable it X.env x = pure x) AutoP.a2._auto_1) : QE X cl ex (.Call (.Name x p) [.SetComp e [⟨tg, it, [], 0⟩] scope pos] [] pos') (eLenC xs.length fr gt fa) :=
 ⟨PE.weak (pe_lenOf (pes_comp (g := tDG X.K cl ex gt) (te := tD X.K cl ex fa) hc hx S hi.out (fun C s H fp => (hg C s H fp).out) (fun C s H fp => (he C s H fp).out) hs) hgl hm hv hn hdb hst) fun σ H Q hh => tCompS_of hh⟩
def seqI (d : D) (m : Sto) : Option (List Int) := match d with
 | .tup xs => asInts xs
 | d => (lOf d m).bind asInts
def lenSet (d : D) (m : Sto) : Res D := match seqI d m with
 | some ns => if ns.length <= 4000 then .ok (.int (dN (ns.map Sum.inl))) m else .bad
 | none => .bad
theorem seqI_use {K : PySem.W.Frag} {α : List Addr} {m : Sto} {H : Hp} {d : D} {v : V} {ns : List Int} (W : Wd K cl α m H) (e : seqI d m = some ns) (rv : Rep K α H d v) : ∃ a, v = .ref a /\ (SqT K H a (ns.map V.int) ∨ SqL K H a (ns.map V.int)) := by
 unfold seqI at e
 split at e
 ·rw [Rep] at rv
  obtain ⟨a, ys, rfl, h1, r1⟩ := rv
  rw [asInts_use e r1] at h1
  exact ⟨a, rfl, .inl h1.sq⟩
 ·obtain ⟨xs, e1, e2⟩ := Option.bind_eq_some_iff.mp e
  obtain ⟨p, ys, rfl, h1, r1⟩ := lOf_use W e1 rv
  rw [asInts_use e2 r1] at h1
  exact ⟨p, rfl, .inr h1⟩
theorem qe_lenS {y : Str} {p2 : Pos} (hc : X.calm = true) (he : QE X cl ex e fa) (hgl : Gl X x) (hm : X.mg x = none) (hv : bootBuiltins x = some (.builtin "len")) (hgl2 : Gl X y) (hm2 : X.mg y = none) (hv2 : bootBuiltins y = some (.type "set"))
  (hn : autoParam (x ≠ "__name__") AutoP.a1._auto_1) (hdb : autoParam ((x == ("__debug__" : Str)) = false) AutoP.a1._auto_1) (hn2 : autoParam (y ≠ "__name__") AutoP.a1._auto_1) (hdb2 : autoParam ((y == ("__debug__" : Str)) = false) AutoP.a1._auto_1)
  (hst : autoParam (starEach [.Call (.Name y p2) [e] [] pos] X.env = (false, eval (.Call (.Name y p2) [e] [] pos) X.env) :: starEach [] X.env) AutoP.a3._auto_1)
  (hst2 : autoParam (starEach [e] X.env = (false, eval e X.env) :: starEach [] X.env) AutoP.a3._auto_1) : QE X cl ex (.Call (.Name x p) [.Call (.Name y p2) [e] [] pos] [] pos') (eUn lenSet fa) :=
 ⟨PE.weak (pe_lenOf (pes_set hc he.out hgl2 hm2 hv2 hn2 hdb2 hst2) hgl hm hv hn hdb hst) fun σ H Q hh => ex3 hh fun α ρ m W hr h => ⟨α, ρ, m, W, hr, PQ.mono (Ext.refl W) h.bind fun d α1 m1 H1 E1 W1 q v rv => by
  unfold lenSet at q
  split at q
  ·rename_i ns hns
   obtain ⟨hl, q⟩ := PQ.if q
   obtain ⟨a, rfl, hsq⟩ := seqI_use W1 hns rv
   exact ⟨a, ns, rfl, hsq, hl, PQ.ok W1 q _ repI⟩
  ·exact q.elim⟩⟩
end
def gIsName0 : SV :=
 (sSeq (sIf (tOrM (tNotM (tV (eUn (isiD "str") (zag 0)))) (tNotM (tV (eChain leD leD (eC (.int 1)) (eFn lenF (zab (zag 0) zaj)) (eC (.int 8))))))
 (sRet (eC (.bl false)))
 sNil)
 (sRet (eFn allF (zab (eFn gL1 (aComp 1 (aIt (zag 0)) (gN 1) tYesM (eChain leD leD (eC (.str "a")) (zag 1) (eC (.str "z"))))) zaj))))
def gIsName : List D -> Sto -> Res D := runF 1 gIsName0
def gIsTurn0 : SV :=
 (sSeq (sIf (tNotM (tV (eFn gIsRow (zab (zag 0) (zab (eC (.int 2)) (zab (eC (.int 12)) zaj))))))
 (sRet (eC (.bl false)))
 sNil)
 (sSeq (sIf (tNotM (tV (eFn allF (zab (eFn gL1 (aComp 1 (aIt (zag 0)) (gN 2) tYesM (eFn gIsValue (zab (zag 2) (zab (zag 1) zaj))))) zaj))))
 (sRet (eC (.bl false)))
 sNil)
 (sRet (eOp eqD (eUn lenSet (zag 0)) (eFn lenF (zab (zag 0) zaj))))))
def gIsTurn : List D -> Sto -> Res D := runF 2 gIsTurn0
def gIsKind0 : SV :=
 (sSeq (sIf (tOrM (tV (eFn gIsWorded (zab (zag 0) (zab (eC (.str "still")) (zab (eC (.int 1)) zaj))))) (tV (eFn gIsWorded (zab (zag 0) (zab (eC (.str "drawn")) (zab (eC (.int 1)) zaj))))))
 (sRet (eC (.bl true)))
 sNil)
 (sSeq (sIf (tV (eFn gIsWorded (zab (zag 0) (zab (eC (.str "step")) (zab (eC (.int 2)) zaj)))))
 (sRet (eFn gIsValue (zab (eOp ixD (zag 0) (eC (.int 1))) (zab (zag 2) zaj))))
 sNil)
 (sSeq (sIf (tV (eFn gIsWorded (zab (zag 0) (zab (eC (.str "turn")) (zab (eC (.int 2)) zaj)))))
 (sRet (eFn gIsTurn (zab (eOp ixD (zag 0) (eC (.int 1))) (zab (zag 2) zaj))))
 sNil)
 (sSeq (sIf (tV (eFn gIsWorded (zab (zag 0) (zab (eC (.str "with")) (zab (eC (.int 3)) zaj)))))
 (sRet (eAnd (eFn gIsBetween (zab (eOp ixD (zag 0) (eC (.int 1))) (zab (eC (.int 0)) (zab (eOp subD (zag 1) (eC (.int 1))) zaj)))) (eFn gIsBetween (zab (eOp ixD (zag 0) (eC (.int 2))) (zab (eUn negD (eC (.int 99))) (zab (eC (.int 99)) zaj))))))
 sNil)
 (sRet (eC (.bl false)))))))
def gIsKind : List D -> Sto -> Res D := runF 3 gIsKind0
def gIsField0 : SV :=
 (sSeq (sIf (tNotM (tV (eFn gIsRow (zab (zag 0) (zab (eC (.int 3)) (zab (eC (.int 3)) zaj))))))
 (sRet (eC (.bl false)))
 sNil)
 (sSeq (sAsg (zag 0) (gT 3 (gsCons (gN 2) (gsCons (gN 3) (gsCons (gN 4) gsNil)))))
 (sRet (eAnd (eFn gIsName (zab (zag 2) zaj)) (eAnd (eFn gIsBetween (zab (zag 3) (zab (eC (.int 1)) (zab (eC (.int 40)) zaj)))) (eFn gIsKind (zab (zag 4) (zab (zag 1) (zab (zag 3) zaj)))))))))
def gIsField : List D -> Sto -> Res D := runF 5 gIsField0
def gAreFields0 : SV :=
 (sSeq (sIf (tNotM (tV (eFn gIsRow (zab (zag 0) (zab (eC (.int 1)) (zab (eC (.int 12)) zaj))))))
 (sRet (eC (.bl false)))
 sNil)
 (sSeq (sFor (aEnum (zag 0)) (gT 2 (gsCons (gN 1) (gsCons (gN 2) gsNil)))
 (sIf (tNotM (tV (eFn gIsField (zab (zag 2) (zab (zag 1) zaj)))))
 (sRet (eC (.bl false)))
 sNil))
 (sRet (eOp eqD (eLenC 1 (aIt (zag 0)) (gN 3) (eOp ixD (zag 3) (eC (.int 0)))) (eFn lenF (zab (zag 0) zaj))))))
def gAreFields : List D -> Sto -> Res D := runF 3 gAreFields0
def gIsShape0 : SV :=
 (sRet (eAnd (eFn gIsRow (zab (zag 0) (zab (eC (.int 2)) (zab (eC (.int 2)) zaj)))) (eAnd (eFn gAreFields (zab (eOp ixD (zag 0) (eC (.int 0))) zaj)) (eFn gIsBetween (zab (eOp ixD (zag 0) (eC (.int 1))) (zab (eC (.int 1)) (zab (eOp powD (eC (.int 10)) (eC (.int 6))) zaj)))))))
def gIsShape : List D -> Sto -> Res D := runF 1 gIsShape0
def mulBR (x y : D) (m : Sto) : Res D := match x, y with
 | .int i, .int j => if i.natAbs.log2 < 1100 /\ j.natAbs.log2 < 1100 then .ok (.int (i * j)) m else .bad
 | _, _ => .bad
theorem mulB_ex : ∃ f : D -> D -> Sto -> Res D, f = mulBR := ⟨_, rfl⟩
def mulB : D -> D -> Sto -> Res D := Classical.choose mulB_ex
theorem mulB_eq : mulB = mulBR := Classical.choose_spec mulB_ex
theorem bits_1100 {a : Int} (h : a.natAbs.log2 < 1100) : Builtin.Int.intBits a <= 2 ^ 20 := by
 unfold Builtin.Int.intBits
 split
 ·exact Nat.zero_le _
 ·exact Nat.le_trans (Nat.succ_le_of_lt h) (by decide)
theorem op_mulB {X : Cx} : OpR X (binaryOp .Mult) (rI IntMulOk fun i j => .int (i * j)) := opI fun _ _ _ _ _ _ _ hc q => mul_int q hc
theorem od_mulB {K : PySem.W.Frag} {cl : Str -> Addr} {ex : XD} : OpD K cl ex (rI IntMulOk fun i j => .int (i * j)) mulB := fun α m H x y vx vy Q W rx ry h => by
 rw [mulB_eq] at h; unfold mulBR at h
 split at h
 ·rw [Rep] at rx ry; obtain ⟨hc, h⟩ := PQ.if h; exact ⟨_, _, rx, ry, IntMulOk.of_bits (bits_1100 hc.1) (bits_1100 hc.2), PQ.ok W h _ repI⟩
 ·exact h.elim
open Classical in
def grd {τ : Type} (k : Nat) (o : MO) (m : Sto) (r : Res τ) : Res τ := if m[k]? = some o then r else .bad
def loopO (k : Nat) (o : MO) (g : GV) (body : SV) : List D -> En -> Sto -> Res Fl
 | [], ρ, m => grd k o m (.ok (.nx ρ) m)
 | d :: r, ρ, m => grd k o m ((g d ρ m).bind fun ρ1 m1 => (body ρ1 m1).bind fun fl m2 => match fl with
  | .nx ρ2 => loopO k o g body r ρ2 m2
  | .ct ρ2 => loopO k o g body r ρ2 m2
  | .bk ρ2 => .ok (.nx ρ2) m2
  | .rt d => .ok (.rt d) m2)
abbrev OI := En -> Sto -> Res (Nat × MO × List D)
def asObj (d : D) (m : Sto) : Res (Nat × MO × List D) := match d with
 | .ob k => match m[k]? with
  | some (.lst xs) => .ok (k, .lst xs, xs) m
  | _ => .bad
 | _ => .bad
def aObj (fa : EV) : OI := fun ρ m => (fa ρ m).bind asObj
def sForO (it : OI) (g : GV) (body : SV) : SV := fun ρ m => (it ρ m).bind fun t m1 => loopO t.1 t.2.1 g body t.2.2 ρ m1
def gIsWide0 : SV :=
 (sRet (eFn gIsBetween (zab (zag 0) (zab (eC (.int 1)) (zab (eC (.int 40)) zaj)))))
def gIsWide : List D -> Sto -> Res D := runF 1 gIsWide0
def gAreForms0 : SV :=
 (sRet (eAnd (eFn gIsRow (zab (zag 1) (zab (eC (.int 0)) (zab (eC (.int 12)) zaj)))) (eFn allF (zab (eFn gL1 (aComp 1 (aIt (zag 1)) (gN 2) tYesM (eFn gIsForm (zab (zag 0) (zab (zag 2) zaj))))) zaj))))
def gAreForms : List D -> Sto -> Res D := runF 2 gAreForms0
def gIsRoad0 : SV :=
 (sSeq (sIf (tNotM (tV (eFn gIsRow (zab (zag 0) (zab (eC (.int 4)) (zab (eC (.int 4)) zaj))))))
 (sRet (eC (.bl false)))
 sNil)
 (sSeq (sAsg (zag 0) (gT 4 (gsCons (gN 1) (gsCons (gN 2) (gsCons (gN 3) (gsCons (gN 4) gsNil))))))
 (sSeq (sIf (tOrM (tNotM (tV (eFn gIsBetween (zab (zag 1) (zab (eC (.int 0)) (zab (eC (.int 39)) zaj)))))) (tNotM (tV (eFn gIsBetween (zab (zag 2) (zab (zag 1) (zab (eC (.int 400)) zaj)))))))
 (sRet (eC (.bl false)))
 sNil)
 (sRet (eAnd (eFn gIsBetween (zab (zag 3) (zab (eC (.int 0)) (zab (eC (.int 20)) zaj)))) (eFn gIsBetween (zab (zag 4) (zab (eC (.int 0)) (zab (eC (.int 400)) zaj)))))))))
def gIsRoad : List D -> Sto -> Res D := runF 5 gIsRoad0
end MD
set_option autoImplicit false
namespace L2
open PySem PySem.Spec PyProof.Rows
end L2
namespace MD
open PySem L2
variable {K : PySem.W.Frag} {cl : Str -> Addr} {ex : XD}
end MD
set_option autoImplicit false
namespace MD
open PySem PySem.Spec PyProof.Rows L2
def fldM (c f : Str) (x : D) (m : Sto) : Res D := match x with
 | .ob k => match m[k]? with
  | some (.ins c' fs) => if c' = c then opt (fs.lookup f) m else .bad
  | _ => .bad
 | _ => .bad
def eFld (c f : Str) (fa : EV) : EV := fun ρ m => (fa ρ m).bind (fldM c f)
def putFD (f : Str) (v : D) : List (Str × D) -> List (Str × D)
 | [] => [(f, v)]
 | (g, x) :: r => if g = f then (g, v) :: r else (g, x) :: putFD f v r
def setM (c f : Str) (x y : D) (m : Sto) : Res Unit := match x with
 | .ob k => match m[k]? with
  | some (.ins c' fs) => if c' = c /\ fs.length < 1000 then .ok () (m.set k (.ins c (putFD f y fs))) else .bad
  | _ => .bad
 | _ => .bad
def sFldM (c f : Str) (fo fv : EV) : SV := fun ρ m => (fv ρ m).bind fun y m1 => (fo ρ m1).bind fun x m2 => (setM c f x y m2).bind fun _ m3 => .ok (.nx ρ) m3
def insOk (c mth : Str) (x : D) (m : Sto) : Bool := match x with
 | .ob k => match m[k]? with
  | some (.ins c' fs) => decide (c' = c) && (fs.lookup mth).isNone
  | _ => false
 | _ => false
def eMth (c mth : Str) (g : List D -> Sto -> Res D) (fo : EV) (fr : AV) : EV := fun ρ m => (fo ρ m).bind fun x m1 => if insOk c mth x m1 = true then (fr ρ m1).bind fun ds m2 => g (x :: ds) m2 else .bad
end MD
set_option autoImplicit false
namespace L2
open PySem PySem.Spec PyProof.Rows
end L2
namespace MD
open PySem PySem.Spec PyProof.Rows L2
end MD
namespace PySem
open Sem (wp)
open Builtin
end PySem
set_option autoImplicit false
namespace L2
open PySem PySem.Spec PyProof.Rows
end L2
namespace MD
open PySem PySem.Spec PyProof.Rows L2
def gLawPot30 : SV :=
 (sSeq (sAsg (eOp mulB (eOp mulB (eOp mulB (eOp mulB (eOp powD (eC (.int 10)) (eC (.int 60))) (eOp powD (eC (.int 10)) (eC (.int 60)))) (eOp powD (eC (.int 10)) (eC (.int 60)))) (eOp powD (eC (.int 10)) (eC (.int 60)))) (eOp powD (eC (.int 10)) (eC (.int 60)))) (gN 1))
 (sSeq (sPar 2 3 (zab (eC (.int 41)) (zab (eFn gNewL zaj) zaj)))
 (sSeq (sFor (aIt (eSl (zag 0) oNone (oSome (eC (.int 63))))) (gN 4)
 (sSeq (sAsg (eOp modD (eOp addD (eOp addD (eOp mulD (zag 2) (eC (.int 6364136223846793005))) (eOp modD (zag 4) (eOp powD (eC (.int 10)) (eC (.int 40))))) (eC (.int 17))) (eC (.int 2305843009213693951))) (gN 2))
 (sIf (tV (eOp geD (eFn absF (zab (zag 4) zaj)) (eOp powD (eC (.int 10)) (eC (.int 18)))))
 (sDrop (eMeth isLst appendM (zag 3) (zab (eOp modD (eFn absF (zab (zag 4) zaj)) (zag 1)) zaj)))
 sNil)))
 (sRet (eDict [("own", (zag 3)), ("seed", (zag 2)), ("turn", (eC (.int 0)))])))))
def gLawPot3 : List D -> Sto -> Res D := runF 5 gLawPot30
def gLawDraw20 : SV :=
 (sSeq (sWhile fuelW (tAndM (tV (eOp neD (eOp ixD (zag 0) (eC (.str "own"))) (eFn gLst zaj))) (tV (eOp eqD (eOp ixD (eOp ixD (zag 0) (eC (.str "own"))) (eC (.int 0))) (eC (.int 0)))))
 (sDrop (eMeth isLst popM (eOp ixD (zag 0) (eC (.str "own"))) (zab (eC (.int 0)) zaj))))
 (sSeq (sIf (tV (eOp neD (eOp ixD (zag 0) (eC (.str "own"))) (eFn gLst zaj)))
 (sSeq (sAsg (eOp modD (eOp ixD (eOp ixD (zag 0) (eC (.str "own"))) (eC (.int 0))) (zag 1)) (gN 2))
 (sSeq (sAsg (eOp fdivD (eOp ixD (eOp ixD (zag 0) (eC (.str "own"))) (eC (.int 0))) (zag 1)) (gI (eOp ixD (zag 0) (eC (.str "own"))) (eC (.int 0))))
 (sRet (zag 2))))
 sNil)
 (sSeq (sPutD (zag 0) (eC (.str "turn")) (eOp addD (eOp ixD (zag 0) (eC (.str "turn"))) (eC (.int 1))))
 (sSeq (sAsg (eOp ixD (zag 0) (eC (.str "turn"))) (gN 3))
 (sSeq (sAsg (eOp addD (eOp addD (eOp ixD (zag 0) (eC (.str "seed"))) (eOp mulD (eOp mulD (zag 3) (zag 3)) (eC (.int 7919)))) (eOp mulD (zag 3) (eC (.int 104729)))) (gN 4))
 (sSeq (sAsg (eOp modD (eOp mulD (zag 4) (eC (.int 48271))) (eC (.int 2305843009213693921))) (gN 4))
 (sSeq (sAsg (eOp modD (eOp mulD (zag 4) (eOp addD (eOp modD (zag 4) (eC (.int 1000003))) (eC (.int 69621)))) (eC (.int 2305843009213693907))) (gN 4))
 (sRet (eOp modD (eOp addD (eOp fdivD (zag 4) (eC (.int 65537))) (eOp fdivD (zag 4) (eC (.int 1000033)))) (zag 1))))))))))
def zai : List D -> Sto -> Res D := runF 5 gLawDraw20
def gLawOf20 : SV :=
 (sRet (eOp ixD (zag 1) (eFn zai (zab (zag 0) (zab (eFn lenF (zab (zag 1) zaj)) zaj)))))
def gLawOf2 : List D -> Sto -> Res D := runF 2 gLawOf20
def gLawSize0 : SV :=
 (sRet (eOp addD (eC (.int 1)) (eFn zai (zab (zag 0) (zab (eOp ixD (eFn gLst (zab (zag 1) (zab (zag 2) zaj))) (eFn intF (zab (eOp eqD (eFn zai (zab (zag 0) (zab (eC (.int 8)) zaj))) (eC (.int 0))) zaj))) zaj)))))
def gLawSize : List D -> Sto -> Res D := runF 3 gLawSize0
def gLawNames20 : SV :=
 (sSeq (sAsg (eC (.str "abcdefghijklmnopqrstuvwxyz")) (gN 2))
 (sSeq (sAsg (eFn gTup (zab (eFn zai (zab (zag 0) (zab (eC (.int 26)) zaj))) (zab (eFn gLawOf2 (zab (zag 0) (zab (eFn gLst (zab (eC (.int 1)) (zab (eC (.int 3)) (zab (eC (.int 5)) (zab (eC (.int 7)) (zab (eC (.int 9)) (zab (eC (.int 11)) zaj))))))) zaj))) zaj))) (gT 2 (gsCons (gN 3) (gsCons (gN 4) gsNil))))
 (sRet (eFn gL1 (aComp 1 (aRng rng1 (zab (zag 1) zaj)) (gN 5) tYesM (eOp mulD (eOp ixD (zag 2) (eOp modD (eOp addD (zag 3) (eOp mulD (zag 4) (zag 5))) (eC (.int 26)))) (eOp addD (eC (.int 1)) (eOp modD (eOp addD (zag 3) (eOp mulD (zag 5) (zag 5))) (eC (.int 8))))))))))
def gLawNames2 : List D -> Sto -> Res D := runF 5 gLawNames20
def gLawValue40 : SV :=
 (sSeq (sAsg (eOp shlD (eC (.int 1)) (zag 1)) (gN 2))
 (sSeq (sAsg (eFn zai (zab (zag 0) (zab (eFn min2F (zab (zag 2) (zab (eC (.int 4)) zaj))) zaj))) (gN 3))
 (sRet (eOp ixD (eFn gLst (zab (eFn zai (zab (zag 0) (zab (zag 2) zaj))) (zab (zag 3) (zab (eOp subD (eOp subD (zag 2) (eC (.int 1))) (zag 3)) (zab (eFn zai (zab (zag 0) (zab (zag 2) zaj))) zaj))))) (eFn zai (zab (zag 0) (zab (eC (.int 4)) zaj)))))))
def gLawValue4 : List D -> Sto -> Res D := runF 4 gLawValue40
def gLawKind40 : SV :=
 (sSeq (sAsg (eFn gTup (zab (eOp shlD (eC (.int 1)) (zag 2)) (zab (eFn zai (zab (zag 0) (zab (eC (.int 8)) zaj))) zaj))) (gT 2 (gsCons (gN 3) (gsCons (gN 4) gsNil))))
 (sSeq (sIf (tV (eOp ltD (zag 4) (eC (.int 3))))
 (sRet (eFn gTup (zab (eC (.str "step")) (zab (eOp modD (eOp ixD (eFn gLst (zab (eC (.int 1)) (zab (eFn gLawValue4 (zab (zag 0) (zab (zag 2) zaj))) zaj))) (eFn zai (zab (zag 0) (zab (eC (.int 2)) zaj)))) (zag 3)) zaj))))
 sNil)
 (sSeq (sIf (tV (eOp eqD (zag 4) (eC (.int 3))))
 (sSeq (sAsg (eFn gTup (zab (eFn gLawValue4 (zab (zag 0) (zab (zag 2) zaj))) (zab (eOp addD (eC (.int 1)) (eOp mulD (eC (.int 2)) (eFn zai (zab (zag 0) (zab (eC (.int 9)) zaj))))) zaj))) (gT 2 (gsCons (gN 5) (gsCons (gN 6) gsNil))))
 (sRet (eFn gTup (zab (eC (.str "turn")) (zab (eFn tupF (zab (eFn gL1 (aComp 1 (aRng rng1 (zab (eFn min2F (zab (zag 3) (zab (eOp addD (eC (.int 2)) (eFn zai (zab (zag 0) (zab (eC (.int 11)) zaj)))) zaj))) zaj)) (gN 7) tYesM (eOp modD (eOp addD (zag 5) (eOp mulD (zag 6) (zag 7))) (zag 3)))) zaj)) zaj)))))
 sNil)
 (sSeq (sIf (tAndM (tV (eOp ltD (zag 4) (eC (.int 6)))) (tV (eOp gtD (zag 1) (eC (.int 0)))))
 (sRet (eFn gTup (zab (eC (.str "with")) (zab (eFn zai (zab (zag 0) (zab (zag 1) zaj))) (zab (eOp ixD (eFn gLst (zab (eC (.int 1)) (zab (eUn negD (eC (.int 1))) (zab (eOp subD (eFn zai (zab (zag 0) (zab (eC (.int 199)) zaj))) (eC (.int 99))) zaj)))) (eFn zai (zab (zag 0) (zab (eC (.int 3)) zaj)))) zaj)))))
 sNil)
 (sRet (eOp ixD (eFn gLst (zab (eFn gTup (zab (eC (.str "still")) zaj)) (zab (eFn gTup (zab (eC (.str "drawn")) zaj)) zaj))) (eFn zai (zab (zag 0) (zab (eC (.int 2)) zaj)))))))))
def gLawKind4 : List D -> Sto -> Res D := runF 7 gLawKind40
def gLawShape50 : SV :=
 (sSeq (sAsg (eFn gNewL zaj) (gN 1))
 (sSeq (sFor (aIt (eFn gLawNames2 (zab (zag 0) (zab (eFn gLawSize (zab (zag 0) (zab (eC (.int 3)) (zab (eC (.int 12)) zaj)))) zaj)))) (gN 2)
 (sSeq (sAsg (eOp ixD (eFn gLst (zab (eOp addD (eC (.int 1)) (eFn zai (zab (zag 0) (zab (eC (.int 8)) zaj)))) (zab (eOp addD (eC (.int 1)) (eFn zai (zab (zag 0) (zab (eC (.int 8)) zaj)))) (zab (eC (.int 16)) (zab (eOp addD (eC (.int 1)) (eFn zai (zab (zag 0) (zab (eC (.int 40)) zaj)))) (zab (eC (.int 40)) zaj)))))) (eFn zai (zab (zag 0) (zab (eC (.int 5)) zaj)))) (gN 3))
 (sDrop (eMeth isLst appendM (zag 1) (zab (eFn gTup (zab (zag 2) (zab (zag 3) (zab (eFn gLawKind4 (zab (zag 0) (zab (eFn lenF (zab (zag 1) zaj)) (zab (zag 3) zaj)))) zaj)))) zaj)))))
 (sRet (eFn gTup (zab (eFn tupF (zab (zag 1) zaj)) (zab (eOp ixD (eFn gLst (zab (eC (.int 251)) (zab (eC (.int 1)) (zab (eC (.int 2)) (zab (eC (.int 16)) (zab (eOp powD (eC (.int 10)) (eC (.int 6))) (zab (eOp addD (eC (.int 1)) (eFn zai (zab (zag 0) (zab (eOp powD (eC (.int 10)) (eC (.int 6))) zaj)))) zaj))))))) (eFn zai (zab (zag 0) (zab (eC (.int 6)) zaj)))) zaj))))))
def gLawShape5 : List D -> Sto -> Res D := runF 4 gLawShape50
def gLawWay40 : SV :=
 (sSeq (sAsg (eFn zai (zab (zag 0) (zab (eC (.int 6)) zaj))) (gN 2))
 (sSeq (sIf (tV (eOp ltD (zag 2) (eC (.int 3))))
 (sRet (eFn gTup (zab (eC (.str "keep")) zaj)))
 sNil)
 (sSeq (sIf (tV (eOp eqD (zag 2) (eC (.int 5))))
 (sRet (eFn gTup (zab (eC (.str "whole")) zaj)))
 sNil)
 (sSeq (sAsg (eOp addD (eC (.int 1)) (eFn zai (zab (zag 0) (zab (eOp ixD (eFn gLst (zab (eFn min2F (zab (zag 1) (zab (eC (.int 4)) zaj))) (zab (zag 1) zaj))) (eFn zai (zab (zag 0) (zab (eC (.int 2)) zaj)))) zaj)))) (gN 3))
 (sRet (eFn gTup (zab (eC (.str "low")) (zab (zag 3) (zab (eFn zai (zab (zag 0) (zab (eOp shlD (eC (.int 1)) (zag 3)) zaj))) zaj)))))))))
def gLawWay4 : List D -> Sto -> Res D := runF 4 gLawWay40
def gLawForm40 : SV :=
 (sSeq (sPar 2 3 (zab (eOp addD (eC (.int 1)) (eFn zai (zab (zag 0) (zab (eC (.int 10)) zaj)))) (zab (eOp addD (eC (.int 4)) (eFn zai (zab (zag 0) (zab (eC (.int 7)) zaj)))) zaj)))
 (sSeq (sIf (tV (eOp eqD (eFn zai (zab (zag 0) (zab (eC (.int 4)) zaj))) (eC (.int 0))))
 (sPar 2 3 (zab (eOp addD (eC (.int 1)) (eFn zai (zab (zag 0) (zab (eC (.int 40)) zaj)))) (zab (eOp addD (eC (.int 1)) (eFn zai (zab (zag 0) (zab (eC (.int 40)) zaj)))) zaj)))
 sNil)
 (sRet (eFn gTup (zab (zag 2) (zab (zag 3) (zab (eFn tupF (zab (eFn gL1 (aComp 1 (aIt (zag 1)) (gN 4) tYesM (eFn gLawWay4 (zab (zag 0) (zab (eOp ixD (zag 4) (eC (.int 1))) zaj))))) zaj)) zaj)))))))
def gLawForm4 : List D -> Sto -> Res D := runF 4 gLawForm40
def gLawRoad20 : SV :=
 (sSeq (sAsg (eOp ixD (eFn gLst (zab (eC (.int 0)) (zab (eC (.int 1)) (zab (eFn zai (zab (zag 0) (zab (eC (.int 4)) zaj))) (zab (eFn zai (zab (zag 0) (zab (eC (.int 40)) zaj))) zaj))))) (eFn zai (zab (zag 0) (zab (eC (.int 4)) zaj)))) (gN 1))
 (sSeq (sAsg (eFn min2F (zab (eC (.int 400)) (zab (eOp addD (zag 1) (eOp ixD (eFn gLst (zab (eFn zai (zab (zag 0) (zab (eC (.int 6)) zaj))) (zab (eC (.int 12)) (zab (eFn zai (zab (zag 0) (zab (eC (.int 400)) zaj))) zaj)))) (eFn zai (zab (zag 0) (zab (eC (.int 3)) zaj))))) zaj))) (gN 2))
 (sSeq (sAsg (eOp ixD (eFn gLst (zab (eC (.int 0)) (zab (eC (.int 1)) (zab (eFn zai (zab (zag 0) (zab (eC (.int 8)) zaj))) (zab (eFn zai (zab (zag 0) (zab (eC (.int 21)) zaj))) zaj))))) (eFn zai (zab (zag 0) (zab (eC (.int 4)) zaj)))) (gN 3))
 (sRet (eFn gTup (zab (zag 1) (zab (zag 2) (zab (zag 3) (zab (eOp ixD (eFn gLst (zab (eC (.int 0)) (zab (eC (.int 0)) (zab (eC (.int 0)) (zab (eOp addD (eC (.int 2)) (eFn zai (zab (zag 0) (zab (eC (.int 9)) zaj)))) (zab (eFn zai (zab (zag 0) (zab (eC (.int 401)) zaj))) zaj)))))) (eFn zai (zab (zag 0) (zab (eC (.int 5)) zaj)))) zaj)))))))))
def gLawRoad2 : List D -> Sto -> Res D := runF 4 gLawRoad20
def gLawPact20 : SV :=
 (sSeq (sAsg (eFn gLawShape5 (zab (zag 0) zaj)) (gN 1))
 (sSeq (sAsg (eOp ixD (eFn gLst (zab (eC (.int 1)) (zab (eC (.int 2)) (zab (eC (.int 3)) (zab (eC (.int 1)) (zab (eC (.int 0)) (zab (eC (.int 12)) zaj))))))) (eFn zai (zab (zag 0) (zab (eC (.int 6)) zaj)))) (gN 2))
 (sSeq (sAsg (eFn tupF (zab (eFn gL1 (aComp 1 (aRng rng1 (zab (zag 2) zaj)) (gN 5) tYesM (eFn gLawForm4 (zab (zag 0) (zab (eOp ixD (zag 1) (eC (.int 0))) zaj))))) zaj)) (gN 3))
 (sSeq (sAsg (eOp ixD (eFn gLst (zab (eOp addD (eC (.int 6)) (eFn zai (zab (zag 0) (zab (eC (.int 35)) zaj)))) (zab (eOp addD (eC (.int 1)) (eFn zai (zab (zag 0) (zab (eC (.int 5)) zaj)))) zaj))) (eFn intF (zab (eOp eqD (eFn zai (zab (zag 0) (zab (eC (.int 8)) zaj))) (eC (.int 0))) zaj))) (gN 4))
 (sRet (eFn gTup (zab (zag 1) (zab (zag 4) (zab (zag 3) (zab (eFn gLawRoad2 (zab (zag 0) zaj)) zaj))))))))))
def gLawPact2 : List D -> Sto -> Res D := runF 5 gLawPact20
end MD
set_option autoImplicit false
namespace MxD
open PySem PySem.Spec PyProof.Rows
end MxD
namespace MD
open PySem PySem.Spec PyProof.Rows L2
section
variable {X : Cx} {K : PySem.W.Frag} {cl : Str -> Addr} {ex : XD}
end
end MD
namespace L2
open PySem PySem.Spec PyProof.Rows
variable {X : Cx} {e : Expr} {te : TE} {pos : Pos}
end L2
set_option autoImplicit false
namespace MD
open PySem PySem.Spec PyProof.Rows L2
section
variable {X : Cx} {K : PySem.W.Frag} {cl : Str -> Addr} {ex : XD}
def rFmt : V -> Hp -> VK -> Prop := fun x H Q => (∃ i, x = .int i /\ i.natAbs.log2 < 1920 /\ Q (.str (toString i)) H) ∨ ∃ z, x = .str z /\ z.length <= sizeLine /\ Q (.str z) H
theorem un_fmt : UnR X (fun v => formatField v Str.empty) rFmt := by
 intro pins s σ H x v Q I rx h
 rcases h with ⟨i, rfl, hi, q⟩ | ⟨z, rfl, hz, q⟩
 ·obtain ⟨t, rfl⟩ := rx
  exact wpAny_formatField_int hi ⟨.str _, H, I.tok _, ⟨_, rfl⟩, q⟩
 ·obtain ⟨t, rfl⟩ := rx
  exact wpAny_formatField_str ⟨.str _, H, I, ⟨_, rfl⟩, q⟩ ⟨.str _, H, I.tok _, ⟨_, rfl⟩, q⟩ hz
def fmtD (d : D) (m : Sto) : Res D := match d with
 | .int i => if i.natAbs.log2 < 1920 then .ok (.str (toString i)) m else .bad
 | .str z => if z.length <= sizeLine then .ok (.str z) m else .bad
 | _ => .bad
theorem ud_fmt : UnD K cl ex rFmt fmtD := fun α m H x vx Q W rx h => by
 unfold fmtD at h
 split at h
 ·obtain ⟨hc, h⟩ := PQ.if h
  rw [Rep] at rx
  exact .inl ⟨_, rx, hc, PQ.ok W h _ repS⟩
 ·obtain ⟨hc, h⟩ := PQ.if h
  rw [Rep] at rx
  exact .inr ⟨_, rx, hc, PQ.ok W h _ repS⟩
 ·exact h.elim
theorem qe_fv {e : Expr} {fa : EV} {pos : Pos} (ha : QE X cl ex e fa) : QE X cl ex (.FormattedValue e (-1) none pos) (eUn fmtD fa) :=
 ⟨PE.weak (t := tUn rFmt (tD X.K cl ex fa)) (fun pins s σ H Q I h => wpAny_FormattedValue_plain (thn (ha.out pins s σ H _ I h) fun v s1 ⟨x, H1, I1, r1, q1⟩ => un_fmt pins s1 σ H1 x v Q I1 r1 q1)) fun σ H Q hh => ex3 hh fun α ρ m W hr h => tD.use W hr h fun α1 m1 H1 d v E1 W1 hr1 rv h1 => ud_fmt α1 m1 H1 d v Q W1 rv h1⟩
def eCat : Str -> List EV -> EV
 | acc, [] => fun _ m => if acc.length <= sizeLine then .ok (.str acc) m else .bad
 | acc, f :: fs => fun ρ m => (f ρ m).bind fun d m1 => match d with
  | .str z => if (acc ++ z).length <= sizeLine then eCat (acc ++ z) fs ρ m1 else .bad
  | _ => .bad
inductive QJs (X : Cx) (cl : Str -> Addr) (ex : XD) : List Expr -> List EV -> Prop where
 | nil : QJs X cl ex [] []
 | cons {e : Expr} {f : EV} {es : List Expr} {fs : List EV} : QE X cl ex e f -> QJs X cl ex es fs -> QJs X cl ex (e :: es) (f :: fs)
theorem joins_of {es : List Expr} {fs : List EV} (h : QJs X cl ex es fs) : ∀ {acc : Str} {pins : List (Addr × Obj)} {s : Shared} {σ : L2.St} {H : Hp} {Q : VK}, Inv X pins σ H s -> tD X.K cl ex (eCat acc fs) σ H Q →
  Joins (model X.prog X.w) X.A X.xe (evalEach es X.env) acc (fun out s1 => out.length <= sizeLine /\ EP X pins σ Q (.str out s1.toks) { s1 with toks := s1.toks + 1 }) s := by
 induction h with
 | nil =>
  intro acc pins s σ H Q I hq
  obtain ⟨α, ρ, m, W, hr, q⟩ := hq
  obtain ⟨hc, q⟩ := PQ.if q
  exact ⟨hc, .str acc, H, I.tok _, ⟨_, rfl⟩, PQ.ok W q _ repS⟩
 | @cons e f es fs he _ ih =>
  intro acc pins s σ H Q I hq
  obtain ⟨α, ρ, m, W, hr, q⟩ := hq
  refine thn (he.out pins s σ H (fun v H1 => ∃ z, v = .str z /\ (acc ++ z).length <= sizeLine /\ tD X.K cl ex (eCat (acc ++ z) fs) σ H1 Q) I (tD.use W hr q fun α1 m1 H1 d v E1 W1 hr1 rv q1 => ?_)) fun v s1 ⟨x, H1, I1, r1, z, ez, hz, q1⟩ => ?_
  ·cases d with
   | str z =>
    obtain ⟨hc, q1⟩ := PQ.if q1
    rw [Rep] at rv
    exact ⟨z, rv, hc, α1, ρ, m1, W1, hr1, q1⟩
   | _ => exact q1.elim
  ·subst ez
   obtain ⟨t, rfl⟩ := r1
   exact ⟨z, t, rfl, hz, ih I1 q1⟩
theorem qe_fstr {e1 e2 : Expr} {es : List Expr} {fs : List EV} {pos : Pos} (h : QJs X cl ex (e1 :: e2 :: es) fs) : QE X cl ex (.JoinedStr (e1 :: e2 :: es) pos) (eCat Str.empty fs) :=
 ⟨fun pins s σ H Q I hq => wpAny_JoinedStr (joins_of h I hq)⟩
def rStart : V -> List V -> Hp -> VK -> Prop := fun x vs H Q => ∃ z y, x = .str z /\ vs = [.str y] /\ Q (.bl (Txt.startswith z y)) H
theorem mt_start : MtR X "str.startswith" rStart := by
 intro pins s σ H x vs v us Q I rx rv h
 obtain ⟨z, y, rfl, rfl, q⟩ := h
 obtain ⟨t, rfl⟩ := rx
 obtain ⟨u, rfl, w, rfl⟩ := vals1 rv
 exact call_gives F.slot_str_startswith (typeIs_str _ _ _) F.entry_str_startswith (F.args_str_startswith_2 _ _) (gives_str_startswith z y t w) ⟨.bl _, H, I, rfl, q⟩
def startM (o : D) (ds : List D) (m : Sto) : Res D := match o, ds with
 | .str z, [.str y] => .ok (.bl (Txt.startswith z y)) m
 | _, _ => .bad
theorem md_start : MtD K cl ex rStart startM := fun α m H x xs vx vs Q W rx rxs h => by
 unfold startM at h
 split at h
 ·rw [Rep] at rx
  obtain ⟨v, rfl, rv⟩ := rxs.one_of
  rw [Rep] at rv
  subst rv
  exact ⟨_, _, rx, rfl, PQ.ok W h _ repB⟩
 ·exact h.elim
theorem strv_vals : ∀ l : List (Str × Tok), Vals ((l.map (·.1)).map V.str) (strValues l)
 | [] => .nil
 | p :: r => .cons ⟨p.2, rfl⟩ (strv_vals r)
theorem split_len (z y : Str) : (Txt.split z y).length <= z.length + 2 := by
 unfold Txt.split
 split
 ·simp
 ·split
  ·simp
  ·rw [length_partsBetween]
   have := StrLaws.occ_length_le z y 0 z.length (z.length + 1)
   omega
def rSplit : V -> List V -> Hp -> VK -> Prop := fun x vs H Q => ∃ z y, x = .str z /\ vs = [.str y] /\ (y.length == 0) = false /\ z.length + 2 <= sizeLine /\ ∀ p, H p = none -> Q (.ref p) (upd H p (.lst ((Txt.split z y).map V.str)))
theorem mt_split : MtR X "str.split" rSplit := by
 intro pins s σ H x vs v us Q I rx rv h
 obtain ⟨z, y, rfl, rfl, hy, hz, q⟩ := h
 obtain ⟨t, rfl⟩ := rx
 obtain ⟨u, rfl, w, rfl⟩ := vals1 rv
 have hl := split_len z y
 have fin : ∀ (l : List (Str × Tok)) (k : Nat), l.map (·.1) = Txt.split z y -> EP X pins σ Q (.ref s.heap.objs.size) { s with toks := k, heap := s.heap.push { cls := .type "list", data := .seq (strValues l).toArray } } := fun l k e =>
  ⟨.ref s.heap.objs.size, upd H s.heap.objs.size (.lst ((Txt.split z y).map V.str)), I.laid (t' := k) (fun b u e => Heap.get?_push_of_some _ e) (Nat.le_refl _) (by
   refine ⟨by rw [List.length_map]; omega, strValues l, 0, ?_, Heap.get?_push_size _ rfl⟩
   rw [<- e]
   exact strv_vals l), rfl, q _ (I.hok.fresh (Nat.le_refl _))⟩
 unfold Txt.split at fin
 by_cases h1 : (decide (z.length < y.length) || decide (Builtin.Str.strKind z < Builtin.Str.strKind y)) = true
 ·rw [if_pos h1] at fin
  exact call_meets F.slot_str_split (typeIs_str _ _ _) F.entry_str_split (F.args_str_split_2 _ _) (meets_str_split_cannot_occur z y t w h1) (fin [(z, t)] s.toks rfl)
 ·rw [if_neg h1] at fin
  by_cases h2 : (Builtin.Str.occurrences z y 0 z.length (z.length + 1)).isEmpty = true
  ·rw [if_pos h2] at fin
   exact call_meets F.slot_str_split (typeIs_str _ _ _) F.entry_str_split (F.args_str_split_2 _ _) (meets_str_split_not_found z y t w (Bool.eq_false_iff.mpr h1) hy h2) (fin [(z, t)] s.toks rfl)
  ·rw [if_neg h2] at fin
   have h3 := fin (numbered s.toks (Builtin.Str.partsBetween z (Builtin.Str.occurrences z y 0 z.length (z.length + 1)) y.length)) (s.toks + (Builtin.Str.partsBetween z (Builtin.Str.occurrences z y 0 z.length (z.length + 1)) y.length).length) (numbered_texts _ _)
   rw [<- strsFrom_eq] at h3
   refine call_meets F.slot_str_split (typeIs_str _ _ _) F.entry_str_split (F.args_str_split_2 _ _) (meets_str_split_sep z y t w (Bool.eq_false_iff.mpr h1) hy (Bool.eq_false_iff.mpr h2) (by omega) ?_) h3
   unfold Txt.split at hl
   rw [if_neg h1, if_neg h2] at hl
   omega
def splitM (o : D) (ds : List D) (m : Sto) : Res D := match o, ds with
 | .str z, [.str y] => if (y.length == 0) = false /\ z.length + 2 <= sizeLine then .ok (.lst ((Txt.split z y).map D.str)) m else .bad
 | _, _ => .bad
theorem repL_strs {α : List Addr} {H : Hp} : ∀ zs : List Str, RepL K α H (zs.map D.str) (zs.map V.str)
 | [] => by rw [List.map_nil, RepL]; rfl
 | z :: r => by rw [List.map_cons, List.map_cons, RepL]; exact ⟨_, _, rfl, repS, repL_strs r⟩
theorem md_split : MtD K cl ex rSplit splitM := fun α m H x xs vx vs Q W rx rxs h => by
 unfold splitM at h
 split at h
 ·obtain ⟨hc, h⟩ := PQ.if h
  rw [Rep] at rx
  obtain ⟨v, rfl, rv⟩ := rxs.one_of
  rw [Rep] at rv
  subst rv
  exact ⟨_, _, rx, rfl, hc.1, hc.2, fun p hp => PQ.okS W (Same.new hp) h _ (rep_lst W hp (repL_strs _))⟩
 ·exact h.elim
def rPart : V -> List V -> Hp -> VK -> Prop := fun x vs H Q => ∃ z y, x = .str z /\ vs = [.str y] /\ (y.length == 0) = false /\ z.length <= sizeLine /\ ∀ p, H p = none -> Q (.ref p) (upd H p (.tup [.str (Txt.partition z y).1, .str (Txt.partition z y).2.1, .str (Txt.partition z y).2.2]))
theorem mt_part : MtR X "str.partition" rPart := by
 intro pins s σ H x vs v us Q I rx rv h
 obtain ⟨z, y, rfl, rfl, hy, hz, q⟩ := h
 obtain ⟨t, rfl⟩ := rx
 obtain ⟨u, rfl, w, rfl⟩ := vals1 rv
 have fin : ∀ (a b c : Str) (ta tb tc : Tok) (k : Nat), Txt.partition z y = (a, b, c) -> EP X pins σ Q (.ref s.heap.objs.size) { s with toks := k, heap := s.heap.push { cls := .type "tuple", data := .seq [Value.str a ta, .str b tb, .str c tc].toArray } } := fun a b c ta tb tc k e => by
  rw [e] at q
  refine ⟨.ref s.heap.objs.size, upd H s.heap.objs.size (.tup [.str a, .str b, .str c]), I.laid (t' := k) (fun b u e => Heap.get?_push_of_some _ e) (Nat.le_refl _) ?_, rfl, q _ (I.hok.fresh (Nat.le_refl _))⟩
  exact ⟨by show 3 <= sizeLine; decide, _, .cons ⟨_, rfl⟩ (.cons ⟨_, rfl⟩ (.cons ⟨_, rfl⟩ .nil)), ⟨_, Heap.get?_push_size _ rfl, rfl, _, rfl⟩, _, Heap.get?_push_size _ rfl, rfl⟩
 refine call_meets F.slot_str_partition (typeIs_str _ _ _) F.entry_str_partition (F.args_str_partition_2 _ _) (meets_str_partition z y t w hy hz) ?_
 unfold Txt.partition at fin
 revert fin
 cases Builtin.Str.occurrences z y 0 z.length 1 with
 | nil => exact fun fin => fin _ _ _ _ _ _ _ rfl
 | cons i r => exact fun fin => fin _ _ _ _ _ _ _ rfl
def partM (o : D) (ds : List D) (m : Sto) : Res D := match o, ds with
 | .str z, [.str y] => if (y.length == 0) = false /\ z.length <= sizeLine then .ok (.tup [.str (Txt.partition z y).1, .str (Txt.partition z y).2.1, .str (Txt.partition z y).2.2]) m else .bad
 | _, _ => .bad
theorem md_part : MtD K cl ex rPart partM := fun α m H x xs vx vs Q W rx rxs h => by
 unfold partM at h
 split at h
 ·obtain ⟨hc, h⟩ := PQ.if h
  rw [Rep] at rx
  obtain ⟨v, rfl, rv⟩ := rxs.one_of
  rw [Rep] at rv
  subst rv
  refine ⟨_, _, rx, rfl, hc.1, hc.2, fun p hp => ?_⟩
  exact PQ.okS W (Same.new hp) h _ (by rw [Rep]; exact ⟨p, _, rfl, .inl upd_same, repL_strs [_, _, _]⟩)
 ·exact h.elim
def rStr2 : List V -> Hp -> VK -> Prop := fun xs H Q => (∃ i, xs = [.int i] /\ i.natAbs.log2 < 1920 /\ Q (.str (toString i)) H) ∨ ∃ z, xs = [.str z] /\ Q (.str z) H
theorem call_str2 : CallR X (.type "str") rStr2 := CallR.or call_str_int (by
 intro pins s σ H xs us Q I r h
 obtain ⟨z, rfl, q⟩ := h
 obtain ⟨u, rfl, t, rfl⟩ := vals1 r
 exact PySem.P.str_of_str ⟨.str _, H, I, ⟨_, rfl⟩, q⟩)
def str2F (ds : List D) (m : Sto) : Res D := match ds with
 | [.int i] => if i.natAbs.log2 < 1920 then .ok (.str (toString i)) m else .bad
 | [.str z] => .ok (.str z) m
 | _ => .bad
theorem fd_str2 : FnD K cl ex rStr2 str2F := fun α m H x vx Q W rx h => by
 unfold str2F at h
 split at h
 ·obtain ⟨v, rfl, rv⟩ := rx.one_of
  rw [Rep] at rv; subst rv
  obtain ⟨hc, h⟩ := PQ.if h
  exact .inl ⟨_, rfl, hc, PQ.ok W h _ repS⟩
 ·obtain ⟨v, rfl, rv⟩ := rx.one_of
  rw [Rep] at rv; subst rv
  exact .inr ⟨_, rfl, PQ.ok W h _ repS⟩
 ·exact h.elim
end
section
variable {X : Cx} {K : PySem.W.Frag} {cl : Str -> Addr} {ex : XD}
def rLindex (K : PySem.W.Frag) : V -> List V -> Hp -> VK -> Prop := fun x vs H Q => ∃ (a : Addr) (zs : List Str) (z : Str), x = .ref a /\ vs = [.str z] /\ SqL K H a (zs.map V.str) /\ z ∈ zs /\ Q (.int (zs.idxOf z : Nat)) H
theorem eqU_str {x : V} {y : Str} {u : Value} (r : RelV (.str y) u) : eqU x u = eqV (.str y) x := by
 obtain ⟨t, rfl⟩ := r
 rfl
theorem strv_at : ∀ {zs : List Str} {us : List Value} {i : Nat} (h : i < us.length), Vals (zs.map V.str) us -> ∃ z, zs[i]? = some z /\ RelV (.str z) us[i]
 | [], _, i, h, r => by cases r; cases h
 | z :: zs, _, i, h, r => by
  rw [List.map_cons] at r
  cases r with
  | cons r1 r2 =>
   cases i with
   | zero => exact ⟨z, rfl, r1⟩
   | succ i => exact strv_at (zs := zs) (by simpa using h) r2
theorem mt_lindex : MtR X "list.index" (rLindex X.K) := by
 intro pins s σ H x vs v us Q I rx rv h
 obtain ⟨a, zs, z, rfl, rfl, ha, hz, q⟩ := h
 cases rx
 obtain ⟨u, rfl, t, rfl⟩ := vals1 rv
 obtain ⟨its, r, p, hl⟩ := I.list ha
 rw [List.length_map] at hl
 have hlen : zs.length = its.length := by rw [<- r.length, List.length_map]
 obtain ⟨⟨cls, dd, data, sl⟩, n, ho, hc, hd1, hd⟩ := id p
 simp only at hc hd hd1
 subst hc hd hd1
 have hi := List.idxOf_lt_length_of_mem hz
 have f2 : (zs.map V.str).all flatV = true := by simp [flatV]
 refine call_meets PySem.F.slot_list_index ⟨_, ho, rfl⟩ PySem.F.entry_list_index (PySem.F.args_list_index_2 _ _) (SeqAt.list_indexAt a its.toArray n none sl (.str z t) (eqU (.str z)) (zs.idxOf z) (by simp; omega) ?_ ?_ ?_) ⟨ho, ?_, ?_⟩
 ·have : sizeLine < 2 ^ 62 := by decide
  omega
 ·obtain ⟨y, hy, ry⟩ := strv_at (i := zs.idxOf z) (by omega) r
  simp only [List.getElem_toArray]
  rw [eqU_str ry]
  rw [List.getElem?_eq_getElem hi, List.getElem_idxOf hi] at hy
  cases hy
  simp [eqV]
 ·intro k hk hkj
  obtain ⟨y, hy, ry⟩ := strv_at (i := k) (by simpa using hk) r
  simp only [List.getElem_toArray]
  rw [eqU_str ry]
  have hk2 : k < zs.length := by simp at hk; omega
  rw [List.getElem?_eq_getElem hk2] at hy
  have h1 := List.not_of_lt_findIdx (xs := zs) (p := (· == z)) (by unfold List.idxOf at hkj; exact hkj)
  cases hy
  simp at h1
  simp [eqV, h1]
 ·exact fun y hy => mem_eqAt (x := .str z) ⟨t, rfl⟩ rfl r f2 y (by simpa using hy)
 ·exact ⟨.int _, H, I.tok _, ⟨_, rfl⟩, q⟩
def lindexM (o : D) (ds : List D) (m : Sto) : Res D := match o, ds with
 | .lst xs, [.str z] => match asStrs xs with
  | some zs => if z ∈ zs then .ok (.int (zs.idxOf z : Nat)) m else .bad
  | none => .bad
 | _, _ => .bad
theorem md_lindex : MtD K cl ex (rLindex K) lindexM := fun α m H x xs vx vs Q W rx rxs h => by
 unfold lindexM at h
 split at h
 ·split at h
  ·rename_i zs e
   obtain ⟨hc, h⟩ := PQ.if h
   rw [Rep] at rx
   obtain ⟨a, ys, rfl, _, h1, r1⟩ := rx
   obtain ⟨v, rfl, rv⟩ := rxs.one_of
   rw [Rep] at rv
   subst rv
   rw [asStrs_use e r1] at h1
   exact ⟨a, zs, _, rfl, rfl, .inl h1, hc, PQ.ok W h _ repI⟩
  ·exact h.elim
 ·exact h.elim
theorem kit_any {d : D} {m : Sto} {t n n' : String} (h : tyN d m = some t) (hn : n ∈ askTy) (hn' : n' ∈ askTy) : PySem.W.kitAny K (.type t) [.type n, .type n'] = some (isiB t n || isiB t n') := by
 unfold PySem.W.kitAny
 rw [kit_tab h hn]
 cases isiB t n with
 | true => rfl
 | false =>
  show PySem.W.kitAny K (.type t) [.type n'] = _
  unfold PySem.W.kitAny
  rw [kit_tab h hn']
  cases isiB t n' <;> rfl
def rIsi2 (K : PySem.W.Frag) (n n' : String) : List V -> Hp -> VK -> Prop := fun xs H Q => ∃ cl α m d v t p, xs = [v, .ref p] /\ Wd K cl α m H /\ Rep K α H d v /\ tyN d m = some t /\ H p = some (.tup [.ty n, .ty n']) /\ Q (.bl (isiB t n || isiB t n')) H
theorem call_isi2 {n n' : String} (hn : n ∈ askTy) (hn' : n' ∈ askTy) : CallR X (.builtin "isinstance") (rIsi2 X.K n n') := by
 intro pins s σ H xs us Q I r h
 obtain ⟨cl, α, m, d, v, t, p, rfl, W, rv, ht, hp, q⟩ := h
 obtain ⟨u, w, rfl, ru, rw'⟩ := vals2 r
 cases rw'
 have kt := kit_any (K := X.K) ht hn hn'
 obtain ⟨its, ri, ⟨⟨cls, dd, data, sl⟩, h1, h2, k, h3⟩, _⟩ := I.tuple (.inl (.inl hp))
 obtain ⟨a, b, rfl, ra, rb⟩ := vals2 ri
 cases ra
 cases rb
 simp only at h2 h3
 subst h2 h3
 have fin : ∀ {P : Heap -> Prop}, PySem.W.KitX X.K u (.type t) P -> P s.heap -> u ≠ .builtin "__main__.__loader__#opaque" -> wpAny (model X.prog X.w) X.A (call (.builtin "isinstance") [u, .ref p]) (EP X pins σ Q) X.xe s := fun Z hP hu =>
  PySem.W.kia_tup Z I.kIn hP h1 kt hu fun tk => ⟨.bl _, H, I.tok _, rfl, q⟩
 unfold tyN at ht
 split at ht
 ·cases ht; rw [Rep] at rv; subst rv; cases ru; exact fin PySem.W.kitx_none trivial fun z => nomatch z
 ·cases ht; rw [Rep] at rv; subst rv; cases ru; exact fin PySem.W.kitx_bool trivial fun z => nomatch z
 ·cases ht; rw [Rep] at rv; subst rv; obtain ⟨k, rfl⟩ := ru; exact fin PySem.W.kitx_int trivial fun z => nomatch z
 ·cases ht; rw [Rep] at rv; subst rv; obtain ⟨k, rfl⟩ := ru; exact fin PySem.W.kitx_str trivial fun z => nomatch z
 ·cases ht; rw [Rep] at rv; subst rv; obtain ⟨k, rfl⟩ := ru; exact fin PySem.W.kitx_float trivial fun z => nomatch z
 ·cases ht
  rw [Rep] at rv
  obtain ⟨a, xs, rfl, h1, _⟩ := rv
  cases ru
  obtain ⟨_, _, ⟨o, g1, g2, _⟩, _⟩ := I.tuple h1.sq
  exact fin PySem.W.kitx_tuple ⟨o, g1, g2⟩ fun z => nomatch z
 ·cases ht
  rw [Rep] at rv
  obtain ⟨a, xs, rfl, _, h1, _⟩ := rv
  cases ru
  obtain ⟨_, _, ⟨o, k, g1, g2, _⟩, _⟩ := I.list (.inl h1)
  exact fin PySem.W.kitx_list ⟨o, g1, g2⟩ fun z => nomatch z
 ·rw [Rep] at rv
  obtain ⟨a, ha, rfl⟩ := rv
  cases ru
  split at ht
  ·cases ht
   obtain ⟨xs, h1, _⟩ := W.lst ha ‹_›
   obtain ⟨_, _, ⟨o, k, g1, g2, _⟩, _⟩ := I.list (SqL.of h1)
   exact fin PySem.W.kitx_list ⟨o, g1, g2⟩ fun z => nomatch z
  ·cases ht
   obtain ⟨xs, h1, _⟩ := W.dct ha ‹_›
   obtain ⟨_, _, vs, _, p⟩ := (show ObjOk X.prog X.w H s.heap a (.dK xs) from I.hok a _ h1)
   obtain ⟨o, es, ep, g1, g2, _⟩ := p
   exact fin PySem.W.kitx_dict ⟨o, g1, g2.1⟩ fun z => nomatch z
  ·cases ht
 ·cases ht
def isi2D (n n' : String) (d : D) (m : Sto) : Res D := match tyN d m with
 | some t => .ok (.bl (isiB t n || isiB t n')) m
 | none => .bad
theorem qe_isi2 {e : Expr} {fa : EV} {p p2 p3 pos ptup : Pos} {x y : Str} {n n' : String} {c} (hn : n ∈ askTy) (hn' : n' ∈ askTy) (hg : Gl X "isinstance") (hm : X.mg "isinstance" = none) (hg2 : Gl X x) (hm2 : X.mg x = none) (hv : bootBuiltins x = some (.type n)) (hg3 : Gl X y) (hm3 : X.mg y = none) (hv3 : bootBuiltins y = some (.type n')) (ha : QE X cl ex e fa) (hx : autoParam (x ≠ "__name__") AutoP.a1._auto_1) (hdb : autoParam ((x == ("__debug__" : Str)) = false) AutoP.a1._auto_1) (hx3 : autoParam (y ≠ "__name__") AutoP.a1._auto_1) (hdb3 : autoParam ((y == ("__debug__" : Str)) = false) AutoP.a1._auto_1)
  (he : autoParam (starEach [e, .Tuple [.Name x p2, .Name y p3] c ptup] X.env = (false, eval e X.env) :: starEach [.Tuple [.Name x p2, .Name y p3] c ptup] X.env) AutoP.a3._auto_1) (he2 : autoParam (starEach [.Tuple [.Name x p2, .Name y p3] c ptup] X.env = (false, eval (.Tuple [.Name x p2, .Name y p3] c ptup) X.env) :: starEach [] X.env) AutoP.a3._auto_1) (hpl : autoParam ((backTo pos (starEach [.Tuple [.Name x p2, .Name y p3] c ptup] X.env)).any (·.1) = false) AutoP.a3._auto_1)
  (he3 : autoParam (starEach [.Name x p2, .Name y p3] X.env = (false, eval (.Name x p2) X.env) :: starEach [.Name y p3] X.env) AutoP.a3._auto_1) (he4 : autoParam (starEach [.Name y p3] X.env = (false, eval (.Name y p3) X.env) :: starEach [] X.env) AutoP.a3._auto_1) :
  QE X cl ex (.Call (.Name "isinstance" p) [e, .Tuple [.Name x p2, .Name y p3] c ptup] [] pos) (eUn (isi2D n n') fa) :=
 ⟨PE.weak (pe_callB (call_isi2 hn hn') hg hm boot_isinstance (pa_cons ha.out (pa_cons (pe_tup (pa_cons (pe_bltn (v := .ty n) hg2 hm2 hv rfl hx hdb) (pa_cons (pe_bltn (v := .ty n') hg3 hm3 hv3 rfl hx3 hdb3) pa_nil he4) he3)) pa_nil he2) he) (by decide) (by decide) he hpl) fun σ H Q hh => ex3 hh fun α ρ m W hr h => tD.use W hr h fun α1 m1 H1 d v E1 W1 hr1 rv q1 => by
  unfold isi2D at q1
  split at q1
  ·refine ⟨by show 2 <= sizeLine; decide, fun p hp => ?_⟩
   have s1 := Same.new (o := .tup [.ty n, .ty n']) hp
   exact ⟨cl, α1, m1, d, v, _, p, rfl, W1.same s1, rv.mono W1 (Ext.of_same W1 s1), ‹_›, upd_same, PQ.okS W1 s1 q1 _ repB⟩
  ·exact q1.elim⟩
end
def gShowWords0 : SV :=
 (sRet (eMeth isStr joinM (eC (.str " ")) (zab (eFn gL1 (aComp 1 (aIt (zag 0)) (gN 1) tYesM (eFn str2F (zab (zag 1) zaj)))) zaj)))
def gShowWords : List D -> Sto -> Res D := runF 1 gShowWords0
def gShowField0 : SV :=
 (sSeq (sAsg (zag 1) (gT 3 (gsCons (gN 2) (gsCons (gN 3) (gsCons (gN 4) gsNil)))))
 (sSeq (sIf (tV (eOp eqD (eOp ixD (zag 4) (eC (.int 0))) (eC (.str "turn"))))
 (sRet (eOp addD (eCat Str.empty [(eC (.str "field ")), (eUn fmtD (zag 2)), (eC (.str " ")), (eUn fmtD (zag 3)), (eC (.str " turn "))]) (eFn gShowWords (zab (eOp ixD (zag 4) (eC (.int 1))) zaj))))
 sNil)
 (sSeq (sIf (tV (eOp eqD (eOp ixD (zag 4) (eC (.int 0))) (eC (.str "with"))))
 (sRet (eCat Str.empty [(eC (.str "field ")), (eUn fmtD (zag 2)), (eC (.str " ")), (eUn fmtD (zag 3)), (eC (.str " with ")), (eUn fmtD (eOp ixD (eOp ixD (zag 0) (eOp ixD (zag 4) (eC (.int 1)))) (eC (.int 0)))), (eC (.str " ")), (eUn fmtD (eOp ixD (zag 4) (eC (.int 2))))]))
 sNil)
 (sRet (eOp addD (eCat Str.empty [(eC (.str "field ")), (eUn fmtD (zag 2)), (eC (.str " ")), (eUn fmtD (zag 3)), (eC (.str " "))]) (eFn gShowWords (zab (zag 4) zaj)))))))
def gShowField : List D -> Sto -> Res D := runF 5 gShowField0
def gShowWay0 : SV :=
 (sSeq (sIf (tV (eOp eqD (eOp ixD (zag 0) (eC (.int 0))) (eC (.str "keep"))))
 (sRet (eC (.str "=")))
 sNil)
 (sSeq (sIf (tV (eOp eqD (eOp ixD (zag 0) (eC (.int 0))) (eC (.str "whole"))))
 (sRet (eC (.str "*")))
 sNil)
 (sRet (eCat Str.empty [(eUn fmtD (eOp ixD (zag 0) (eC (.int 1)))), (eC (.str "-")), (eUn fmtD (eOp ixD (zag 0) (eC (.int 2))))]))))
def gShowWay : List D -> Sto -> Res D := runF 1 gShowWay0
def gShowForm0 : SV :=
 (sSeq (sAsg (zag 0) (gT 3 (gsCons (gN 1) (gsCons (gN 2) (gsCons (gN 3) gsNil)))))
 (sRet (eOp addD (eCat Str.empty [(eC (.str "form ")), (eUn fmtD (zag 1)), (eC (.str " ")), (eUn fmtD (zag 2)), (eC (.str " "))]) (eFn gShowWords (zab (eFn gL1 (aComp 1 (aIt (zag 3)) (gN 4) tYesM (eFn gShowWay (zab (zag 4) zaj)))) zaj)))))
def gShowForm : List D -> Sto -> Res D := runF 4 gShowForm0
def gShowPact0 : SV :=
 (sSeq (sAsg (zag 0) (gT 4 (gsCons (gN 1) (gsCons (gN 2) (gsCons (gN 3) (gsCons (gN 4) gsNil))))))
 (sSeq (sAsg (eFn gL1 (aComp 1 (aIt (eOp ixD (zag 1) (eC (.int 0)))) (gN 6) tYesM (eFn gShowField (zab (eOp ixD (zag 1) (eC (.int 0))) (zab (zag 6) zaj))))) (gN 5))
 (sSeq (sAsg (eOp addD (zag 5) (eFn gLst (zab (eCat Str.empty [(eC (.str "check ")), (eUn fmtD (eOp ixD (zag 1) (eC (.int 1))))]) (zab (eCat Str.empty [(eC (.str "wide ")), (eUn fmtD (zag 2))]) (zab (eOp addD (eC (.str "road ")) (eFn gShowWords (zab (zag 4) zaj))) zaj))))) (gN 5))
 (sRet (eMeth isStr joinM (eC (.str "\n")) (zab (eOp addD (zag 5) (eFn gL1 (aComp 1 (aIt (zag 3)) (gN 6) tYesM (eFn gShowForm (zab (zag 6) zaj))))) zaj))))))
def gShowPact : List D -> Sto -> Res D := runF 6 gShowPact0
def gNumberRead0 : SV :=
 (sSeq (sIf (tOrM (tNotM (tV (eChain leD leD (eC (.int 1)) (eFn lenF (zab (zag 0) zaj)) (eC (.int 15))))) (tNotM (tV (eFn allF (zab (eFn gL1 (aComp 1 (aIt (zag 0)) (gN 1) tYesM (eChain leD leD (eC (.str "0")) (zag 1) (eC (.str "9"))))) zaj)))))
 (sRet (eC .non))
 sNil)
 (sSeq (sIf (tAndM (tV (eOp eqD (eOp ixD (zag 0) (eC (.int 0))) (eC (.str "0")))) (tV (eOp neD (zag 0) (eC (.str "0")))))
 (sRet (eC .non))
 sNil)
 (sRet (eFn intF (zab (zag 0) zaj)))))
def gNumberRead : List D -> Sto -> Res D := runF 1 gNumberRead0
def gNumbersRead0 : SV :=
 (sSeq (sIf (tOrM (tV (eOp geD (zag 1) (eFn lenF (zab (zag 0) zaj)))) (tOrM (tV (eOp neD (eFn lenF (zab (eOp ixD (zag 0) (zag 1)) zaj)) (eOp addD (eC (.int 1)) (zag 3)))) (tV (eOp neD (eOp ixD (eOp ixD (zag 0) (zag 1)) (eC (.int 0))) (zag 2)))))
 sBad
 sNil)
 (sRet (eFn tupF (zab (eFn gL1 (aComp 1 (aIt (eSl (eOp ixD (zag 0) (zag 1)) (oSome (eC (.int 1))) oNone)) (gN 4) tYesM (eFn gNumberRead (zab (zag 4) zaj)))) zaj))))
def gNumbersRead : List D -> Sto -> Res D := runF 4 gNumbersRead0
def gSignedRead0 : SV :=
 (sSeq (sIf (tNotM (tV (eMeth isStr startM (zag 0) (zab (eC (.str "-")) zaj))))
 (sRet (eFn gNumberRead (zab (zag 0) zaj)))
 sNil)
 (sSeq (sAsg (eFn gNumberRead (zab (eSl (zag 0) (oSome (eC (.int 1))) oNone) zaj)) (gN 1))
 (sSeq (sIf (tOrM (tV (eOp isD (zag 1) (eC .non))) (tV (eOp eqD (zag 1) (eC (.int 0)))))
 (sRet (eC .non))
 sNil)
 (sRet (eUn negD (zag 1))))))
def gSignedRead : List D -> Sto -> Res D := runF 2 gSignedRead0
def gKindRead0 : SV :=
 (sSeq (sIf (tV (eOp eqD (eFn lenF (zab (zag 1) zaj)) (eC (.int 1))))
 (sRet (eFn gTup (zab (eOp ixD (zag 1) (eC (.int 0))) zaj)))
 sNil)
 (sSeq (sIf (tAndM (tV (eOp eqD (eOp ixD (zag 1) (eC (.int 0))) (eC (.str "step")))) (tV (eOp eqD (eFn lenF (zab (zag 1) zaj)) (eC (.int 2)))))
 (sRet (eFn gTup (zab (eC (.str "step")) (zab (eFn gNumberRead (zab (eOp ixD (zag 1) (eC (.int 1))) zaj)) zaj))))
 sNil)
 (sSeq (sIf (tV (eOp eqD (eOp ixD (zag 1) (eC (.int 0))) (eC (.str "turn"))))
 (sRet (eFn gTup (zab (eC (.str "turn")) (zab (eFn tupF (zab (eFn gL1 (aComp 1 (aIt (eSl (zag 1) (oSome (eC (.int 1))) oNone)) (gN 2) tYesM (eFn gNumberRead (zab (zag 2) zaj)))) zaj)) zaj))))
 sNil)
 (sSeq (sIf (tAndM (tV (eOp eqD (eOp ixD (zag 1) (eC (.int 0))) (eC (.str "with")))) (tAndM (tV (eOp eqD (eFn lenF (zab (zag 1) zaj)) (eC (.int 3)))) (tV (eOp inD (eOp ixD (zag 1) (eC (.int 1))) (zag 0)))))
 (sRet (eFn gTup (zab (eC (.str "with")) (zab (eMeth isLst lindexM (zag 0) (zab (eOp ixD (zag 1) (eC (.int 1))) zaj)) (zab (eFn gSignedRead (zab (eOp ixD (zag 1) (eC (.int 2))) zaj)) zaj)))))
 sNil)
 (sRet (eC .non))))))
def gKindRead : List D -> Sto -> Res D := runF 2 gKindRead0
def gFieldRead0 : SV :=
 (sSeq (sIf (tV (eOp ltD (eFn lenF (zab (zag 1) zaj)) (eC (.int 4))))
 (sRet (eC .non))
 sNil)
 (sSeq (sAsg (eFn gL1 (aComp 1 (aIt (zag 0)) (gN 3) tYesM (eOp ixD (zag 3) (eC (.int 0))))) (gN 2))
 (sRet (eFn gTup (zab (eOp ixD (zag 1) (eC (.int 1))) (zab (eFn gNumberRead (zab (eOp ixD (zag 1) (eC (.int 2))) zaj)) (zab (eFn gKindRead (zab (zag 2) (zab (eSl (zag 1) (oSome (eC (.int 3))) oNone) zaj))) zaj)))))))
def gFieldRead : List D -> Sto -> Res D := runF 3 gFieldRead0
def gShapeRead0 : SV :=
 (sSeq (sAsg (eFn gTup zaj) (gN 1))
 (sSeq (sWhile fuelW (tAndM (tV (eOp ltD (eFn lenF (zab (zag 1) zaj)) (eFn lenF (zab (zag 0) zaj)))) (tV (eOp eqD (eOp ixD (eOp ixD (zag 0) (eFn lenF (zab (zag 1) zaj))) (eC (.int 0))) (eC (.str "field")))))
 (sSeq (sAsg (eOp addD (zag 1) (eFn gTup (zab (eFn gFieldRead (zab (zag 1) (zab (eOp ixD (zag 0) (eFn lenF (zab (zag 1) zaj))) zaj))) zaj))) (gN 2))
 (sSeq (sIf (tNotM (tV (eFn gAreFields (zab (zag 2) zaj))))
 sBad
 sNil)
 (sAsg (zag 2) (gN 1)))))
 (sSeq (sAsg (eFn gTup (zab (zag 1) (zab (eOp ixD (eFn gNumbersRead (zab (zag 0) (zab (eFn lenF (zab (zag 1) zaj)) (zab (eC (.str "check")) (zab (eC (.int 1)) zaj))))) (eC (.int 0))) zaj))) (gN 3))
 (sSeq (sIf (tNotM (tV (eFn gIsShape (zab (zag 3) zaj))))
 sBad
 sNil)
 (sRet (zag 3))))))
def gShapeRead : List D -> Sto -> Res D := runF 4 gShapeRead0
def gWayRead0 : SV :=
 (sSeq (sIf (tV (eOp eqD (zag 0) (eC (.str "="))))
 (sRet (eFn gTup (zab (eC (.str "keep")) zaj)))
 sNil)
 (sSeq (sIf (tV (eOp eqD (zag 0) (eC (.str "*"))))
 (sRet (eFn gTup (zab (eC (.str "whole")) zaj)))
 sNil)
 (sSeq (sAsg (eMeth isStr partM (zag 0) (zab (eC (.str "-")) zaj)) (gT 3 (gsCons (gN 1) (gsCons (gN 2) (gsCons (gN 3) gsNil)))))
 (sRet (eFn gTup (zab (eC (.str "low")) (zab (eFn gNumberRead (zab (zag 1) zaj)) (zab (eFn gNumberRead (zab (zag 3) zaj)) zaj))))))))
def gWayRead : List D -> Sto -> Res D := runF 4 gWayRead0
def gFormRead0 : SV :=
 (sSeq (sIf (tOrM (tV (eOp ltD (eFn lenF (zab (zag 0) zaj)) (eC (.int 3)))) (tV (eOp neD (eOp ixD (zag 0) (eC (.int 0))) (eC (.str "form")))))
 (sRet (eC .non))
 sNil)
 (sRet (eFn gTup (zab (eFn gNumberRead (zab (eOp ixD (zag 0) (eC (.int 1))) zaj)) (zab (eFn gNumberRead (zab (eOp ixD (zag 0) (eC (.int 2))) zaj)) (zab (eFn tupF (zab (eFn gL1 (aComp 1 (aIt (eSl (zag 0) (oSome (eC (.int 3))) oNone)) (gN 1) tYesM (eFn gWayRead (zab (zag 1) zaj)))) zaj)) zaj))))))
def gFormRead : List D -> Sto -> Res D := runF 1 gFormRead0
def gFormsRead0 : SV :=
 (sSeq (sAsg (eFn gTup zaj) (gN 3))
 (sSeq (sFor (aRng rng2 (zab (zag 2) (zab (eFn lenF (zab (zag 1) zaj)) zaj))) (gN 4)
 (sSeq (sAsg (eOp addD (zag 3) (eFn gTup (zab (eFn gFormRead (zab (eOp ixD (zag 1) (zag 4)) zaj)) zaj))) (gN 3))
 (sIf (tNotM (tV (eFn gAreForms (zab (zag 0) (zab (zag 3) zaj)))))
 sBad
 sNil)))
 (sRet (zag 3))))
def gFormsRead : List D -> Sto -> Res D := runF 5 gFormsRead0
def gReadPact0 : SV :=
 (sSeq (sIf (tNotM (tV (eUn (isiD "str") (zag 0))))
 sBad
 sNil)
 (sSeq (sAsg (eFn gL1 (aComp 1 (aIt (eMeth isStr splitM (zag 0) (zab (eC (.str "\n")) zaj))) (gN 6) tYesM (eMeth isStr splitM (zag 6) (zab (eC (.str " ")) zaj)))) (gN 1))
 (sSeq (sAsg (eFn gShapeRead (zab (zag 1) zaj)) (gN 2))
 (sSeq (sAsg (eOp addD (eFn lenF (zab (eOp ixD (zag 2) (eC (.int 0))) zaj)) (eC (.int 1))) (gN 3))
 (sSeq (sAsg (eOp ixD (eFn gNumbersRead (zab (zag 1) (zab (zag 3) (zab (eC (.str "wide")) (zab (eC (.int 1)) zaj))))) (eC (.int 0))) (gN 4))
 (sSeq (sIf (tNotM (tV (eFn gIsWide (zab (zag 4) zaj))))
 sBad
 sNil)
 (sSeq (sAsg (eFn gNumbersRead (zab (zag 1) (zab (eOp addD (zag 3) (eC (.int 1))) (zab (eC (.str "road")) (zab (eC (.int 4)) zaj))))) (gN 5))
 (sSeq (sIf (tNotM (tV (eFn gIsRoad (zab (zag 5) zaj))))
 sBad
 sNil)
 (sRet (eFn gTup (zab (zag 2) (zab (zag 4) (zab (eFn gFormsRead (zab (zag 2) (zab (zag 1) (zab (eOp addD (zag 3) (eC (.int 2))) zaj)))) (zab (zag 5) zaj))))))))))))))
def gReadPact : List D -> Sto -> Res D := runF 6 gReadPact0
def gLawWayWord0 : SV :=
 (sSeq (sIf (tV (eOp eqD (eOp ixD (zag 0) (eC (.int 0))) (eC (.str "low"))))
 (sRet (eOp addD (eOp addD (eFn strF (zab (eOp ixD (zag 0) (eC (.int 1))) zaj)) (eC (.str "-"))) (eFn strF (zab (eOp ixD (zag 0) (eC (.int 2))) zaj))))
 sNil)
 (sRet (eOp ixD (eDict [("keep", (eC (.str "="))), ("whole", (eC (.str "*")))]) (eOp ixD (zag 0) (eC (.int 0))))))
def gLawWayWord : List D -> Sto -> Res D := runF 1 gLawWayWord0
def gLawRows0 : SV :=
 (sSeq (sAsg (zag 0) (gT 4 (gsCons (gT 2 (gsCons (gN 1) (gsCons (gN 2) gsNil))) (gsCons (gN 3) (gsCons (gN 4) (gsCons (gN 5) gsNil))))))
 (sSeq (sAsg (eFn gNewL zaj) (gN 6))
 (sSeq (sFor (aIt (zag 1)) (gT 3 (gsCons (gN 7) (gsCons (gN 8) (gsCons (gN 9) gsNil))))
 (sSeq (sAsg (eFn gNewL (zab (eC (.str "field")) (zab (zag 7) (zab (eFn strF (zab (zag 8) zaj)) (zab (eOp ixD (zag 9) (eC (.int 0))) zaj))))) (gN 10))
 (sSeq (sIf (tV (eOp eqD (eOp ixD (zag 9) (eC (.int 0))) (eC (.str "step"))))
 (sDrop (eMeth isLst appendM (zag 10) (zab (eFn strF (zab (eOp ixD (zag 9) (eC (.int 1))) zaj)) zaj)))
 sNil)
 (sSeq (sIf (tV (eOp eqD (eOp ixD (zag 9) (eC (.int 0))) (eC (.str "turn"))))
 (sAsg (eOp addN (zag 10) (eFn gL1 (aComp 1 (aIt (eOp ixD (zag 9) (eC (.int 1)))) (gN 14) tYesM (eFn strF (zab (zag 14) zaj))))) (gN 10))
 sNil)
 (sSeq (sIf (tV (eOp eqD (eOp ixD (zag 9) (eC (.int 0))) (eC (.str "with"))))
 (sAsg (eOp addN (zag 10) (eFn gLst (zab (eOp ixD (eOp ixD (zag 1) (eOp ixD (zag 9) (eC (.int 1)))) (eC (.int 0))) (zab (eFn strF (zab (eOp ixD (zag 9) (eC (.int 2))) zaj)) zaj)))) (gN 10))
 sNil)
 (sDrop (eMeth isLst appendM (zag 6) (zab (eMeth isStr joinM (eC (.str " ")) (zab (zag 10) zaj)) zaj))))))))
 (sSeq (sAsg (eOp addN (zag 6) (eFn gLst (zab (eOp addD (eC (.str "check ")) (eFn strF (zab (zag 2) zaj))) (zab (eOp addD (eC (.str "wide ")) (eFn strF (zab (zag 3) zaj))) (zab (eOp addD (eC (.str "road ")) (eMeth isStr joinM (eC (.str " ")) (zab (eFn gL1 (aComp 1 (aIt (zag 5)) (gN 14) tYesM (eFn strF (zab (zag 14) zaj)))) zaj))) zaj))))) (gN 6))
 (sSeq (sFor (aIt (zag 4)) (gT 3 (gsCons (gN 11) (gsCons (gN 12) (gsCons (gN 13) gsNil))))
 (sDrop (eMeth isLst appendM (zag 6) (zab (eMeth isStr joinM (eC (.str " ")) (zab (eOp addD (eFn gLst (zab (eC (.str "form")) (zab (eFn strF (zab (zag 11) zaj)) (zab (eFn strF (zab (zag 12) zaj)) zaj)))) (eFn gL1 (aComp 1 (aIt (zag 13)) (gN 14) tYesM (eFn gLawWayWord (zab (zag 14) zaj))))) zaj)) zaj))))
 (sRet (zag 6)))))))
def gLawRows : List D -> Sto -> Res D := runF 14 gLawRows0
def gLawSame30 (self : List D -> Sto -> Res D) : SV :=
 (sSeq (sIf (tV (eUn (isi2D "tuple" "list") (zag 1)))
 (sSeq (sIf (tOrM (tV (eOp neD (eUn (isiD "tuple") (zag 0)) (eUn (isiD "tuple") (zag 1)))) (tV (eOp neD (eUn (isiD "list") (zag 0)) (eUn (isiD "list") (zag 1)))))
 (sRet (eC (.bl false)))
 sNil)
 (sRet (eAnd (eOp eqD (eFn lenF (zab (zag 0) zaj)) (eFn lenF (zab (zag 1) zaj))) (eFn allF (zab (eFn gL1 (aComp 2 (aZip (zag 0) (zag 1)) (gT 2 (gsCons (gN 2) (gsCons (gN 3) gsNil))) tYesM (eFn self (zab (zag 2) (zab (zag 3) zaj))))) zaj)))))
 sNil)
 (sSeq (sIf (tV (eOp isD (zag 1) (eC .non)))
 (sRet (eOp isD (zag 0) (eC .non)))
 sNil)
 (sSeq (sIf (tV (eUn (isiD "bool") (zag 1)))
 (sRet (eAnd (eUn (isiD "bool") (zag 0)) (eOp eqD (zag 0) (zag 1))))
 sNil)
 (sRet (eAnd (eOp eqD (eUn (isiD "str") (zag 0)) (eUn (isiD "str") (zag 1))) (eAnd (eNot (eUn (isiD "bool") (zag 0))) (eOp eqD (zag 0) (zag 1))))))))
def gLawSame3N : Nat -> List D -> Sto -> Res D
 | 0 => fun _ _ => .bad
 | n + 1 => runF 2 (gLawSame30 (gLawSame3N n))
def gLawSame3 : List D -> Sto -> Res D := gLawSame3N 12
def gLaw260 : SV :=
 (sSeq (sAsg (eFn gLawPot3 (zab (zag 0) zaj)) (gN 1))
 (sSeq (sFor (aRng rng1 (zab (eC (.int 6)) zaj)) (gN 2)
 (sSeq (sAsg (eFn gLawPact2 (zab (zag 1) zaj)) (gN 3))
 (sSeq (sIf (tV (eOp eqD (zag 2) (eC (.int 5))))
 (sAsg (eOp addD (eSl (zag 3) oNone (oSome (eC (.int 3)))) (eFn gTup (zab (eOp ixD (eFn gLst (zab (eFn gTup (zab (eC (.int 0)) (zab (eC (.int 0)) (zab (eC (.int 0)) (zab (eC (.int 0)) zaj))))) (zab (eFn gTup (zab (eC (.int 39)) (zab (eC (.int 400)) (zab (eC (.int 20)) (zab (eC (.int 400)) zaj))))) (zab (eFn gTup (zab (eC (.int 39)) (zab (eC (.int 39)) (zab (eC (.int 0)) (zab (eC (.int 1)) zaj))))) zaj)))) (eFn zai (zab (zag 1) (zab (eC (.int 3)) zaj)))) zaj))) (gN 3))
 sNil)
 (sSeq (sAsg (eMeth isStr joinM (eC (.str "\n")) (zab (eFn gLawRows (zab (zag 3) zaj)) zaj)) (gN 4))
 (sSeq (sIf (tOrM (tNotM (tV (eFn gLawSame3 (zab (eFn gShowPact (zab (zag 3) zaj)) (zab (zag 4) zaj))))) (tNotM (tV (eFn gLawSame3 (zab (eFn gReadPact (zab (zag 4) zaj)) (zab (zag 3) zaj))))))
 (sRet (eC (.bl false)))
 sNil)
 (sIf (tOrM (tV (eOp neD (eFn gShowPact (zab (eFn gReadPact (zab (zag 4) zaj)) zaj)) (zag 4))) (tV (eOp neD (eFn gReadPact (zab (eFn gShowPact (zab (zag 3) zaj)) zaj)) (zag 3))))
 (sRet (eC (.bl false)))
 sNil))))))
 (sRet (eC (.bl true)))))
def gLaw26 : List D -> Sto -> Res D := runF 5 gLaw260
theorem sco {N P : List Str} {sc : Scope} (a : autoParam (sc.kind = .function) AutoP.a3._auto_1) (b : autoParam (sc.isCoroutine = false) AutoP.a3._auto_1) (c : autoParam (sc.isGenerator = false) AutoP.a3._auto_1) (d : autoParam (N.Nodup) AutoP.a6._auto_1) (e : autoParam (N.take P.length = P) AutoP.a3._auto_1)
  (f : autoParam (∀ x ∈ P, sc.names.lookup x = some .local ∨ sc.names.lookup x = some .cell) AutoP.a6._auto_1) (g : autoParam (∀ y ∈ sc.names, y.2 ≠ .free) AutoP.a6._auto_1) : FnScope N P sc := ⟨a, b, c, d, e, f, g⟩
theorem qxi {X : Cx} {cl : Str -> Addr} {ex : XD} {a b : Expr} {fa fb : EV} {pos : Pos} {k : Nat} (hr : Room k X.A) (ha : QE X cl ex a fa) (hb : QE X cl ex b fb) (hs : autoParam (PlainIx b) AutoP.a7._auto_1) : QE X cl ex (.Subscript a b pos) (eOp ixD fa fb) :=
 qe_ix (ix_A (hu_of hr)) od_ix ha hb hs
theorem qfn {X : Cx} {cl : Str -> Addr} {e : Expr} {es : List Expr} {fr : AV} {p pos : Pos} {x : Str} {k n j : Nat} {g : List D -> Sto -> Res D} (h : FnX X.prog X.w X.K X.mg X.base cl x k n g) (hr : Room j X.A)
  (ha : QA X cl X0 (e :: es) fr) (hn : autoParam (n = (e :: es).length) AutoP.a3._auto_1) (hk : autoParam (k <= j) AutoP.a1._auto_1) (hg : autoParam (Gl X x) AutoP.a3._auto_1) (hlen : autoParam (∀ ρ m ds m1, fr ρ m = .ok ds m1 -> ds.length = (e :: es).length) AutoP.a8._auto_1) (hdb : autoParam ((x == ("__debug__" : Str)) = false) AutoP.a1._auto_1) (he : autoParam (starEach (e :: es) X.env = (false, eval e X.env) :: starEach es X.env) AutoP.a3._auto_1) (hpl : autoParam ((backTo pos (starEach es X.env)).any (·.1) = false) AutoP.a3._auto_1) :
  QE X cl X0 (.Call (.Name x p) (e :: es) [] pos) (eFn g fr) := qe_fn h hn (hr.mono hk) hg ha hlen hdb he hpl
theorem mkx (P : Program) (w : World) (base : Heap) (cl : Str -> Addr) (k : Nat) {K : PySem.W.Frag} {mg : Str -> Option Value} {x qual : Str} {st : Stmt} {f : Addr} {fd : FuncData} {N ps : List Str} {body : SV} (F : Fun K x qual st f fd) (b : Binds K fd ps []) (m : mg x = some (.ref f)) (S : FnScope N ps (zak st))
  (h : ∀ (cdv : Value) (A : Around) (outer : List PySem.Env) (s : Shared) (H : Hp) (E : XK), Room k (A.deeper (envOfC qual (zak st) s.heap.objs.size f cdv)) -> QSs (cxOf CX0 P w K mg base N qual (zak st) f cdv A outer s H E).nox cl X0 (defBody st) body) : FnX P w K mg base cl x (k + 1) ps.length (runF N.length body) := FnX.mk' F b m S rfl h
theorem _root_.L2.Fun.bindA {K : PySem.W.Frag} {x qual : Str} {st : Stmt} {f : Addr} {fd : FuncData} {ps : List Str} (F : Fun K x qual st f fd)
  (h : ∀ (kV doc pm : Value) (an : Option Addr) (cdv ct : Value) (us : List Value), us.length = ps.length -> bindArgs (PySem.W.fnOf x qual (defArgs st) (defBody st) (zak st) .none kV doc pm an cdv ct) ⟨us, []⟩ = pure (ps.zip us) := by intro _ _ _ _ _ _ us hl; first | (obtain rfl := us0 hl; rfl) | (obtain ⟨_, rfl⟩ := us1 hl; rfl) | (obtain ⟨_, _, rfl⟩ := us2 hl; rfl) | (obtain ⟨_, _, _, rfl⟩ := us3 hl; rfl) | (obtain ⟨_, _, _, _, rfl⟩ := us4 hl; rfl) | (obtain ⟨_, _, _, _, _, rfl⟩ := us5 hl; rfl) | (obtain ⟨_, _, _, _, _, _, rfl⟩ := us6 hl; rfl)) : Binds K fd ps [] := F.binds h
end MD
namespace Mth
end Mth
set_option autoImplicit false
namespace MD
open PySem L2
end MD
set_option autoImplicit false
namespace MD
open PySem PySem.Spec PyProof.Rows L2
theorem look_mem {a : Addr} {o : Obj} : ∀ {K : PySem.W.Frag}, K.lookup a = some o -> (a, o) ∈ K
 | [], h => nomatch h
 | (b, u) :: K, h => by
  rw [List.lookup_cons] at h
  cases hb : a == b with
  | true =>
   rw [hb] at h
   cases h
   rw [eq_of_beq hb]
   exact List.mem_cons_self
  | false =>
   rw [hb] at h
   exact List.mem_cons_of_mem _ (look_mem h)
theorem Kof_in (n : Nat) (h : Heap) : (Kof n h).In h := fun a o e => by
 obtain ⟨b, _, hb⟩ := List.mem_filterMap.mp (look_mem e)
 obtain ⟨u, hu, e2⟩ := Option.map_eq_some_iff.mp hb
 cases e2
 exact hu
theorem fun_of {K : PySem.W.Frag} {f : Addr} {x q : Str} {st : Stmt} (h : fnV K f = (some (x, q, defArgs st, defBody st, zak st), true)) : ∃ fd, Fun K x q st f fd := by
 unfold fnV at h
 split at h
 ·rename_i oc od x' q' ps b sc gl dv kV doc pm an cd ct bl sl hl
  simp only [Prod.mk.injEq, Option.some.injEq, Bool.and_eq_true] at h
  obtain ⟨⟨rfl, rfl, rfl, rfl, rfl⟩, ⟨⟨h1, h2⟩, h3⟩, h4⟩ := h
  have e1 := Nat.eq_of_beq_eq_true h1
  have e2 := Nat.eq_of_beq_eq_true h2
  subst e1 e2
  have e3 : dv = .none := by
   unfold valNone at h3
   split at h3
   ·rfl
   ·cases h3
  subst e3
  refine ⟨_, ⟨⟨oc, od, kV, doc, pm, an, cd, ct, sl, rfl, hl, h4⟩, ?_⟩⟩
  unfold PySem.W.keepIn
  dsimp only
  rw [hl]
 ·cases h
theorem pick {τ υ : Type} {f : τ -> υ} {l : List τ} {e : List υ} (h : l.map f = e) (i : Nat) {x : τ} {v : υ} (hx : l[i]? = some x) (hv : e[i]? = some v) : f x = v := by
 rw [<- h, List.getElem?_map, hx] at hv
 exact Option.some.inj hv
theorem both {α β γ : Type} {r : Option α} {f : α -> β} {g : α -> γ} {a : β} {b : γ} (h1 : r.map f = some a) (h2 : r.map g = some b) : r.map (fun s => (f s, g s)) = some (a, b) := by
 cases r with
 | none => cases h1
 | some s =>
  simp only [Option.map_some, Option.some.injEq] at h1 h2 ⊢
  rw [h1, h2]
theorem joinH {α τ υ : Type} {r : Option α} {g : α -> τ -> υ} {l1 l2 : List τ} {e1 e2 : List υ} (h1 : r.map (fun s => l1.map (g s)) = some e1) (h2 : r.map (fun s => l2.map (g s)) = some e2) : r.map (fun s => (l1 ++ l2).map (g s)) = some (e1 ++ e2) := by
 cases r with
 | none => cases h1
 | some s =>
  simp only [Option.map_some, Option.some.injEq] at h1 h2 ⊢
  rw [List.map_append, h1, h2]
theorem both3 {α A B C D : Type} {r : Option α} {f1 : α -> A} {f2 : α -> B} {f3 : α -> C} {f4 : α -> D} {a : A} {b : B} {c : C} {d : D} (e2 : ∀ s, f2 s = b) (e4 : ∀ s, f4 s = d) (h1 : r.map f1 = some a) (h3 : r.map f3 = some c) : r.map (fun s => (f1 s, f2 s, f3 s, f4 s)) = some (a, b, c, d) := by
 cases r with
 | none => cases h1
 | some s =>
  simp only [Option.map_some, Option.some.injEq, Prod.mk.injEq] at h1 h3 ⊢
  exact ⟨h1, e2 s, h3, e4 s⟩
theorem walk_ofY {l : PySem.W.OpenLaw} {n k nK : Nat} {q : Program} {loose : List Str} {XP : (Str -> Option Value) -> Heap -> Prop} {d : DefRec} {CX : CXT} {sp : PySem.W.Frag -> Sp} {x : Str} {α : Type} {Yf : PySem.W.Frag -> α} {E : α}
  (hn : l.most = some n) (hn2 : n <= sizeLine) (hdf : d.params.defaults = []) (hr : Room k callerA)
  (F : ∀ (K : PySem.W.Frag), Yf K = E -> ∀ (w : World) (mg : Str -> Option Value) (fa : Addr) (h : Heap), K.In h -> h.Ns mainGlobals mg -> mg d.name = some (.ref fa) →
   ∃ fd : FuncData, (∀ (s : Shared) (u : Value), BindsTo s fd ⟨[u], []⟩ [(x, u)]) /\ ∀ base : Heap, K.In base -> base.Ns mainGlobals mg -> FnOk l.prog w K mg base CX k fa fd [x] (sp K))
  (hsp : ∀ (K : PySem.W.Frag) (H : Hp) (a : Addr) (ns : List Int), ns.length <= n -> Only H -> SqL K H a (ns.map V.int) -> sp K [.ref a] H (fun v _ => v = .bl true) fun _ _ _ => False)
  (hCX : ∀ (H : Hp) (s : Shared) (e : Value) (s' : Shared), CX [] H s (fun _ _ _ => False) e s' -> False) :
  PySem.W.WalkX q loose XP (fun s => Yf (Kof nK s.heap)) (fun _ => E) l.row.toRowW d [] (fun f vs => PySem.call f vs) := by
 intro w s₀ s₁ mg mb G y a o pm cd doc dV kV ho hd hcd hD hmg hg args vals as' L hpre hlay hrd hwl hlo
 have KX : (Kof nK s₀.heap).In s₁.heap := (Kof_in nK s₀.heap).keeps L.keeps
 exact L2.walk_ofK (YP := fun w h => (Kof nK s₀.heap).In h) (K := fun _ => Kof nK s₀.heap) hn hn2 hdf hr (fun w h Y => Y) (F (Kof nK s₀.heap) y) hsp hCX w s₀ s₁ mg mb G KX a o pm cd doc dV kV ho hd hcd hD hmg hg args vals as' hpre hlay hrd hwl hlo
section
variable {α β γ : Type}
def kThen (f : α -> Sto -> Res β) (g : β -> Sto -> Res γ) : α -> Sto -> Res γ := fun a m => (f a m).bind g
theorem then_at (f : α -> Sto -> Res β) (g : β -> Sto -> Res γ) (a : α) (m : Sto) : kThen f g a m = (f a m).bind g := rfl
theorem bind_then (r : Res α) (f : α -> Sto -> Res β) (g : β -> Sto -> Res γ) : (r.bind f).bind g = r.bind (kThen f g) := Res.bind_assoc r f g
end
section
variable (m : Sto) (ρ : En) (d : D) (f g : SV) (fa fb fc : EV) (fr : AV) (c t : TV) (h : GV)
def kSeq (g : SV) : Fl -> Sto -> Res Fl := fun fl m1 => match fl with
 | .nx ρ1 => g ρ1 m1
 | fl => .ok fl m1
theorem seq_at : sSeq f g ρ m = (f ρ m).bind (kSeq g) := rfl
theorem seq_nx : kSeq g (.nx ρ) m = g ρ m := rfl
theorem seq_rt : kSeq g (.rt d) m = .ok (.rt d) m := rfl
theorem nil_at : sNil ρ m = .ok (.nx ρ) m := rfl
def kRt : D -> Sto -> Res Fl := fun d m => .ok (.rt d) m
theorem ret_at : sRet fa ρ m = (fa ρ m).bind kRt := rfl
theorem rt_at : kRt d m = .ok (.rt d) m := rfl
theorem retN_at : sRetN ρ m = .ok (.rt .non) m := rfl
def kDrop (ρ : En) : D -> Sto -> Res Fl := fun _ m => .ok (.nx ρ) m
theorem drop_at : sDrop fa ρ m = (fa ρ m).bind (kDrop ρ) := rfl
theorem kdrop_at : kDrop ρ d m = .ok (.nx ρ) m := rfl
def kIf (f g : SV) (ρ : En) : Bool -> Sto -> Res Fl := fun b m => if b = true then f ρ m else g ρ m
theorem if_at : sIf c f g ρ m = (c ρ m).bind (kIf f g ρ) := rfl
theorem kif_at (b : Bool) : kIf f g ρ b m = if b = true then f ρ m else g ρ m := rfl
def kAsg (h : GV) (ρ : En) : D -> Sto -> Res Fl := fun d m1 => (h d ρ m1).bind fun ρ1 m2 => .ok (.nx ρ1) m2
def kNx : En -> Sto -> Res Fl := fun ρ m => .ok (.nx ρ) m
theorem asg_at : sAsg fa h ρ m = (fa ρ m).bind (kAsg h ρ) := rfl
theorem kasg_at : kAsg h ρ d m = (h d ρ m).bind kNx := rfl
theorem nx_at : kNx ρ m = .ok (.nx ρ) m := rfl
theorem gN_at (i : Nat) : gN i d ρ m = .ok (ρ.set i (some d)) m := rfl
theorem gs_nil : gsNil [] ρ m = .ok ρ m := rfl
theorem gs_cons (gs : List D -> En -> Sto -> Res En) (r : List D) : gsCons h gs (d :: r) ρ m = (h d ρ m).bind (gs r) := rfl
theorem gT_at (n : Nat) (gs : List D -> En -> Sto -> Res En) (ds : List D) : gT n gs (.tup ds) ρ m = if ds.length = n then gs ds ρ m else .bad := rfl
def kPar (i j : Nat) (ρ : En) : List D -> Sto -> Res Fl := fun ds m1 => match ds with
 | [x, y] => .ok (.nx ((ρ.set i (some x)).set j (some y))) m1
 | _ => .bad
theorem par_at (i j : Nat) : sPar i j fr ρ m = (fr ρ m).bind (kPar i j ρ) := rfl
theorem kpar_at (i j : Nat) (x y : D) : kPar i j ρ [x, y] m = .ok (.nx ((ρ.set i (some x)).set j (some y))) m := rfl
def kFor (h : GV) (f : SV) (ρ : En) : List D -> Sto -> Res Fl := fun ds m1 => loopF h f ds ρ m1
theorem for_at : sFor fr h f ρ m = (fr ρ m).bind (kFor h f ρ) := rfl
theorem kfor_at (ds : List D) : kFor h f ρ ds m = loopF h f ds ρ m := rfl
theorem eC_at : eC d ρ m = .ok d m := rfl
def kOp (g : D -> D -> Sto -> Res D) (fb : EV) (ρ : En) : D -> Sto -> Res D := fun x m1 => (fb ρ m1).bind (g x)
theorem op_at (g : D -> D -> Sto -> Res D) : eOp g fa fb ρ m = (fa ρ m).bind (kOp g fb ρ) := rfl
theorem kop_at (g : D -> D -> Sto -> Res D) : kOp g fb ρ d m = (fb ρ m).bind (g d) := rfl
theorem un_at (g : D -> Sto -> Res D) : eUn g fa ρ m = (fa ρ m).bind g := rfl
theorem fn_at (g : List D -> Sto -> Res D) : eFn g fr ρ m = (fr ρ m).bind g := rfl
def kIfE (f g : EV) (ρ : En) : Bool -> Sto -> Res D := fun b m => if b = true then f ρ m else g ρ m
theorem ife_at : eIf c fa fb ρ m = (c ρ m).bind (kIfE fa fb ρ) := rfl
theorem kife_at (b : Bool) : kIfE fa fb ρ b m = if b = true then fa ρ m else fb ρ m := rfl
theorem aNil_at : zaj ρ m = .ok [] m := rfl
def kCons (fr : AV) (ρ : En) : D -> Sto -> Res (List D) := fun x m1 => (fr ρ m1).bind fun xs m2 => .ok (x :: xs) m2
def kCons2 (x : D) : List D -> Sto -> Res (List D) := fun xs m2 => .ok (x :: xs) m2
theorem aCons_at : zab fa fr ρ m = (fa ρ m).bind (kCons fr ρ) := rfl
theorem kcons_at : kCons fr ρ d m = (fr ρ m).bind (kCons2 d) := rfl
theorem kcons2_at (xs : List D) : kCons2 d xs m = .ok (d :: xs) m := rfl
theorem asB_at (b : Bool) : asB (.bl b) m = .ok b m := rfl
theorem tV_at : tV fa ρ m = (fa ρ m).bind asB := rfl
def kAndT (t : TV) (ρ : En) : Bool -> Sto -> Res Bool := fun b m => if b = true then t ρ m else .ok false m
theorem andT_at : tAndM c t ρ m = (c ρ m).bind (kAndT t ρ) := rfl
theorem kandT_at (b : Bool) : kAndT t ρ b m = if b = true then t ρ m else .ok false m := rfl
def kOrT (t : TV) (ρ : En) : Bool -> Sto -> Res Bool := fun b m => if b = true then .ok true m else t ρ m
theorem orT_at : tOrM c t ρ m = (c ρ m).bind (kOrT t ρ) := rfl
theorem korT_at (b : Bool) : kOrT t ρ b m = if b = true then .ok true m else t ρ m := rfl
def kNotT : Bool -> Sto -> Res Bool := fun c m1 => .ok (!c) m1
theorem notT_at : tNotM c ρ m = (c ρ m).bind kNotT := rfl
theorem knotT_at (b : Bool) : kNotT b m = .ok (!b) m := rfl
def kAnd (fb : EV) (ρ : En) : D -> Sto -> Res D := fun c m1 => (asB c m1).bind fun c m1 => if c = true then fb ρ m1 else .ok (.bl false) m1
theorem and_at : eAnd fa fb ρ m = (fa ρ m).bind (kAnd fb ρ) := rfl
theorem kand_at (b : Bool) : kAnd fb ρ (.bl b) m = if b = true then fb ρ m else .ok (.bl false) m := rfl
def kOr (fb : EV) (ρ : En) : D -> Sto -> Res D := fun c m1 => (asB c m1).bind fun c m1 => if c = true then .ok (.bl true) m1 else fb ρ m1
theorem or_at : eOr fa fb ρ m = (fa ρ m).bind (kOr fb ρ) := rfl
theorem kor_at (b : Bool) : kOr fb ρ (.bl b) m = if b = true then .ok (.bl true) m else fb ρ m := rfl
def kNot : D -> Sto -> Res D := fun c m1 => (asB c m1).bind fun c m1 => .ok (.bl (!c)) m1
theorem not_at : eNot fa ρ m = (fa ρ m).bind kNot := rfl
theorem knot_at (b : Bool) : kNot (.bl b) m = .ok (.bl (!b)) m := rfl
theorem aIt_at : aIt fa ρ m = (fa ρ m).bind asSeq := rfl
theorem sq_t (ds : List D) : asSeq (.tup ds) m = .ok ds m := rfl
theorem sq_l (ds : List D) : asSeq (.lst ds) m = .ok ds m := rfl
theorem sq_s (z : Str) : asSeq (.str z) m = .ok (signs z) m := rfl
theorem sq_c (ds : List D) : asSeq (.scr ds) m = .ok ds m := rfl
theorem rngA_at (g : List D -> Sto -> Res (List D)) : aRng g fr ρ m = (fr ρ m).bind g := rfl
def kEnum : D -> Sto -> Res (List D) := fun d m1 => (asSq2 d m1).bind fun ds m2 => .ok (enumD 0 ds) m2
theorem enumA_at : aEnum fa ρ m = (fa ρ m).bind kEnum := rfl
theorem kenum_t (ds : List D) : kEnum (.tup ds) m = .ok (enumD 0 ds) m := rfl
theorem kenum_l (ds : List D) : kEnum (.lst ds) m = .ok (enumD 0 ds) m := rfl
def kZip (fb : EV) (ρ : En) : D -> Sto -> Res (List D) := fun x m1 => (fb ρ m1).bind (zip2 x)
theorem zipA_at : aZip fa fb ρ m = (fa ρ m).bind (kZip fb ρ) := rfl
theorem kzip_at : kZip fb ρ d m = (fb ρ m).bind (zip2 d) := rfl
def kZip3 (fb fc : EV) (ρ : En) : D -> Sto -> Res (List D) := fun x m1 => (fb ρ m1).bind fun y m2 => (fc ρ m2).bind (zip3 x y)
def kZip4 (x : D) (fc : EV) (ρ : En) : D -> Sto -> Res (List D) := fun y m1 => (fc ρ m1).bind (zip3 x y)
theorem zip3A_at : aZip3 fa fb fc ρ m = (fa ρ m).bind (kZip3 fb fc ρ) := rfl
theorem kzip3_at : kZip3 fb fc ρ d m = (fb ρ m).bind (kZip4 d fc ρ) := rfl
theorem kzip4_at (x : D) : kZip4 x fc ρ d m = (fc ρ m).bind (zip3 x d) := rfl
theorem oNone_at : oNone ρ m = .ok none m := rfl
def kSome : D -> Sto -> Res (Option Int) := fun d m1 => match d with
 | .int i => .ok (some i) m1
 | _ => .bad
theorem oSome_at : oSome fa ρ m = (fa ρ m).bind kSome := rfl
theorem ksome_at (i : Int) : kSome (.int i) m = .ok (some i) m := rfl
def kSl1 (lo hi : OV) (ρ : En) : D -> Sto -> Res D := fun x m1 => (lo ρ m1).bind fun l m2 => (hi ρ m2).bind (slD x l)
def kSl2 (hi : OV) (ρ : En) (x : D) : Option Int -> Sto -> Res D := fun l m2 => (hi ρ m2).bind (slD x l)
theorem slD_at (lo hi : OV) : eSl fa lo hi ρ m = (fa ρ m).bind (kSl1 lo hi ρ) := rfl
theorem ksl1_at (lo hi : OV) : kSl1 lo hi ρ d m = (lo ρ m).bind (kSl2 hi ρ d) := rfl
theorem ksl2_at (hi : OV) (l : Option Int) : kSl2 hi ρ d l m = (hi ρ m).bind (slD d l) := rfl
def kSlA1 (lo hi : OV) (ρ : En) : D -> Sto -> Res D := fun x m1 => (lo ρ m1).bind fun l m2 => (hi ρ m2).bind (slA x l)
def kSlA2 (hi : OV) (ρ : En) (x : D) : Option Int -> Sto -> Res D := fun l m2 => (hi ρ m2).bind (slA x l)
theorem slA_at (lo hi : OV) : eSlA fa lo hi ρ m = (fa ρ m).bind (kSlA1 lo hi ρ) := rfl
theorem kslA1_at (lo hi : OV) : kSlA1 lo hi ρ d m = (lo ρ m).bind (kSlA2 hi ρ d) := rfl
theorem kslA2_at (hi : OV) (l : Option Int) : kSlA2 hi ρ d l m = (hi ρ m).bind (slA d l) := rfl
def kMeth (ty : D -> Sto -> Bool) (g : D -> List D -> Sto -> Res D) (fr : AV) (ρ : En) : D -> Sto -> Res D := fun o m1 => if ty o m1 = true then (fr ρ m1).bind (g o) else .bad
theorem meth_at (ty : D -> Sto -> Bool) (g : D -> List D -> Sto -> Res D) : eMeth ty g fa fr ρ m = (fa ρ m).bind (kMeth ty g fr ρ) := rfl
theorem kmeth_at (ty : D -> Sto -> Bool) (g : D -> List D -> Sto -> Res D) : kMeth ty g fr ρ d m = if ty d m = true then (fr ρ m).bind (g d) else .bad := rfl
theorem isStr_at (z : Str) : isStr (.str z) m = true := rfl
theorem isTup_at (ds : List D) : isTup (.tup ds) m = true := rfl
theorem fin_nx : finF (.nx ρ) m = .ok .non m := rfl
theorem fin_rt : finF (.rt d) m = .ok d m := rfl
theorem run_at (n : Nat) (ds : List D) : runF n f ds m = (f (ds.map some ++ List.replicate (n - ds.length) none) m).bind finF := rfl
def kCh3 (g' : D -> D -> Sto -> Res D) (fc : EV) (ρ : En) (y : D) : D -> Sto -> Res D := fun z m3 => (asB z m3).bind fun k m3 => if k = true then (fc ρ m3).bind (g' y) else .ok (.bl false) m3
def kCh2 (g g' : D -> D -> Sto -> Res D) (fc : EV) (ρ : En) (x : D) : D -> Sto -> Res D := fun y m2 => (g x y m2).bind (kCh3 g' fc ρ y)
def kCh1 (g g' : D -> D -> Sto -> Res D) (fb fc : EV) (ρ : En) : D -> Sto -> Res D := fun x m1 => (fb ρ m1).bind (kCh2 g g' fc ρ x)
theorem chain_at (g g' : D -> D -> Sto -> Res D) : eChain g g' fa fb fc ρ m = (fa ρ m).bind (kCh1 g g' fb fc ρ) := rfl
theorem kch1_at (g g' : D -> D -> Sto -> Res D) : kCh1 g g' fb fc ρ d m = (fb ρ m).bind (kCh2 g g' fc ρ d) := rfl
theorem kch2_at (g g' : D -> D -> Sto -> Res D) (x : D) : kCh2 g g' fc ρ x d m = (g x d m).bind (kCh3 g' fc ρ d) := rfl
theorem kch3_at (g' : D -> D -> Sto -> Res D) (y : D) (b : Bool) : kCh3 g' fc ρ y (.bl b) m = if b = true then (fc ρ m).bind (g' y) else .ok (.bl false) m := rfl
def kPutA (fo fi : EV) (ρ : En) : D -> Sto -> Res Fl := fun v m1 => (fo ρ m1).bind fun x m2 => (fi ρ m2).bind fun y m3 => (putDS x y v m3).bind fun _ m4 => .ok (.nx ρ) m4
def kPutB (fi : EV) (ρ : En) (v : D) : D -> Sto -> Res Fl := fun x m2 => (fi ρ m2).bind fun y m3 => (putDS x y v m3).bind fun _ m4 => .ok (.nx ρ) m4
def kPutC (ρ : En) (v x : D) : D -> Sto -> Res Fl := fun y m3 => (putDS x y v m3).bind fun _ m4 => .ok (.nx ρ) m4
def kPutE (ρ : En) : Unit -> Sto -> Res Fl := fun _ m4 => .ok (.nx ρ) m4
theorem put_at : sPutD fa fb fc ρ m = (fc ρ m).bind (kPutA fa fb ρ) := rfl
theorem kputA_at : kPutA fa fb ρ d m = (fa ρ m).bind (kPutB fb ρ d) := rfl
theorem kputB_at (x : D) : kPutB fb ρ d x m = (fb ρ m).bind (kPutC ρ d x) := rfl
theorem kputC_at (x y : D) : kPutC ρ d x y m = (putDS x y d m).bind (kPutE ρ) := rfl
theorem kputE_at : kPutE ρ () m = .ok (.nx ρ) m := rfl
theorem var_0 : zag 0 (some d :: ρ) m = .ok d m := rfl
theorem var_S (i : Nat) (x : Option D) : zag (i + 1) (x :: ρ) m = zag i ρ m := rfl
end
theorem bind_ok {α β : Type} (a : α) (m : Sto) (k : α -> Sto -> Res β) : (Res.ok a m).bind k = k a m := rfl
def Run {α : Type} (r : Res α) (P : α -> Sto -> Prop) : Prop := ∃ a m, r = .ok a m /\ P a m
theorem Run.bind {α β : Type} {r : Res α} {k : α -> Sto -> Res β} {Q : α -> Sto -> Prop} {P : β -> Sto -> Prop} (h : Run r Q) (hk : ∀ a m, Q a m -> Run (k a m) P) : Run (r.bind k) P := by
 obtain ⟨a, m, rfl, q⟩ := h
 exact hk a m q
theorem Run.ok {α : Type} {a : α} {m : Sto} {P : α -> Sto -> Prop} (h : P a m) : Run (.ok a m) P := ⟨a, m, rfl, h⟩
theorem Run.mono {α : Type} {r : Res α} {P Q : α -> Sto -> Prop} (h : Run r P) (k : ∀ a m, P a m -> Q a m) : Run r Q := by
 obtain ⟨a, m, e, p⟩ := h
 exact ⟨a, m, e, k a m p⟩
theorem loop_run {g : GV} {body : SV} (I : Nat -> En -> Sto -> Prop) : ∀ (ds : List D) (k : Nat) {ρ : En} {m : Sto}, I k ρ m -> (∀ i d ρ m, ds[i]? = some d -> I (k + i) ρ m -> Run ((g d ρ m).bind body) fun fl m2 => ∃ ρ2, fl = .nx ρ2 /\ I (k + i + 1) ρ2 m2) →
  Run (loopF g body ds ρ m) fun fl m' => ∃ ρ', fl = .nx ρ' /\ I (k + ds.length) ρ' m'
 | [], k, ρ, m, h, _ => ⟨_, m, rfl, ρ, rfl, h⟩
 | d :: r, k, ρ, m, h, st => by
  obtain ⟨_, m2, e2, ρ2, rfl, h2⟩ := st 0 d ρ m rfl h
  obtain ⟨_, m', e3, ρ', rfl, h3⟩ := loop_run I r (k + 1) h2 fun i d ρ m hd hi => by
   have := st (i + 1) d ρ m (by simpa using hd) (by rw [show k + (i + 1) = k + 1 + i by omega]; exact hi)
   rw [show k + (i + 1) + 1 = k + 1 + i + 1 by omega] at this
   exact this
  refine ⟨_, m', ?_, ρ', rfl, by rw [List.length_cons, show k + (r.length + 1) = k + 1 + r.length by omega]; exact h3⟩
  rw [loopF, <- Res.bind_assoc, e2, bind_ok]
  exact e3
theorem comp_run {g : GV} {el : EV} {ρ : En} (I : Nat -> Sto -> Prop) (P : Nat -> D -> D -> Prop) : ∀ (ds : List D) (k : Nat) {m : Sto}, I k m -> (∀ i d m, ds[i]? = some d -> I (k + i) m -> Run ((g d ρ m).bind el) fun x m3 => P (k + i) d x /\ I (k + i + 1) m3) →
  Run (compM g tYesM el ρ ds m) fun xs m' => xs.length = ds.length /\ (∀ i d x, ds[i]? = some d -> xs[i]? = some x -> P (k + i) d x) /\ I (k + ds.length) m'
 | [], k, m, h, _ => ⟨[], m, rfl, rfl, fun i d x e => by simp at e, h⟩
 | d :: r, k, m, h, st => by
  obtain ⟨x, m3, e3, hP, h3⟩ := st 0 d m rfl h
  obtain ⟨xs, m', e4, hl, hPs, h4⟩ := comp_run I P r (k + 1) h3 fun i d m hd hi => by
   have := st (i + 1) d m (by simpa using hd) (by rw [show k + (i + 1) = k + 1 + i by omega]; exact hi)
   rw [show k + (i + 1) + 1 = k + 1 + i + 1 by omega, show k + (i + 1) = k + 1 + i by omega] at this
   exact this
  refine ⟨x :: xs, m', ?_, by rw [List.length_cons, List.length_cons, hl], fun i d' x' hd hx => ?_, by rw [List.length_cons, show k + (r.length + 1) = k + 1 + r.length by (clear hl; omega)]; exact h4⟩
  ·have e : compM g tYesM el ρ (d :: r) m = ((g d ρ m).bind el).bind fun x m3 => (compM g tYesM el ρ r m3).bind fun xs m4 => .ok (x :: xs) m4 := by
    rw [compM, Res.bind_assoc]
    rfl
   rw [e, e3, bind_ok, e4, bind_ok]
  ·cases i with
   | zero => simp at hd hx; subst hd hx; exact hP
   | succ i =>
    have := hPs i d' x' (by simpa using hd) (by simpa using hx)
    rw [show k + (i + 1) = k + 1 + i by (clear hl; omega)]
    exact this
theorem comp_map {g : GV} {el : EV} {ρ : En} {m : Sto} (f : D -> D) : ∀ (ds : List D), (∀ d ∈ ds, ∃ ρ1, g d ρ m = .ok ρ1 m /\ el ρ1 m = .ok (f d) m) -> compM g tYesM el ρ ds m = .ok (ds.map f) m
 | [], _ => rfl
 | d :: r, h => by
  obtain ⟨ρ1, e1, e2⟩ := h d (by simp)
  rw [compM, e1, bind_ok]
  show (Res.ok true m).bind _ = _
  rw [bind_ok, if_pos rfl, e2, bind_ok, comp_map f r fun d hd => h d (List.mem_cons_of_mem _ hd), bind_ok]
  rfl
theorem pyL_ints : ∀ ns : List Int, pyL (ns.map D.int) = ns.map PyData.int
 | [] => by simp [pyL]
 | a :: r => by simp [pyL, py, pyL_ints r]
theorem pyOkL_ints : ∀ ns : List Int, pyOkL (ns.map D.int) = true
 | [] => by simp [pyOkL]
 | a :: r => by simp [pyOkL, pyOk, pyOkL_ints r]
theorem can_ints : ∀ ns : List Int, PyData.canLayAll0 (ns.map PyData.int) = true
 | [] => by simp [PyData.canLayAll0]
 | a :: r => by simp [PyData.canLayAll0, PyData.canLay0, can_ints r]
theorem dep_ints : ∀ ns : List Int, PyData.depthAll (ns.map PyData.int) = 0
 | [] => by simp [PyData.depthAll]
 | a :: r => by simp [PyData.depthAll, PyData.depth, dep_ints r]
theorem eqv_ints : ∀ ns ms : List Int, PyData.eqvAll (ns.map PyData.int) (ms.map PyData.int) = decide (ns = ms)
 | [], [] => by simp [PyData.eqvAll]
 | [], _ :: _ => by simp [PyData.eqvAll]
 | _ :: _, [] => by simp [PyData.eqvAll]
 | a :: r, b :: t => by
  simp only [List.map_cons, PyData.eqvAll, PyData.eqv, eqv_ints r t]
  by_cases h : a = b <;> by_cases h' : r = t <;> simp [h, h']
theorem deep_lst (ns : List Int) : deep (.lst (ns.map D.int)) = true := by
 simp [deep, pyOk, py, pyOkL_ints, pyL_ints, SeqAt.shaped, PyData.canLay0, can_ints, PyData.depth, dep_ints]
theorem eqB_lst (ns ms : List Int) : eqB (.lst (ns.map D.int)) (.lst (ms.map D.int)) = some (decide (ns = ms)) := by
 show (if deep (.lst (ns.map D.int)) && deep (.lst (ms.map D.int)) then some (PyData.eqv (py (.lst (ns.map D.int))) (py (.lst (ms.map D.int)))) else none) = _
 rw [deep_lst, deep_lst]
 simp [py, PyData.eqv, pyL_ints, eqv_ints]
structure Fr (p q : Nat) (m m' : Sto) : Prop where
 len : m.length <= m'.length
 at' : ∀ j, j < m.length -> j ≠ p -> j ≠ q -> m'[j]? = m[j]?
theorem Fr.refl {p q : Nat} {m : Sto} : Fr p q m m := ⟨Nat.le_refl _, fun _ _ _ _ => rfl⟩
theorem Fr.trans {p q : Nat} {a b c : Sto} (h : Fr p q a b) (k : Fr p q b c) : Fr p q a c := ⟨Nat.le_trans h.len k.len, fun j h1 h2 h3 => (k.at' j (Nat.lt_of_lt_of_le h1 h.len) h2 h3).trans (h.at' j h1 h2 h3)⟩
section
variable {m : Sto}
theorem add_i (a b : Int) : addD (.int a) (.int b) m = .ok (.int (a + b)) m := rfl
theorem sub_i (a b : Int) : subD (.int a) (.int b) m = .ok (.int (a - b)) m := rfl
theorem eq_i (a b : Int) : eqD (.int a) (.int b) m = .ok (.bl (decide (a = b))) m := rfl
theorem ne_i (a b : Int) : neD (.int a) (.int b) m = .ok (.bl (!decide (a = b))) m := rfl
theorem eq_s (a b : Str) : eqD (.str a) (.str b) m = .ok (.bl (decide (a = b))) m := rfl
theorem ne_s (a b : Str) : neD (.str a) (.str b) m = .ok (.bl (!decide (a = b))) m := rfl
theorem lt_i (a b : Int) : ltD (.int a) (.int b) m = .ok (.bl (decide (a < b))) m := rfl
theorem gt_i (a b : Int) : gtD (.int a) (.int b) m = .ok (.bl (decide (b < a))) m := rfl
theorem ge_i (a b : Int) : geD (.int a) (.int b) m = .ok (.bl (decide (b <= a))) m := rfl
theorem le_i (a b : Int) : leD (.int a) (.int b) m = .ok (.bl (decide (a <= b))) m := rfl
theorem mul_i {a b : Int} (h : -(2 ^ 64) < b /\ b < 2 ^ 64) : mulD (.int a) (.int b) m = .ok (.int (a * b)) m := by rw [mulD_eq]; exact if_pos (.inr h)
theorem mul_j {a b : Int} (h : -(2 ^ 64) < a /\ a < 2 ^ 64) : mulD (.int a) (.int b) m = .ok (.int (a * b)) m := by rw [mulD_eq]; exact if_pos (.inl h)
theorem mod_i {a b : Int} (h : 0 < b) : modD (.int a) (.int b) m = .ok (.int (a % b)) m := if_pos h
theorem div_i {a b : Int} (h : 0 < b /\ b < 2 ^ 64) : fdivD (.int a) (.int b) m = .ok (.int (a / b)) m := by rw [fdivD_eq]; exact if_pos h
theorem shl_1 {n : Nat} (h : n <= 1000000) : shlD (.int 1) (.int n) m = .ok (.int (2 ^ n)) m := by
 rw [shlD_eq]
 show (if _ then _ else _) = _
 rw [if_pos ⟨by (clear h; omega), by omega, by decide⟩, Int.toNat_natCast, Int.one_mul]
theorem lst_0 : gLst [] m = .ok (.lst []) m := if_pos (Nat.zero_le _)
theorem sl_small {n : Nat} (h : n <= 8) : n <= sizeLine := Nat.le_trans h (by decide)
theorem lst_2 (a b : D) : gLst [a, b] m = .ok (.lst [a, b]) m := if_pos (sl_small (by simp))
theorem lst_3 (a b c : D) : gLst [a, b, c] m = .ok (.lst [a, b, c]) m := if_pos (sl_small (by simp))
theorem lst_4 (a b c d : D) : gLst [a, b, c, d] m = .ok (.lst [a, b, c, d]) m := if_pos (sl_small (by simp))
theorem lst_5 (a b c d e : D) : gLst [a, b, c, d, e] m = .ok (.lst [a, b, c, d, e]) m := if_pos (sl_small (by simp))
theorem tup_0 : gTup [] m = .ok (.tup []) m := if_pos (Nat.zero_le _)
theorem tup_1 (a : D) : gTup [a] m = .ok (.tup [a]) m := if_pos (sl_small (by simp))
theorem tup_2 (a b : D) : gTup [a, b] m = .ok (.tup [a, b]) m := if_pos (sl_small (by simp))
theorem tup_3 (a b c : D) : gTup [a, b, c] m = .ok (.tup [a, b, c]) m := if_pos (sl_small (by simp))
theorem new_0 : gNewL [] m = .ok (.ob m.length) (m ++ [.lst []]) := if_pos (Nat.zero_le _)
theorem min_i (a b : Int) : min2F [.int a, .int b] m = .ok (.int (if b < a then b else a)) m := rfl
theorem len_t (xs : List D) : lenF [.tup xs] m = .ok (.int xs.length) m := rfl
theorem len_l (xs : List D) : lenF [.lst xs] m = .ok (.int xs.length) m := rfl
theorem tup_l (xs : List D) : tupF [.lst xs] m = .ok (.tup xs) m := rfl
theorem l1 (xs : List D) : gL1 xs m = .ok (.lst xs) m := rfl
theorem atI_nat {τ : Type} {xs : List τ} {n : Nat} : L2.atI xs (n : Int) = xs[n]? := by
 unfold L2.atI L2.ixN
 by_cases h : n < xs.length
 ·rw [if_pos (by (clear h; omega)), if_pos (by omega)]
  simp
 ·rw [if_pos (by (clear h; omega)), if_neg (by omega)]
  simp
  omega
theorem ix_t {xs : List D} {n : Nat} {d : D} (h : xs[n]? = some d) : ixD (.tup xs) (.int n) m = .ok d m := by
 show opt (L2.atI xs n) m = _
 rw [atI_nat, h]
 rfl
theorem ix_l {xs : List D} {n : Nat} {d : D} (h : xs[n]? = some d) : ixD (.lst xs) (.int n) m = .ok d m := by
 show opt (L2.atI xs n) m = _
 rw [atI_nat, h]
 rfl
theorem ix_t0 (a : D) (xs : List D) : ixD (.tup (a :: xs)) (.int 0) m = .ok a m := ix_t (n := 0) rfl
theorem ix_t1 (a b : D) (xs : List D) : ixD (.tup (a :: b :: xs)) (.int 1) m = .ok b m := ix_t (n := 1) rfl
theorem ix_t2 (a b c : D) (xs : List D) : ixD (.tup (a :: b :: c :: xs)) (.int 2) m = .ok c m := ix_t (n := 2) rfl
theorem ix_any {xs : List D} {d : Int} (h0 : 0 <= d) (h1 : d < xs.length) : ∃ x ∈ xs, ixD (.lst xs) (.int d) m = .ok x m := by
 obtain ⟨n, rfl⟩ : ∃ n : Nat, d = n := ⟨d.toNat, by (clear h1; omega)⟩
 have hn : n < xs.length := by (clear h0; omega)
 exact ⟨xs[n], List.getElem_mem hn, ix_l (by simp [hn])⟩
end
theorem aComp_map {n : Nat} {it : AV} {g : GV} {el : EV} {ρ : En} {m : Sto} {ds : List D} (f : D -> D) (h : it ρ m = .ok ds m) (hl : ds.length <= 1000000) (hf : ∀ d ∈ ds, ∃ ρ1, g d (ρ ++ List.replicate n none) m = .ok ρ1 m /\ el ρ1 m = .ok (f d) m) : aComp n it g tYesM el ρ m = .ok (ds.map f) m := by
 unfold aComp
 rw [h, bind_ok, if_pos hl]
 exact comp_map f ds hf
theorem aComp_run {n : Nat} {it : AV} {g : GV} {el : EV} {ρ : En} {m : Sto} {ds : List D} (I : Nat -> Sto -> Prop) (P : Nat -> D -> D -> Prop) (h : it ρ m = .ok ds m) (hl : ds.length <= 1000000) (h0 : I 0 m) (hf : ∀ i d m, ds[i]? = some d -> I i m -> Run ((g d (ρ ++ List.replicate n none) m).bind el) fun x m3 => P i d x /\ I (i + 1) m3) :
  Run (aComp n it g tYesM el ρ m) fun xs m' => xs.length = ds.length /\ (∀ i d x, ds[i]? = some d -> xs[i]? = some x -> P i d x) /\ I ds.length m' := by
 unfold aComp
 rw [h, bind_ok, if_pos hl]
 have := comp_run (g := g) (el := el) (ρ := ρ ++ List.replicate n none) I P ds 0 h0 (fun i d m hd hi => by
  have := hf i d m hd (by rw [Nat.zero_add] at hi; exact hi)
  rw [Nat.zero_add]
  exact this)
 simpa only [Nat.zero_add] using this
theorem len_ints (lo : Int) (n : Nat) : (intsD lo n).length = n := by simp [intsD]
theorem rng_ok {j : Int} {m : Sto} (h : 0 <= j) (h' : j <= 1000000) : rng1 [.int j] m = .ok (intsD 0 j.toNat) m := by rw [rng1_eq]; exact if_pos ⟨by (clear h'; omega), by (clear h; omega)⟩
theorem ofs_inj {a b : String} (h : Str.ofString a = Str.ofString b) : a = b := by
 rw [PySem.Str.ofString_eq_toList, PySem.Str.ofString_eq_toList] at h
 have h2 := congrArg (fun s : Str => s.cps.toList) h
 exact String.toList_inj.mp ((List.map_inj_right fun x y e => Char.toNat_inj.mp e).mp h2)
theorem ofs_eq (a b : String) : (Str.ofString a = Str.ofString b) = (a = b) := propext ⟨ofs_inj, fun h => by rw [h]⟩
local macro_rules | `(tactic| walk_at "w") => do
  let ids := ("run_at fin_nx fin_rt seq_at seq_nx seq_rt nil_at ret_at rt_at retN_at drop_at kdrop_at if_at kif_at asg_at kasg_at nx_at gs_nil gs_cons gT_at par_at kpar_at List.set_cons_zero List.set_cons_succ for_at kfor_at eC_at op_at kop_at un_at fn_at ife_at kife_at aNil_at aCons_at kcons_at kcons2_at asB_at tV_at andT_at kandT_at orT_at korT_at notT_at knotT_at and_at kand_at or_at kor_at not_at knot_at aIt_at sq_t sq_l sq_s sq_c rngA_at enumA_at kenum_t kenum_l zipA_at kzip_at zip3A_at kzip3_at kzip4_at oNone_at oSome_at ksome_at slD_at ksl1_at ksl2_at slA_at kslA1_at kslA2_at meth_at kmeth_at isStr_at isTup_at chain_at kch1_at kch2_at kch3_at put_at kputA_at kputB_at kputC_at kputE_at bind_ok bind_then then_at var_0 var_S gN_at Bool.false_eq_true reduceIte List.map_cons List.map_nil List.length_cons List.length_nil Nat.reduceAdd Nat.reduceSub List.cons_append List.nil_append add_i sub_i eq_i ne_i eq_s ne_s lt_i le_i gt_i ge_i lst_0 lst_2 lst_3 lst_4 lst_5 tup_0 tup_1 tup_2 tup_3 min_i len_t len_l tup_l l1 ix_t0 ix_t1 ix_t2 List.replicate List.append_nil decide_eq_true_eq Bool.not_true Bool.not_false eq_self not_true_eq_false not_false_eq_true decide_true decide_false ofs_eq String.reduceEq".splitOn " ").toArray.map fun s => Lean.mkIdent s.toName
  `(tactic| try simp only [$[$ids:ident],*])
theorem ix_key {m : Sto} {p : Nat} {kvs : List (L2.Key × D)} {k : Str} {d : D} (h : m[p]? = some (.dct kvs)) (e : valD kvs (.inr k) = some d) : ixD (.ob p) (.str k) m = .ok d m := by
 simp only [ixD, h, e, opt]
theorem put_key {m : Sto} {p : Nat} {kvs : List (L2.Key × D)} {k : Str} {d : D} (h : m[p]? = some (.dct kvs)) (hl : kvs.length < sizeLine) : putDS (.ob p) (.str k) d m = .ok () (m.set p (.dct (putD kvs (.inr k) d))) := by
 simp only [putDS, h, keyOf, if_pos hl]
theorem set_get {m : Sto} {p : Nat} {o o' : MO} (h : m[p]? = some o) : (m.set p o')[p]? = some o' := List.getElem?_set_self (List.getElem?_eq_some_iff.mp h).1
theorem set_other {m : Sto} {p j : Nat} {o : MO} (h : p ≠ j) : (m.set p o)[j]? = m[j]? := List.getElem?_set_ne h
theorem Fr.set {p q : Nat} {m : Sto} {o : MO} : Fr p q m (m.set p o) := ⟨by rw [List.length_set]; exact Nat.le_refl _, fun j _ h _ => set_other (Ne.symm h)⟩
theorem Fr.set' {p q : Nat} {m : Sto} {o : MO} : Fr p q m (m.set q o) := ⟨by rw [List.length_set]; exact Nat.le_refl _, fun j _ _ h => set_other (Ne.symm h)⟩
theorem mod_small (x : Int) : -(2 ^ 64) < x % 1000003 + 69621 /\ x % 1000003 + 69621 < 2 ^ 64 := by
 have h0 := Int.emod_nonneg x (b := 1000003) (by decide)
 have h1 := Int.emod_lt_of_pos x (b := 1000003) (by decide)
 (clear h1 h0; omega)
theorem pop_first {m : Sto} {q : Nat} {a : Int} {own : List Int} (h : m[q]? = some (.lst ((a :: own).map D.int))) : popM (.ob q) [.int 0] m = .ok (.int a) (m.set q (.lst (own.map D.int))) := by
 simp only [popM, h]; rw [if_pos (by decide)]
 have e : seqIndex? 0 ((a :: own).map D.int).length = some 0 := by
  simp [seqIndex?]
 rw [e]
 simp
inductive Kd where
 | step (n : Int) | turn (row : List Int) | wth (i : Nat) (f : Int) | still | drawn
def Kd.e : Kd -> D
 | .step n => .tup [.str "step", .int n]
 | .turn row => .tup [.str "turn", .tup (row.map D.int)]
 | .wth i f => .tup [.str "with", .int i, .int f]
 | .still => .tup [.str "still"]
 | .drawn => .tup [.str "drawn"]
def Kd.Ok (pl b : Nat) : Kd -> Prop
 | .step n => 0 <= n /\ n < 2 ^ b
 | .turn row => row ≠ [] /\ row.length <= 12 /\ ∀ v ∈ row, 0 <= v /\ v < 2 ^ b
 | .wth i f => i < pl /\ -99 <= f /\ f <= 99
 | _ => True
theorem p2 (b : Nat) : (0 : Int) < 2 ^ b := Int.pow_pos (by decide)
theorem p2le {b : Nat} (h : b <= 40) : (2 : Int) ^ b <= 2 ^ 40 := by
 have := Nat.pow_le_pow_right (n := 2) (by decide) h
 exact_mod_cast this
theorem p2lt {b : Nat} (h : b <= 40) : (2 : Int) ^ b < 2 ^ 64 := Int.lt_of_le_of_lt (p2le h) (by decide)
structure Fd where
 nm : Str
 b : Nat
 kd : Kd
def Fd.e (f : Fd) : D := .tup [.str f.nm, .int f.b, f.kd.e]
def ShOk (fs : List Fd) : Prop := ∀ (i : Nat) (f : Fd), fs[i]? = some f -> 0 < f.b /\ f.b <= 40 /\ f.kd.Ok i f.b
theorem app_ok {m : Sto} {r : Nat} {xs : List D} {d : D} (h : m[r]? = some (.lst xs)) (hl : xs.length < sizeLine) : appendM (.ob r) [d] m = .ok .non (m.set r (.lst (xs ++ [d]))) := by
 simp only [appendM, h, if_pos hl]
theorem is_lst {m : Sto} {r : Nat} {xs : List D} (h : m[r]? = some (.lst xs)) : isLst (.ob r) m = true := by simp only [isLst, h]
theorem mul_s {z : Str} {n : Int} {m : Sto} (h : z.length = 1) (h0 : 0 <= n) (h1 : n <= 1000) : mulD (.str z) (.int n) m = .ok (.str (Txt.mul z n)) m := by rw [mulD_eq]; exact if_pos ⟨h0, h1, by (clear h1 h0; omega)⟩
theorem small_lt {n : Nat} (h : n < 1000) : n < sizeLine := Nat.lt_trans h (by decide)
theorem pow106 {m : Sto} : powD (.int 10) (.int 6) m = .ok (.int 1000000) m := by
 rw [powD_eq]
 have e : powR (.int 10) (.int 6) m = if (0 : Int) <= 6 /\ (6 : Int) <= 1000000 /\ (10 : Int).natAbs < 2 ^ 64 then .ok (.int ((10 : Int) ^ (6 : Int).toNat)) m else .bad := rfl
 rw [e, if_pos (by decide)]
 rfl
theorem run_eq {τ : Type} {r : Res τ} {x : τ} {m : Sto} (h : Run r fun a m' => a = x /\ m' = m) : r = .ok x m := by
 obtain ⟨a, m', e, rfl, rfl⟩ := h
 exact e
theorem asInts_map : ∀ row : List Int, asInts (row.map D.int) = some row
 | [] => rfl
 | a :: r => by simp only [List.map_cons, asInts, asInts_map r]; rfl
theorem md2 (x : Int) (b : Nat) : 0 <= x % 2 ^ b /\ x % 2 ^ b < 2 ^ b := ⟨Int.emod_nonneg _ (Int.ne_of_gt (p2 b)), Int.emod_lt_of_pos _ (p2 b)⟩
def shD (fs : List Fd) (n : Int) : D := .tup [.tup (fs.map Fd.e), .int n]
inductive Wy where
 | keep | whole | low (w : Nat) (bl : Int)
def Wy.e : Wy -> D
 | .keep => .tup [.str "keep"]
 | .whole => .tup [.str "whole"]
 | .low w bl => .tup [.str "low", .int w, .int bl]
def Wy.Ok (b : Nat) : Wy -> Prop
 | .low w bl => 0 < w /\ w <= b /\ 0 <= bl /\ bl < 2 ^ w
 | _ => True
def fmD (a b : Int) (wys : List Wy) : D := .tup [.int a, .int b, .tup (wys.map Wy.e)]
theorem breadths_run {fs : List Fd} {n : Int} {m : Sto} (h : fs.length <= 1000) : Run (gBreadths [shD fs n] m) fun a m' => a = .lst (fs.map fun f => .int f.b) /\ m' = m := by
 unfold gBreadths gBreadths0 shD; walk_at "w"
 rw [aComp_map (ds := fs.map Fd.e) (fun d => match d with | .tup [_, b, _] => b | d => d)]
 ·walk_at "w"
  refine Run.ok ⟨?_, rfl⟩
  rw [List.map_map]
  rfl
 ·walk_at "w"
 ·rw [List.length_map]; omega
 ·intro d hd
  simp only [List.mem_map] at hd
  obtain ⟨f, _, rfl⟩ := hd
  exact ⟨_, rfl, (ix_t1 (.str f.nm) (.int f.b) [f.kd.e] : ixD (.tup _) (.int 1) m = _)⟩
theorem sl_str {z : Str} {lo hi : Option Int} {m : Sto} (h : z.length <= sizeLine) : slD (.str z) lo hi m = .ok (.str (Txt.slice z lo hi)) m := if_pos h
theorem enum_at {τ : Type} {f : τ -> D} : ∀ {xs : List τ} {k i : Nat} {d : D}, (enumD k (xs.map f))[i]? = some d -> ∃ x, xs[i]? = some x /\ d = .tup [.int ((k + i : Nat) : Int), f x]
 | [], k, i, d, h => by simp [enumD] at h
 | x :: xs, k, 0, d, h => by
  simp only [List.map_cons, enumD, List.getElem?_cons_zero, Option.some.injEq] at h
  exact ⟨x, rfl, h.symm⟩
 | x :: xs, k, i + 1, d, h => by
  simp only [List.map_cons, enumD, List.getElem?_cons_succ] at h
  obtain ⟨y, h1, h2⟩ := enum_at h
  exact ⟨y, by simpa using h1, by rw [h2, show k + 1 + i = k + (i + 1) by omega]⟩
structure WyOk (fs : List Fd) (wys : List Wy) : Prop where
 len : wys.length = fs.length
 at' : ∀ (i : Nat) (f : Fd) (w : Wy), fs[i]? = some f -> wys[i]? = some w -> w.Ok f.b
open PySem PyProof.Rows L2 Mth
section
variable {m : Sto}
theorem isi_tt (xs : List D) : isiD "tuple" (.tup xs) m = .ok (.bl true) m := rfl
theorem isi_ii (a : Int) : isiD "int" (.int a) m = .ok (.bl true) m := rfl
theorem isi_bi (a : Int) : isiD "bool" (.int a) m = .ok (.bl false) m := rfl
end
theorem lift {τ : Type} (enc : τ -> D) (P : Nat -> τ -> Prop) : ∀ (xs : List D) (k : Nat), (∀ i x, xs[i]? = some x -> ∃ t, x = enc t /\ P (k + i) t) -> ∃ l : List τ, xs = l.map enc /\ ∀ i t, l[i]? = some t -> P (k + i) t
 | [], k, _ => ⟨[], rfl, fun i t h => by simp at h⟩
 | x :: xs, k, h => by
  obtain ⟨t, rfl, ht⟩ := h 0 x rfl
  obtain ⟨l, rfl, hl⟩ := lift enc P xs (k + 1) fun i x hx => by
   rw [show k + 1 + i = k + (i + 1) by omega]
   exact h (i + 1) x (by simpa using hx)
  refine ⟨t :: l, rfl, fun i u hu => ?_⟩
  cases i with
  | zero => simp at hu; subst hu; exact ht
  | succ i =>
   rw [show k + (i + 1) = k + 1 + i by omega]
   exact hl i u (by simpa using hu)
open PySem L2
theorem pow1018 {m : Sto} : powD (.int 10) (.int 18) m = .ok (.int 1000000000000000000) m := by
 rw [powD_eq]
 have e : powR (.int 10) (.int 18) m = if (0 : Int) <= 18 /\ (18 : Int) <= 1000000 /\ (10 : Int).natAbs < 2 ^ 64 then .ok (.int ((10 : Int) ^ (18 : Int).toNat)) m else .bad := rfl
 rw [e, if_pos (by decide)]
 rfl
open PySem L2
theorem str_ext {a b : Str} (h : a.cps.toList = b.cps.toList) : a = b := by
 cases a; cases b
 congr 1
 exact Array.ext' h
open PySem PyProof.Rows L2 Mth
theorem zipD_at {xs ys : List D} : ∀ {i : Nat} {d : D}, (zipD xs ys)[i]? = some d -> ∃ x y, xs[i]? = some x /\ ys[i]? = some y /\ d = .tup [x, y] := by
 induction xs generalizing ys with
 | nil => intro i d h; simp [zipD] at h
 | cons x xs ih =>
  intro i d h
  cases ys with
  | nil => simp [zipD] at h
  | cons y ys =>
   rw [zipD] at h
   cases i with
   | zero => simp at h; exact ⟨x, y, rfl, rfl, h.symm⟩
   | succ i =>
    simp only [List.getElem?_cons_succ] at h
    obtain ⟨a, b, h1, h2, h3⟩ := ih h
    exact ⟨a, b, by simpa using h1, by simpa using h2, h3⟩
theorem zipD_lenM : ∀ {xs ys : List D}, xs.length <= ys.length -> (zipD xs ys).length = xs.length
 | [], ys, _ => by simp [zipD]
 | x :: xs, [], h => by simp at h
 | x :: xs, y :: ys, h => by
  rw [zipD, List.length_cons, List.length_cons, zipD_lenM (by simpa using h)]
theorem asBls_map {τ : Type} (f : τ -> Bool) : ∀ l : List τ, asBls (l.map fun t => D.bl (f t)) = some (l.map f)
 | [] => rfl
 | a :: r => by simp only [List.map_cons, asBls, asBls_map f r]; rfl
open PySem L2
theorem neg_1 {m : Sto} : negD (.int 1) m = .ok (.int (-1)) m := rfl
theorem len_ob {m : Sto} {r : Nat} {xs : List D} (h : m[r]? = some (.lst xs)) : lenF [.ob r] m = .ok (.int xs.length) m := by simp only [lenF, h]
theorem rng2_ok {i j : Int} {m : Sto} (h0 : 0 <= i) (h1 : i <= 1000000) (h2 : 0 <= j) (h3 : j <= 1000000) : rng2 [.int i, .int j] m = .ok (intsD i (j - i).toNat) m := by rw [rng2_eq]; exact if_pos ⟨by (clear h3 h2 h1; omega), by (clear h3 h2 h0; omega), by (clear h3 h1 h0; omega), by (clear h2 h1 h0; omega)⟩
theorem int_b (b : Bool) {m : Sto} : intF [.bl b] m = .ok (.int (if b then 1 else 0)) m := rfl
theorem max_i (a b : Int) {m : Sto} : max2F [.int a, .int b] m = .ok (.int (if b > a then b else a)) m := rfl
theorem add_l {a b : List D} {m : Sto} (h : a.length + b.length <= sizeLine) : addD (.lst a) (.lst b) m = .ok (.lst (a ++ b)) m := if_pos h
open PySem L2
section
variable {m : Sto}
theorem is_nn : isD .non .non m = .ok (.bl true) m := rfl
theorem isnt_nn : isntD .non .non m = .ok (.bl false) m := rfl
theorem isi_ss (s : Str) : isiD "str" (.str s) m = .ok (.bl true) m := rfl
theorem whole_i (a : Int) : gIsWhole [.int a] m = .ok (.bl true) m := by
 apply run_eq
 unfold gIsWhole gIsWhole0; walk_at "w"; rw [isi_ii]; walk_at "w"; rw [isi_bi]; walk_at "w"; exact Run.ok ⟨rfl, rfl⟩
theorem between_i (a lo hi : Int) : gIsBetween [.int a, .int lo, .int hi] m = .ok (.bl (decide (lo <= a /\ a <= hi))) m := by
 apply run_eq
 unfold gIsBetween gIsBetween0; walk_at "w"; rw [whole_i]; walk_at "w"
 by_cases h : lo <= a
 ·rw [if_pos h]; walk_at "w"; exact Run.ok ⟨by congr 1; simp [h], rfl⟩
 ·rw [if_neg h]; walk_at "w"; exact Run.ok ⟨by congr 1; simp [h], rfl⟩
theorem isRow_t (xs : List D) (lo hi : Int) : gIsRow [.tup xs, .int lo, .int hi] m = .ok (.bl (decide (lo <= xs.length /\ (xs.length : Int) <= hi))) m := by
 apply run_eq
 unfold gIsRow gIsRow0; walk_at "w"; rw [isi_tt]; walk_at "w"
 by_cases h : lo <= xs.length
 ·rw [if_pos h]; walk_at "w"; exact Run.ok ⟨by congr 1; simp [h], rfl⟩
 ·rw [if_neg h]; walk_at "w"; exact Run.ok ⟨by congr 1; simp [h], rfl⟩
theorem isValue_i {v : Int} {b : Nat} (hb : b <= 1000000) : gIsValue [.int v, .int b] m = .ok (.bl (decide (0 <= v /\ v < 2 ^ b))) m := by
 apply run_eq
 unfold gIsValue gIsValue0; walk_at "w"; rw [shl_1 hb]; walk_at "w"; rw [between_i]; walk_at "w"
 refine Run.ok ⟨?_, rfl⟩
 congr 2
 exact propext ⟨fun h => ⟨h.1, by (clear hb; omega)⟩, fun h => ⟨h.1, by (clear hb; omega)⟩⟩
theorem worded_t {s w : Str} {xs : List D} {k : Int} : gIsWorded [.tup (.str s :: xs), .str w, .int k] m = .ok (.bl (decide (k = xs.length + 1 /\ s = w))) m := by
 apply run_eq
 unfold gIsWorded gIsWorded0; walk_at "w"; rw [isRow_t]; walk_at "w"
 by_cases h : k <= ((D.str s :: xs).length : Nat) /\ (((D.str s :: xs).length : Nat) : Int) <= k
 ·have hk : k = xs.length + 1 := by simp at h; omega
  simp only [List.length_cons] at h
  rw [if_pos h]; walk_at "w"; rw [isi_ss]; walk_at "w"; exact Run.ok ⟨by congr 1; simp [hk], rfl⟩
 ·have hk : ¬ k = xs.length + 1 := by simp at h; omega
  simp only [List.length_cons] at h
  rw [if_neg h]; walk_at "w"; exact Run.ok ⟨by congr 1; simp [hk], rfl⟩
end
theorem isWay_w {wy : Wy} {b : Nat} {m : Sto} (hb : b <= 1000000) (h : wy.Ok b) : gIsWay [wy.e, .int b] m = .ok (.bl true) m := by
 apply run_eq
 unfold gIsWay gIsWay0
 cases wy with
 | keep =>
  simp only [Wy.e]; walk_at "w"; rw [worded_t]; walk_at "w"; rw [if_pos (by simp)]; walk_at "w"; exact Run.ok ⟨rfl, rfl⟩
 | whole =>
  simp only [Wy.e]; walk_at "w"; rw [worded_t]; walk_at "w"; rw [if_neg (fun z => by simp at z)]; walk_at "w"; rw [worded_t]; walk_at "w"; rw [if_pos (by simp)]; walk_at "w"; exact Run.ok ⟨rfl, rfl⟩
 | low w bl =>
  simp only [Wy.e]; walk_at "w"; rw [worded_t]; walk_at "w"; rw [if_neg (fun z => by simp at z)]; walk_at "w"; rw [worded_t]; walk_at "w"; rw [if_neg (fun z => by simp at z)]; walk_at "w"; rw [worded_t]; rw [decide_eq_true (by simp)]; walk_at "w"; rw [between_i]; rw [decide_eq_true (by have := h.1; have := h.2.1; (clear hb; omega))]; walk_at "w"; rw [isValue_i (by have := h.2.1; omega), decide_eq_true ⟨h.2.2.1, h.2.2.2⟩]
  walk_at "w"; exact Run.ok ⟨rfl, rfl⟩
theorem areWays_w {fs : List Fd} {n : Int} {wys : List Wy} {m : Sto} (hs : ShOk fs) (hn : fs.length <= 12) (hw : WyOk fs wys) : gAreWays [shD fs n, .tup (wys.map Wy.e)] m = .ok (.bl true) m := by
 apply run_eq
 unfold gAreWays gAreWays0; walk_at "w"; rw [run_eq (breadths_run (by omega))]; walk_at "w"; rw [isRow_t, decide_eq_true (by simp [hw.len])]; walk_at "w"
 rw [aComp_map (ds := zipD (wys.map Wy.e) (fs.map fun f => D.int f.b)) (fun _ => .bl true) (by
   walk_at "w"; simp only [zip2]
   rw [if_pos (by simp [hw.len])]) (by rw [zipD_lenM (by simp [hw.len])]; simp [hw.len]; omega) (by
   intro d hd
   obtain ⟨i, hi⟩ := List.mem_iff_getElem?.mp hd
   obtain ⟨x, y, h1, h2, rfl⟩ := zipD_at hi
   rw [List.getElem?_map] at h1 h2
   obtain ⟨w, h3, rfl⟩ := Option.map_eq_some_iff.mp h1
   obtain ⟨f, h4, rfl⟩ := Option.map_eq_some_iff.mp h2
   obtain ⟨hb0, hb1, _⟩ := hs i f h4
   refine ⟨_, rfl, ?_⟩
   show gIsWay [w.e, .int f.b] m = _
   exact isWay_w (by (clear hb0 hn; omega)) (hw.at' i f w h4 h3))]
 walk_at "w"; simp only [allF, lOf, Option.bind_some]; rw [asBls_map (fun _ => true)]; walk_at "w"; exact Run.ok ⟨by congr 1; simp, rfl⟩
theorem isForm_w {fs : List Fd} {n a b : Int} {wys : List Wy} {m : Sto} (hs : ShOk fs) (hn : fs.length <= 12) (hw : WyOk fs wys) (a0 : 0 < a) (a1 : a <= 40) (b0 : 0 < b) (b1 : b <= 40) : gIsForm [shD fs n, fmD a b wys] m = .ok (.bl true) m := by
 apply run_eq
 unfold gIsForm gIsForm0 fmD; walk_at "w"; rw [isRow_t, decide_eq_true (by simp)]; walk_at "w"; rw [between_i, decide_eq_true (by (clear b1 b0 hn; omega))]; walk_at "w"; rw [between_i, decide_eq_true (by (clear a1 a0 hn; omega))]; walk_at "w"; rw [areWays_w hs hn hw]; walk_at "w"; exact Run.ok ⟨rfl, rfl⟩
theorem sl_take {xs : List D} {k : Nat} {m : Sto} (h : k < xs.length) : slD (.tup xs) none (some (k : Int)) m = .ok (.tup (xs.take k)) m := by
 have e : slD (.tup xs) none (some (k : Int)) m = if HT.sIx xs.length 0 none = 0 /\ HT.sIx xs.length xs.length (some (k : Int)) = xs.length then .bad else .ok (.tup (cutD xs none (some (k : Int)))) m := rfl
 rw [e, HT.sIx_nat, HT.sIx_none, if_neg (by omega)]
 unfold cutD; rw [HT.sIx_nat, HT.sIx_none, Nat.min_eq_left (by omega), List.drop_zero, Nat.sub_zero]
theorem ix_sh {fs : List Fd} {n : Int} {m : Sto} : ixD (shD fs n) (.int 0) m = .ok (.tup (fs.map Fd.e)) m := ix_t0 _ _
open PySem L2
open PySem L2
theorem new_of {xs : List D} {m : Sto} (h : xs.length <= 1000) : gNewL xs m = .ok (.ob m.length) (m ++ [.lst xs]) := if_pos (Nat.le_trans h (by decide))
theorem lst_of {xs : List D} {m : Sto} (h : xs.length <= 1000) : gLst xs m = .ok (.lst xs) m := if_pos (Nat.le_trans h (by decide))
theorem tup_of {xs : List D} {m : Sto} (h : xs.length <= 1000) : gTup xs m = .ok (.tup xs) m := if_pos (Nat.le_trans h (by decide))
theorem cut_from {τ : Type} (xs : List τ) (k : Nat) : cutD xs (some (k : Int)) none = xs.drop k := by
 unfold cutD; rw [HT.sIx_nat, HT.sIx_none]
 rcases Nat.le_total k xs.length with h | h
 ·rw [Nat.min_eq_left h, List.take_of_length_le (by rw [List.length_drop]; exact Nat.le_refl _)]
 ·rw [Nat.min_eq_right h, List.drop_length, List.drop_eq_nil_of_le h]; simp
theorem cut_to {τ : Type} (xs : List τ) (k : Nat) : cutD xs none (some (k : Int)) = xs.take k := by
 unfold cutD; rw [HT.sIx_nat, HT.sIx_none, List.drop_zero, Nat.sub_zero]
 rcases Nat.le_total k xs.length with h | h
 ·rw [Nat.min_eq_left h]
 ·rw [Nat.min_eq_right h, List.take_length, List.take_of_length_le h]
theorem cut_from1 {τ : Type} (xs : List τ) : cutD xs (some 1) none = xs.drop 1 := cut_from xs 1
def kGI3 (ρ : En) : Unit -> Sto -> Res En := fun _ m => .ok ρ m
def kGI2 (ρ : En) (d x : D) : D -> Sto -> Res En := fun y m => (putL x y d m).bind (kGI3 ρ)
def kGI1 (fi : EV) (ρ : En) (d : D) : D -> Sto -> Res En := fun x m => (fi ρ m).bind (kGI2 ρ d x)
section
variable {m : Sto} {ρ : En} {d x y : D} {fo fi : EV}
theorem gI_at : gI fo fi d ρ m = (fo ρ m).bind (kGI1 fi ρ d) := rfl
theorem kgi1_at : kGI1 fi ρ d x m = (fi ρ m).bind (kGI2 ρ d x) := rfl
theorem kgi2_at : kGI2 ρ d x y m = (putL x y d m).bind (kGI3 ρ) := rfl
theorem kgi3_at : kGI3 ρ () m = .ok ρ m := rfl
end
theorem alpha {j : Nat} {m : Sto} (h : j < 26) : ixD (.str "abcdefghijklmnopqrstuvwxyz") (.int j) m = .ok (.str ⟨#[97 + j]⟩) m := by
 have hc : ∀ j, j < 26 -> (Str.ofString "abcdefghijklmnopqrstuvwxyz").cps.toList[j]? = some (97 + j) := by decide
 have e : ixD (.str "abcdefghijklmnopqrstuvwxyz") (.int j) m = if (Str.ofString "abcdefghijklmnopqrstuvwxyz").length <= sizeLine then opt ((L2.atI (Str.ofString "abcdefghijklmnopqrstuvwxyz").cps.toList j).map fun c => D.str ⟨#[c]⟩) m else .bad := rfl
 rw [e, if_pos (by decide), atI_nat, hc j h]
 rfl
theorem add_ss {a b : Str} {m : Sto} (h : a.length + b.length <= sizeLine) : addD (.str a) (.str b) m = .ok (.str (a ++ b)) m := if_pos h
theorem at_ints {i n : Nat} {d : D} (h : (intsD 0 n)[i]? = some d) : d = .int (i : Nat) := by
 have hi := (List.getElem?_eq_some_iff.mp h).1
 rw [len_ints] at hi
 simp only [intsD, List.getElem?_map, List.getElem?_range hi, Option.map_some, Option.some.injEq, Int.zero_add] at h
 exact h.symm
theorem odd_dvd {b : Nat} {y d : Int} (h : (2 : Int) ^ b ∣ (2 * y + 1) * d) : (2 : Int) ^ b ∣ d := by
 induction b generalizing d with
 | zero => simp
 | succ b ih =>
  obtain ⟨c, hc⟩ := h
  rw [Int.pow_succ] at hc
  have h2 : d % 2 = 0 := by
   have e1 : (2 * y + 1) * d = 2 * (y * d) + d := by rw [Int.add_mul, Int.mul_assoc, Int.one_mul]
   have e2 : 2 ^ b * 2 * c = 2 * (2 ^ b * c) := by rw [Int.mul_comm (2 ^ b) 2, Int.mul_assoc]
   rw [e1, e2] at hc
   generalize y * d = u at hc; generalize (2 : Int) ^ b * c = w at hc
   omega
  obtain ⟨d', rfl⟩ : ∃ d', d = 2 * d' := ⟨d / 2, by omega⟩
  have h3 : (2 : Int) ^ b ∣ (2 * y + 1) * d' := by
   refine ⟨c, ?_⟩
   have e1 : (2 * y + 1) * (2 * d') = 2 * ((2 * y + 1) * d') := by rw [Int.mul_left_comm]
   have e2 : 2 ^ b * 2 * c = 2 * (2 ^ b * c) := by rw [Int.mul_comm (2 ^ b) 2, Int.mul_assoc]
   rw [e1, e2] at hc
   omega
  obtain ⟨e, he⟩ := ih h3
  exact ⟨e, by rw [he, Int.pow_succ, Int.mul_comm (2 ^ b) 2, Int.mul_assoc]⟩
theorem row_inj {b : Nat} {f y : Int} {i j : Nat} (hi : (i : Int) < 2 ^ b) (hj : (j : Int) < 2 ^ b) (h : (f + (2 * y + 1) * i) % 2 ^ b = (f + (2 * y + 1) * j) % 2 ^ b) : i = j := by
 have h1 : (2 : Int) ^ b ∣ (2 * y + 1) * ((i : Int) - j) := by
  have := Int.dvd_of_emod_eq_zero (Int.emod_eq_emod_iff_emod_sub_eq_zero.mp h)
  rw [show f + (2 * y + 1) * i - (f + (2 * y + 1) * j) = (2 * y + 1) * ((i : Int) - j) by rw [Int.mul_sub]; omega] at this
  exact this
 obtain ⟨c, hc⟩ := odd_dvd h1
 have hb := p2 b
 generalize (2 : Int) ^ b = B at *
 rcases Int.lt_trichotomy c 0 with h0 | h0 | h0
 ·have : B * c <= B * (-1) := Int.mul_le_mul_of_nonneg_left (by omega) (by omega)
  omega
 ·subst h0; omega
 ·have : B * 1 <= B * c := Int.mul_le_mul_of_nonneg_left (by omega) (by omega)
  omega
def Kd.Ok2 (pl b : Nat) (k : Kd) : Prop := k.Ok pl b /\ ∀ row, k = .turn row -> 2 <= row.length /\ row.Nodup
theorem all_bls (bs : List Bool) {m : Sto} : allF [.lst (bs.map D.bl)] m = .ok (.bl (bs.all id)) m := by
 simp only [allF, lOf, Option.bind_some]; rw [asBls_map (fun b => b)]
 simp
theorem add_tt {a b : List D} {m : Sto} (h : a.length + b.length <= sizeLine) : addD (.tup a) (.tup b) m = .ok (.tup (a ++ b)) m := if_pos h
theorem slen {n : Nat} (h : n <= 100) : n <= sizeLine := Nat.le_trans h (by decide)
open PySem L2
def chB (c : Nat) : Bool := decide (97 <= c /\ c <= 122)
def nmB (x : Str) : Bool := decide (1 <= x.length /\ x.length <= 8) && x.cps.toList.all chB
theorem len_str {z : Str} {m : Sto} (h : z.length <= sizeLine) : lenF [.str z] m = .ok (.int z.length) m := if_pos h
theorem lt_one (a b : Nat) : ltS ⟨#[a]⟩ ⟨#[b]⟩ = decide (a < b) := by
 unfold ltS
 apply decide_eq_decide.mpr
 show [a] < [b] ↔ a < b
 rw [List.cons_lt_cons_iff]
 simp
theorem str_a : (Str.ofString "a" : Str) = ⟨#[97]⟩ := by decide
theorem str_z : (Str.ofString "z" : Str) = ⟨#[122]⟩ := by decide
theorem le_ss (a b : Str) {m : Sto} : leD (.str a) (.str b) m = .ok (.bl (!ltS b a)) m := rfl
def sgF (d : D) : D := match d with
 | .str z => .bl (chB (z.cps.getD 0 0))
 | _ => .non
theorem isName_s {x : Str} {m : Sto} (h : x.length <= sizeLine) : gIsName [.str x] m = .ok (.bl (nmB x)) m := by
 apply run_eq
 unfold gIsName gIsName0; walk_at "w"; rw [isi_ss]; walk_at "w"
 by_cases h1 : 1 <= x.length
 ·rw [len_str h]; walk_at "w"; rw [if_pos (show (1 : Int) <= (x.length : Nat) by omega)]
  by_cases h8 : x.length <= 8
  ·rw [decide_eq_true (show ((x.length : Nat) : Int) <= 8 by omega)]; walk_at "w"
   rw [aComp_map (ds := signs x) sgF (by walk_at "w") (by simp [signs]; exact Nat.le_trans h8 (by decide)) (by
    intro d hd
    simp only [signs, List.mem_map] at hd
    obtain ⟨i, hi, rfl⟩ := hd
    refine ⟨_, rfl, ?_⟩
    show (eChain leD leD (eC (.str "a")) (zag 1) (eC (.str "z"))) [some (.str x), some (.str ⟨#[x.cps.getD i 0]⟩)] m = .ok (.bl (chB (x.cps.getD i 0))) m
    generalize x.cps.getD i 0 = c; walk_at "w"; rw [le_ss, show ("a" : Str) = ⟨#[97]⟩ from str_a, lt_one]; walk_at "w"
    by_cases hc : 97 <= c
    ·rw [decide_eq_false (show ¬ c < 97 by omega)]; walk_at "w"; rw [le_ss, show ("z" : Str) = ⟨#[122]⟩ from str_z, lt_one]
     by_cases hc2 : c <= 122
     ·rw [decide_eq_false (show ¬ 122 < c by omega)]; simp [chB, hc, hc2]
     ·rw [decide_eq_true (show 122 < c by omega)]; simp [chB, hc2]
    ·rw [decide_eq_true (show c < 97 by omega)]; walk_at "w"
     simp [chB, hc])]
   walk_at "w"
   have e : (signs x).map sgF = (((List.range x.cps.size).map fun i => chB (x.cps.getD i 0)).map D.bl) := by
    simp only [signs, List.map_map]
    rfl
   rw [e, all_bls]; walk_at "w"
   refine Run.ok ⟨?_, rfl⟩
   congr 1
   unfold nmB; rw [decide_eq_true (⟨h1, h8⟩ : 1 <= x.length /\ x.length <= 8), Bool.true_and, Bool.eq_iff_iff, List.all_eq_true, List.all_eq_true]
   constructor
   ·intro hh c hc
    obtain ⟨i, hi, rfl⟩ := List.mem_iff_getElem.mp hc
    have := hh (chB (x.cps.getD i 0)) (List.mem_map.mpr ⟨i, List.mem_range.mpr (by simpa using hi), rfl⟩)
    have hi' : i < x.cps.size := by simpa using hi
    simpa [Array.getD, hi'] using this
   ·intro hh b hb
    obtain ⟨i, hi, rfl⟩ := List.mem_map.mp hb
    have hi' : i < x.cps.size := List.mem_range.mp hi
    have := hh x.cps[i] (by simp)
    simpa [Array.getD, hi'] using this
  ·rw [decide_eq_false (show ¬ ((x.length : Nat) : Int) <= 8 by omega)]; walk_at "w"; exact Run.ok ⟨by simp [nmB, h8], rfl⟩
 ·rw [len_str h]; walk_at "w"; rw [if_neg (show ¬ (1 : Int) <= (x.length : Nat) by omega)]; walk_at "w"; exact Run.ok ⟨by simp [nmB, h1], rfl⟩
theorem isTurn_r {row : List Int} {b : Nat} {m : Sto} (hb : b <= 40) (h0 : 2 <= row.length) (h1 : row.length <= 12) (h2 : row.Nodup) (h3 : ∀ v ∈ row, 0 <= v /\ v < 2 ^ b) : gIsTurn [.tup (row.map D.int), .int b] m = .ok (.bl true) m := by
 apply run_eq
 unfold gIsTurn gIsTurn0; walk_at "w"; rw [isRow_t, List.length_map, decide_eq_true (by omega)]; walk_at "w"
 rw [aComp_map (ds := row.map D.int) (fun _ => .bl true) (by walk_at "w") (by rw [List.length_map]; omega) (by
  intro d hd
  obtain ⟨v, hv, rfl⟩ := List.mem_map.mp hd
  refine ⟨_, rfl, ?_⟩
  show gIsValue [.int v, .int b] m = _
  rw [isValue_i (by omega), decide_eq_true (h3 v hv)])]
 walk_at "w"; rw [show (row.map D.int).map (fun _ => D.bl true) = (row.map fun _ => true).map D.bl by simp, all_bls, show (row.map fun _ => true).all id = true by simp]; walk_at "w"
 rw [show lenSet (.tup (row.map D.int)) m = .ok (.int row.length) m by
  have e : seqI (.tup (row.map D.int)) m = some row := by
   show asInts (row.map D.int) = some row
   exact asInts_map row
  unfold lenSet; rw [e]
  show (if row.length <= 4000 then _ else _) = _
  rw [if_pos (by omega), dN_nodup (by
   rw [List.Nodup, List.pairwise_map]
   exact h2.imp fun h e => h (Sum.inl.inj e)), List.length_map]]
 walk_at "w"; rw [List.length_map, decide_eq_true rfl]; exact Run.ok ⟨rfl, rfl⟩
theorem isKind_k {kd : Kd} {pl b : Nat} {m : Sto} (hb : b <= 40) (h : kd.Ok2 pl b) : gIsKind [kd.e, .int pl, .int b] m = .ok (.bl true) m := by
 apply run_eq
 unfold gIsKind gIsKind0
 obtain ⟨h, hr⟩ := h
 cases kd with
 | still =>
  simp only [Kd.e]; walk_at "w"; rw [worded_t, decide_eq_true (by simp)]; walk_at "w"; exact Run.ok ⟨rfl, rfl⟩
 | drawn =>
  simp only [Kd.e]; walk_at "w"; rw [worded_t, decide_eq_false (by simp [ofs_eq])]; walk_at "w"; rw [worded_t, decide_eq_true (by simp)]; walk_at "w"; exact Run.ok ⟨rfl, rfl⟩
 | step n =>
  simp only [Kd.e]; walk_at "w"; rw [worded_t, decide_eq_false (by simp [ofs_eq])]; walk_at "w"; rw [worded_t, decide_eq_false (by simp [ofs_eq])]; walk_at "w"; rw [worded_t, decide_eq_true (by simp)]; walk_at "w"; rw [isValue_i (by omega), decide_eq_true (show 0 <= n /\ n < 2 ^ b from h)]; exact Run.ok ⟨rfl, rfl⟩
 | turn row =>
  obtain ⟨r0, r1⟩ := hr row rfl
  simp only [Kd.e]; walk_at "w"; rw [worded_t, decide_eq_false (by simp [ofs_eq])]; walk_at "w"; rw [worded_t, decide_eq_false (by simp [ofs_eq])]; walk_at "w"; rw [worded_t, decide_eq_false (by simp [ofs_eq])]; walk_at "w"; rw [worded_t, decide_eq_true (by simp)]; walk_at "w"; rw [isTurn_r hb r0 h.2.1 r1 h.2.2]; exact Run.ok ⟨rfl, rfl⟩
 | wth i f =>
  simp only [Kd.e]; walk_at "w"; rw [worded_t, decide_eq_false (by simp [ofs_eq])]; walk_at "w"; rw [worded_t, decide_eq_false (by simp [ofs_eq])]; walk_at "w"; rw [worded_t, decide_eq_false (by simp [ofs_eq])]; walk_at "w"; rw [worded_t, decide_eq_false (by simp [ofs_eq])]; walk_at "w"; rw [worded_t, decide_eq_true (by simp)]; walk_at "w"
  obtain ⟨i0, f0, f1⟩ := h
  rw [between_i, decide_eq_true (by omega)]; walk_at "w"; rw [show negD (.int 99) m = .ok (.int (-99)) m from rfl]; walk_at "w"; rw [between_i, decide_eq_true ⟨f0, f1⟩]; exact Run.ok ⟨rfl, rfl⟩
theorem isField_f {f : Fd} {i : Nat} {m : Sto} (h0 : 0 < f.b) (h1 : f.b <= 40) (h2 : f.kd.Ok2 i f.b) (hx : nmB f.nm = true) (hl : f.nm.length <= 8) : gIsField [f.e, .int i] m = .ok (.bl true) m := by
 apply run_eq
 unfold gIsField gIsField0; simp only [Fd.e]; walk_at "w"; rw [isRow_t, decide_eq_true (by simp)]; walk_at "w"; rw [isName_s (Nat.le_trans hl (by decide)), hx]; walk_at "w"; rw [between_i, decide_eq_true (by omega)]; walk_at "w"; rw [isKind_k h1 h2]; exact Run.ok ⟨rfl, rfl⟩
theorem compK_map {g : GV} {fa : EV} {ρ : En} {m : Sto} (f : D -> Key) : ∀ (ds : List D), (∀ d ∈ ds, ∃ ρ1 x, g d ρ m = .ok ρ1 m /\ fa ρ1 m = .ok x m /\ keyOf x = some (f d)) -> compK g fa ρ ds m = .ok (ds.map f) m
 | [], _ => rfl
 | d :: r, h => by
  obtain ⟨ρ1, x, e1, e2, e3⟩ := h d (by simp)
  rw [compK, e1, bind_ok, e2, bind_ok]; simp only [e3]; rw [compK_map f r fun d hd => h d (List.mem_cons_of_mem _ hd), bind_ok]
  rfl
structure ShG (fs : List Fd) : Prop where
 at' : ∀ (i : Nat) (f : Fd), fs[i]? = some f -> 0 < f.b /\ f.b <= 40 /\ f.kd.Ok2 i f.b
 nm : ∀ x ∈ fs.map Fd.nm, nmB x = true /\ x.length <= 8
 nd : (fs.map Fd.nm).Nodup
theorem ShG.ok {fs : List Fd} (h : ShG fs) : ShOk fs := fun i f hf => let ⟨a, b, c⟩ := h.at' i f hf; ⟨a, b, c.1⟩
theorem areFields_f {fs : List Fd} {m : Sto} (hs : ShG fs) (h0 : 0 < fs.length) (hn : fs.length <= 12) : gAreFields [.tup (fs.map Fd.e)] m = .ok (.bl true) m := by
 have hnm := hs.nm
 apply run_eq
 unfold gAreFields gAreFields0; walk_at "w"; rw [isRow_t, List.length_map, decide_eq_true (by omega)]; walk_at "w"; refine Run.bind (loop_run (fun k ρ m' => ∃ (x1 x2 : Option D), ρ = [some (.tup (fs.map Fd.e)), x1, x2] /\ m' = m) (enumD 0 (fs.map Fd.e)) 0 ⟨none, none, rfl, rfl⟩ ?_) ?_
 ·rintro i d ρ m1 hd ⟨x1, x2, rfl, rfl⟩
  obtain ⟨s, hs', rfl⟩ := enum_at hd
  obtain ⟨b0, b1, hk⟩ := hs.at' i s hs'
  have hx := hnm s.nm (List.mem_map.mpr ⟨s, List.mem_of_getElem? hs', rfl⟩)
  walk_at "w"; rw [Nat.zero_add, isField_f b0 b1 hk hx.1 hx.2]; walk_at "w"; exact Run.ok ⟨_, rfl, _, _, rfl, rfl⟩
 ·rintro _ m1 ⟨ρ, rfl, x1, x2, rfl, rfl⟩; walk_at "w"
  have e : eLenC 1 (aIt (zag 0)) (gN 3) (eOp ixD (zag 3) (eC (.int 0))) [some (.tup (fs.map Fd.e)), x1, x2] m1 = .ok (.int fs.length) m1 := by
   unfold eLenC; walk_at "w"
   rw [if_pos (by rw [List.length_map]; omega), compK_map (ds := fs.map Fd.e) (fun d => match d with | .tup (.str z :: _) => Sum.inr z | _ => Sum.inl 0)]
   ·rw [bind_ok, dN_nodup, List.length_map, List.length_map]; rw [List.map_map]
    have := hs.nd
    rw [List.Nodup, List.pairwise_map] at this ⊢
    exact this.imp fun h e => h (Sum.inr.inj e)
   ·intro d hd
    obtain ⟨f, hf, rfl⟩ := List.mem_map.mp hd
    refine ⟨_, .str f.nm, rfl, ?_, rfl⟩
    show eOp ixD (zag 3) (eC (.int 0)) [some (.tup (fs.map Fd.e)), x1, x2, some f.e] m1 = _
    simp only [Fd.e]; walk_at "w"
  rw [e]; walk_at "w"; rw [List.length_map, decide_eq_true rfl]; exact Run.ok ⟨rfl, rfl⟩
theorem isShape_s {fs : List Fd} {n : Int} {m : Sto} (hs : ShG fs) (h0 : 0 < fs.length) (hn : fs.length <= 12) (n0 : 0 < n) (n1 : n <= 1000000) : gIsShape [shD fs n] m = .ok (.bl true) m := by
 apply run_eq
 unfold gIsShape gIsShape0 shD; walk_at "w"; rw [isRow_t, decide_eq_true (by simp)]; walk_at "w"; rw [areFields_f hs h0 hn]; walk_at "w"; rw [pow106]; walk_at "w"; rw [between_i, decide_eq_true (by omega)]; exact Run.ok ⟨rfl, rfl⟩
open PySem L2
def boxL (q : Nat) (seed turn : Int) : List (L2.Key × D) := [(Sum.inr "own", .ob q), (Sum.inr "seed", .int seed), (Sum.inr "turn", .int turn)]
structure P3 (m0 : Sto) (p q : Nat) (c : Nat) (m : Sto) : Prop where
 ex : ∃ (own : List Int) (seed turn : Int), m[p]? = some (.dct (boxL q seed turn)) /\ m[q]? = some (.lst (own.map D.int)) /\ p ≠ q /\ own.length <= 63 /\ (∀ a ∈ own, 0 <= a) /\ 0 <= seed /\ seed < 2 ^ 62 /\ 0 <= turn /\ turn <= c
 fr : Fr p q m0 m
theorem P3.more {m0 : Sto} {p q c c' : Nat} {m : Sto} (h : P3 m0 p q c m) (k : c <= c') : P3 m0 p q c' m := by
 obtain ⟨own, s, t, h1, h2, h3, h4, h5, h6, h7, h8, h9⟩ := h.ex
 exact ⟨⟨own, s, t, h1, h2, h3, h4, h5, h6, h7, h8, by (clear h8 h7 h6 h4 h3; omega)⟩, h.fr⟩
theorem P3.re {m0 : Sto} {p q c : Nat} {m : Sto} (h : P3 m0 p q c m) : P3 m p q c m := ⟨h.ex, Fr.refl⟩
theorem P3.via {m0 : Sto} {p q c c' : Nat} {m m' : Sto} (h : P3 m0 p q c m) (h' : P3 m p q c' m') : P3 m0 p q c' m' := ⟨h'.ex, h.fr.trans h'.fr⟩
theorem P3.lt {m0 : Sto} {p q c : Nat} {m : Sto} (h : P3 m0 p q c m) : p < m.length /\ q < m.length := by
 obtain ⟨own, s, t, h1, h2, _⟩ := h.ex
 exact ⟨(List.getElem?_eq_some_iff.mp h1).1, (List.getElem?_eq_some_iff.mp h2).1⟩
theorem P3.app {m0 : Sto} {p q c : Nat} {m r : Sto} (h : P3 m0 p q c m) : P3 m0 p q c (m ++ r) := by
 obtain ⟨own, s, t, h1, h2, h3⟩ := h.ex
 exact ⟨⟨own, s, t, by rw [List.getElem?_append_left (List.getElem?_eq_some_iff.mp h1).1]; exact h1, by rw [List.getElem?_append_left (List.getElem?_eq_some_iff.mp h2).1]; exact h2, h3⟩, by rw [List.length_append]; exact Nat.le_trans h.fr.len (Nat.le_add_right _ _), fun j a b d => by rw [List.getElem?_append_left (Nat.lt_of_lt_of_le a h.fr.len)]; exact h.fr.at' j a b d⟩
theorem P3.set {m0 : Sto} {p q c r : Nat} {m : Sto} {o : MO} (h : P3 m0 p q c m) (h0 : m0.length <= r) (h1 : r ≠ p) (h2 : r ≠ q) : P3 m0 p q c (m.set r o) := by
 obtain ⟨own, s, t, g1, g2, h3⟩ := h.ex
 exact ⟨⟨own, s, t, by rw [set_other h1]; exact g1, by rw [set_other h2]; exact g2, h3⟩, by rw [List.length_set]; exact h.fr.len, fun j a b d => by rw [set_other (by omega)]; exact h.fr.at' j a b d⟩
theorem P3.kept {m : Sto} {p q c r : Nat} {m' : Sto} {o : MO} (h : P3 m p q c m') (hr : m[r]? = some o) (h1 : r ≠ p) (h2 : r ≠ q) : m'[r]? = some o := by
 rw [h.fr.at' r (List.getElem?_eq_some_iff.mp hr).1 h1 h2]; exact hr
theorem vb_own (q : Nat) (s t : Int) : valD (boxL q s t) (.inr "own") = some (.ob q) := rfl
theorem vb_seed (q : Nat) (s t : Int) : valD (boxL q s t) (.inr "seed") = some (.int s) := rfl
theorem vb_turn (q : Nat) (s t : Int) : valD (boxL q s t) (.inr "turn") = some (.int t) := rfl
theorem pb_turn (q : Nat) (s t v : Int) : putD (boxL q s t) (.inr "turn") (.int v) = boxL q s v := rfl
theorem boxL_len (q : Nat) (s t : Int) : (boxL q s t).length < sizeLine := by show 3 < sizeLine; decide
def ownT : TV := (tAndM (tV (eOp neD (eOp ixD (zag 0) (eC (.str "own"))) (eFn gLst zaj))) (tV (eOp eqD (eOp ixD (eOp ixD (zag 0) (eC (.str "own"))) (eC (.int 0))) (eC (.int 0)))))
def ownB : SV := (sDrop (eMeth isLst popM (eOp ixD (zag 0) (eC (.str "own"))) (zab (eC (.int 0)) zaj)))
theorem ne_own {q : Nat} {own : List Int} {m : Sto} (h2 : m[q]? = some (.lst (own.map D.int))) : neD (.ob q) (.lst []) m = .ok (.bl (!decide (own = []))) m := by
 have e := eqB_lst own []
 rw [List.map_nil] at e
 simp only [neD, rs, h2, e]
theorem ix_own {q : Nat} {a : Int} {own : List Int} {m : Sto} (h2 : m[q]? = some (.lst ((a :: own).map D.int))) : ixD (.ob q) (.int 0) m = .ok (.int a) m := by
 simp only [ixD, h2]
 show opt (atI _ ((0 : Nat) : Int)) m = _
 rw [atI_nat]
 rfl
theorem own_loop {p q : Nat} {seed turn : Int} {ρ : En} : ∀ (own : List Int) (n : Nat) (m : Sto), own.length < n -> m[p]? = some (.dct (boxL q seed turn)) -> m[q]? = some (.lst (own.map D.int)) -> p ≠ q →
  Run (loopW ownT ownB n (some (.ob p) :: ρ) m) fun fl m' => fl = .nx (some (.ob p) :: ρ) /\ ∃ own' : List Int, (own' = [] ∨ ∃ a r, own' = a :: r /\ a ≠ 0) /\ (∀ a ∈ own', a ∈ own) /\ own'.length <= own.length /\ m'[p]? = some (.dct (boxL q seed turn)) /\ m'[q]? = some (.lst (own'.map D.int)) /\ Fr p q m m'
 | own, 0, m, h, _, _, _ => absurd h (Nat.not_lt_zero _)
 | [], n + 1, m, h, h1, h2, h3 => by
  rw [loopW]
  have e : ownT (some (.ob p) :: ρ) m = .ok false m := by
   unfold ownT; walk_at "w"; rw [ix_key h1 (vb_own _ _ _)]; walk_at "w"; rw [ne_own (own := []) h2]
   rfl
  rw [e, bind_ok, if_neg (by decide)]; exact Run.ok ⟨rfl, [], .inl rfl, fun _ h => h, Nat.le_refl _, h1, h2, Fr.refl⟩
 | a :: own, n + 1, m, h, h1, h2, h3 => by
  rw [loopW]
  have e : ownT (some (.ob p) :: ρ) m = .ok (decide (a = 0)) m := by
   unfold ownT; walk_at "w"; rw [ix_key h1 (vb_own _ _ _)]; walk_at "w"; rw [ne_own h2]; rw [decide_eq_false (by simp)]; walk_at "w"; rw [ix_key h1 (vb_own _ _ _)]; walk_at "w"; rw [ix_own h2]; walk_at "w"
  rw [e, bind_ok]
  by_cases h0 : a = 0
  ·rw [if_pos (decide_eq_true h0)]
   have eb : ownB (some (.ob p) :: ρ) m = .ok (.nx (some (.ob p) :: ρ)) (m.set q (.lst (own.map D.int))) := by
    unfold ownB; walk_at "w"; rw [ix_key h1 (vb_own _ _ _)]; walk_at "w"; rw [if_pos (show isLst (.ob q) m = true by simp only [isLst, h2])]; walk_at "w"; rw [pop_first h2]; walk_at "w"
   rw [eb, bind_ok]
   refine Run.mono (own_loop own n (m.set q (.lst (own.map D.int))) (by simp at h; omega) (by rw [set_other (Ne.symm h3)]; exact h1) (set_get h2) h3) ?_
   rintro fl m' ⟨rfl, own', g1, g2, g3, g4, g5, g6⟩
   exact ⟨rfl, own', g1, fun x hx => List.mem_cons_of_mem _ (g2 x hx), by simp; omega, g4, g5, Fr.set'.trans g6⟩
  ·rw [if_neg (by simp [h0])]; exact Run.ok ⟨rfl, a :: own, .inr ⟨a, own, rfl, h0⟩, fun _ h => h, Nat.le_refl _, h1, h2, Fr.refl⟩
theorem put_own {q : Nat} {a b : Int} {own : List Int} {m : Sto} (h2 : m[q]? = some (.lst ((a :: own).map D.int))) : putL (.ob q) (.int 0) (.int b) m = .ok () (m.set q (.lst ((b :: own).map D.int))) := by
 have e : ixN ((a :: own).map D.int).length 0 = some 0 := by
  unfold ixN; rw [if_pos (by decide), if_pos (by simp)]
  rfl
 simp only [putL, h2, e]
 rfl
theorem while_at {n : Nat} {t : TV} {b : SV} {ρ : En} {m : Sto} : sWhile n t b ρ m = loopW t b n ρ m := rfl
open PySem L2
theorem rep_fold (c : Nat) : ∀ (k : Nat) (a : Array Nat), ((List.replicate k #[c]).foldl (· ++ ·) a).toList = a.toList ++ List.replicate k c
 | 0, a => by simp
 | k + 1, a => by
  rw [List.replicate_succ, List.foldl_cons, rep_fold c k]
  simp [List.replicate_succ]
theorem mul_one {c : Nat} {n : Nat} (h : 1 <= n) : (Txt.mul ⟨#[c]⟩ (n : Nat)).cps.toList = List.replicate n c := by
 unfold Txt.mul
 rw [if_neg (by omega)]
 split
 ·rename_i h2
  have : n = 1 := by
   rw [Bool.or_eq_true] at h2
   rcases h2 with h2 | h2
   ·have := eq_of_beq h2
    omega
   ·exact absurd (eq_of_beq h2) (by show ¬ 1 = 0; decide)
  subst this
  rfl
 ·show ((List.replicate (n : Int).toNat #[c]).foldl (· ++ ·) #[]).toList = _
  rw [rep_fold]
  simp
theorem nm_mul {j n : Nat} (hj : j < 26) (h1 : 1 <= n) (h2 : n <= 8) : nmB (Txt.mul ⟨#[97 + j]⟩ (n : Nat)) = true /\ (Txt.mul ⟨#[97 + j]⟩ (n : Nat)).length <= 8 /\ (Txt.mul ⟨#[97 + j]⟩ (n : Nat)).cps.toList.head? = some (97 + j) := by
 have e := mul_one (c := 97 + j) h1
 have hl : (Txt.mul ⟨#[97 + j]⟩ (n : Nat)).length = n := by
  show (Txt.mul ⟨#[97 + j]⟩ (n : Nat)).cps.size = n
  rw [<- Array.length_toList, e, List.length_replicate]
 refine ⟨?_, by omega, ?_⟩
 ·unfold nmB; rw [hl, e, decide_eq_true ⟨h1, h2⟩, Bool.true_and, List.all_eq_true]
  intro x hx
  have := (List.mem_replicate.mp hx).2
  subst this
  simp only [chB, decide_eq_true_eq]
  omega
 ·rw [e]
  cases n with
  | zero => omega
  | succ n => rfl
structure Fm where
 a : Nat
 b : Nat
 wys : List Wy
def Fm.e (f : Fm) : D := fmD f.a f.b f.wys
structure FmOk (fs : List Fd) (f : Fm) : Prop where
 a0 : 0 < f.a
 a1 : f.a <= 40
 b0 : 0 < f.b
 b1 : f.b <= 40
 wy : WyOk fs f.wys
structure Rd4 where
 skips : Nat
 gap : Nat
 late : Nat
 anew : Nat
def Rd4.e (r : Rd4) : D := .tup [.int r.skips, .int r.gap, .int r.late, .int r.anew]
structure RdOk (r : Rd4) : Prop where
 s1 : r.skips <= 39
 g0 : r.skips <= r.gap
 g1 : r.gap <= 400
 l1 : r.late <= 20
 n1 : r.anew <= 400
structure Pt where
 fs : List Fd
 n : Int
 wide : Nat
 fms : List Fm
 rd : Rd4
def Pt.e (p : Pt) : D := .tup [shD p.fs p.n, .int p.wide, .tup (p.fms.map Fm.e), p.rd.e]
structure PtOk (p : Pt) : Prop where
 n0 : 0 < p.n
 n1 : p.n <= 1000000
 f0 : 0 < p.fs.length
 f1 : p.fs.length <= 12
 sh : ShG p.fs
 w0 : 0 < p.wide
 w1 : p.wide <= 40
 fm : ∀ f ∈ p.fms, FmOk p.fs f
 fml : p.fms.length <= 12
 rd : RdOk p.rd
theorem pow1060 {m : Sto} : powD (.int 10) (.int 60) m = .ok (.int (10 ^ 60)) m := by
 rw [powD_eq]
 have e : powR (.int 10) (.int 60) m = if (0 : Int) <= 60 /\ (60 : Int) <= 1000000 /\ (10 : Int).natAbs < 2 ^ 64 then .ok (.int ((10 : Int) ^ (60 : Int).toNat)) m else .bad := rfl
 rw [e, if_pos (by decide)]
 rfl
theorem mulB_i {a b : Int} {m : Sto} (h : a.natAbs.log2 < 1100 /\ b.natAbs.log2 < 1100) : mulB (.int a) (.int b) m = .ok (.int (a * b)) m := by rw [mulB_eq]; exact if_pos h
theorem far_pos : (0 : Int) < 10 ^ 60 * 10 ^ 60 * 10 ^ 60 * 10 ^ 60 * 10 ^ 60 := by decide +kernel
theorem abs_i (c : Int) {m : Sto} : absF [.int c] m = .ok (.int c.natAbs) m := by
 have e : (if c < 0 then -c else c) = (c.natAbs : Int) := by split <;> omega
 rw [<- e]
 rfl
theorem sl_scr {ns : List Int} {m : Sto} : slD (.scr (ns.map D.int)) none (some 63) m = .ok (.lst ((ns.take 63).map D.int)) m := by
 show Res.ok (D.lst (cutD (ns.map D.int) none (some ((63 : Nat) : Int)))) m = _
 rw [cut_to, List.map_take]
theorem isForm_f {fs : List Fd} {n : Int} {f : Fm} {m : Sto} (hs : ShOk fs) (hn : fs.length <= 12) (h : FmOk fs f) : gIsForm [shD fs n, f.e] m = .ok (.bl true) m :=
 isForm_w hs hn h.wy (by have := h.a0; omega) (by have := h.a1; omega) (by have := h.b0; omega) (by have := h.b1; omega)
theorem isWide_w {w : Nat} {m : Sto} (h0 : 0 < w) (h1 : w <= 40) : gIsWide [.int w] m = .ok (.bl true) m := by
 apply run_eq
 unfold gIsWide gIsWide0; walk_at "w"; rw [between_i, decide_eq_true (by omega)]; exact Run.ok ⟨rfl, rfl⟩
theorem isRoad_r {r : Rd4} {m : Sto} (h : RdOk r) : gIsRoad [r.e] m = .ok (.bl true) m := by
 obtain ⟨h1, h2, h3, h4, h5⟩ := h
 apply run_eq
 unfold gIsRoad gIsRoad0 Rd4.e
 walk_at "w"; rw [isRow_t, decide_eq_true (by simp)]; walk_at "w"; rw [between_i, decide_eq_true (by omega)]; walk_at "w"; rw [between_i, decide_eq_true (by omega)]; walk_at "w"; rw [between_i, decide_eq_true (by omega)]; walk_at "w"; rw [between_i, decide_eq_true (by omega)]; exact Run.ok ⟨rfl, rfl⟩
theorem areForms_t {sh : D} {ds : List D} {β : D -> Bool} {m : Sto} (hl : ds.length <= 12) (h : ∀ d ∈ ds, gIsForm [sh, d] m = .ok (.bl (β d)) m) : gAreForms [sh, .tup ds] m = .ok (.bl (ds.all β)) m := by
 apply run_eq
 unfold gAreForms gAreForms0; walk_at "w"; rw [isRow_t, decide_eq_true (by omega)]; walk_at "w"
 rw [aComp_map (ds := ds) (fun d => .bl (β d)) (by walk_at "w") (by omega) (by
  intro d hd
  refine ⟨_, rfl, ?_⟩
  show (eFn gIsForm (zab (zag 0) (zab (zag 2) zaj))) [some sh, some (.tup ds), some d] m = _
  walk_at "w"
  exact h d hd)]
 walk_at "w"; rw [show ds.map (fun d => D.bl (β d)) = (ds.map β).map D.bl by simp, all_bls]; exact Run.ok ⟨by simp, rfl⟩
theorem areForms_f {fs : List Fd} {n : Int} {fms : List Fm} {m : Sto} (hs : ShOk fs) (hn : fs.length <= 12) (h : ∀ f ∈ fms, FmOk fs f) (hl : fms.length <= 12) : gAreForms [shD fs n, .tup (fms.map Fm.e)] m = .ok (.bl true) m := by
 rw [areForms_t (β := fun _ => true) (by rw [List.length_map]; exact hl) fun d hd => by
  obtain ⟨f, hf, rfl⟩ := List.mem_map.mp hd
  exact isForm_f hs hn (h f hf)]
 simp
theorem add_n {m : Sto} {r : Nat} {xs ys : List D} (h : m[r]? = some (.lst xs)) (hl : xs.length + ys.length <= 1000) : addN (.ob r) (.lst ys) m = .ok (.ob m.length) (m ++ [.lst (xs ++ ys)]) := by
 have hs : xs.length + ys.length <= sizeLine := Nat.le_trans hl (by decide)
 simp only [addN, lOf, h]; rw [if_pos hs]
 exact if_pos (by rw [List.length_append]; exact hs)
theorem all_trueM {τ : Type} (l : List τ) {m : Sto} : allF [.lst (l.map fun _ => D.bl true)] m = .ok (.bl true) m := by
 rw [show (l.map fun _ => D.bl true) = (l.map fun _ => true).map D.bl by simp, all_bls]
 simp
section
variable {c f mth : Str} {fa fv : EV} {fr : AV} {ρ : En} {m : Sto} {d : D} {g : List D -> Sto -> Res D}
def kFs3 (ρ : En) : Unit -> Sto -> Res Fl := fun _ m3 => .ok (.nx ρ) m3
def kFs2 (c f : Str) (ρ : En) (y : D) : D -> Sto -> Res Fl := fun x m2 => (setM c f x y m2).bind (kFs3 ρ)
def kFs1 (c f : Str) (fo : EV) (ρ : En) : D -> Sto -> Res Fl := fun y m1 => (fo ρ m1).bind (kFs2 c f ρ y)
theorem fld_at : eFld c f fa ρ m = (fa ρ m).bind (fldM c f) := rfl
theorem sfld_at : sFldM c f fa fv ρ m = (fv ρ m).bind (kFs1 c f fa ρ) := rfl
theorem kfs1_at : kFs1 c f fa ρ d m = (fa ρ m).bind (kFs2 c f ρ d) := rfl
theorem kfs2_at (x : D) : kFs2 c f ρ d x m = (setM c f x d m).bind (kFs3 ρ) := rfl
theorem kfs3_at : kFs3 ρ () m = .ok (.nx ρ) m := rfl
def kMt2 (g : List D -> Sto -> Res D) (x : D) : List D -> Sto -> Res D := fun ds m2 => g (x :: ds) m2
def kMt1 (c mth : Str) (g : List D -> Sto -> Res D) (fr : AV) (ρ : En) : D -> Sto -> Res D := fun x m1 => if insOk c mth x m1 = true then (fr ρ m1).bind (kMt2 g x) else .bad
theorem mth_at : eMth c mth g fa fr ρ m = (fa ρ m).bind (kMt1 c mth g fr ρ) := rfl
theorem kmt1_at : kMt1 c mth g fr ρ d m = if insOk c mth d m = true then (fr ρ m).bind (kMt2 g d) else .bad := rfl
theorem kmt2_at (ds : List D) : kMt2 g d ds m = g (d :: ds) m := rfl
def kPar3 (i j k : Nat) (ρ : En) : List D -> Sto -> Res Fl := fun ds m1 => match ds with
 | [x, y, z] => .ok (.nx (((ρ.set i (some x)).set j (some y)).set k (some z))) m1
 | _ => .bad
theorem par3_at (i j k : Nat) : sPar3 i j k fr ρ m = (fr ρ m).bind (kPar3 i j k ρ) := rfl
theorem kpar3_at (i j k : Nat) (x y z : D) : kPar3 i j k ρ [x, y, z] m = .ok (.nx (((ρ.set i (some x)).set j (some y)).set k (some z))) m := rfl
def kForO (h : GV) (b : SV) (ρ : En) : Nat × MO × List D -> Sto -> Res Fl := fun t m1 => loopO t.1 t.2.1 h b t.2.2 ρ m1
theorem forO_at {it : OI} {h : GV} {b : SV} : sForO it h b ρ m = (it ρ m).bind (kForO h b ρ) := rfl
theorem kforO_at {h : GV} {b : SV} (k : Nat) (o : MO) (ds : List D) : kForO h b ρ (k, o, ds) m = loopO k o h b ds ρ m := rfl
theorem objI_at : aObj fa ρ m = (fa ρ m).bind asObj := rfl
theorem isnt_in (i : Int) : isntD (.int i) .non m = .ok (.bl true) m := rfl
theorem is_in (i : Int) : isD (.int i) .non m = .ok (.bl false) m := rfl
end
local macro_rules | `(tactic| walk_at "w") => do
  let ids := ("run_at fin_nx fin_rt seq_at seq_nx seq_rt nil_at ret_at rt_at retN_at drop_at kdrop_at if_at kif_at asg_at kasg_at nx_at gs_nil gs_cons gT_at par_at kpar_at List.set_cons_zero List.set_cons_succ for_at kfor_at eC_at op_at kop_at un_at fn_at ife_at kife_at aNil_at aCons_at kcons_at kcons2_at asB_at tV_at andT_at kandT_at orT_at korT_at notT_at knotT_at and_at kand_at or_at kor_at not_at knot_at aIt_at sq_t sq_l sq_s sq_c rngA_at enumA_at kenum_t kenum_l zipA_at kzip_at zip3A_at kzip3_at kzip4_at oNone_at oSome_at ksome_at slD_at ksl1_at ksl2_at slA_at kslA1_at kslA2_at meth_at kmeth_at isStr_at isTup_at chain_at kch1_at kch2_at kch3_at put_at kputA_at kputB_at kputC_at kputE_at bind_ok bind_then then_at var_0 var_S gN_at Bool.false_eq_true reduceIte List.map_cons List.map_nil List.length_cons List.length_nil Nat.reduceAdd Nat.reduceSub List.cons_append List.nil_append add_i sub_i eq_i ne_i eq_s ne_s lt_i le_i gt_i ge_i lst_0 lst_2 lst_3 lst_4 lst_5 tup_0 tup_1 tup_2 tup_3 min_i len_t len_l tup_l l1 ix_t0 ix_t1 ix_t2 List.replicate List.append_nil decide_eq_true_eq Bool.not_true Bool.not_false eq_self not_true_eq_false not_false_eq_true decide_true decide_false ofs_eq String.reduceEq fld_at sfld_at kfs1_at kfs2_at kfs3_at mth_at kmt1_at kmt2_at par3_at kpar3_at forO_at kforO_at objI_at isnt_in is_in is_nn isnt_nn max_i".splitOn " ").toArray.map fun s => Lean.mkIdent s.toName
  `(tactic| try simp only [$[$ids:ident],*])
theorem gLawDraw2_cut : gLawDraw20 = (sSeq (sWhile fuelW ownT ownB)
 (sSeq (sIf (tV (eOp neD (eOp ixD (zag 0) (eC (.str "own"))) (eFn gLst zaj)))
 (sSeq (sAsg (eOp modD (eOp ixD (eOp ixD (zag 0) (eC (.str "own"))) (eC (.int 0))) (zag 1)) (gN 2))
 (sSeq (sAsg (eOp fdivD (eOp ixD (eOp ixD (zag 0) (eC (.str "own"))) (eC (.int 0))) (zag 1)) (gI (eOp ixD (zag 0) (eC (.str "own"))) (eC (.int 0))))
 (sRet (zag 2))))
 sNil)
 (sSeq (sPutD (zag 0) (eC (.str "turn")) (eOp addD (eOp ixD (zag 0) (eC (.str "turn"))) (eC (.int 1))))
 (sSeq (sAsg (eOp ixD (zag 0) (eC (.str "turn"))) (gN 3))
 (sSeq (sAsg (eOp addD (eOp addD (eOp ixD (zag 0) (eC (.str "seed"))) (eOp mulD (eOp mulD (zag 3) (zag 3)) (eC (.int 7919)))) (eOp mulD (zag 3) (eC (.int 104729)))) (gN 4))
 (sSeq (sAsg (eOp modD (eOp mulD (zag 4) (eC (.int 48271))) (eC (.int 2305843009213693921))) (gN 4))
 (sSeq (sAsg (eOp modD (eOp mulD (zag 4) (eOp addD (eOp modD (zag 4) (eC (.int 1000003))) (eC (.int 69621)))) (eC (.int 2305843009213693907))) (gN 4))
 (sRet (eOp modD (eOp addD (eOp fdivD (zag 4) (eC (.int 65537))) (eOp fdivD (zag 4) (eC (.int 1000033)))) (zag 1)))))))))) := rfl
section
variable {m0 m : Sto} {p q c b : Nat}
theorem dr6_run {k : Int} (hp : P3 m0 p q c m) (hc : c < 2 ^ 40) (k0 : 0 < k) (k1 : k < 2 ^ 64) :
  Run (zai [.ob p, .int k] m) fun a m' => ∃ d : Int, a = .int d /\ 0 <= d /\ d < k /\ P3 m p q (c + 1) m' := by
 obtain ⟨own, s, t, h1, h2, h3, h4, h5, h6, h7, h8, h9⟩ := hp.ex
 unfold zai; rw [gLawDraw2_cut, run_at]
 show Run (Res.bind (sSeq (sWhile fuelW ownT ownB) _ (some (.ob p) :: [some (.int k), none, none, none]) m) finF) _
 rw [seq_at, while_at, bind_then]; refine Run.bind (own_loop (ρ := [some (.int k), none, none, none]) own fuelW m (Nat.lt_of_le_of_lt h4 (by decide)) h1 h2 h3) ?_; rintro _ m1 ⟨rfl, own', g1, g2, g3, g4, g5, g6⟩; walk_at "w"; rw [ix_key g4 (vb_own _ _ _)]; walk_at "w"; rw [ne_own g5]
 rcases g1 with rfl | ⟨a, r, rfl, a0⟩
 ·rw [decide_eq_true rfl]; walk_at "w"; rw [ix_key g4 (vb_turn _ _ _)]; walk_at "w"; rw [put_key g4 (boxL_len _ _ _), pb_turn]
  have hp2 : (m1.set p (.dct (boxL q s (t + 1))))[p]? = some (.dct (boxL q s (t + 1))) := set_get g4
  have hq2 : (m1.set p (.dct (boxL q s (t + 1))))[q]? = some (.lst (([] : List Int).map D.int)) := by rw [set_other h3]; exact g5
  have f2 : Fr p q m (m1.set p (.dct (boxL q s (t + 1)))) := g6.trans Fr.set
  generalize hm2 : m1.set p (.dct (boxL q s (t + 1))) = m2 at hp2 hq2 f2; walk_at "w"; rw [ix_key hp2 (vb_turn _ _ _)]; walk_at "w"; rw [ix_key hp2 (vb_seed _ _ _)]; walk_at "w"; rw [mul_j ⟨by omega, by omega⟩]; walk_at "w"; rw [mul_i ⟨by decide, by decide⟩]; walk_at "w"; rw [mul_j ⟨by omega, by omega⟩]; walk_at "w"; rw [mul_i ⟨by decide, by decide⟩]; walk_at "w"; rw [mod_i (by decide)]; walk_at "w"
  rw [mod_i (by decide)]; walk_at "w"; rw [mul_i (mod_small _)]; walk_at "w"; rw [mod_i (by decide)]; walk_at "w"; rw [div_i ⟨by decide, by decide⟩]; walk_at "w"; rw [div_i ⟨by decide, by decide⟩]; walk_at "w"; rw [mod_i k0]; walk_at "w"; exact Run.ok ⟨_, rfl, Int.emod_nonneg _ (by omega), Int.emod_lt_of_pos _ k0, ⟨⟨[], s, t + 1, hp2, hq2, h3, by decide, fun _ h => (nomatch h), h6, h7, by omega, by omega⟩, f2⟩⟩
 ·rw [decide_eq_false (by simp)]; walk_at "w"; rw [ix_key g4 (vb_own _ _ _)]; walk_at "w"; rw [ix_own g5]; walk_at "w"; rw [mod_i k0]; walk_at "w"; rw [ix_key g4 (vb_own _ _ _)]; walk_at "w"; rw [ix_own g5]; walk_at "w"; rw [div_i ⟨k0, k1⟩]; walk_at "w"; simp only [gI_at, kgi1_at, kgi2_at, bind_ok, bind_then, eC_at, op_at, kop_at, var_0]; rw [ix_key g4 (vb_own _ _ _)]; simp only [bind_ok, then_at, kgi1_at, kgi2_at, eC_at, bind_then]
  rw [put_own g5]; simp only [bind_ok, then_at, kgi3_at]; walk_at "w"
  have ha : 0 <= a := h5 a (g2 a (by simp))
  exact Run.ok ⟨_, rfl, Int.emod_nonneg _ (by omega), Int.emod_lt_of_pos _ k0, ⟨⟨a / k :: r, s, t, by rw [set_other (Ne.symm h3)]; exact g4, set_get g5, h3, Nat.le_trans g3 h4, fun x hx => by
   rcases List.mem_cons.mp hx with rfl | hx
   ·exact Int.ediv_nonneg ha (by omega)
   ·exact h5 x (g2 x (List.mem_cons_of_mem _ hx)), h6, h7, h8, by omega⟩, g6.trans Fr.set'⟩⟩
theorem of6_run {xs : List D} (hp : P3 m0 p q c m) (hc : c < 2 ^ 40) (h0 : 0 < xs.length) (h1 : xs.length < 1000) :
  Run (gLawOf2 [.ob p, .lst xs] m) fun a m' => a ∈ xs /\ P3 m p q (c + 1) m' := by
 unfold gLawOf2 gLawOf20; walk_at "w"; refine Run.bind (dr6_run hp hc (by omega) (by omega)) ?_; rintro _ m1 ⟨d, rfl, d0, d1, hp1⟩; walk_at "w"
 obtain ⟨x, hx, e⟩ := ix_any (m := m1) (xs := xs) d0 d1
 rw [e]; exact Run.ok ⟨hx, hp1⟩
theorem int_is6 (x : Int) {m : Sto} : intF [.bl (decide (x = 0))] m = .ok (.int (if x = 0 then 1 else 0)) m := by
 rw [int_b]
 by_cases h : x = 0 <;> simp [h]
theorem sz6_run {few most : Nat} (hp : P3 m0 p q c m) (hc : c + 2 < 2 ^ 40) (h0 : 0 < few) (h1 : few <= most) (h2 : most <= 1000) :
  Run (gLawSize [.ob p, .int few, .int most] m) fun a m' => ∃ n : Nat, a = .int n /\ 1 <= n /\ n <= most /\ P3 m p q (c + 2) m' := by
 unfold gLawSize gLawSize0; walk_at "w"; refine Run.bind (dr6_run hp (by omega) (by decide) (by decide)) ?_; rintro _ m1 ⟨x, rfl, x0, x1, hp1⟩; walk_at "w"; rw [int_is6]; walk_at "w"
 obtain ⟨v, hv, e⟩ := ix_any (m := m1) (xs := [.int few, .int most]) (d := if x = 0 then 1 else 0) (by split <;> omega) (by split <;> simp)
 rw [e]; walk_at "w"
 obtain ⟨k, rfl, k0, k1⟩ : ∃ k : Nat, v = .int k /\ 0 < k /\ k <= most := by
  simp only [List.mem_cons, List.not_mem_nil, or_false] at hv
  rcases hv with rfl | rfl
  ·exact ⟨few, rfl, h0, h1⟩
  ·exact ⟨most, rfl, by omega, Nat.le_refl _⟩
 refine Run.bind (dr6_run hp1 (by omega) (by omega) (by omega)) ?_; rintro _ m2 ⟨y, rfl, y0, y1, hp2⟩; walk_at "w"; exact Run.ok ⟨(1 + y).toNat, by rw [Int.toNat_of_nonneg (by omega)], by omega, by omega, hp1.via hp2⟩
theorem va6_run (hp : P3 m0 p q c m) (hc : c + 4 < 2 ^ 40) (hb : b <= 40) :
  Run (gLawValue4 [.ob p, .int b] m) fun a m' => ∃ v : Int, a = .int v /\ 0 <= v /\ v < 2 ^ b /\ P3 m p q (c + 4) m' := by
 have hB := p2 b
 have hB2 := p2lt hb
 unfold gLawValue4 gLawValue40; walk_at "w"; rw [shl_1 (by omega)]; walk_at "w"
 refine Run.bind (dr6_run (k := if (4 : Int) < 2 ^ b then 4 else 2 ^ b) hp (by omega) (by split <;> omega) (by split <;> omega)) ?_
 rintro _ m1 ⟨x, rfl, x0, x1, hp1⟩
 have x2 : x < 2 ^ b := by split at x1 <;> omega
 walk_at "w"; refine Run.bind (dr6_run hp1 (by omega) hB hB2) ?_; rintro _ m2 ⟨y, rfl, y0, y1, hp2⟩; walk_at "w"; refine Run.bind (dr6_run hp2 (by omega) hB hB2) ?_; rintro _ m3 ⟨z, rfl, z0, z1, hp3⟩; walk_at "w"; refine Run.bind (dr6_run hp3 (by omega) (by decide) (by decide)) ?_; rintro _ m4 ⟨w, rfl, w0, w1, hp4⟩
 obtain ⟨v, hv, e⟩ := ix_any (m := m4) (xs := [.int y, .int x, .int (2 ^ b - 1 - x), .int z]) w0 w1
 walk_at "w"; rw [e]
 have hv' : ∃ n : Int, v = .int n /\ 0 <= n /\ n < 2 ^ b := by
  simp only [List.mem_cons, List.not_mem_nil, or_false] at hv
  rcases hv with rfl | rfl | rfl | rfl <;> exact ⟨_, rfl, by omega, by omega⟩
 obtain ⟨n, rfl, n0, n1⟩ := hv'
 walk_at "w"; exact Run.ok ⟨n, rfl, n0, n1, hp1.via (hp2.via (hp3.via hp4))⟩
end
section
variable {m0 m : Sto} {p q c b : Nat}
theorem wy6_run (hp : P3 m0 p q c m) (hc : c + 4 < 2 ^ 40) (h0 : 0 < b) (h1 : b <= 40) :
  Run (gLawWay4 [.ob p, .int b] m) fun a m' => ∃ wy : Wy, a = wy.e /\ wy.Ok b /\ P3 m p q (c + 4) m' := by
 unfold gLawWay4 gLawWay40; walk_at "w"; refine Run.bind (dr6_run hp (by omega) (by decide) (by decide)) ?_; rintro _ m1 ⟨x, rfl, x0, x1, hp1⟩; walk_at "w"
 by_cases c1 : x < 3
 ·rw [if_pos c1]; walk_at "w"; exact Run.ok ⟨.keep, rfl, trivial, hp1.more (by omega)⟩
 rw [if_neg c1]; walk_at "w"
 by_cases c2 : x = 5
 ·rw [if_pos c2]; walk_at "w"; exact Run.ok ⟨.whole, rfl, trivial, hp1.more (by omega)⟩
 rw [if_neg c2]; walk_at "w"; refine Run.bind (dr6_run hp1 (by omega) (by decide) (by decide)) ?_; rintro _ m2 ⟨y, rfl, y0, y1, hp2⟩
 obtain ⟨u, hu, e⟩ := ix_any (m := m2) (xs := [.int (if (4 : Int) < b then 4 else b), .int b]) y0 y1
 walk_at "w"; rw [e]
 obtain ⟨k, rfl, k0, k1⟩ : ∃ k : Nat, u = .int k /\ 0 < k /\ k <= b := by
  simp only [List.mem_cons, List.not_mem_nil, or_false] at hu
  rcases hu with rfl | rfl
  ·exact ⟨(if (4 : Int) < b then (4 : Int) else b).toNat, by congr 1; split <;> omega, by split <;> omega, by split <;> omega⟩
  ·exact ⟨b, rfl, h0, Nat.le_refl _⟩
 walk_at "w"; refine Run.bind (dr6_run hp2 (by omega) (by omega) (by omega)) ?_; rintro _ m3 ⟨w, rfl, w0, w1, hp3⟩
 obtain ⟨w, hw⟩ : ∃ w' : Nat, 1 + w = w' := ⟨(1 + w).toNat, by omega⟩
 walk_at "w"; rw [hw, shl_1 (by omega)]; walk_at "w"; refine Run.bind (dr6_run hp3 (by omega) (p2 _) (p2lt (by omega))) ?_; rintro _ m4 ⟨v, rfl, v0, v1, hp4⟩; walk_at "w"; exact Run.ok ⟨.low w v, rfl, ⟨by omega, by omega, v0, v1⟩, hp1.via (hp2.via (hp3.via hp4))⟩
theorem fo6_run {fs : List Fd} (hp : P3 m0 p q c m) (hc : c + 60 < 2 ^ 40) (hs : ShOk fs) (hn : fs.length <= 12) :
  Run (gLawForm4 [.ob p, .tup (fs.map Fd.e)] m) fun x m' => ∃ f : Fm, x = f.e /\ FmOk fs f /\ P3 m p q (c + 60) m' := by
 have tail : ∀ {a b : Nat} {m1 : Sto}, 0 < a -> a <= 40 -> 0 < b -> b <= 40 -> P3 m p q (c + 5) m1 -> Run (Res.bind ((sRet (eFn gTup (zab (zag 2) (zab (zag 3) (zab (eFn tupF (zab (eFn gL1 (aComp 1 (aIt (zag 1)) (gN 4) tYesM (eFn gLawWay4 (zab (zag 0) (zab (eOp ixD (zag 4) (eC (.int 1))) zaj))))) zaj)) zaj))))) [some (.ob p), some (.tup (fs.map Fd.e)), some (.int a), some (.int b)] m1) finF) fun x m' => ∃ f : Fm, x = f.e /\ FmOk fs f /\ P3 m p q (c + 60) m' := by
  intro a b m1 a0 a1 b0 b1 hp1
  walk_at "w"; refine Run.bind (aComp_run (ds := fs.map Fd.e) (fun k m' => P3 m1 p q (c + 5 + 4 * k) m') (fun j d x => ∃ w : Wy, x = w.e /\ ∀ f, fs[j]? = some f -> w.Ok f.b) (by walk_at "w") (by rw [List.length_map]; omega) hp1.re ?_) ?_
  ·intro j d m4 hd4 h4
   have hj : j < fs.length := by have := (List.getElem?_eq_some_iff.mp hd4).1; simpa using this
   rw [List.getElem?_map] at hd4
   obtain ⟨fd, efd, rfl⟩ := Option.map_eq_some_iff.mp hd4
   obtain ⟨b0, b1, _⟩ := hs j fd efd
   walk_at "w"; rw [show ixD fd.e (.int 1) m4 = .ok (.int fd.b) m4 from ix_t1 _ _ _]; walk_at "w"
   refine Run.mono (wy6_run h4 (by omega) b0 b1) ?_
   rintro _ m5 ⟨w, rfl, hw', h5⟩
   exact ⟨⟨w, rfl, fun f' hf' => by rw [efd] at hf'; cases hf'; exact hw'⟩, (h4.via h5).more (by omega)⟩
  ·rintro xs m4 ⟨hlen, hP, h4⟩
   rw [List.length_map] at hlen h4
   obtain ⟨ws, rfl, hws⟩ := lift Wy.e (fun j w => ∀ f, fs[j]? = some f -> w.Ok f.b) xs 0 fun j x hx => by
    have hj : j < fs.length := by have := (List.getElem?_eq_some_iff.mp hx).1; omega
    rw [Nat.zero_add]
    exact hP j _ x (by rw [List.getElem?_map, List.getElem?_eq_getElem hj]; rfl) hx
   walk_at "w"; exact Run.ok ⟨⟨a, b, ws⟩, rfl, ⟨a0, a1, b0, b1, ⟨by simpa using hlen, fun j f' w hf' hw' => by have := hws j w hw'; rw [Nat.zero_add] at this; exact this f' hf'⟩⟩, (hp1.via h4).more (by omega)⟩
 unfold gLawForm4 gLawForm40; walk_at "w"; refine Run.bind (dr6_run hp (by omega) (by decide) (by decide)) ?_; rintro _ m1 ⟨x, rfl, x0, x1, hp1⟩; walk_at "w"; refine Run.bind (dr6_run hp1 (by omega) (by decide) (by decide)) ?_; rintro _ m2 ⟨y, rfl, y0, y1, hp2⟩; walk_at "w"; refine Run.bind (dr6_run hp2 (by omega) (by decide) (by decide)) ?_; rintro _ m3 ⟨z, rfl, z0, z1, hp3⟩; walk_at "w"
 by_cases c1 : z = 0
 ·rw [if_pos c1]; walk_at "w"; refine Run.bind (dr6_run hp3 (by omega) (by decide) (by decide)) ?_; rintro _ m4 ⟨u, rfl, u0, u1, hp4⟩; walk_at "w"; refine Run.bind (dr6_run hp4 (by omega) (by decide) (by decide)) ?_; rintro _ m5 ⟨v, rfl, v0, v1, hp5⟩
  obtain ⟨u, hu⟩ : ∃ u' : Nat, 1 + u = u' := ⟨(1 + u).toNat, by omega⟩
  obtain ⟨v, hv⟩ : ∃ v' : Nat, 1 + v = v' := ⟨(1 + v).toNat, by omega⟩
  have := tail (a := u) (b := v) (by omega) (by omega) (by omega) (by omega) (hp1.via (hp2.via (hp3.via (hp4.via hp5))))
  walk_at "w"; rw [hu, hv]
  simpa only [ret_at, fn_at, aCons_at, kcons_at, kcons2_at, aNil_at, var_0, var_S, bind_ok, bind_then, then_at] using this
 ·rw [if_neg c1]
  obtain ⟨u, hu⟩ : ∃ u' : Nat, 1 + x = u' := ⟨(1 + x).toNat, by omega⟩
  obtain ⟨v, hv⟩ : ∃ v' : Nat, 4 + y = v' := ⟨(4 + y).toNat, by omega⟩
  have := tail (a := u) (b := v) (by omega) (by omega) (by omega) (by omega) ((hp1.via (hp2.via hp3)).more (by omega))
  walk_at "w"; rw [hu, hv]
  simpa only [ret_at, fn_at, aCons_at, kcons_at, kcons2_at, aNil_at, var_0, var_S, bind_ok, bind_then, then_at] using this
end
def NmF (zs : List Str) : Prop := ∃ f s : Nat, s ∈ [1, 3, 5, 7, 9, 11] /\ ∀ (i : Nat) (x : Str), zs[i]? = some x -> nmB x = true /\ x.length <= 8 /\ x.cps.toList.head? = some (97 + (f + s * i) % 26)
theorem NmF.nodup {ns : List Str} (h : NmF ns) (hn : ns.length <= 12) : ns.Nodup := by
 obtain ⟨f, t, ht, h⟩ := h
 rw [List.Nodup, List.pairwise_iff_getElem]
 intro i j hi hj hij e
 obtain ⟨_, _, a1⟩ := h i ns[i] (List.getElem?_eq_getElem hi)
 obtain ⟨_, _, a2⟩ := h j ns[j] (List.getElem?_eq_getElem hj)
 rw [e, a2] at a1
 have := Option.some.inj a1
 clear a1 a2 h e
 simp only [List.mem_cons, List.not_mem_nil, or_false] at ht
 rcases ht with rfl | rfl | rfl | rfl | rfl | rfl <;> omega
section
variable {m0 m : Sto} {p q c b : Nat}
theorem nm51_run {many : Nat} (hp : P3 m0 p q c m) (hc : c + 2 < 2 ^ 40) (h1 : many <= 12) :
  Run (gLawNames2 [.ob p, .int many] m) fun a m' => ∃ zs : List Str, a = .lst (zs.map D.str) /\ zs.length = many /\ NmF zs /\ P3 m p q (c + 2) m' := by
 unfold gLawNames2 gLawNames20; walk_at "w"; refine Run.bind (dr6_run hp (by omega) (by decide) (by decide)) ?_; rintro _ m1 ⟨f, rfl, f0, f1, hp1⟩
 obtain ⟨f, rfl⟩ : ∃ f' : Nat, f = f' := ⟨f.toNat, by omega⟩
 walk_at "w"; rw [lst_of (by simp)]; walk_at "w"; refine Run.bind (of6_run hp1 (by omega) (by simp) (by simp)) ?_; rintro v m2 ⟨hv, hp2⟩
 obtain ⟨s, rfl, hsm, s1⟩ : ∃ s : Nat, v = .int s /\ s ∈ [1, 3, 5, 7, 9, 11] /\ s <= 11 := by
  simp only [List.mem_cons, List.not_mem_nil, or_false] at hv
  rcases hv with rfl | rfl | rfl | rfl | rfl | rfl
  ·exact ⟨1, rfl, by decide, by decide⟩
  ·exact ⟨3, rfl, by decide, by decide⟩
  ·exact ⟨5, rfl, by decide, by decide⟩
  ·exact ⟨7, rfl, by decide, by decide⟩
  ·exact ⟨9, rfl, by decide, by decide⟩
  ·exact ⟨11, rfl, by decide, by decide⟩
 walk_at "w"
 refine Run.bind (aComp_run (ds := intsD 0 many) (fun _ m' => m' = m2) (fun i _ x => ∃ z : Str, x = .str z /\ nmB z = true /\ z.length <= 8 /\ z.cps.toList.head? = some (97 + (f + s * i) % 26)) (by
  walk_at "w"
  rw [rng_ok (by omega) (by omega), Int.toNat_natCast]) (by rw [len_ints]; omega) rfl ?_) ?_
 ·rintro i d m3 hd rfl
  have := at_ints hd
  subst this
  have hi := (List.getElem?_eq_some_iff.mp hd).1
  rw [len_ints] at hi
  walk_at "w"; rw [mul_j ⟨by omega, by omega⟩]; walk_at "w"; rw [mod_i (by decide)]; walk_at "w"; rw [show ((f : Int) + (s : Int) * (i : Nat)) % 26 = (((f + s * i) % 26 : Nat) : Int) by push_cast; rfl, alpha (Nat.mod_lt _ (by decide))]; walk_at "w"; rw [mul_j ⟨by omega, by omega⟩]; walk_at "w"; rw [mod_i (by decide)]; walk_at "w"; rw [show (1 : Int) + ((f : Int) + (i : Nat) * (i : Nat)) % 8 = ((1 + (f + i * i) % 8 : Nat) : Int) by push_cast; rfl, mul_s rfl (by omega) (by omega)]
  exact Run.ok ⟨⟨_, rfl, nm_mul (Nat.mod_lt _ (by decide)) (by omega) (by omega)⟩, rfl⟩
 ·rintro xs m3 ⟨hlen, hP, rfl⟩
  rw [len_ints] at hlen
  obtain ⟨zs, rfl, hz⟩ := lift D.str (fun i z => nmB z = true /\ z.length <= 8 /\ z.cps.toList.head? = some (97 + (f + s * i) % 26)) xs 0 fun i x hx => by
   have hi := (List.getElem?_eq_some_iff.mp hx).1
   have hi2 : i < many := by omega
   obtain ⟨z, rfl, hz⟩ := hP i (.int (0 + (i : Nat))) x (by simp [intsD, hi2]) hx
   exact ⟨z, rfl, by rw [Nat.zero_add]; exact hz⟩
  walk_at "w"; exact Run.ok ⟨zs, rfl, by simpa using hlen, ⟨f, s, hsm, fun i x hx => by have := hz i x hx; rwa [Nat.zero_add] at this⟩, hp1.via hp2⟩
theorem kd51_run {many : Nat} (hp : P3 m0 p q c m) (hc : c + 20 < 2 ^ 40) (b0 : 0 < b) (hb : b <= 40) (hm : many <= 12) :
  Run (gLawKind4 [.ob p, .int many, .int b] m) fun a m' => ∃ kd : Kd, a = kd.e /\ kd.Ok2 many b /\ P3 m p q (c + 20) m' := by
 have hB := p2 b
 have hB2 := p2lt hb
 have hb2 : (2 : Int) <= 2 ^ b := by
  have := Nat.pow_le_pow_right (n := 2) (by decide) b0
  exact_mod_cast this
 unfold gLawKind4 gLawKind40; walk_at "w"; rw [shl_1 (by omega)]; walk_at "w"; refine Run.bind (dr6_run hp (by omega) (by decide) (by decide)) ?_; rintro _ m1 ⟨x, rfl, x0, x1, hp1⟩; walk_at "w"
 by_cases c1 : x < 3
 ·rw [if_pos c1]; walk_at "w"; refine Run.bind (va6_run hp1 (by omega) hb) ?_; rintro _ m2 ⟨v, rfl, v0, v1, hp2⟩; walk_at "w"; refine Run.bind (dr6_run hp2 (by omega) (by decide) (by decide)) ?_; rintro _ m3 ⟨w, rfl, w0, w1, hp3⟩
  obtain ⟨u, hu, e⟩ := ix_any (m := m3) (xs := [.int 1, .int v]) w0 w1
  walk_at "w"; rw [e]
  obtain ⟨n, rfl⟩ : ∃ n : Int, u = .int n := by
   simp only [List.mem_cons, List.not_mem_nil, or_false] at hu
   rcases hu with rfl | rfl <;> exact ⟨_, rfl⟩
  walk_at "w"; rw [mod_i hB]; walk_at "w"; exact Run.ok ⟨.step (n % 2 ^ b), rfl, ⟨md2 _ _, fun _ h => by cases h⟩, (hp1.via (hp2.via hp3)).more (by omega)⟩
 rw [if_neg c1]; walk_at "w"
 by_cases c2 : x = 3
 ·rw [if_pos c2]; walk_at "w"; refine Run.bind (va6_run hp1 (by omega) hb) ?_; rintro _ m2 ⟨v, rfl, v0, v1, hp2⟩; walk_at "w"; refine Run.bind (dr6_run hp2 (by omega) (by decide) (by decide)) ?_; rintro _ m3 ⟨w, rfl, w0, w1, hp3⟩; walk_at "w"; rw [mul_j (by decide)]; walk_at "w"
  have hk : Run (aComp 1 (aRng rng1 (zab (eFn min2F (zab (zag 3) (zab (eOp addD (eC (.int 2)) (eFn zai (zab (zag 0) (zab (eC (.int 11)) zaj)))) zaj))) zaj)) (gN 7) tYesM (eOp modD (eOp addD (zag 5) (eOp mulD (zag 6) (zag 7))) (zag 3)) [some (.ob p), some (.int many), some (.int b), some (.int (2 ^ b)), some (.int x), some (.int v), some (.int (1 + 2 * w))] m3) fun xs m' => ∃ row : List Int, xs = row.map D.int /\ 2 <= row.length /\ row.Nodup /\ row.length <= 12 /\ (∀ v ∈ row, 0 <= v /\ v < 2 ^ b) /\ P3 m3 p q (c + 7) m' := by
   unfold aComp; walk_at "w"; refine Run.bind (dr6_run hp3 (by omega) (by decide) (by decide)) ?_; rintro _ m4 ⟨y, rfl, y0, y1, hp4⟩; walk_at "w"
   obtain ⟨N, hN, N0, N1, N2⟩ : ∃ N : Nat, (if 2 + y < (2 : Int) ^ b then 2 + y else 2 ^ b) = N /\ 2 <= N /\ N <= 12 /\ (N : Int) <= 2 ^ b := ⟨(if 2 + y < (2 : Int) ^ b then 2 + y else 2 ^ b).toNat, by split <;> omega, by split <;> omega, by split <;> omega, by split <;> omega⟩
   rw [hN, rng_ok (by omega) (by omega), Int.toNat_natCast]; walk_at "w"; rw [if_pos (by rw [len_ints]; omega)]
   refine Run.mono (comp_run (g := gN 7) (ρ := [some (.ob p), some (.int many), some (.int b), some (.int (2 ^ b)), some (.int x), some (.int v), some (.int (1 + 2 * w))] ++ List.replicate 1 none) (fun _ m' => m' = m4) (fun i _ x => ∃ u : Int, x = .int u /\ 0 <= u /\ u < 2 ^ b /\ u = (v + (2 * w + 1) * (i : Nat)) % 2 ^ b) (intsD 0 N) 0 rfl ?_) ?_
   ·rintro i d m5 hd rfl
    have := at_ints hd
    subst this
    show Run (Res.bind (gN 7 _ [some (.ob p), some (.int many), some (.int b), some (.int (2 ^ b)), some (.int x), some (.int v), some (.int (1 + 2 * w)), none] m5) _) _
    walk_at "w"; rw [mul_j ⟨by omega, by omega⟩]; walk_at "w"; rw [mod_i hB]; exact Run.ok ⟨⟨_, rfl, (md2 _ _).1, (md2 _ _).2, by rw [Int.add_comm 1 (2 * w), Nat.zero_add]⟩, rfl⟩
   ·rintro xs m5 ⟨hlen, hP, rfl⟩
    rw [len_ints] at hlen
    obtain ⟨row, rfl, hrow⟩ := lift D.int (fun i u => 0 <= u /\ u < 2 ^ b /\ u = (v + (2 * w + 1) * (i : Nat)) % 2 ^ b) xs 0 fun i x hx => by
     have hi := (List.getElem?_eq_some_iff.mp hx).1
     have hi2 : i < N := by omega
     exact hP i (.int (0 + (i : Nat))) x (by simp [intsD, hi2]) hx
    rw [List.length_map] at hlen
    refine ⟨row, rfl, by omega, ?_, by omega, fun v hv => ?_, hp4.more (by omega)⟩
    ·rw [List.Nodup, List.pairwise_iff_getElem]
     intro i j hi hj hij e
     have e1 := (hrow i row[i] (List.getElem?_eq_getElem hi)).2.2
     have e2 := (hrow j row[j] (List.getElem?_eq_getElem hj)).2.2
     rw [e, e2, Nat.zero_add, Nat.zero_add] at e1
     have := row_inj (by omega) (by omega) e1
     omega
    ·obtain ⟨i, hi⟩ := List.mem_iff_getElem?.mp hv
     exact ⟨(hrow i v hi).1, (hrow i v hi).2.1⟩
  refine Run.bind hk ?_; rintro _ m4 ⟨row, rfl, r0, rn, r1, r2, hp4⟩; walk_at "w"; exact Run.ok ⟨.turn row, rfl, ⟨⟨fun z => by rw [z] at r0; simp at r0, r1, r2⟩, fun row' h => by cases h; exact ⟨r0, rn⟩⟩, (hp1.via (hp2.via (hp3.via hp4))).more (by omega)⟩
 rw [if_neg c2]; walk_at "w"
 have last : Run (Res.bind ((sRet (eOp ixD (eFn gLst (zab (eFn gTup (zab (eC (.str "still")) zaj)) (zab (eFn gTup (zab (eC (.str "drawn")) zaj)) zaj))) (eFn zai (zab (zag 0) (zab (eC (.int 2)) zaj))))) [some (.ob p), some (.int many), some (.int b), some (.int (2 ^ b)), some (.int x), none, none] m1) finF) fun a m' => ∃ kd : Kd, a = kd.e /\ kd.Ok2 many b /\ P3 m p q (c + 20) m' := by
  walk_at "w"; refine Run.bind (dr6_run hp1 (by omega) (by decide) (by decide)) ?_; rintro _ m2 ⟨w, rfl, w0, w1, hp2⟩
  obtain ⟨u, hu, e⟩ := ix_any (m := m2) (xs := [Kd.still.e, Kd.drawn.e]) w0 w1
  simp only [Kd.e] at e
  walk_at "w"; rw [e]
  simp only [List.mem_cons, List.not_mem_nil, or_false] at hu
  walk_at "w"
  rcases hu with rfl | rfl
  ·exact Run.ok ⟨.still, rfl, ⟨trivial, fun _ h => by cases h⟩, (hp1.via hp2).more (by omega)⟩
  ·exact Run.ok ⟨.drawn, rfl, ⟨trivial, fun _ h => by cases h⟩, (hp1.via hp2).more (by omega)⟩
 by_cases c3 : x < 6
 ·rw [if_pos c3]; walk_at "w"
  by_cases c4 : (0 : Int) < many
  ·rw [if_pos c4]; walk_at "w"; refine Run.bind (dr6_run hp1 (by omega) c4 (by omega)) ?_; rintro _ m2 ⟨j, rfl, j0, j1, hp2⟩; walk_at "w"; rw [neg_1]; walk_at "w"; refine Run.bind (dr6_run hp2 (by omega) (by decide) (by decide)) ?_; rintro _ m3 ⟨y, rfl, y0, y1, hp3⟩; walk_at "w"; refine Run.bind (dr6_run hp3 (by omega) (by decide) (by decide)) ?_; rintro _ m4 ⟨z, rfl, z0, z1, hp4⟩
   obtain ⟨u, hu, e⟩ := ix_any (m := m4) (xs := [.int 1, .int (-1), .int (y - 99)]) z0 z1
   walk_at "w"; rw [e]
   obtain ⟨n, rfl, n0, n1⟩ : ∃ n : Int, u = .int n /\ -99 <= n /\ n <= 99 := by
    simp only [List.mem_cons, List.not_mem_nil, or_false] at hu
    rcases hu with rfl | rfl | rfl <;> exact ⟨_, rfl, by omega, by omega⟩
   walk_at "w"
   obtain ⟨j, rfl⟩ : ∃ j' : Nat, j = j' := ⟨j.toNat, by omega⟩
   exact Run.ok ⟨.wth j n, rfl, ⟨by simp only [Kd.Ok]; omega, fun _ h => by cases h⟩, (hp1.via (hp2.via (hp3.via hp4))).more (by omega)⟩
  ·rw [if_neg c4]
   have := last
   walk_at "w"
   simpa only [ret_at, op_at, kop_at, fn_at, aCons_at, kcons_at, kcons2_at, aNil_at, eC_at, var_0, tup_1, lst_2, bind_ok, bind_then, then_at] using this
 ·rw [if_neg c3]
  have := last
  walk_at "w"
  simpa only [ret_at, op_at, kop_at, fn_at, aCons_at, kcons_at, kcons2_at, aNil_at, eC_at, var_0, tup_1, lst_2, bind_ok, bind_then, then_at] using this
theorem app51 {fs : List Fd} {f : Fd} (h : ∀ (i : Nat) (f : Fd), fs[i]? = some f -> 0 < f.b /\ f.b <= 40 /\ f.kd.Ok2 i f.b) (h1 : 0 < f.b) (h2 : f.b <= 40) (h3 : f.kd.Ok2 fs.length f.b) : ∀ (i : Nat) (g : Fd), (fs ++ [f])[i]? = some g -> 0 < g.b /\ g.b <= 40 /\ g.kd.Ok2 i g.b := fun i g hg => by
 rcases Nat.lt_trichotomy i fs.length with hi | hi | hi
 ·rw [List.getElem?_append_left hi] at hg; exact h i g hg
 ·subst hi
  rw [List.getElem?_append_right (Nat.le_refl _)] at hg
  simp at hg
  subst hg
  exact ⟨h1, h2, h3⟩
 ·rw [List.getElem?_eq_none (by rw [List.length_append]; simp; omega)] at hg
  cases hg
theorem sh51_run (hp : P3 m0 p q c m) (hc : c + 400 < 2 ^ 40) :
  Run (gLawShape5 [.ob p] m) fun a m' => ∃ (fs : List Fd) (n : Int), a = shD fs n /\ 0 < n /\ n <= 1000000 /\ 0 < fs.length /\ fs.length <= 12 /\ ShG fs /\ P3 m p q (c + 400) m' := by
 unfold gLawShape5 gLawShape50; walk_at "w"; rw [new_0]; walk_at "w"
 have hpA : P3 m p q c (m ++ [.lst []]) := hp.re.app
 have hr : (m ++ [MO.lst []])[m.length]? = some (.lst []) := by simp
 have hlt := hp.lt
 have hrp : m.length ≠ p := by omega
 have hrq : m.length ≠ q := by omega
 have hr0 : m.length <= m.length := Nat.le_refl _
 have go : ∀ {r : Nat} {mA : Sto}, P3 m p q c mA -> mA[r]? = some (.lst []) -> r ≠ p -> r ≠ q -> m.length <= r -> Run (Res.bind ((sSeq (sFor (aIt (eFn gLawNames2 (zab (zag 0) (zab (eFn gLawSize (zab (zag 0) (zab (eC (.int 3)) (zab (eC (.int 12)) zaj)))) zaj)))) (gN 2)
 (sSeq (sAsg (eOp ixD (eFn gLst (zab (eOp addD (eC (.int 1)) (eFn zai (zab (zag 0) (zab (eC (.int 8)) zaj)))) (zab (eOp addD (eC (.int 1)) (eFn zai (zab (zag 0) (zab (eC (.int 8)) zaj)))) (zab (eC (.int 16)) (zab (eOp addD (eC (.int 1)) (eFn zai (zab (zag 0) (zab (eC (.int 40)) zaj)))) (zab (eC (.int 40)) zaj)))))) (eFn zai (zab (zag 0) (zab (eC (.int 5)) zaj)))) (gN 3))
 (sDrop (eMeth isLst appendM (zag 1) (zab (eFn gTup (zab (zag 2) (zab (zag 3) (zab (eFn gLawKind4 (zab (zag 0) (zab (eFn lenF (zab (zag 1) zaj)) (zab (zag 3) zaj)))) zaj)))) zaj)))))
 (sRet (eFn gTup (zab (eFn tupF (zab (zag 1) zaj)) (zab (eOp ixD (eFn gLst (zab (eC (.int 251)) (zab (eC (.int 1)) (zab (eC (.int 2)) (zab (eC (.int 16)) (zab (eOp powD (eC (.int 10)) (eC (.int 6))) (zab (eOp addD (eC (.int 1)) (eFn zai (zab (zag 0) (zab (eOp powD (eC (.int 10)) (eC (.int 6))) zaj)))) zaj))))))) (eFn zai (zab (zag 0) (zab (eC (.int 6)) zaj)))) zaj))))) [some (.ob p), some (.ob r), none, none] mA) finF) fun a m' => ∃ (fs : List Fd) (n : Int), a = shD fs n /\ 0 < n /\ n <= 1000000 /\ 0 < fs.length /\ fs.length <= 12 /\ ShG fs /\ P3 m p q (c + 400) m' := by
  intro r mA hpA hr hrp hrq hr0
  walk_at "w"; refine Run.bind (sz6_run (few := 3) (most := 12) hpA (by omega) (by decide) (by decide) (by decide)) ?_; rintro _ m1 ⟨N, rfl, N0, N1, hp1⟩; walk_at "w"; refine Run.bind (nm51_run hp1 (by omega) N1) ?_; rintro _ m2 ⟨zs, rfl, zl, hz, hp2⟩
  have k2 := hp2.kept (hp1.kept hr hrp hrq) hrp hrq
  have q2 : P3 m p q (c + 4) m2 := hpA.via (hp1.via hp2)
  walk_at "w"; refine Run.bind (loop_run (fun k ρ m' => ∃ (fs : List Fd) (x2 x3 : Option D), ρ = [some (.ob p), some (.ob r), x2, x3] /\ m'[r]? = some (.lst (fs.map Fd.e)) /\ fs.length = k /\ fs.map Fd.nm = zs.take k /\ (∀ (i : Nat) (f : Fd), fs[i]? = some f -> 0 < f.b /\ f.b <= 40 /\ f.kd.Ok2 i f.b) /\ P3 m p q (c + 4 + 30 * k) m') _ 0 ⟨[], _, _, rfl, k2, rfl, by simp, fun i f h => by simp at h, q2⟩ ?_) ?_
  ·rintro i d ρ m3 hd ⟨fs, x2, x3, rfl, g1, g2, gn, g3, g4⟩
   have hi : i < N := by have := (List.getElem?_eq_some_iff.mp hd).1; rw [List.length_map, zl] at this; exact this
   rw [List.getElem?_map] at hd
   obtain ⟨z, hzi, rfl⟩ := Option.map_eq_some_iff.mp hd
   rw [Nat.zero_add] at g2 g4 gn ⊢
   walk_at "w"; refine Run.bind (dr6_run g4 (by omega) (by decide) (by decide)) ?_; rintro _ m4 ⟨a1, rfl, a10, a11, hp4⟩; walk_at "w"; refine Run.bind (dr6_run hp4 (by omega) (by decide) (by decide)) ?_; rintro _ m5 ⟨a2, rfl, a20, a21, hp5⟩; walk_at "w"; refine Run.bind (dr6_run hp5 (by omega) (by decide) (by decide)) ?_; rintro _ m6 ⟨a3, rfl, a30, a31, hp6⟩; walk_at "w"; refine Run.bind (dr6_run hp6 (by omega) (by decide) (by decide)) ?_
   rintro _ m7 ⟨a4, rfl, a40, a41, hp7⟩
   obtain ⟨u, hu, e⟩ := ix_any (m := m7) (xs := [.int (1 + a1), .int (1 + a2), .int 16, .int (1 + a3), .int 40]) a40 a41
   walk_at "w"; rw [e]
   obtain ⟨b, rfl, b0, b1⟩ : ∃ b : Nat, u = .int b /\ 0 < b /\ b <= 40 := by
    simp only [List.mem_cons, List.not_mem_nil, or_false] at hu
    rcases hu with rfl | rfl | rfl | rfl | rfl
    ·exact ⟨(1 + a1).toNat, by rw [Int.toNat_of_nonneg (by omega)], by omega, by omega⟩
    ·exact ⟨(1 + a2).toNat, by rw [Int.toNat_of_nonneg (by omega)], by omega, by omega⟩
    ·exact ⟨16, rfl, by decide, by decide⟩
    ·exact ⟨(1 + a3).toNat, by rw [Int.toNat_of_nonneg (by omega)], by omega, by omega⟩
    ·exact ⟨40, rfl, by decide, by decide⟩
   have k7 := hp7.kept (hp6.kept (hp5.kept (hp4.kept g1 hrp hrq) hrp hrq) hrp hrq) hrp hrq
   walk_at "w"; rw [if_pos (is_lst k7)]; walk_at "w"; rw [len_ob k7]; walk_at "w"; rw [List.length_map]; refine Run.bind (kd51_run hp7 (by omega) b0 b1 (by omega)) ?_; rintro _ m8 ⟨kd, rfl, hkd, hp8⟩
   have k8 := hp8.kept k7 hrp hrq
   walk_at "w"; rw [app_ok k8 (by rw [List.length_map]; exact small_lt (by omega))]; walk_at "w"
   refine Run.ok ⟨_, rfl, fs ++ [⟨z, b, kd⟩], _, _, rfl, by rw [set_get k8, List.map_append]; rfl, by simp [g2], by rw [List.map_append, gn, List.take_succ, hzi]; rfl, app51 g3 b0 b1 hkd, ((g4.via (hp4.via (hp5.via (hp6.via (hp7.via hp8))))).set hr0 hrp hrq).more (by omega)⟩
  ·rintro _ m3 ⟨ρ, rfl, fs, x2, x3, rfl, g1, g2, gn, g3, g4⟩
   rw [Nat.zero_add, List.length_map, zl] at g2 g4 gn
   rw [List.take_of_length_le (by omega)] at gn
   walk_at "w"; rw [show tupF [.ob r] m3 = .ok (.tup (fs.map Fd.e)) m3 by simp only [tupF, g1]]; walk_at "w"; rw [pow106]; walk_at "w"; rw [pow106]; walk_at "w"; refine Run.bind (dr6_run g4 (by omega) (by decide) (by decide)) ?_; rintro _ m4 ⟨a1, rfl, a10, a11, hp4⟩; walk_at "w"; rw [lst_of (by simp)]; walk_at "w"; refine Run.bind (dr6_run hp4 (by omega) (by decide) (by decide)) ?_; rintro _ m5 ⟨a2, rfl, a20, a21, hp5⟩
   obtain ⟨u, hu, e⟩ := ix_any (m := m5) (xs := [.int 251, .int 1, .int 2, .int 16, .int 1000000, .int (1 + a1)]) a20 a21
   walk_at "w"; rw [e]
   obtain ⟨n, rfl, n0, n1⟩ : ∃ n : Int, u = .int n /\ 0 < n /\ n <= 1000000 := by
    simp only [List.mem_cons, List.not_mem_nil, or_false] at hu
    rcases hu with rfl | rfl | rfl | rfl | rfl | rfl <;> exact ⟨_, rfl, by omega, by omega⟩
   walk_at "w"; exact Run.ok ⟨fs, n, rfl, n0, n1, by omega, by omega, ⟨g3, fun x hx => by rw [gn] at hx; obtain ⟨f, s, _, h⟩ := hz; obtain ⟨i, hi⟩ := List.mem_iff_getElem?.mp hx; exact ⟨(h i x hi).1, (h i x hi).2.1⟩, by rw [gn]; exact hz.nodup (by omega)⟩, (g4.via (hp4.via hp5)).more (by omega)⟩
 have := go hpA hr hrp hrq hr0
 walk_at "w"
 simpa only [seq_at, for_at, aIt_at, fn_at, aCons_at, kcons_at, kcons2_at, aNil_at, eC_at, var_0, var_S, bind_ok, bind_then, then_at] using this
end
section
variable {m0 m : Sto} {p q c b : Nat}
theorem rd51_run (hp : P3 m0 p q c m) (hc : c + 20 < 2 ^ 40) : Run (gLawRoad2 [.ob p] m) fun x m' => ∃ rd : Rd4, x = rd.e /\ RdOk rd /\ P3 m p q (c + 20) m' := by
 unfold gLawRoad2 gLawRoad20; walk_at "w"; refine Run.bind (dr6_run hp (by omega) (by decide) (by decide)) ?_; rintro _ m1 ⟨a1, rfl, a10, a11, hp1⟩; walk_at "w"; refine Run.bind (dr6_run hp1 (by omega) (by decide) (by decide)) ?_; rintro _ m2 ⟨a2, rfl, a20, a21, hp2⟩; walk_at "w"; refine Run.bind (dr6_run hp2 (by omega) (by decide) (by decide)) ?_; rintro _ m3 ⟨a3, rfl, a30, a31, hp3⟩
 obtain ⟨u, hu, e⟩ := ix_any (m := m3) (xs := [.int 0, .int 1, .int a1, .int a2]) a30 a31
 walk_at "w"; rw [e]
 obtain ⟨s, rfl, s0, s1⟩ : ∃ s : Int, u = .int s /\ 0 <= s /\ s <= 39 := by
  simp only [List.mem_cons, List.not_mem_nil, or_false] at hu
  rcases hu with rfl | rfl | rfl | rfl <;> exact ⟨_, rfl, by omega, by omega⟩
 walk_at "w"; refine Run.bind (dr6_run hp3 (by omega) (by decide) (by decide)) ?_; rintro _ m4 ⟨b1, rfl, b10, b11, hp4⟩; walk_at "w"; refine Run.bind (dr6_run hp4 (by omega) (by decide) (by decide)) ?_; rintro _ m5 ⟨b2, rfl, b20, b21, hp5⟩; walk_at "w"; refine Run.bind (dr6_run hp5 (by omega) (by decide) (by decide)) ?_; rintro _ m6 ⟨b3, rfl, b30, b31, hp6⟩
 obtain ⟨v, hv, e⟩ := ix_any (m := m6) (xs := [.int b1, .int 12, .int b2]) b30 b31
 walk_at "w"; rw [e]
 obtain ⟨g, rfl, g0⟩ : ∃ g : Int, v = .int g /\ 0 <= g := by
  simp only [List.mem_cons, List.not_mem_nil, or_false] at hv
  rcases hv with rfl | rfl | rfl <;> exact ⟨_, rfl, by omega⟩
 walk_at "w"; refine Run.bind (dr6_run hp6 (by omega) (by decide) (by decide)) ?_; rintro _ m7 ⟨d1, rfl, d10, d11, hp7⟩; walk_at "w"; refine Run.bind (dr6_run hp7 (by omega) (by decide) (by decide)) ?_; rintro _ m8 ⟨d2, rfl, d20, d21, hp8⟩; walk_at "w"; refine Run.bind (dr6_run hp8 (by omega) (by decide) (by decide)) ?_; rintro _ m9 ⟨d3, rfl, d30, d31, hp9⟩
 obtain ⟨w, hw, e⟩ := ix_any (m := m9) (xs := [.int 0, .int 1, .int d1, .int d2]) d30 d31
 walk_at "w"; rw [e]
 obtain ⟨l, rfl, l0, l1⟩ : ∃ l : Int, w = .int l /\ 0 <= l /\ l <= 20 := by
  simp only [List.mem_cons, List.not_mem_nil, or_false] at hw
  rcases hw with rfl | rfl | rfl | rfl <;> exact ⟨_, rfl, by omega, by omega⟩
 walk_at "w"; refine Run.bind (dr6_run hp9 (by omega) (by decide) (by decide)) ?_; rintro _ m10 ⟨e1, rfl, e10, e11, hp10⟩; walk_at "w"; refine Run.bind (dr6_run hp10 (by omega) (by decide) (by decide)) ?_; rintro _ m11 ⟨e2, rfl, e20, e21, hp11⟩; walk_at "w"; refine Run.bind (dr6_run hp11 (by omega) (by decide) (by decide)) ?_; rintro _ m12 ⟨e3, rfl, e30, e31, hp12⟩
 obtain ⟨x, hx, e⟩ := ix_any (m := m12) (xs := [.int 0, .int 0, .int 0, .int (2 + e1), .int e2]) e30 e31
 walk_at "w"; rw [e]
 obtain ⟨n, rfl, n0, n1⟩ : ∃ n : Int, x = .int n /\ 0 <= n /\ n <= 400 := by
  simp only [List.mem_cons, List.not_mem_nil, or_false] at hx
  rcases hx with rfl | rfl | rfl | rfl | rfl <;> exact ⟨_, rfl, by omega, by omega⟩
 walk_at "w"; rw [tup_of (by simp)]; walk_at "w"
 refine Run.ok ⟨⟨s.toNat, (if s + g < 400 then s + g else 400).toNat, l.toNat, n.toNat⟩, ?_, ?_, (hp1.via (hp2.via (hp3.via (hp4.via (hp5.via (hp6.via (hp7.via (hp8.via (hp9.via (hp10.via (hp11.via hp12))))))))))).more (by omega)⟩
 have hg : 0 <= (if s + g < 400 then s + g else 400) := by split <;> omega
 ·simp only [Rd4.e, Int.toNat_of_nonneg s0, Int.toNat_of_nonneg hg, Int.toNat_of_nonneg l0, Int.toNat_of_nonneg n0]
 ·refine ⟨?_, ?_, ?_, ?_, ?_⟩
  ·show s.toNat <= 39; omega
  ·show s.toNat <= (if s + g < 400 then s + g else 400).toNat; split <;> omega
  ·show (if s + g < 400 then s + g else 400).toNat <= 400; split <;> omega
  ·show l.toNat <= 20; omega
  ·show n.toNat <= 400; omega
theorem pt51_run (hp : P3 m0 p q c m) (hc : c + 2000 < 2 ^ 40) : Run (gLawPact2 [.ob p] m) fun x m' => ∃ pt : Pt, x = pt.e /\ PtOk pt /\ P3 m p q (c + 2000) m' := by
 unfold gLawPact2 gLawPact20; walk_at "w"; refine Run.bind (sh51_run hp (by omega)) ?_; rintro _ m1 ⟨fs, n, rfl, n0, n1, f0, f1, hs, hp1⟩; walk_at "w"; rw [lst_of (by simp)]; walk_at "w"; refine Run.bind (dr6_run hp1 (by omega) (by decide) (by decide)) ?_; rintro _ m2 ⟨x, rfl, x0, x1, hp2⟩
 obtain ⟨u, hu, e⟩ := ix_any (m := m2) (xs := [.int 1, .int 2, .int 3, .int 1, .int 0, .int 12]) x0 x1
 walk_at "w"; rw [e]
 obtain ⟨N, rfl, N1⟩ : ∃ N : Nat, u = .int N /\ N <= 12 := by
  simp only [List.mem_cons, List.not_mem_nil, or_false] at hu
  rcases hu with rfl | rfl | rfl | rfl | rfl | rfl
  ·exact ⟨1, rfl, by decide⟩
  ·exact ⟨2, rfl, by decide⟩
  ·exact ⟨3, rfl, by decide⟩
  ·exact ⟨1, rfl, by decide⟩
  ·exact ⟨0, rfl, by decide⟩
  ·exact ⟨12, rfl, by decide⟩
 walk_at "w"
 refine Run.bind (aComp_run (ds := intsD 0 N) (fun k m' => P3 m2 p q (c + 401 + 60 * k) m') (fun _ _ x => ∃ f : Fm, x = f.e /\ FmOk fs f) (by
  walk_at "w"
  rw [rng_ok (by omega) (by omega), Int.toNat_natCast]) (by rw [len_ints]; omega) hp2.re ?_) ?_
 ·intro j d m4 hd4 h4
  have hj := (List.getElem?_eq_some_iff.mp hd4).1
  rw [len_ints] at hj
  walk_at "w"; rw [show ixD (shD fs n) (.int 0) m4 = .ok (.tup (fs.map Fd.e)) m4 from ix_t0 _ _]; walk_at "w"
  refine Run.mono (fo6_run h4 (by omega) hs.ok f1) ?_
  rintro _ m5 ⟨f, rfl, hf, h5⟩
  exact ⟨⟨f, rfl, hf⟩, (h4.via h5).more (by omega)⟩
 ·rintro xs m3 ⟨hlen, hP, hp3⟩
  rw [len_ints] at hlen hp3
  obtain ⟨F, rfl, hF⟩ := lift Fm.e (fun _ f => FmOk fs f) xs 0 fun i x hx => by
   have hi := (List.getElem?_eq_some_iff.mp hx).1
   have hi2 : i < N := by omega
   exact hP i (.int (0 + (i : Nat))) x (by simp [intsD, hi2]) hx
  rw [List.length_map] at hlen
  walk_at "w"; refine Run.bind (dr6_run hp3 (by omega) (by decide) (by decide)) ?_; rintro _ m4 ⟨y, rfl, y0, y1, hp4⟩; walk_at "w"; refine Run.bind (dr6_run hp4 (by omega) (by decide) (by decide)) ?_; rintro _ m5 ⟨z, rfl, z0, z1, hp5⟩; walk_at "w"; refine Run.bind (dr6_run hp5 (by omega) (by decide) (by decide)) ?_; rintro _ m6 ⟨w, rfl, w0, w1, hp6⟩; walk_at "w"; rw [int_is6]; walk_at "w"
  obtain ⟨v, hv, e⟩ := ix_any (m := m6) (xs := [.int (6 + y), .int (1 + z)]) (d := if w = 0 then 1 else 0) (by split <;> omega) (by split <;> simp)
  rw [e]
  obtain ⟨W, rfl, W0, W1⟩ : ∃ W : Nat, v = .int W /\ 0 < W /\ W <= 40 := by
   simp only [List.mem_cons, List.not_mem_nil, or_false] at hv
   rcases hv with rfl | rfl
   ·exact ⟨(6 + y).toNat, by rw [Int.toNat_of_nonneg (by omega)], by omega, by omega⟩
   ·exact ⟨(1 + z).toNat, by rw [Int.toNat_of_nonneg (by omega)], by omega, by omega⟩
  walk_at "w"; refine Run.bind (rd51_run hp6 (by omega)) ?_; rintro _ m7 ⟨rd, rfl, hrd, hp7⟩; walk_at "w"; rw [tup_of (by simp)]; walk_at "w"; exact Run.ok ⟨⟨fs, n, W, F, rd⟩, rfl, ⟨n0, n1, f0, f1, hs, W0, W1, fun f hf => by obtain ⟨i, hi⟩ := List.mem_iff_getElem?.mp hf; exact hF i f hi, by show F.length <= 12; omega, hrd⟩, (hp1.via (hp2.via (hp3.via (hp4.via (hp5.via (hp6.via hp7)))))).more (by omega)⟩
end
theorem free_cut {c : Nat} : ∀ {x y R S : List Nat}, c ∉ x -> c ∉ y -> x ++ c :: R = y ++ c :: S -> x = y /\ R = S
 | [], [], R, S, _, _, h => ⟨rfl, (List.cons.inj h).2⟩
 | [], b :: y, R, S, _, hy, h => absurd (List.cons.inj h).1 fun e => hy (by rw [e]; simp)
 | a :: x, [], R, S, hx, _, h => absurd (List.cons.inj h).1 fun e => hx (by rw [<- e]; simp)
 | a :: x, b :: y, R, S, hx, hy, h => by
  obtain ⟨e1, e2⟩ := List.cons.inj h
  obtain ⟨e3, e4⟩ := free_cut (fun z => hx (List.mem_cons_of_mem _ z)) (fun z => hy (List.mem_cons_of_mem _ z)) e2
  exact ⟨by rw [e1, e3], e4⟩
theorem join_cons (s x y : Str) (r : List Str) : Str.join s (x :: y :: r) = x ++ s ++ Str.join s (y :: r) := rfl
theorem join_L (c : Nat) (x y : Str) (r : List Str) : (Str.join ⟨#[c]⟩ (x :: y :: r)).cps.toList = x.cps.toList ++ c :: (Str.join ⟨#[c]⟩ (y :: r)).cps.toList := by
 rw [join_cons]
 show (x.cps ++ #[c] ++ (Str.join ⟨#[c]⟩ (y :: r)).cps).toList = _
 simp
theorem join_inj {c : Nat} : ∀ {A B : List Str}, A ≠ [] -> B ≠ [] -> (∀ x ∈ A, c ∉ x.cps.toList) -> (∀ x ∈ B, c ∉ x.cps.toList) -> Str.join ⟨#[c]⟩ A = Str.join ⟨#[c]⟩ B -> A = B
 | [], _, h, _, _, _, _ => absurd rfl h
 | _, [], _, h, _, _, _ => absurd rfl h
 | [x], [y], _, _, _, _, h => by rw [show x = y from h]
 | [x], y :: z :: r, _, _, hA, _, h => by
  have e := congrArg (fun s : Str => s.cps.toList) h
  simp only [join_L] at e
  exact absurd (show c ∈ x.cps.toList by rw [show x.cps.toList = _ from e]; simp) (hA x (by simp))
 | x :: z :: r, [y], _, _, _, hB, h => by
  have e := congrArg (fun s : Str => s.cps.toList) h
  simp only [join_L] at e
  exact absurd (show c ∈ y.cps.toList by rw [show y.cps.toList = _ from e.symm]; simp) (hB y (by simp))
 | x :: x2 :: r, y :: y2 :: t, _, _, hA, hB, h => by
  have e := congrArg (fun s : Str => s.cps.toList) h
  simp only [join_L] at e
  obtain ⟨e1, e2⟩ := free_cut (hA x (by simp)) (hB y (by simp)) e
  rw [str_ext e1, join_inj (A := x2 :: r) (B := y2 :: t) (by simp) (by simp) (fun x hx => hA x (List.mem_cons_of_mem _ hx)) (fun x hx => hB x (List.mem_cons_of_mem _ hx)) (str_ext e2)]
theorem txt_join (s : Str) (l : List Str) : Txt.join s l = Str.join s l := eq_of_beq (PyProof.Rows.join_plain_closes s l)
theorem split_ne (x y : Str) : Txt.split x y ≠ [] := by
 intro e
 have h : (Txt.split x y).length = 0 := by rw [e]; rfl
 unfold Txt.split at h
 split at h
 ·simp at h
 ·split at h
  ·simp at h
  ·rw [length_partsBetween] at h
   omega
theorem split_join {c : Nat} {A : List Str} (h : A ≠ []) (hA : ∀ x ∈ A, c ∉ x.cps.toList) : Txt.split (Txt.join ⟨#[c]⟩ A) ⟨#[c]⟩ = A :=
 join_inj (split_ne _ _) h (StrLaws.split_free _ c) hA (by rw [StrLaws.join_split, txt_join])
def tS (i : Int) : Str := Str.ofString (toString i)
def dg (n : Nat) : List Nat := (Nat.toDigits 10 n).map Char.toNat
theorem tS_n (n : Nat) : (tS n).cps.toList = dg n := PySem.W.KIN.signs_num n
theorem dg_all (n : Nat) : NumText.AllDigits (dg n) := by
 intro c hc
 obtain ⟨ch, hch, rfl⟩ := List.mem_map.mp hc
 exact PyProof.Rows.digit_range (Nat.isDigit_of_mem_toDigits (by decide) (by decide) hch)
theorem dg_len {n : Nat} (h : n < 10 ^ 15) : 1 <= (dg n).length /\ (dg n).length <= 15 := by
 unfold dg; rw [List.length_map]
 exact ⟨PyProof.Rows.tDigits_len_ge 10 n, PyProof.Rows.digits10_le (by decide) h⟩
theorem dg_head : ∀ n : Nat, 0 < n -> (dg n).head? ≠ some 48 := by
 intro n
 induction n using Nat.strongRecOn with
 | _ n ih =>
  intro h0
  by_cases h : n < 10
  ·unfold dg; rw [Nat.toDigits_of_lt_base h]
   have : ∀ d : Nat, d < 10 -> 0 < d -> ([Nat.digitChar d].map Char.toNat).head? ≠ some 48 := by decide
   exact this n h h0
  ·have hm : n % 10 < 10 := Nat.mod_lt n (by decide)
   have t : Nat.toDigits 10 (n / 10) ++ Nat.toDigits 10 (n % 10) = Nat.toDigits 10 (10 * (n / 10) + n % 10) := Nat.toDigits_append_toDigits (by decide) (by omega) hm
   rw [Nat.div_add_mod] at t
   have e : dg n = dg (n / 10) ++ dg (n % 10) := by unfold dg; rw [<- t, List.map_append]
   have := ih (n / 10) (by omega) (by omega)
   rw [e]
   cases hd : dg (n / 10) with
   | nil =>
    have h1 : 1 <= (dg (n / 10)).length := by unfold dg; rw [List.length_map]; exact PyProof.Rows.tDigits_len_ge 10 _
    rw [hd] at h1
    simp at h1
   | cons a r =>
    rw [hd] at this
    simpa using this
theorem tS_len {n : Nat} (h : n < 10 ^ 15) : 1 <= (tS n).length /\ (tS n).length <= 15 := by
 have e : (tS n).length = (dg n).length := by rw [<- tS_n]; exact Array.length_toList.symm
 rw [e]
 exact dg_len h
theorem tS_int (n : Nat) (h : n < 10 ^ 15) : PySem.intText? (tS n) = some (n : Int) := by
 have hl := tS_len h
 have e := PySem.intText_digits (x := tS n) (by rw [tS_n]; exact dg_all n) (by rw [tS_n]; intro z; have := (dg_len h).1; rw [z] at this; simp at this) (by omega)
 rw [e, tS_n]
 congr 2
 exact PySem.W.KIN.val_back n
theorem tS_free {c : Nat} (h : c ≠ 45 /\ (c < 48 ∨ 57 < c)) (i : Int) : c ∉ (tS i).cps.toList := PyProof.Rows.int_text_free' c h i
def dgF (d : D) : D := match d with
 | .str z => .bl (decide (48 <= z.cps.getD 0 0 /\ z.cps.getD 0 0 <= 57))
 | _ => .non
theorem ch_0 : (Str.ofString "0" : Str) = ⟨#[48]⟩ := by decide
theorem ch_9 : (Str.ofString "9" : Str) = ⟨#[57]⟩ := by decide
theorem number_read {n : Nat} {m : Sto} (h : n < 10 ^ 15) : gNumberRead [.str (tS n)] m = .ok (.int n) m := by
 have hl := tS_len h
 have hi := tS_int n h
 have ht := tS_n n
 have ha := dg_all n
 have hh := dg_head n
 generalize hx : tS n = x at hl hi ht
 apply run_eq
 unfold gNumberRead gNumberRead0; walk_at "w"; rw [len_str (Nat.le_trans hl.2 (by decide))]; walk_at "w"; rw [if_pos (show (1 : Int) <= (x.length : Nat) by omega), decide_eq_true (show ((x.length : Nat) : Int) <= 15 by omega)]; walk_at "w"
 rw [aComp_map (ds := signs x) dgF (by walk_at "w") (by simp [signs]; exact Nat.le_trans hl.2 (by decide)) (by
  intro d hd
  simp only [signs, List.mem_map] at hd
  obtain ⟨i, hi, rfl⟩ := hd
  refine ⟨_, rfl, ?_⟩
  show (eChain leD leD (eC (.str "0")) (zag 1) (eC (.str "9"))) [some (.str x), some (.str ⟨#[x.cps.getD i 0]⟩)] m = .ok (.bl (decide (48 <= x.cps.getD i 0 /\ x.cps.getD i 0 <= 57))) m
  generalize x.cps.getD i 0 = c; walk_at "w"; rw [le_ss, show ("0" : Str) = ⟨#[48]⟩ from ch_0, lt_one]; walk_at "w"
  by_cases hc : 48 <= c
  ·rw [decide_eq_false (show ¬ c < 48 by omega)]; walk_at "w"; rw [le_ss, show ("9" : Str) = ⟨#[57]⟩ from ch_9, lt_one]
   by_cases hc2 : c <= 57
   ·rw [decide_eq_false (show ¬ 57 < c by omega)]; simp [hc, hc2]
   ·rw [decide_eq_true (show 57 < c by omega)]; simp [hc2]
  ·rw [decide_eq_true (show c < 48 by omega)]; walk_at "w"
   simp [hc])]
 walk_at "w"
 have e : (signs x).map dgF = (((List.range x.cps.size).map fun i => decide (48 <= x.cps.getD i 0 /\ x.cps.getD i 0 <= 57)).map D.bl) := by
  simp only [signs, List.map_map]
  rfl
 have e2 : ((List.range x.cps.size).map fun i => decide (48 <= x.cps.getD i 0 /\ x.cps.getD i 0 <= 57)).all id = true := by
  rw [List.all_eq_true]
  intro b hb
  obtain ⟨i, hi, rfl⟩ := List.mem_map.mp hb
  have hi' : i < x.cps.size := List.mem_range.mp hi
  have := ha x.cps[i] (by rw [<- ht]; simp)
  simpa [Array.getD, hi'] using this
 rw [e, all_bls, e2]; walk_at "w"
 obtain ⟨c, r, hc⟩ : ∃ c r, dg n = c :: r := by
  have := (dg_len h).1
  cases hd : dg n with
  | nil => rw [hd] at this; simp at this
  | cons c r => exact ⟨c, r, rfl⟩
 have e3 : ixD (.str x) (.int 0) m = .ok (.str ⟨#[c]⟩) m := by
  have e : ixD (.str x) (.int 0) m = if x.length <= sizeLine then opt ((L2.atI x.cps.toList 0).map fun c => D.str ⟨#[c]⟩) m else .bad := rfl
  rw [e, if_pos (Nat.le_trans hl.2 (by decide)), ht, hc, show (0 : Int) = ((0 : Nat) : Int) from rfl, atI_nat]
  rfl
 rw [e3]; walk_at "w"
 have fin : Run (intF [.str x] m) fun a m' => a = .int n /\ m' = m := by
  have e : intF [.str x] m = .ok (.int n) m := by
   unfold intF; simp only [hi]; rw [if_pos (Nat.le_trans hl.2 (by decide))]
  rw [e]; exact Run.ok ⟨rfl, rfl⟩
 rw [show ("0" : Str) = ⟨#[48]⟩ from ch_0]
 by_cases c0 : c = 48
 ·subst c0
  have n0 : n = 0 := by
   apply Decidable.byContradiction
   intro z
   exact hh (by omega) (by rw [hc]; rfl)
  have hx0 : x = ⟨#[48]⟩ := by
   subst n0
   rw [<- hx]
   decide
  rw [if_pos rfl]; walk_at "w"; rw [decide_eq_true hx0]; walk_at "w"; refine Run.bind fin ?_; rintro _ m1 ⟨rfl, rfl⟩; walk_at "w"; exact Run.ok ⟨rfl, rfl⟩
 ·rw [if_neg (show ¬ (⟨#[c]⟩ : Str) = ⟨#[48]⟩ by intro z; exact c0 (by simpa using congrArg (fun s : Str => s.cps.toList) z))]; walk_at "w"; refine Run.bind fin ?_; rintro _ m1 ⟨rfl, rfl⟩; walk_at "w"; exact Run.ok ⟨rfl, rfl⟩
theorem tS_neg {k : Nat} (h : 0 < k) : (tS (-(k : Int))).cps.toList = 45 :: dg k := by
 obtain ⟨j, rfl⟩ : ∃ j, k = j + 1 := ⟨k - 1, by omega⟩
 unfold tS; rw [PyProof.Rows.signs_ofString]
 show (("-" ++ Nat.repr (j + 1)) : String).toList.map Char.toNat = _
 rw [String.toList_append, List.map_append, Nat.toList_repr]
 rfl
def kdW (fs : List Fd) : Kd -> List Str
 | .still => ["still"]
 | .drawn => ["drawn"]
 | .step n => ["step", tS n]
 | .turn row => "turn" :: row.map tS
 | .wth i f => ["with", ((fs[i]?).map Fd.nm).getD "", tS f]
def fdW (fs : List Fd) (f : Fd) : List Str := "field" :: f.nm :: tS f.b :: kdW fs f.kd
def wyW : Wy -> Str
 | .keep => "="
 | .whole => "*"
 | .low w b => tS w ++ "-" ++ tS b
def fmWs (f : Fm) : List Str := "form" :: tS f.a :: tS f.b :: f.wys.map wyW
def rdWs (r : Rd4) : List Str := [tS r.skips, tS r.gap, tS r.late, tS r.anew]
def ptW (p : Pt) : List (List Str) := p.fs.map (fdW p.fs) ++ ([[Str.ofString "check", tS p.n], [Str.ofString "wide", tS p.wide], Str.ofString "road" :: rdWs p.rd] : List (List Str)) ++ p.fms.map fmWs
def bl : Str := ⟨#[32]⟩
def lf : Str := ⟨#[10]⟩
theorem bl_s : (Str.ofString " " : Str) = bl := by decide
theorem lf_s : (Str.ofString "\n" : Str) = lf := by decide
def rowS (ws : List Str) : Str := Txt.join bl ws
def ptS (p : Pt) : Str := Txt.join lf ((ptW p).map rowS)
theorem slen' {n : Nat} (h : n <= 10000) : n <= sizeLine := Nat.le_trans h (by decide)
theorem tS_le {i : Int} (h : i.natAbs < 10 ^ 15) : (tS i).length <= 16 := by
 rcases Int.le_total 0 i with z | z
 ·obtain ⟨n, rfl⟩ := Int.eq_ofNat_of_zero_le z
  exact Nat.le_trans (tS_len (by simpa using h)).2 (by decide)
 ·by_cases h0 : i = 0
  ·subst h0; decide
  ·obtain ⟨k, hk⟩ : ∃ k : Nat, i = -(k : Int) := ⟨i.natAbs, by omega⟩
   subst hk
   have e : (tS (-(k : Int))).length = (tS (-(k : Int))).cps.toList.length := Array.length_toList.symm
   rw [e, tS_neg (by omega), List.length_cons]
   have := (dg_len (n := k) (by simpa using h)).2
   omega
theorem log_lt {i : Int} (h : i.natAbs < 10 ^ 15) : i.natAbs.log2 < 1920 := by
 by_cases h0 : i.natAbs = 0
 ·rw [h0]; decide
 ·exact (Nat.log2_lt h0).mpr (Nat.lt_trans h (Nat.lt_of_lt_of_le (by decide : 10 ^ 15 < 2 ^ 60) (Nat.pow_le_pow_right (by decide) (by decide))))
theorem str_i {i : Int} {m : Sto} (h : i.natAbs < 10 ^ 15) : strF [.int i] m = .ok (.str (tS i)) m := if_pos (log_lt h)
theorem str2_i {i : Int} {m : Sto} (h : i.natAbs < 10 ^ 15) : str2F [.int i] m = .ok (.str (tS i)) m := if_pos (log_lt h)
theorem fmt_i {i : Int} {m : Sto} (h : i.natAbs < 10 ^ 15) : fmtD (.int i) m = .ok (.str (tS i)) m := if_pos (log_lt h)
theorem fmt_s {z : Str} {m : Sto} (h : z.length <= sizeLine) : fmtD (.str z) m = .ok (.str z) m := if_pos h
def W1 (d : D) : Prop := (∃ i, d = .int i /\ i.natAbs < 10 ^ 15) ∨ ∃ z, d = .str z /\ z.length <= 100
def sF (d : D) : Str := match d with
 | .int i => tS i
 | .str z => z
 | _ => ""
theorem sF_ok {d : D} {m : Sto} (h : W1 d) : str2F [d] m = .ok (.str (sF d)) m /\ (sF d).length <= 100 := by
 rcases h with ⟨i, rfl, hi⟩ | ⟨z, rfl, hz⟩
 ·exact ⟨str2_i hi, Nat.le_trans (tS_le hi) (by decide)⟩
 ·exact ⟨rfl, hz⟩
theorem sum_le {ts : List Str} {B : Nat} (h : ∀ t ∈ ts, t.length <= B) : (ts.map fun t => t.length).sum <= ts.length * B := by
 induction ts with
 | nil => simp
 | cons t r ih =>
  rw [List.map_cons, List.sum_cons, List.length_cons, Nat.add_mul]
  have := h t (by simp)
  have := ih fun x hx => h x (List.mem_cons_of_mem _ hx)
  omega
theorem asStrs_s : ∀ ts : List Str, asStrs (ts.map D.str) = some ts
 | [] => rfl
 | t :: r => by rw [List.map_cons, asStrs, asStrs_s r]; rfl
theorem join_M {s : Str} {d : D} {ts : List Str} {B : Nat} {m : Sto} (hd : lOf d m = some (ts.map D.str)) (hs : s.length = 1) (h : ∀ t ∈ ts, t.length <= B) (hl : ts.length * B + ts.length <= 16777216) : joinM (.str s) [d] m = .ok (.str (Txt.join s ts)) m := by
 have hj : JoinOk s ts = true := PyProof.Rows.joinOk_of (by
  have := sum_le h
  rw [hs]
  omega)
 simp only [joinM, hd, Option.bind_some, asStrs_s]; rw [if_pos hj]
theorem showWords_ok {d0 : D} {ds : List D} {m : Sto} (h0 : d0 = .tup ds ∨ d0 = .lst ds) (hd : ∀ d ∈ ds, W1 d) (hl : ds.length <= 100) : gShowWords [d0] m = .ok (.str (rowS (ds.map sF))) m := by
 apply run_eq
 unfold gShowWords gShowWords0; walk_at "w"
 rw [aComp_map (ds := ds) (fun d => .str (sF d)) (by rcases h0 with rfl | rfl <;> walk_at "w") (by omega) (by
  intro d hd'
  refine ⟨_, rfl, ?_⟩
  show eFn str2F (zab (zag 1) zaj) [some d0, some d] m = _
  walk_at "w"
  exact (sF_ok (hd d hd')).1)]
 walk_at "w"
 rw [show (Str.ofString " " : Str) = bl from bl_s, join_M (s := bl) (ts := ds.map sF) (B := 100) (by simp only [lOf, List.map_map]; rfl) rfl (fun t ht => by
  obtain ⟨d, hd', rfl⟩ := List.mem_map.mp ht
  exact (sF_ok (m := m) (hd d hd')).2) (by rw [List.length_map]; omega)]
 walk_at "w"; exact Run.ok ⟨rfl, rfl⟩
def PL (ρ : En) (m : Sto) : List EV -> List Str -> Prop
 | [], [] => True
 | f :: fs, z :: zs => f ρ m = .ok (.str z) m /\ PL ρ m fs zs
 | _, _ => False
theorem cat_all {ρ : En} {m : Sto} : ∀ {fs : List EV} {zs : List Str} {acc : Str}, PL ρ m fs zs -> acc.length + (zs.map fun t => t.length).sum <= sizeLine -> eCat acc fs ρ m = .ok (.str (zs.foldl (· ++ ·) acc)) m
 | [], [], acc, _, h => if_pos (by simpa using h)
 | f :: fs, z :: zs, acc, hp, h => by
  obtain ⟨h1, h2⟩ := hp
  rw [List.map_cons, List.sum_cons] at h
  have hl : (acc ++ z).length = acc.length + z.length := PySem.strLen_append ..
  show (f ρ m).bind _ = _
  rw [h1]
  show (if (acc ++ z).length <= sizeLine then eCat (acc ++ z) fs ρ m else .bad) = _
  rw [if_pos (by rw [hl]; omega)]
  exact cat_all h2 (by rw [hl]; omega)
 | [], _ :: _, _, hp, _ => hp.elim
 | _ :: _, [], _, hp, _ => hp.elim
theorem app_L (a b : Str) : (a ++ b).cps.toList = a.cps.toList ++ b.cps.toList := by
 show (a.cps ++ b.cps).toList = _
 simp
theorem row_c (x : Str) {l : List Str} (h : l ≠ []) : rowS (x :: l) = x ++ bl ++ rowS l := by
 unfold rowS; rw [txt_join, txt_join]
 cases l with
 | nil => exact absurd rfl h
 | cons y r => rfl
theorem row_1 (x : Str) : rowS [x] = x := by
 unfold rowS; rw [txt_join]
 rfl
theorem lt_2b {b : Nat} {v : Int} (hb : b <= 40) (h : 0 <= v /\ v < 2 ^ b) : v.natAbs < 10 ^ 15 := by
 have := p2le hb
 have : (2 : Int) ^ 40 < 10 ^ 15 := by decide
 omega
theorem field_sp : (Str.ofString "field " : Str) = Str.ofString "field" ++ bl := by decide
theorem turn_sp : (Str.ofString " turn " : Str) = bl ++ Str.ofString "turn" ++ bl := by decide
theorem with_sp : (Str.ofString " with " : Str) = bl ++ Str.ofString "with" ++ bl := by decide
theorem cat3 (a b c : Str) : a ++ b ++ c = a ++ (b ++ c) := str_ext (by simp only [app_L, List.append_assoc])
theorem cat0 (a : Str) : Str.empty ++ a = a := str_ext (by rw [app_L]; rfl)
theorem row_le {ws : List Str} {B : Nat} (h : ∀ t ∈ ws, t.length <= B) : (rowS ws).length <= ws.length * B + ws.length := by
 unfold rowS; rw [txt_join]
 have := StrLaws.join_length_le bl ws
 have e := sum_le h
 rw [show bl.length = 1 from rfl, Nat.mul_one] at this
 omega
section
variable {fs : List Fd} {m : Sto}
theorem cat_f {F : D} {f : D} {nm : Str} {b : Nat} {k : D} (hn : nm.length <= 8) (hb : b <= 40) {z : Str} (hz : z.length <= 100) : eCat Str.empty [eC (.str "field "), eUn fmtD (zag 2), eC (.str " "), eUn fmtD (zag 3), eC (.str z)] [some F, some f, some (.str nm), some (.int b), some k] m = .ok (.str (Str.ofString "field" ++ bl ++ nm ++ bl ++ tS b ++ z)) m := by
 have hbl := tS_le (i := (b : Int)) (by omega)
 refine (cat_all (zs := ["field ", nm, " ", tS b, z]) ?_ ?_).trans ?_
 ·refine ⟨rfl, ?_, rfl, ?_, rfl, trivial⟩
  ·walk_at "w"
   exact fmt_s (Nat.le_trans hn (by decide))
  ·walk_at "w"
   exact fmt_i (by omega)
 ·simp only [List.map_cons, List.map_nil, List.sum_cons, List.sum_nil]; rw [show Str.empty.length = 0 from rfl, show (Str.ofString "field ").length = 6 by decide, show (Str.ofString " ").length = 1 by decide]
  exact slen' (by omega)
 simp only [List.foldl_cons, List.foldl_nil, field_sp, bl_s, cat0, cat3]
theorem cat_w {F : List D} {f : D} {nm : Str} {b j : Nat} {t : Int} {g : Fd} (hn : nm.length <= 8) (hb : b <= 40) (hg : g.nm.length <= 8) (ht : t.natAbs < 10 ^ 15) (hF : F[j]? = some g.e) : eCat Str.empty [eC (.str "field "), eUn fmtD (zag 2), eC (.str " "), eUn fmtD (zag 3), eC (.str " with "), eUn fmtD (eOp ixD (eOp ixD (zag 0) (eOp ixD (zag 4) (eC (.int 1)))) (eC (.int 0))), eC (.str " "), eUn fmtD (eOp ixD (zag 4) (eC (.int 2)))] [some (.tup F), some f, some (.str nm), some (.int b), some (.tup [.str "with", .int j, .int t])] m = .ok (.str (Str.ofString "field" ++ bl ++ nm ++ bl ++ tS b ++ Str.ofString " with " ++ g.nm ++ bl ++ tS t)) m := by
 have hbl := tS_le (i := (b : Int)) (by omega)
 have htl := tS_le ht
 refine (cat_all (zs := ["field ", nm, " ", tS b, " with ", g.nm, " ", tS t]) ?_ ?_).trans ?_
 ·refine ⟨rfl, ?_, rfl, ?_, rfl, ?_, rfl, ?_, trivial⟩
  ·walk_at "w"
   exact fmt_s (Nat.le_trans hn (by decide))
  ·walk_at "w"
   exact fmt_i (by omega)
  ·walk_at "w"
   rw [show ixD (.tup F) (.int (j : Nat)) m = .ok g.e m by
    show opt (L2.atI F (j : Nat)) m = _
    rw [atI_nat, hF]
    rfl]
   unfold Fd.e
   walk_at "w"
   exact fmt_s (Nat.le_trans hg (by decide))
  ·walk_at "w"
   exact fmt_i ht
 ·simp only [List.map_cons, List.map_nil, List.sum_cons, List.sum_nil]; rw [show Str.empty.length = 0 from rfl, show (Str.ofString "field ").length = 6 by decide, show (Str.ofString " ").length = 1 by decide, show (Str.ofString " with ").length = 6 by decide]
  exact slen' (by omega)
 simp only [List.foldl_cons, List.foldl_nil, field_sp, bl_s, cat0, cat3]
theorem fd_row (nm : Str) (b : Nat) {ws : List Str} (h : ws ≠ []) : rowS ("field" :: nm :: tS b :: ws) = Str.ofString "field" ++ bl ++ nm ++ bl ++ tS b ++ bl ++ rowS ws := by
 rw [row_c _ (by simp), row_c _ (by simp), row_c _ h]; simp only [cat3]
theorem showField_ok {i : Nat} {f : Fd} (hs : ShG fs) (hn : fs.length <= 12) (hi : fs[i]? = some f) : gShowField [.tup (fs.map Fd.e), f.e] m = .ok (.str (rowS (fdW fs f))) m := by
 obtain ⟨b0, b1, hk⟩ := hs.at' i f hi
 have hnm := (hs.nm f.nm (List.mem_map.mpr ⟨f, List.mem_of_getElem? hi, rfl⟩)).2
 have hF : ∀ (j : Nat) (g : Fd), fs[j]? = some g -> (fs.map Fd.e)[j]? = some g.e := fun j g h => by rw [List.getElem?_map, h]; rfl
 obtain ⟨nm, b, kd⟩ := f
 simp only at b0 b1 hk hnm
 have hbl := tS_le (i := (b : Int)) (by omega)
 have plain : ∀ {ds : List D} {ws : List Str}, (∀ d ∈ ds, W1 d) -> ds.length <= 3 -> ws = ds.map sF -> ws ≠ [] -> gShowWords [.tup ds] m = .ok (.str (rowS ws)) m /\ addD (.str (Str.ofString "field" ++ bl ++ nm ++ bl ++ tS b ++ Str.ofString " ")) (.str (rowS ws)) m = .ok (.str (rowS ("field" :: nm :: tS b :: ws))) m := by
  intro ds ws hd hl hw hne
  subst hw
  refine ⟨showWords_ok (.inl rfl) hd (by omega), ?_⟩
  have hr := row_le (ws := ds.map sF) (B := 100) fun t ht => by
   obtain ⟨d, hd', rfl⟩ := List.mem_map.mp ht
   exact (sF_ok (m := m) (hd d hd')).2
  rw [List.length_map] at hr
  rw [add_ss (by
   simp only [PySem.strLen_append]; rw [show (Str.ofString "field").length = 5 by decide, show bl.length = 1 from rfl, show (Str.ofString " ").length = 1 by decide]
   exact slen' (by omega)), fd_row nm b hne]
  simp only [bl_s, cat3]
 apply run_eq
 unfold gShowField gShowField0; generalize hFe : fs.map Fd.e = F at hF
 unfold Fd.e
 walk_at "w"
 have wI : ∀ {v : Int}, 0 <= v /\ v < 2 ^ b -> W1 (.int v) := fun h => .inl ⟨_, rfl, lt_2b b1 h⟩
 have wS : ∀ s : String, s.length <= 45 -> W1 (.str (Str.ofString s)) := fun s h => .inr ⟨_, rfl, by rw [PySem.ofString_length]; omega⟩
 cases kd with
 | still =>
  obtain ⟨h1, h2⟩ := (plain (ds := [.str "still"]) (ws := ["still"]) (fun d hd => by rw [List.mem_singleton] at hd; subst hd; exact wS "still" (by decide)) (by simp) rfl (by simp))
  simp only [Kd.e]; walk_at "w"; rw [cat_f hnm b1 (by decide)]; walk_at "w"; rw [h1]; walk_at "w"; rw [h2]; walk_at "w"; exact Run.ok ⟨rfl, rfl⟩
 | drawn =>
  obtain ⟨h1, h2⟩ := (plain (ds := [.str "drawn"]) (ws := ["drawn"]) (fun d hd => by rw [List.mem_singleton] at hd; subst hd; exact wS "drawn" (by decide)) (by simp) rfl (by simp))
  simp only [Kd.e]; walk_at "w"; rw [cat_f hnm b1 (by decide)]; walk_at "w"; rw [h1]; walk_at "w"; rw [h2]; walk_at "w"; exact Run.ok ⟨rfl, rfl⟩
 | step n =>
  obtain ⟨h1, h2⟩ := (plain (ds := [.str "step", .int n]) (ws := ["step", tS n]) (fun d hd => by
   simp only [List.mem_cons, List.not_mem_nil, or_false] at hd
   rcases hd with rfl | rfl
   ·exact wS "step" (by decide)
   ·exact wI hk.1) (by simp) rfl (by simp))
  simp only [Kd.e]; walk_at "w"; rw [cat_f hnm b1 (by decide)]; walk_at "w"; rw [h1]; walk_at "w"; rw [h2]; walk_at "w"; exact Run.ok ⟨rfl, rfl⟩
 | turn row =>
  have hrow : ∀ d ∈ row.map D.int, W1 d := fun d hd => by
   obtain ⟨v, hv, rfl⟩ := List.mem_map.mp hd
   exact wI (hk.1.2.2 v hv)
  simp only [Kd.e]; walk_at "w"; rw [cat_f hnm b1 (by decide)]; walk_at "w"; rw [showWords_ok (.inl rfl) hrow (by rw [List.length_map]; have := hk.1.2.1; omega)]; walk_at "w"
  have hr := row_le (ws := (row.map D.int).map sF) (B := 100) fun t ht => by
   obtain ⟨d, hd', rfl⟩ := List.mem_map.mp ht
   exact (sF_ok (m := m) (hrow d hd')).2
  rw [List.length_map, List.length_map] at hr
  have h12 := hk.1.2.1
  rw [add_ss (by
   simp only [PySem.strLen_append]; rw [show (Str.ofString "field").length = 5 by decide, show bl.length = 1 from rfl, show (Str.ofString " turn ").length = 6 by decide]
   exact slen' (by omega))]
  walk_at "w"
  refine Run.ok ⟨?_, rfl⟩
  show _ = D.str (rowS ("field" :: nm :: tS b :: "turn" :: row.map tS))
  rw [fd_row nm b (by simp), row_c _ (by simpa using hk.1.1), show (row.map D.int).map sF = row.map tS by rw [List.map_map]; rfl]; simp only [turn_sp, cat3]
 | wth j t =>
  obtain ⟨g, hg⟩ : ∃ g, fs[j]? = some g := ⟨fs[j]'(by have := hk.1.1; have := (List.getElem?_eq_some_iff.mp hi).1; omega), List.getElem?_eq_getElem _⟩
  have hgn := (hs.nm g.nm (List.mem_map.mpr ⟨g, List.mem_of_getElem? hg, rfl⟩)).2
  have ht : t.natAbs < 10 ^ 15 := by have := hk.1.2; omega
  have htl := tS_le ht
  simp only [Kd.e]; walk_at "w"; rw [cat_w hnm b1 hgn ht (hF j g hg)]; walk_at "w"
  refine Run.ok ⟨?_, rfl⟩
  show _ = D.str (rowS ("field" :: nm :: tS b :: ["with", ((fs[j]?).map Fd.nm).getD "", tS t]))
  rw [hg, fd_row nm b (by simp), row_c _ (by simp), row_c _ (by simp), row_1]; simp only [with_sp, bl_s, cat3, Option.map_some, Option.getD_some]
theorem showWay_ok {wy : Wy} {b : Nat} (h : wy.Ok b) (hb : b <= 40) : gShowWay [wy.e] m = .ok (.str (wyW wy)) m /\ (wyW wy).length <= 33 := by
 cases wy with
 | keep => exact ⟨run_eq (by unfold gShowWay gShowWay0 Wy.e; walk_at "w"; exact Run.ok ⟨rfl, rfl⟩), by decide⟩
 | whole => exact ⟨run_eq (by unfold gShowWay gShowWay0 Wy.e; walk_at "w"; exact Run.ok ⟨rfl, rfl⟩), by decide⟩
 | low w v =>
  have hv : v.natAbs < 10 ^ 15 := lt_2b (b := w) (Nat.le_trans h.2.1 hb) h.2.2
  have hw : ((w : Nat) : Int).natAbs < 10 ^ 15 := by have := h.2.1; omega
  have l1 := tS_le hv
  have l2 := tS_le hw
  refine ⟨run_eq ?_, ?_⟩
  ·unfold gShowWay gShowWay0 Wy.e
   walk_at "w"
   rw [show eCat Str.empty [eUn fmtD (eOp ixD (zag 0) (eC (.int 1))), eC (.str "-"), eUn fmtD (eOp ixD (zag 0) (eC (.int 2)))] [some (.tup [.str "low", .int w, .int v])] m = .ok (.str (tS w ++ Str.ofString "-" ++ tS v)) m from by
    refine (cat_all (zs := [tS w, "-", tS v]) ?_ ?_).trans ?_
    ·refine ⟨?_, rfl, ?_, trivial⟩
     ·walk_at "w"; exact fmt_i hw
     ·walk_at "w"; exact fmt_i hv
    ·simp only [List.map_cons, List.map_nil, List.sum_cons, List.sum_nil]; rw [show Str.empty.length = 0 from rfl, show (Str.ofString "-").length = 1 by decide]
     exact slen' (by omega)
    ·simp only [List.foldl_cons, List.foldl_nil, cat0]]
   walk_at "w"; exact Run.ok ⟨rfl, rfl⟩
  ·show (tS w ++ Str.ofString "-" ++ tS v).length <= 33
   simp only [PySem.strLen_append]; rw [show (Str.ofString "-").length = 1 by decide]
   omega
end
theorem aComp_en {τ : Type} (enc : τ -> D) {n : Nat} {it : AV} {g : GV} {el : EV} {ρ : En} {m : Sto} {l : List τ} (f : τ -> D) (h : it ρ m = .ok (l.map enc) m) (hl : l.length <= 1000000) (hf : ∀ t ∈ l, ∃ ρ1, g (enc t) (ρ ++ List.replicate n none) m = .ok ρ1 m /\ el ρ1 m = .ok (f t) m) : aComp n it g tYesM el ρ m = .ok (l.map f) m := by
 apply run_eq
 refine Run.mono (aComp_run (ds := l.map enc) (fun _ m' => m' = m) (fun i _ y => ∃ t, l[i]? = some t /\ y = f t) h (by rw [List.length_map]; exact hl) rfl ?_) ?_
 ·rintro i d m1 hd rfl
  rw [List.getElem?_map] at hd
  obtain ⟨t, ht, rfl⟩ := Option.map_eq_some_iff.mp hd
  obtain ⟨ρ1, e1, e2⟩ := hf t (List.mem_of_getElem? ht)
  rw [e1]
  show Run (el ρ1 m1) _
  rw [e2]; exact Run.ok ⟨⟨t, ht, rfl⟩, rfl⟩
 ·rintro ys m1 ⟨hlen, hP, rfl⟩
  rw [List.length_map] at hlen
  refine ⟨List.ext_getElem? fun i => ?_, rfl⟩
  rw [List.getElem?_map]
  by_cases hi : i < l.length
  ·have e1 : ys[i]? = some (ys[i]'(by omega)) := List.getElem?_eq_getElem _
   have e2 : (l.map enc)[i]? = some ((l.map enc)[i]'(by rw [List.length_map]; exact hi)) := List.getElem?_eq_getElem _
   obtain ⟨t, ht, hy⟩ := hP i _ _ e2 e1
   rw [e1, ht, hy]
   rfl
  ·rw [List.getElem?_eq_none (by omega), List.getElem?_eq_none (by omega)]
   rfl
theorem form_sp : (Str.ofString "form " : Str) = Str.ofString "form" ++ bl := by decide
theorem check_sp : (Str.ofString "check " : Str) = Str.ofString "check" ++ bl := by decide
theorem wide_sp : (Str.ofString "wide " : Str) = Str.ofString "wide" ++ bl := by decide
theorem road_sp : (Str.ofString "road " : Str) = Str.ofString "road" ++ bl := by decide
section
variable {fs : List Fd} {m : Sto}
theorem wys_ok {fm : Fm} (hs : ShG fs) (h : FmOk fs fm) : ∀ w ∈ fm.wys, ∃ b, w.Ok b /\ b <= 40 := fun w hw => by
 obtain ⟨i, hi⟩ := List.mem_iff_getElem?.mp hw
 have hl := (List.getElem?_eq_some_iff.mp hi).1
 obtain ⟨f, hf⟩ : ∃ f, fs[i]? = some f := ⟨fs[i]'(by have := h.wy.len; omega), List.getElem?_eq_getElem _⟩
 exact ⟨f.b, h.wy.at' i f w hf hi, (hs.at' i f hf).2.1⟩
theorem fm_row (fm : Fm) (h : fm.wys ≠ []) : rowS (fmWs fm) = Str.ofString "form" ++ bl ++ tS fm.a ++ bl ++ tS fm.b ++ bl ++ rowS (fm.wys.map wyW) := by
 unfold fmWs; rw [row_c _ (by simp), row_c _ (by simp), row_c _ (by simpa using h)]; simp only [cat3]
theorem showForm_ok {fm : Fm} (hs : ShG fs) (f0 : 0 < fs.length) (hn : fs.length <= 12) (h : FmOk fs fm) : gShowForm [fm.e] m = .ok (.str (rowS (fmWs fm))) m := by
 have hw := wys_ok hs h
 have hl : fm.wys.length <= 12 := by have := h.wy.len; omega
 have ha := tS_le (i := (fm.a : Int)) (by have := h.a1; omega)
 have hb := tS_le (i := (fm.b : Int)) (by have := h.b1; omega)
 apply run_eq
 unfold gShowForm gShowForm0 Fm.e fmD
 walk_at "w"
 rw [show eCat Str.empty [eC (.str "form "), eUn fmtD (zag 1), eC (.str " "), eUn fmtD (zag 2), eC (.str " ")] [some (.tup [.int fm.a, .int fm.b, .tup (fm.wys.map Wy.e)]), some (.int fm.a), some (.int fm.b), some (.tup (fm.wys.map Wy.e))] m = .ok (.str (Str.ofString "form" ++ bl ++ tS fm.a ++ bl ++ tS fm.b ++ bl)) m from by
  refine (cat_all (zs := ["form ", tS fm.a, " ", tS fm.b, " "]) ?_ ?_).trans ?_
  ·refine ⟨rfl, ?_, rfl, ?_, rfl, trivial⟩
   ·walk_at "w"
    exact fmt_i (by have := h.a1; omega)
   ·walk_at "w"
    exact fmt_i (by have := h.b1; omega)
  ·simp only [List.map_cons, List.map_nil, List.sum_cons, List.sum_nil]; rw [show Str.empty.length = 0 from rfl, show (Str.ofString "form ").length = 5 by decide, show (Str.ofString " ").length = 1 by decide]
   exact slen' (by omega)
  ·simp only [List.foldl_cons, List.foldl_nil, form_sp, bl_s, cat0, cat3]]
 walk_at "w"
 rw [aComp_en Wy.e (l := fm.wys) (fun w => .str (wyW w)) (by walk_at "w") (by omega) (by
  intro w hw'
  refine ⟨_, rfl, ?_⟩
  obtain ⟨b, h1, h2⟩ := hw w hw'
  show eFn gShowWay (zab (zag 4) zaj) [some (.tup [.int fm.a, .int fm.b, .tup (fm.wys.map Wy.e)]), some (.int fm.a), some (.int fm.b), some (.tup (fm.wys.map Wy.e)), some w.e] m = _
  walk_at "w"
  exact (showWay_ok h1 h2).1)]
 walk_at "w"
 rw [showWords_ok (.inr rfl) (fun d hd => by
  obtain ⟨w, hw', rfl⟩ := List.mem_map.mp hd
  obtain ⟨b, h1, h2⟩ := hw w hw'
  exact .inr ⟨_, rfl, Nat.le_trans (showWay_ok (m := m) h1 h2).2 (by decide)⟩) (by rw [List.length_map]; omega)]
 walk_at "w"
 have e : (fm.wys.map fun w => D.str (wyW w)).map sF = fm.wys.map wyW := by rw [List.map_map]; rfl
 have hr := row_le (ws := fm.wys.map wyW) (B := 33) fun t ht => by
  obtain ⟨w, hw', rfl⟩ := List.mem_map.mp ht
  obtain ⟨b, h1, h2⟩ := hw w hw'
  exact (showWay_ok (m := m) h1 h2).2
 rw [List.length_map] at hr
 rw [e, add_ss (by
  simp only [PySem.strLen_append]; rw [show (Str.ofString "form").length = 4 by decide, show bl.length = 1 from rfl]
  exact slen' (by omega))]
 walk_at "w"
 refine Run.ok ⟨?_, rfl⟩
 rw [fm_row fm fun z => by have := h.wy.len; rw [z] at this; simp at this; omega]
end
theorem nat_b {n : Int} (h0 : 0 < n) (h1 : n <= 1000000) : n.natAbs < 10 ^ 15 := by omega
theorem fdW_b {fs : List Fd} {i : Nat} {f : Fd} (hs : ShG fs) (hi : fs[i]? = some f) : (∀ w ∈ fdW fs f, w.length <= 16) /\ (fdW fs f).length <= 16 := by
 obtain ⟨b0, b1, hk⟩ := hs.at' i f hi
 have hnm := (hs.nm f.nm (List.mem_map.mpr ⟨f, List.mem_of_getElem? hi, rfl⟩)).2
 obtain ⟨nm, b, kd⟩ := f
 simp only at b0 b1 hk hnm
 have hb := tS_le (i := (b : Int)) (by omega)
 have hd : ∀ s : String, s.length <= 16 -> (Str.ofString s).length <= 16 := fun s h => by rw [PySem.ofString_length]; exact h
 have key : (∀ w ∈ kdW fs kd, w.length <= 16) /\ (kdW fs kd).length <= 13 := by
  cases kd with
  | still => exact ⟨fun w hw => by rw [List.mem_singleton.mp hw]; exact hd "still" (by decide), by show 1 <= 13; decide⟩
  | drawn => exact ⟨fun w hw => by rw [List.mem_singleton.mp hw]; exact hd "drawn" (by decide), by show 1 <= 13; decide⟩
  | step n =>
   refine ⟨fun w hw => ?_, by show 2 <= 13; decide⟩
   simp only [kdW, List.mem_cons, List.not_mem_nil, or_false] at hw
   rcases hw with rfl | rfl
   ·exact hd "step" (by decide)
   ·exact tS_le (lt_2b b1 hk.1)
  | turn row =>
   refine ⟨fun w hw => ?_, by show ("turn" :: row.map tS : List Str).length <= 13; rw [List.length_cons, List.length_map]; have := hk.1.2.1; omega⟩
   simp only [kdW, List.mem_cons] at hw
   rcases hw with rfl | hw
   ·exact hd "turn" (by decide)
   ·obtain ⟨v, hv, rfl⟩ := List.mem_map.mp hw
    exact tS_le (lt_2b b1 (hk.1.2.2 v hv))
  | wth j t =>
   obtain ⟨g, hg⟩ : ∃ g, fs[j]? = some g := ⟨fs[j]'(by have := hk.1.1; have := (List.getElem?_eq_some_iff.mp hi).1; omega), List.getElem?_eq_getElem _⟩
   have hgn := (hs.nm g.nm (List.mem_map.mpr ⟨g, List.mem_of_getElem? hg, rfl⟩)).2
   refine ⟨fun w hw => ?_, by show 3 <= 13; decide⟩
   simp only [kdW, List.mem_cons, List.not_mem_nil, or_false, hg, Option.map_some, Option.getD_some] at hw
   rcases hw with rfl | rfl | rfl
   ·exact hd "with" (by decide)
   ·omega
   ·exact tS_le (by have := hk.1.2; omega)
 refine ⟨fun w hw => ?_, by show ("field" :: nm :: tS b :: kdW fs kd : List Str).length <= 16; simp only [List.length_cons]; omega⟩
 simp only [fdW, List.mem_cons] at hw
 rcases hw with rfl | rfl | rfl | hw
 ·exact hd "field" (by decide)
 ·omega
 ·exact hb
 ·exact key.1 w hw
theorem fmW_b {fs : List Fd} {fm : Fm} (hs : ShG fs) (hn : fs.length <= 12) (h : FmOk fs fm) : (∀ w ∈ fmWs fm, w.length <= 33) /\ (fmWs fm).length <= 16 := by
 refine ⟨fun w hw => ?_, by unfold fmWs; simp only [List.length_cons, List.length_map]; have := h.wy.len; omega⟩
 simp only [fmWs, List.mem_cons] at hw
 rcases hw with rfl | rfl | rfl | hw
 ·decide
 ·exact Nat.le_trans (tS_le (by have := h.a1; omega)) (by decide)
 ·exact Nat.le_trans (tS_le (by have := h.b1; omega)) (by decide)
 ·obtain ⟨w, hw', rfl⟩ := List.mem_map.mp hw
  obtain ⟨b, h1, h2⟩ := wys_ok hs h w hw'
  exact (showWay_ok (m := []) h1 h2).2
theorem rdW_b {r : Rd4} (h : RdOk r) : ∀ w ∈ rdWs r, w.length <= 16 := fun w hw => by
 obtain ⟨h1, h2, h3, h4, h5⟩ := h
 simp only [rdWs, List.mem_cons, List.not_mem_nil, or_false] at hw
 rcases hw with rfl | rfl | rfl | rfl <;> exact tS_le (by omega)
theorem ptW_b {p : Pt} (h : PtOk p) : (ptW p).length <= 27 /\ ∀ ws ∈ ptW p, (∀ w ∈ ws, w.length <= 33) /\ ws.length <= 16 /\ ws ≠ [] := by
 refine ⟨by unfold ptW; simp only [List.length_append, List.length_map, List.length_cons, List.length_nil]; have := h.f1; have := h.fml; omega, fun ws hw => ?_⟩
 unfold ptW at hw
 rcases List.mem_append.mp hw with hw | hw
 ·rcases List.mem_append.mp hw with hw | hw
  ·obtain ⟨f, hf, rfl⟩ := List.mem_map.mp hw
   obtain ⟨i, hi⟩ := List.mem_iff_getElem?.mp hf
   obtain ⟨a, b⟩ := fdW_b h.sh hi
   exact ⟨fun w hw => Nat.le_trans (a w hw) (by decide), b, by simp [fdW]⟩
  ·simp only [List.mem_cons, List.not_mem_nil, or_false] at hw
   rcases hw with rfl | rfl | rfl
   ·refine ⟨fun w hw => ?_, by simp, by simp⟩
    simp only [List.mem_cons, List.not_mem_nil, or_false] at hw
    rcases hw with rfl | rfl
    ·decide
    ·exact Nat.le_trans (tS_le (nat_b h.n0 h.n1)) (by decide)
   ·refine ⟨fun w hw => ?_, by simp, by simp⟩
    simp only [List.mem_cons, List.not_mem_nil, or_false] at hw
    rcases hw with rfl | rfl
    ·decide
    ·exact Nat.le_trans (tS_le (by have := h.w1; omega)) (by decide)
   ·refine ⟨fun w hw => ?_, by simp [rdWs], by simp⟩
    rcases List.mem_cons.mp hw with rfl | hw
    ·decide
    ·exact Nat.le_trans (rdW_b h.rd w hw) (by decide)
 ·obtain ⟨f, hf, rfl⟩ := List.mem_map.mp hw
  obtain ⟨a, b⟩ := fmW_b h.sh h.f1 (h.fm f hf)
  exact ⟨a, b, by simp [fmWs]⟩
theorem row_b {ws : List Str} (h : ∀ w ∈ ws, w.length <= 33) (hl : ws.length <= 16) : (rowS ws).length <= 600 := by
 have := row_le h
 omega
theorem row_2 (a b : Str) : rowS [a, b] = a ++ bl ++ b := by rw [row_c _ (by simp), row_1]
theorem cat_2 {f g : EV} {ρ : En} {m : Sto} {a b : Str} (h1 : f ρ m = .ok (.str a) m) (h2 : g ρ m = .ok (.str b) m) (h : a.length + b.length <= 1000) : eCat Str.empty [f, g] ρ m = .ok (.str (a ++ b)) m := by
 refine (cat_all (zs := [a, b]) ?_ ?_).trans ?_
 ·exact ⟨h1, h2, trivial⟩
 ·simp only [List.map_cons, List.map_nil, List.sum_cons, List.sum_nil]; rw [show Str.empty.length = 0 from rfl]
  exact slen' (by omega)
 ·simp only [List.foldl_cons, List.foldl_nil, cat0]
section
variable {p : Pt} {m : Sto}
theorem rd_words (h : RdOk p.rd) : gShowWords [p.rd.e] m = .ok (.str (rowS (rdWs p.rd))) m := by
 obtain ⟨h1, h2, h3, h4, h5⟩ := h
 exact showWords_ok (ds := [.int p.rd.skips, .int p.rd.gap, .int p.rd.late, .int p.rd.anew]) (.inl rfl) (fun d hd => by
  simp only [List.mem_cons, List.not_mem_nil, or_false] at hd
  rcases hd with rfl | rfl | rfl | rfl <;> exact .inl ⟨_, rfl, by omega⟩) (by simp)
theorem rows_b (h : PtOk p) : ∀ t ∈ (ptW p).map rowS, t.length <= 600 := fun t ht => by
 obtain ⟨ws, hw, rfl⟩ := List.mem_map.mp ht
 obtain ⟨a, b, _⟩ := (ptW_b h).2 ws hw
 exact row_b a b
theorem showPact_ok (h : PtOk p) : gShowPact [p.e] m = .ok (.str (ptS p)) m := by
 have f1 := h.f1
 have w1 := h.w1
 have hfml := h.fml
 have hrb := rows_b h
 have hrl : ((ptW p).map rowS).length <= 27 := by rw [List.length_map]; exact (ptW_b h).1
 have hnl := tS_le (nat_b h.n0 h.n1)
 have hwl := tS_le (i := (p.wide : Int)) (by omega)
 apply run_eq
 unfold gShowPact gShowPact0 Pt.e
 walk_at "w"
 rw [aComp_en Fd.e (l := p.fs) (fun f => .str (rowS (fdW p.fs f))) (by walk_at "w"; rw [ix_sh]; walk_at "w") (by omega) (by
  intro f hf
  obtain ⟨i, hi⟩ := List.mem_iff_getElem?.mp hf
  refine ⟨_, rfl, ?_⟩
  show eFn gShowField (zab (eOp ixD (zag 1) (eC (.int 0))) (zab (zag 6) zaj)) [some _, some (shD p.fs p.n), some (.int p.wide), some (.tup (p.fms.map Fm.e)), some p.rd.e, none, some f.e] m = _
  walk_at "w"; rw [ix_sh]; walk_at "w"
  exact showField_ok h.sh f1 hi)]
 walk_at "w"; generalize hR : (p.fs.map fun f => D.str (rowS (fdW p.fs f))) = R
 rw [cat_2 (a := "check ") (b := tS p.n) rfl (by
  walk_at "w"; rw [show ixD (shD p.fs p.n) (.int 1) m = .ok (.int p.n) m from ix_t1 _ _ _]; walk_at "w"
  exact fmt_i (nat_b h.n0 h.n1)) (by rw [show (Str.ofString "check ").length = 6 by decide]; omega)]
 walk_at "w"; rw [cat_2 (a := "wide ") (b := tS p.wide) rfl (by walk_at "w"; exact fmt_i (by omega)) (by rw [show (Str.ofString "wide ").length = 5 by decide]; omega)]; walk_at "w"; rw [rd_words h.rd]; walk_at "w"
 have hrr := row_le (rdW_b h.rd)
 rw [show (rdWs p.rd).length = 4 from rfl] at hrr
 rw [add_ss (by rw [show (Str.ofString "road ").length = 5 by decide]; exact slen' (by omega))]; walk_at "w"
 have hRl : R.length <= 12 := by rw [<- hR, List.length_map]; exact f1
 rw [add_l (by simp only [List.length_cons, List.length_nil]; exact slen' (by omega))]; walk_at "w"
 rw [aComp_en Fm.e (l := p.fms) (fun f => .str (rowS (fmWs f))) (by walk_at "w") (by omega) (by
  intro f hf
  refine ⟨_, rfl, ?_⟩
  show eFn gShowForm (zab (zag 6) zaj) [some _, some (shD p.fs p.n), some (.int p.wide), some (.tup (p.fms.map Fm.e)), some p.rd.e, some _, some f.e] m = _
  walk_at "w"
  exact showForm_ok h.sh h.f0 f1 (h.fm f hf))]
 walk_at "w"; rw [add_l (by simp only [List.length_append, List.length_cons, List.length_nil, List.length_map]; exact slen' (by omega))]; walk_at "w"
 have e : R ++ [.str (Str.ofString "check " ++ tS p.n), .str (Str.ofString "wide " ++ tS p.wide), .str (Str.ofString "road " ++ rowS (rdWs p.rd))] ++ p.fms.map (fun f => D.str (rowS (fmWs f))) = ((ptW p).map rowS).map D.str := by
  rw [<- hR]
  unfold ptW; simp only [List.map_append, List.map_map, List.map_cons, List.map_nil, row_2, row_c _ (show rdWs p.rd ≠ [] by simp [rdWs]), check_sp, wide_sp, road_sp]
  rfl
 rw [e, show (Str.ofString "\n" : Str) = lf from lf_s, join_M (s := lf) (ts := (ptW p).map rowS) (B := 600) rfl rfl hrb (by omega)]; walk_at "w"; exact Run.ok ⟨rfl, rfl⟩
end
structure Gw (m m' : Sto) : Prop where
 len : m.length <= m'.length
 at' : ∀ j, j < m.length -> m'[j]? = m[j]?
theorem Gw.refl (m : Sto) : Gw m m := ⟨Nat.le_refl _, fun _ _ => rfl⟩
theorem Gw.app {m m' x : Sto} (h : Gw m m') : Gw m (m' ++ x) := ⟨by rw [List.length_append]; have := h.len; omega, fun j hj => by rw [List.getElem?_append_left (by have := h.len; omega)]; exact h.at' j hj⟩
theorem app_at {m x : Sto} {r : Nat} {o : MO} (h : m[r]? = some o) : (m ++ x)[r]? = some o := by
 rw [List.getElem?_append_left (List.getElem?_eq_some_iff.mp h).1]
 exact h
theorem app_new (m : Sto) (o : MO) : (m ++ [o])[m.length]? = some o := by simp
theorem wayWord_run {wy : Wy} {b : Nat} {m : Sto} (h : wy.Ok b) (hb : b <= 40) : Run (gLawWayWord [wy.e] m) fun a m' => a = .str (wyW wy) /\ Gw m m' := by
 cases wy with
 | keep =>
  unfold gLawWayWord gLawWayWord0 Wy.e
  walk_at "w"; rw [show ∀ ρ : En, eDict [("keep", eC (.str "=")), ("whole", eC (.str "*"))] ρ m = .ok (.ob m.length) (m ++ [.dct [(.inr "keep", .str "="), (.inr "whole", .str "*")]]) from fun _ => rfl]; walk_at "w"
  rw [show ixD (.ob m.length) (.str "keep") (m ++ [.dct [(.inr "keep", .str "="), (.inr "whole", .str "*")]]) = .ok (.str "=") (m ++ [.dct [(.inr "keep", .str "="), (.inr "whole", .str "*")]]) by
   simp only [ixD, app_new]
   rfl]
  walk_at "w"; exact Run.ok ⟨rfl, (Gw.refl m).app⟩
 | whole =>
  unfold gLawWayWord gLawWayWord0 Wy.e
  walk_at "w"; rw [show ∀ ρ : En, eDict [("keep", eC (.str "=")), ("whole", eC (.str "*"))] ρ m = .ok (.ob m.length) (m ++ [.dct [(.inr "keep", .str "="), (.inr "whole", .str "*")]]) from fun _ => rfl]; walk_at "w"
  rw [show ixD (.ob m.length) (.str "whole") (m ++ [.dct [(.inr "keep", .str "="), (.inr "whole", .str "*")]]) = .ok (.str "*") (m ++ [.dct [(.inr "keep", .str "="), (.inr "whole", .str "*")]]) by
   simp only [ixD, app_new]
   rfl]
  walk_at "w"; exact Run.ok ⟨rfl, (Gw.refl m).app⟩
 | low w v =>
  have hv : v.natAbs < 10 ^ 15 := lt_2b (b := w) (Nat.le_trans h.2.1 hb) h.2.2
  have hw : ((w : Nat) : Int).natAbs < 10 ^ 15 := by have := h.2.1; omega
  have l1 := tS_le hv
  have l2 := tS_le hw
  unfold gLawWayWord gLawWayWord0 Wy.e
  walk_at "w"; rw [str_i hw]; walk_at "w"; rw [add_ss (by rw [show (Str.ofString "-").length = 1 by decide]; exact slen' (by omega))]; walk_at "w"; rw [str_i hv]; walk_at "w"; rw [add_ss (by rw [PySem.strLen_append, show (Str.ofString "-").length = 1 by decide]; exact slen' (by omega))]; walk_at "w"; exact Run.ok ⟨rfl, Gw.refl m⟩
theorem P3.gw {m0 m m' : Sto} {p q c : Nat} (h : P3 m0 p q c m) (g : Gw m m') : P3 m0 p q c m' := by
 obtain ⟨own, s, t, h1, h2, h3⟩ := h.ex
 have l := h.lt
 exact ⟨⟨own, s, t, by rw [g.at' p l.1]; exact h1, by rw [g.at' q l.2]; exact h2, h3⟩, Nat.le_trans h.fr.len g.len, fun j a b d => by rw [g.at' j (Nat.lt_of_lt_of_le a h.fr.len)]; exact h.fr.at' j a b d⟩
theorem Gw.trans {a b c : Sto} (h : Gw a b) (g : Gw b c) : Gw a c := ⟨Nat.le_trans h.len g.len, fun j hj => by rw [g.at' j (Nat.lt_of_lt_of_le hj h.len)]; exact h.at' j hj⟩
def s51f : SV := (sSeq (sAsg (eFn gNewL (zab (eC (.str "field")) (zab (zag 7) (zab (eFn strF (zab (zag 8) zaj)) (zab (eOp ixD (zag 9) (eC (.int 0))) zaj))))) (gN 10))
 (sSeq (sIf (tV (eOp eqD (eOp ixD (zag 9) (eC (.int 0))) (eC (.str "step"))))
 (sDrop (eMeth isLst appendM (zag 10) (zab (eFn strF (zab (eOp ixD (zag 9) (eC (.int 1))) zaj)) zaj)))
 sNil)
 (sSeq (sIf (tV (eOp eqD (eOp ixD (zag 9) (eC (.int 0))) (eC (.str "turn"))))
 (sAsg (eOp addN (zag 10) (eFn gL1 (aComp 1 (aIt (eOp ixD (zag 9) (eC (.int 1)))) (gN 14) tYesM (eFn strF (zab (zag 14) zaj))))) (gN 10))
 sNil)
 (sSeq (sIf (tV (eOp eqD (eOp ixD (zag 9) (eC (.int 0))) (eC (.str "with"))))
 (sAsg (eOp addN (zag 10) (eFn gLst (zab (eOp ixD (eOp ixD (zag 1) (eOp ixD (zag 9) (eC (.int 1)))) (eC (.int 0))) (zab (eFn strF (zab (eOp ixD (zag 9) (eC (.int 2))) zaj)) zaj)))) (gN 10))
 sNil)
 (sDrop (eMeth isLst appendM (zag 6) (zab (eMeth isStr joinM (eC (.str " ")) (zab (zag 10) zaj)) zaj)))))))
def s51m : SV := (sDrop (eMeth isLst appendM (zag 6) (zab (eMeth isStr joinM (eC (.str " ")) (zab (eOp addD (eFn gLst (zab (eC (.str "form")) (zab (eFn strF (zab (zag 11) zaj)) (zab (eFn strF (zab (zag 12) zaj)) zaj)))) (eFn gL1 (aComp 1 (aIt (zag 13)) (gN 14) tYesM (eFn gLawWayWord (zab (zag 14) zaj))))) zaj)) zaj)))
theorem gLawRows_cut : gLawRows0 = (sSeq (sAsg (zag 0) (gT 4 (gsCons (gT 2 (gsCons (gN 1) (gsCons (gN 2) gsNil))) (gsCons (gN 3) (gsCons (gN 4) (gsCons (gN 5) gsNil))))))
 (sSeq (sAsg (eFn gNewL zaj) (gN 6))
 (sSeq (sFor (aIt (zag 1)) (gT 3 (gsCons (gN 7) (gsCons (gN 8) (gsCons (gN 9) gsNil))))
 s51f)
 (sSeq (sAsg (eOp addN (zag 6) (eFn gLst (zab (eOp addD (eC (.str "check ")) (eFn strF (zab (zag 2) zaj))) (zab (eOp addD (eC (.str "wide ")) (eFn strF (zab (zag 3) zaj))) (zab (eOp addD (eC (.str "road ")) (eMeth isStr joinM (eC (.str " ")) (zab (eFn gL1 (aComp 1 (aIt (zag 5)) (gN 14) tYesM (eFn strF (zab (zag 14) zaj)))) zaj))) zaj))))) (gN 6))
 (sSeq (sFor (aIt (zag 4)) (gT 3 (gsCons (gN 11) (gsCons (gN 12) (gsCons (gN 13) gsNil))))
 s51m)
 (sRet (zag 6))))))) := rfl
section
variable {p : Pt} {m : Sto}
theorem strs_row {row : List Int} {ρ : En} {f : EV} (hf : f ρ m = .ok (.tup (row.map D.int)) m) (hρ : ρ.length = 14) (hv : ∀ v ∈ row, v.natAbs < 10 ^ 15) (hl : row.length <= 12) : aComp 1 (aIt f) (gN 14) tYesM (eFn strF (zab (zag 14) zaj)) ρ m = .ok ((row.map tS).map D.str) m := by
 rw [aComp_en D.int (l := row) (fun v => .str (tS v)) (by show (f ρ m).bind asSeq = _; rw [hf]; rfl) (by omega) (by
  intro v hv'
  refine ⟨ρ ++ [some (.int v)], ?_, ?_⟩
  ·show Res.ok ((ρ ++ [none]).set 14 (some (D.int v))) m = _
   rw [List.set_append_right _ _ (by omega), hρ]
   rfl
  ·show eFn strF (zab (zag 14) zaj) (ρ ++ [some (.int v)]) m = _
   have e : zag 14 (ρ ++ [some (.int v)]) m = .ok (.int v) m := by
    unfold zag; rw [List.getElem?_append_right (by omega), hρ]
    rfl
   show ((((zag 14 (ρ ++ [some (.int v)]) m).bind _)).bind strF) = _
   rw [e]
   exact str_i (hv v hv'))]
 rw [List.map_map]
 rfl
theorem s51f_run {i : Nat} {f : Fd} {x0 x2 x3 x4 x5 x10 x11 x12 x13 : Option D} {r : Nat} {L : List Str} {fs : List Fd} (hs : ShG fs) (hn : fs.length <= 12) (hi : fs[i]? = some f) (hr : m[r]? = some (.lst (L.map D.str))) (hL : L.length <= 50) :
  Run (s51f [x0, some (.tup (fs.map Fd.e)), x2, x3, x4, x5, some (.ob r), some (.str f.nm), some (.int f.b), some f.kd.e, x10, x11, x12, x13] m) fun a m' => ∃ y, a = .nx [x0, some (.tup (fs.map Fd.e)), x2, x3, x4, x5, some (.ob r), some (.str f.nm), some (.int f.b), some f.kd.e, y, x11, x12, x13] /\ m'[r]? = some (.lst ((L ++ [rowS (fdW fs f)]).map D.str)) /\ m.length <= m'.length /\ ∀ j, j < m.length -> j ≠ r -> m'[j]? = m[j]? := by
 have hbd := fdW_b hs hi
 have hF : ∀ (j : Nat) (g : Fd), fs[j]? = some g -> (fs.map Fd.e)[j]? = some g.e := fun j g h => by rw [List.getElem?_map, h]; rfl
 obtain ⟨b0, b1, hk⟩ := hs.at' i f hi
 have hrl := (List.getElem?_eq_some_iff.mp hr).1
 have fin : ∀ {m1 : Sto} {y : Nat}, m1[y]? = some (.lst ((fdW fs f).map D.str)) -> m1[r]? = some (.lst (L.map D.str)) -> m.length <= m1.length -> (∀ j, j < m.length -> j ≠ r -> m1[j]? = m[j]?) →
   isLst (.ob r) m1 = true /\ joinM (.str " ") [.ob y] m1 = .ok (.str (rowS (fdW fs f))) m1 /\ ∃ m2, appendM (.ob r) [.str (rowS (fdW fs f))] m1 = .ok .non m2 /\ m2[r]? = some (.lst ((L ++ [rowS (fdW fs f)]).map D.str)) /\ m.length <= m2.length /\ ∀ j, j < m.length -> j ≠ r -> m2[j]? = m[j]? := by
  intro m1 y hy hr1 hl1 ha1
  refine ⟨is_lst hr1, ?_, _, app_ok hr1 (by rw [List.length_map]; exact Nat.lt_of_le_of_lt hL (by decide)), by rw [set_get hr1, List.map_append]; rfl, by rw [List.length_set]; exact hl1, fun j hj hjr => by rw [set_other (Ne.symm hjr)]; exact ha1 j hj hjr⟩
  rw [show (Str.ofString " " : Str) = bl from bl_s, join_M (s := bl) (ts := fdW fs f) (B := 16) (by simp only [lOf, hy]) rfl hbd.1 (by have := hbd.2; omega)]
  rfl
 obtain ⟨nm, b, kd⟩ := f
 simp only at b0 b1 hk
 unfold s51f; generalize hFe : fs.map Fd.e = F at hF fin ⊢; walk_at "w"; rw [str_i (by omega)]; walk_at "w"
 cases kd with
 | still =>
  simp only [Kd.e] at fin ⊢
  walk_at "w"; rw [new_of (by simp)]; walk_at "w"
  obtain ⟨A, B, m2, C, D', E, G⟩ := fin (m1 := m ++ [ MO.lst [D.str "field", D.str nm, D.str (tS b), D.str "still"]]) (app_new m _) (app_at hr) (by simp) (fun j hj _ => List.getElem?_append_left hj)
  rw [if_pos A]; walk_at "w"; rw [B]; walk_at "w"; rw [C]; walk_at "w"; exact Run.ok ⟨_, rfl, D', E, G⟩
 | drawn =>
  simp only [Kd.e] at fin ⊢
  walk_at "w"; rw [new_of (by simp)]; walk_at "w"
  obtain ⟨A, B, m2, C, D', E, G⟩ := fin (m1 := m ++ [ MO.lst [D.str "field", D.str nm, D.str (tS b), D.str "drawn"]]) (app_new m _) (app_at hr) (by simp) (fun j hj _ => List.getElem?_append_left hj)
  rw [if_pos A]; walk_at "w"; rw [B]; walk_at "w"; rw [C]; walk_at "w"; exact Run.ok ⟨_, rfl, D', E, G⟩
 | step n =>
  simp only [Kd.e] at fin ⊢
  walk_at "w"; rw [new_of (by simp)]; walk_at "w"; rw [if_pos (is_lst (app_new m _))]; walk_at "w"; rw [str_i (lt_2b b1 hk.1)]; walk_at "w"; rw [app_ok (app_new m _) (by simp; exact Nat.lt_of_lt_of_le (by decide : 4 < 100) (by decide))]; walk_at "w"
  obtain ⟨A, B, m2, C, D', E, G⟩ := fin (m1 := (m ++ [ MO.lst [D.str "field", D.str nm, D.str (tS b), D.str "step"]]).set m.length ( MO.lst ([D.str "field", D.str nm, D.str (tS b), D.str "step", D.str (tS n)]))) (y := m.length) (by rw [set_get (app_new m _)]; rfl) (by rw [set_other (by omega)]; exact app_at hr) (by simp) (fun j hj _ => by rw [set_other (by omega)]; exact List.getElem?_append_left hj)
  rw [if_pos A]; walk_at "w"; rw [B]; walk_at "w"; rw [C]; walk_at "w"; exact Run.ok ⟨_, rfl, D', E, G⟩
 | turn row =>
  simp only [Kd.e] at fin ⊢
  walk_at "w"; rw [new_of (by simp)]; walk_at "w"
  have hl12 := hk.1.2.1
  rw [strs_row (row := row) (by walk_at "w") rfl (fun v hv => lt_2b b1 (hk.1.2.2 v hv)) hl12]; walk_at "w"; rw [add_n (app_new m _) (by simp; omega)]; walk_at "w"
  obtain ⟨A, B, m2, C, D', E, G⟩ := fin (m1 := m ++ [ MO.lst [D.str "field", D.str nm, D.str (tS b), D.str "turn"]] ++ [ MO.lst (D.str "field" :: D.str nm :: D.str (tS b) :: D.str "turn" :: (row.map tS).map D.str)]) (app_new _ _) (app_at (app_at hr)) (by simp) (fun j hj _ => by rw [List.getElem?_append_left (by simp; omega)]; exact List.getElem?_append_left hj)
  rw [if_pos A]; walk_at "w"; rw [B]; walk_at "w"; rw [C]; walk_at "w"; exact Run.ok ⟨_, rfl, D', E, G⟩
 | wth j t =>
  obtain ⟨g, hg⟩ : ∃ g, fs[j]? = some g := ⟨fs[j]'(by have := hk.1.1; have := (List.getElem?_eq_some_iff.mp hi).1; omega), List.getElem?_eq_getElem _⟩
  have ht : t.natAbs < 10 ^ 15 := by have := hk.1.2; omega
  simp only [Kd.e] at fin ⊢
  walk_at "w"; rw [new_of (by simp)]; walk_at "w"
  rw [show ∀ m, ixD (.tup F) (.int (j : Nat)) m = .ok g.e m from fun m => by
   show opt (L2.atI F (j : Nat)) m = _
   rw [atI_nat, hF j g hg]
   rfl]
  unfold Fd.e
  walk_at "w"; rw [str_i ht]; walk_at "w"; rw [add_n (app_new m _) (by simp)]; walk_at "w"
  obtain ⟨A, B, m2, C, D', E, G⟩ := fin (m1 := m ++ [ MO.lst [D.str "field", D.str nm, D.str (tS b), D.str "with"]] ++ [ MO.lst ([D.str "field", D.str nm, D.str (tS b), D.str "with", D.str g.nm, D.str (tS t)])]) (y := (m ++ [ MO.lst [D.str "field", D.str nm, D.str (tS b), D.str "with"]]).length) (by rw [app_new]; simp only [fdW, kdW, hg]; rfl) (app_at (app_at hr)) (by simp) (fun j hj _ => by rw [List.getElem?_append_left (by simp; omega)]; exact List.getElem?_append_left hj)
  rw [if_pos A]; walk_at "w"; rw [B]; walk_at "w"; rw [C]; walk_at "w"; exact Run.ok ⟨_, rfl, D', E, G⟩
end
section
variable {m : Sto}
theorem ways_run {fm : Fm} {fs : List Fd} {x0 x1 x2 x3 x4 x5 x6 x7 x8 x9 x10 x11 x12 : Option D} (hs : ShG fs) (hn : fs.length <= 12) (h : FmOk fs fm) :
  Run (aComp 1 (aIt (zag 13)) (gN 14) tYesM (eFn gLawWayWord (zab (zag 14) zaj)) [x0, x1, x2, x3, x4, x5, x6, x7, x8, x9, x10, x11, x12, some (.tup (fm.wys.map Wy.e))] m) fun xs m' => xs = (fm.wys.map wyW).map D.str /\ Gw m m' := by
 have hw := wys_ok hs h
 have hl : fm.wys.length <= 12 := by have := h.wy.len; omega
 refine Run.mono (aComp_run (ds := fm.wys.map Wy.e) (fun _ m' => Gw m m') (fun i _ y => ∃ w, fm.wys[i]? = some w /\ y = .str (wyW w)) (by walk_at "w") (by rw [List.length_map]; omega) (Gw.refl m) ?_) ?_
 ·rintro i d m1 hd hg
  rw [List.getElem?_map] at hd
  obtain ⟨w, hwi, rfl⟩ := Option.map_eq_some_iff.mp hd
  obtain ⟨b, h1, h2⟩ := hw w (List.mem_of_getElem? hwi)
  show Run (Res.bind (gN 14 w.e [x0, x1, x2, x3, x4, x5, x6, x7, x8, x9, x10, x11, x12, some (.tup (fm.wys.map Wy.e)), none] m1) _) _
  walk_at "w"
  refine Run.mono (wayWord_run h1 h2) ?_
  rintro _ m2 ⟨rfl, g2⟩
  exact ⟨⟨w, hwi, rfl⟩, hg.trans g2⟩
 ·rintro ys m1 ⟨hlen, hP, hg⟩
  rw [List.length_map] at hlen
  refine ⟨List.ext_getElem? fun i => ?_, hg⟩
  rw [List.getElem?_map, List.getElem?_map]
  by_cases hi : i < fm.wys.length
  ·have e1 : ys[i]? = some (ys[i]'(by omega)) := List.getElem?_eq_getElem _
   have e2 : (fm.wys.map Wy.e)[i]? = some ((fm.wys.map Wy.e)[i]'(by rw [List.length_map]; exact hi)) := List.getElem?_eq_getElem _
   obtain ⟨t, ht, hy⟩ := hP i _ _ e2 e1
   rw [e1, ht, hy]
   rfl
  ·rw [List.getElem?_eq_none (by omega), List.getElem?_eq_none (by omega)]
   rfl
theorem s51m_run {fm : Fm} {fs : List Fd} {x0 x1 x2 x3 x4 x5 x7 x8 x9 x10 : Option D} {r : Nat} {L : List Str} (hs : ShG fs) (hn : fs.length <= 12) (h : FmOk fs fm) (hr : m[r]? = some (.lst (L.map D.str))) (hL : L.length <= 50) :
  Run (s51m [x0, x1, x2, x3, x4, x5, some (.ob r), x7, x8, x9, x10, some (.int fm.a), some (.int fm.b), some (.tup (fm.wys.map Wy.e))] m) fun a m' => a = .nx [x0, x1, x2, x3, x4, x5, some (.ob r), x7, x8, x9, x10, some (.int fm.a), some (.int fm.b), some (.tup (fm.wys.map Wy.e))] /\ m'[r]? = some (.lst ((L ++ [rowS (fmWs fm)]).map D.str)) /\ m.length <= m'.length /\ ∀ j, j < m.length -> j ≠ r -> m'[j]? = m[j]? := by
 have hbd := fmW_b hs hn h
 have hl : fm.wys.length <= 12 := by have := h.wy.len; omega
 have hrl := (List.getElem?_eq_some_iff.mp hr).1
 unfold s51m; walk_at "w"; rw [if_pos (is_lst hr)]; walk_at "w"; rw [str_i (by have := h.a1; omega)]; walk_at "w"; rw [str_i (by have := h.b1; omega)]; walk_at "w"; refine Run.bind (ways_run hs hn h) ?_; rintro _ m1 ⟨rfl, hg⟩
 have hr1 : m1[r]? = some (.lst (L.map D.str)) := by rw [hg.at' r hrl]; exact hr
 walk_at "w"; rw [add_l (by simp only [List.length_cons, List.length_nil, List.length_map]; exact slen' (by omega))]; walk_at "w"; rw [show (Str.ofString " " : Str) = bl from bl_s, join_M (s := bl) (ts := fmWs fm) (B := 33) (by simp only [lOf, fmWs]; rfl) rfl hbd.1 (by have := hbd.2; omega)]; walk_at "w"; rw [app_ok hr1 (by rw [List.length_map]; exact Nat.lt_of_le_of_lt hL (by decide))]; walk_at "w"
 exact Run.ok ⟨rfl, by rw [set_get hr1, List.map_append]; rfl, by rw [List.length_set]; exact hg.len, fun j hj hjr => by rw [set_other (Ne.symm hjr)]; exact hg.at' j hj⟩
end
section
variable {p : Pt} {m : Sto}
theorem lawRows_run (h : PtOk p) : Run (gLawRows [p.e] m) fun a m' => ∃ r, a = .ob r /\ m'[r]? = some (.lst (((ptW p).map rowS).map D.str)) /\ Gw m m' := by
 have f1 := h.f1
 have w1 := h.w1
 have hfml := h.fml
 have hnb := nat_b h.n0 h.n1
 have hnl := tS_le hnb
 have hwl := tS_le (i := (p.wide : Int)) (by omega)
 have hrr := row_le (rdW_b h.rd)
 rw [show (rdWs p.rd).length = 4 from rfl] at hrr
 unfold gLawRows; rw [gLawRows_cut]
 unfold Pt.e shD
 walk_at "w"; rw [new_0]; walk_at "w"
 have hr : (m ++ [MO.lst []])[m.length]? = some (.lst []) := app_new m _
 have hg0 : Gw m (m ++ [MO.lst []]) := (Gw.refl m).app
 generalize hrm : m.length = r at hr ⊢; generalize m ++ [MO.lst []] = mA at hr hg0 ⊢; generalize hX : (D.tup [.tup [.tup (p.fs.map Fd.e), .int p.n], .int p.wide, .tup (p.fms.map Fm.e), p.rd.e]) = X; refine Run.bind (loop_run (fun k ρ m' => ∃ (x7 x8 x9 x10 : Option D), ρ = [some X, some (.tup (p.fs.map Fd.e)), some (.int p.n), some (.int p.wide), some (.tup (p.fms.map Fm.e)), some p.rd.e, some (.ob r), x7, x8, x9, x10, none, none, none] /\ m'[r]? = some (.lst (((p.fs.take k).map fun f => rowS (fdW p.fs f)).map D.str)) /\ Gw m m') (p.fs.map Fd.e) 0 ⟨_, _, _, _, rfl, by simpa using hr, hg0⟩ ?_) ?_
 ·rintro i d ρ m1 hd ⟨x7, x8, x9, x10, rfl, g1, g2⟩
  rw [List.getElem?_map] at hd
  obtain ⟨f, hf, rfl⟩ := Option.map_eq_some_iff.mp hd
  rw [Nat.zero_add] at g1 ⊢
  have hi := (List.getElem?_eq_some_iff.mp hf).1
  show Run (s51f [some X, some (.tup (p.fs.map Fd.e)), some (.int p.n), some (.int p.wide), some (.tup (p.fms.map Fm.e)), some p.rd.e, some (.ob r), some (.str f.nm), some (.int f.b), some f.kd.e, x10, none, none, none] m1) _
  refine Run.mono (s51f_run h.sh f1 hf g1 (by rw [List.length_map, List.length_take]; omega)) ?_
  rintro _ m2 ⟨y, rfl, a1, a2, a3⟩
  refine ⟨_, rfl, _, _, _, _, rfl, ?_, Nat.le_trans g2.len a2, fun j hj => by rw [a3 j (Nat.lt_of_lt_of_le hj g2.len) (by omega)]; exact g2.at' j hj⟩
  rw [a1, List.take_succ, hf]
  simp
 ·rintro _ m1 ⟨ρ, rfl, x7, x8, x9, x10, rfl, g1, g2⟩
  rw [Nat.zero_add, List.length_map, List.take_length] at g1
  walk_at "w"; rw [str_i hnb]; walk_at "w"; rw [add_ss (by rw [show (Str.ofString "check ").length = 6 by decide]; exact slen' (by omega))]; walk_at "w"; rw [str_i (by omega)]; walk_at "w"; rw [add_ss (by rw [show (Str.ofString "wide ").length = 5 by decide]; exact slen' (by omega))]; walk_at "w"
  have ⟨q1, q2, q3, q4, q5⟩ := h.rd
  rw [strs_row (row := [(p.rd.skips : Int), p.rd.gap, p.rd.late, p.rd.anew]) (by rfl) rfl (fun v hv => by
   simp only [List.mem_cons, List.not_mem_nil, or_false] at hv
   rcases hv with rfl | rfl | rfl | rfl <;> omega) (by simp)]
  walk_at "w"; rw [show (Str.ofString " " : Str) = bl from bl_s, join_M (s := bl) (ts := rdWs p.rd) (B := 16) rfl rfl (rdW_b h.rd) (by rw [show (rdWs p.rd).length = 4 from rfl]; omega)]; walk_at "w"
  have hrr2 : (Txt.join bl (rdWs p.rd)).length <= 4 * 16 + 4 := hrr
  rw [add_ss (by rw [show (Str.ofString "road ").length = 5 by decide]; exact slen' (by omega))]; walk_at "w"; rw [add_n g1 (by simp only [List.length_map, List.length_cons, List.length_nil]; omega)]; walk_at "w"
  have e : (p.fs.map fun f => rowS (fdW p.fs f)).map D.str ++ [.str (Str.ofString "check " ++ tS p.n), .str (Str.ofString "wide " ++ tS p.wide), .str (Str.ofString "road " ++ Txt.join bl (rdWs p.rd))] = ((p.fs.map (fdW p.fs) ++ ([[Str.ofString "check", tS p.n], [Str.ofString "wide", tS p.wide], Str.ofString "road" :: rdWs p.rd] : List (List Str))).map rowS).map D.str := by
   simp only [List.map_append, List.map_map, List.map_cons, List.map_nil, row_2, row_c _ (show rdWs p.rd ≠ [] by simp [rdWs]), check_sp, wide_sp, road_sp]
   rfl
  rw [e]; generalize hB : p.fs.map (fdW p.fs) ++ ([[Str.ofString "check", tS p.n], [Str.ofString "wide", tS p.wide], Str.ofString "road" :: rdWs p.rd] : List (List Str)) = B
  have hBl : B.length <= 15 := by rw [<- hB]; simp only [List.length_append, List.length_map, List.length_cons, List.length_nil]; omega
  have k1 : (m1 ++ [MO.lst ((B.map rowS).map D.str)])[m1.length]? = some (.lst ((B.map rowS).map D.str)) := app_new m1 _
  have k2 : Gw m (m1 ++ [MO.lst ((B.map rowS).map D.str)]) := g2.app
  have k3 := g2.len
  generalize hrm2 : m1.length = r2 at k1 k3 ⊢; generalize m1 ++ [MO.lst ((B.map rowS).map D.str)] = mB at k1 k2 ⊢; refine Run.bind (loop_run (fun k ρ m' => ∃ (x11 x12 x13 : Option D), ρ = [some X, some (.tup (p.fs.map Fd.e)), some (.int p.n), some (.int p.wide), some (.tup (p.fms.map Fm.e)), some p.rd.e, some (.ob r2), x7, x8, x9, x10, x11, x12, x13] /\ m'[r2]? = some (.lst ((B.map rowS ++ ((p.fms.take k).map fun f => rowS (fmWs f))).map D.str)) /\ Gw m m') (p.fms.map Fm.e) 0 ⟨_, _, _, rfl, by simpa using k1, k2⟩ ?_) ?_
  ·rintro i d ρ m3 hd ⟨x11, x12, x13, rfl, b1, b2⟩
   rw [List.getElem?_map] at hd
   obtain ⟨f, hf, rfl⟩ := Option.map_eq_some_iff.mp hd
   rw [Nat.zero_add] at b1 ⊢
   have hi := (List.getElem?_eq_some_iff.mp hf).1
   show Run (s51m [some X, some (.tup (p.fs.map Fd.e)), some (.int p.n), some (.int p.wide), some (.tup (p.fms.map Fm.e)), some p.rd.e, some (.ob r2), x7, x8, x9, x10, some (.int f.a), some (.int f.b), some (.tup (f.wys.map Wy.e))] m3) _
   refine Run.mono (s51m_run h.sh f1 (h.fm f (List.mem_of_getElem? hf)) b1 (by rw [List.length_append, List.length_map, List.length_map, List.length_take]; omega)) ?_
   rintro _ m4 ⟨rfl, a1, a2, a3⟩
   refine ⟨_, rfl, _, _, _, rfl, ?_, Nat.le_trans b2.len a2, fun j hj => by rw [a3 j (Nat.lt_of_lt_of_le hj b2.len) (by omega)]; exact b2.at' j hj⟩
   rw [a1, List.take_succ, hf]
   simp
  ·rintro _ m3 ⟨ρ, rfl, x11, x12, x13, rfl, b1, b2⟩
   rw [Nat.zero_add, List.length_map, List.take_length] at b1
   walk_at "w"
   refine Run.ok ⟨r2, rfl, ?_, b2⟩
   rw [b1]
   unfold ptW; rw [hB]
   simp [Function.comp_def]
end
def Fr2 (w : Str) : Prop := 32 ∉ w.cps.toList /\ 10 ∉ w.cps.toList
theorem fr_tS (i : Int) : Fr2 (tS i) := ⟨tS_free (by decide) i, tS_free (by decide) i⟩
theorem fr_nm {x : Str} (h : nmB x = true) : Fr2 x := by
 unfold nmB at h
 rw [Bool.and_eq_true, List.all_eq_true] at h
 refine ⟨fun z => ?_, fun z => ?_⟩
 ·have := h.2 32 z; simp [chB] at this
 ·have := h.2 10 z; simp [chB] at this
theorem fr_app {a b : Str} (ha : Fr2 a) (hb : Fr2 b) : Fr2 (a ++ b) := by
 unfold Fr2; rw [app_L]; simp only [List.mem_append, not_or]
 exact ⟨⟨ha.1, hb.1⟩, ⟨ha.2, hb.2⟩⟩
instance (w : Str) : Decidable (Fr2 w) := by unfold Fr2; infer_instance
theorem fr_fd {fs : List Fd} {i : Nat} {f : Fd} (hs : ShG fs) (hi : fs[i]? = some f) : ∀ w ∈ fdW fs f, Fr2 w := by
 obtain ⟨b0, b1, hk⟩ := hs.at' i f hi
 have hnm := (hs.nm f.nm (List.mem_map.mpr ⟨f, List.mem_of_getElem? hi, rfl⟩)).1
 obtain ⟨nm, b, kd⟩ := f
 simp only at b0 b1 hk hnm
 have key : ∀ w ∈ kdW fs kd, Fr2 w := by
  cases kd with
  | still => exact fun w hw => by rw [List.mem_singleton.mp hw]; decide
  | drawn => exact fun w hw => by rw [List.mem_singleton.mp hw]; decide
  | step n =>
   intro w hw
   simp only [kdW, List.mem_cons, List.not_mem_nil, or_false] at hw
   rcases hw with rfl | rfl
   ·decide
   ·exact fr_tS _
  | turn row =>
   intro w hw
   simp only [kdW, List.mem_cons] at hw
   rcases hw with rfl | hw
   ·decide
   ·obtain ⟨v, hv, rfl⟩ := List.mem_map.mp hw
    exact fr_tS _
  | wth j t =>
   obtain ⟨g, hg⟩ : ∃ g, fs[j]? = some g := ⟨fs[j]'(by have := hk.1.1; have := (List.getElem?_eq_some_iff.mp hi).1; omega), List.getElem?_eq_getElem _⟩
   intro w hw
   simp only [kdW, List.mem_cons, List.not_mem_nil, or_false, hg, Option.map_some, Option.getD_some] at hw
   rcases hw with rfl | rfl | rfl
   ·decide
   ·exact fr_nm (hs.nm g.nm (List.mem_map.mpr ⟨g, List.mem_of_getElem? hg, rfl⟩)).1
   ·exact fr_tS _
 intro w hw
 simp only [fdW, List.mem_cons] at hw
 rcases hw with rfl | rfl | rfl | hw
 ·decide
 ·exact fr_nm hnm
 ·exact fr_tS _
 ·exact key w hw
theorem fr_wy (w : Wy) : Fr2 (wyW w) := by
 cases w with
 | keep => show Fr2 (Str.ofString "="); decide
 | whole => show Fr2 (Str.ofString "*"); decide
 | low a b => exact fr_app (fr_app (fr_tS _) (by decide)) (fr_tS _)
theorem fr_pt {p : Pt} (h : PtOk p) : ∀ ws ∈ ptW p, ∀ w ∈ ws, Fr2 w := by
 intro ws hw
 unfold ptW at hw
 rcases List.mem_append.mp hw with hw | hw
 ·rcases List.mem_append.mp hw with hw | hw
  ·obtain ⟨f, hf, rfl⟩ := List.mem_map.mp hw
   obtain ⟨i, hi⟩ := List.mem_iff_getElem?.mp hf
   exact fr_fd h.sh hi
  ·simp only [List.mem_cons, List.not_mem_nil, or_false] at hw
   rcases hw with rfl | rfl | rfl
   ·intro w hw
    simp only [List.mem_cons, List.not_mem_nil, or_false] at hw
    rcases hw with rfl | rfl
    ·decide
    ·exact fr_tS _
   ·intro w hw
    simp only [List.mem_cons, List.not_mem_nil, or_false] at hw
    rcases hw with rfl | rfl
    ·decide
    ·exact fr_tS _
   ·intro w hw
    rcases List.mem_cons.mp hw with rfl | hw
    ·decide
    ·simp only [rdWs, List.mem_cons, List.not_mem_nil, or_false] at hw
     rcases hw with rfl | rfl | rfl | rfl <;> exact fr_tS _
 ·obtain ⟨f, hf, rfl⟩ := List.mem_map.mp hw
  intro w hw
  simp only [fmWs, List.mem_cons] at hw
  rcases hw with rfl | rfl | rfl | hw
  ·decide
  ·exact fr_tS _
  ·exact fr_tS _
  ·obtain ⟨w, _, rfl⟩ := List.mem_map.mp hw
   exact fr_wy w
theorem row_free {ws : List Str} (h : ∀ w ∈ ws, Fr2 w) : 10 ∉ (rowS ws).cps.toList := by
 induction ws with
 | nil => unfold rowS; rw [txt_join]; decide
 | cons w r ih =>
  cases r with
  | nil => rw [row_1]; exact (h w (by simp)).2
  | cons x r =>
   rw [row_c _ (by simp), app_L, app_L]; simp only [List.mem_append, not_or]
   exact ⟨⟨(h w (by simp)).2, by decide⟩, ih fun y hy => h y (List.mem_cons_of_mem _ hy)⟩
theorem split_row {ws : List Str} (h : ∀ w ∈ ws, Fr2 w) (hn : ws ≠ []) : Txt.split (rowS ws) bl = ws := split_join hn fun w hw => (h w hw).1
theorem split_pt {p : Pt} (h : PtOk p) : Txt.split (ptS p) lf = (ptW p).map rowS := split_join (by unfold ptW; simp) fun t ht => by
 obtain ⟨ws, hw, rfl⟩ := List.mem_map.mp ht
 exact row_free (fr_pt h ws hw)
theorem pt_len {p : Pt} (h : PtOk p) : (ptS p).length <= 20000 := by
 unfold ptS; rw [txt_join]
 have h1 := StrLaws.join_length_le lf ((ptW p).map rowS)
 have h2 := sum_le (rows_b h)
 have h3 := (ptW_b h).1
 rw [List.length_map] at h2
 rw [show lf.length = 1 from rfl, Nat.mul_one, List.length_map] at h1
 have : (ptW p).length * 600 <= 27 * 600 := Nat.mul_le_mul_right _ h3
 omega
def wdD (ws : List Str) : D := .lst (ws.map D.str)
section
variable {m : Sto}
theorem ix_c0 (x : D) (r : List D) : ixD (.lst (x :: r)) (.int 0) m = .ok x m := ix_l (n := 0) rfl
theorem ix_c1 (x y : D) (r : List D) : ixD (.lst (x :: y :: r)) (.int 1) m = .ok y m := ix_l (n := 1) rfl
theorem ix_c2 (x y z : D) (r : List D) : ixD (.lst (x :: y :: z :: r)) (.int 2) m = .ok z m := ix_l (n := 2) rfl
theorem sl_c1 (x : D) (r : List D) : slD (.lst (x :: r)) (some 1) none m = .ok (.lst r) m := by
 show Res.ok (D.lst (cutD _ (some 1) none)) m = _
 rw [cut_from1]
 rfl
theorem sl_c3 (x y z : D) (r : List D) : slD (.lst (x :: y :: z :: r)) (some 3) none m = .ok (.lst r) m := by
 show Res.ok (D.lst (cutD _ (some ((3 : Nat) : Int)) none)) m = _
 rw [cut_from]
 rfl
theorem numbersRead_ok {rows : List D} {at' : Nat} {w : Str} {ns : List Nat} (h : rows[at']? = some (wdD (w :: ns.map fun (n : Nat) => tS n))) (hn : ∀ n ∈ ns, n < 10 ^ 15) (hl : ns.length <= 100) (hr : rows.length <= 1000) : gNumbersRead [.lst rows, .int at', .str w, .int ns.length] m = .ok (.tup (ns.map fun (n : Nat) => .int n)) m := by
 have hat := (List.getElem?_eq_some_iff.mp h).1
 apply run_eq
 unfold gNumbersRead gNumbersRead0; walk_at "w"; rw [if_neg (show ¬ ((rows.length : Nat) : Int) <= (at' : Nat) by omega)]; walk_at "w"; rw [ix_l h]
 unfold wdD; walk_at "w"; rw [decide_eq_true (show ((((ns.map fun (n : Nat) => tS n).map D.str).length + 1 : Nat) : Int) = 1 + (ns.length : Nat) by rw [List.length_map, List.length_map]; omega)]; walk_at "w"; rw [ix_l h]
 unfold wdD; walk_at "w"; rw [ix_c0]; walk_at "w"
 rw [aComp_en (fun n : Nat => D.str (tS n)) (l := ns) (fun n => .int n) (by
  walk_at "w"; rw [ix_l h]
  unfold wdD; walk_at "w"; rw [sl_c1]; walk_at "w"; rw [List.map_map]
  rfl) (by omega) (by
  intro n hn'
  refine ⟨_, rfl, ?_⟩
  show eFn gNumberRead (zab (zag 4) zaj) [some (.lst rows), some (.int at'), some (.str w), some (.int ns.length), some (.str (tS n))] m = _
  walk_at "w"
  exact number_read (hn n hn'))]
 walk_at "w"
 refine Run.ok ⟨?_, rfl⟩
 rfl
end
theorem zip_self : ∀ l : List D, zipD l l = l.map fun a => D.tup [a, a]
 | [] => rfl
 | a :: r => by simp only [List.map_cons, zipD, zip_self r]
open PySem L2
theorem tx_size (l : List Nat) : (⟨l.toArray⟩ : Str).cps.size = l.length := List.size_toArray ..
theorem sl_txH {l : List Nat} {a : Nat} {m : Sto} (h : l.length <= 1000000) (ha : a <= l.length) : slD (.str ⟨l.toArray⟩) (some (a : Int)) none m = .ok (.str ⟨(l.drop a).toArray⟩) m := by
 rw [sl_str (show (⟨l.toArray⟩ : Str).cps.size <= sizeLine by rw [tx_size]; exact Nat.le_trans h (by decide))]
 congr 2
 exact str_ext (by rw [Mth.slice_hi _ _ (by rw [tx_size]; exact ha)])
theorem dg_cons (n : Nat) : ∃ c r, dg n = c :: r /\ 48 <= c /\ c <= 57 := by
 have h1 : 1 <= (dg n).length := by unfold dg; rw [List.length_map]; exact PyProof.Rows.tDigits_len_ge 10 _
 cases hd : dg n with
 | nil => rw [hd] at h1; simp at h1
 | cons c r => exact ⟨c, r, rfl, dg_all n c (by rw [hd]; simp)⟩
theorem start_dash {x : Str} {c : Nat} {r : List Nat} (h : x.cps.toList = c :: r) : Txt.startswith x "-" = decide (c = 45) := by
 unfold Txt.startswith
 rw [StrLaws.subAt_eq, h]
 have hl : x.length = r.length + 1 := by
  show x.cps.size = _
  rw [<- Array.length_toList, h]
  rfl
 rw [show (Str.ofString "-").length = 1 by decide, show (Str.ofString "-").cps.toList = [45] by decide, hl, decide_eq_true (by omega)]; simp only [List.drop_zero, List.take_succ_cons, List.take_zero, Bool.true_and]
 by_cases hc : c = 45
 ·subst hc; rfl
 ·rw [decide_eq_false hc]
  simp [hc]
section
variable {m : Sto}
theorem signedRead_ok {t : Int} (h : t.natAbs < 10 ^ 15) : gSignedRead [.str (tS t)] m = .ok (.int t) m := by
 apply run_eq
 unfold gSignedRead gSignedRead0; walk_at "w"
 by_cases z : 0 <= t
 ·obtain ⟨n, rfl⟩ := Int.eq_ofNat_of_zero_le z
  obtain ⟨c, r, hc, c0, c1⟩ := dg_cons n
  rw [show startM (.str (tS n)) [.str "-"] m = .ok (.bl false) m by
   show Res.ok (D.bl (Txt.startswith (tS n) "-")) m = _
   rw [start_dash ((tS_n n).trans hc), decide_eq_false (by omega)]]
  walk_at "w"; rw [number_read (by simpa using h)]; walk_at "w"; exact Run.ok ⟨rfl, rfl⟩
 ·obtain ⟨k, rfl⟩ : ∃ k : Nat, t = -(k : Int) := ⟨t.natAbs, by omega⟩
  have k0 : 0 < k := by omega
  have hk : k < 10 ^ 15 := by simpa using h
  have e := tS_neg k0
  rw [show startM (.str (tS (-(k : Int)))) [.str "-"] m = .ok (.bl true) m by
   show Res.ok (D.bl (Txt.startswith (tS (-(k : Int))) "-")) m = _
   rw [start_dash e]
   rfl]
  walk_at "w"
  have es : tS (-(k : Int)) = ⟨(45 :: dg k).toArray⟩ := str_ext (by rw [e])
  have el : (dg k).length <= 15 := (dg_len hk).2
  rw [es, show slD (.str ⟨(45 :: dg k).toArray⟩) (some 1) none m = .ok (.str (tS k)) m from (sl_txH (l := 45 :: dg k) (a := 1) (by simp; omega) (by simp)).trans (by
   rw [show tS k = ⟨(dg k).toArray⟩ from str_ext (by rw [tS_n])]
   rfl)]
  walk_at "w"; rw [number_read hk]; walk_at "w"; rw [if_neg (by omega)]; walk_at "w"; exact Run.ok ⟨rfl, rfl⟩
end
section
variable {m : Sto}
theorem pyOkL_st : ∀ zs : List Str, pyOkL (zs.map D.str) = true
 | [] => by simp [pyOkL]
 | a :: r => by simp [pyOkL, pyOk, pyOkL_st r]
theorem pyL_st : ∀ zs : List Str, pyL (zs.map D.str) = zs.map PyData.str
 | [] => by simp [pyL]
 | a :: r => by simp [pyL, py, pyL_st r]
theorem can_st : ∀ zs : List Str, (∀ z ∈ zs, PyData.strOk z = true) -> PyData.canLayAll0 (zs.map PyData.str) = true
 | [], _ => by simp [PyData.canLayAll0]
 | a :: r, h => by simp [PyData.canLayAll0, PyData.canLay0, can_st r fun z hz => h z (List.mem_cons_of_mem _ hz), h a (by simp)]
theorem in_st {z : Str} {zs : List Str} (h : z ∈ zs) (ho : ∀ z ∈ zs, PyData.strOk z = true) : inD (.str z) (.lst (zs.map D.str)) m = .ok (.bl true) m := by
 have e : inO (.str z) (.lst (zs.map D.str)) m = some true := by
  show inB (.str z) (zs.map D.str) = _
  unfold inB; rw [pyOkL_st, pyL_st, can_st zs ho]
  have hd : deep (.str z) = true := by simp [deep, pyOk, py, SeqAt.shaped, PyData.canLay0, PyData.depth, ho z h]
  rw [hd]; simp only [Bool.and_self, if_true, py]
  congr 1
  rw [List.any_eq_true]
  exact ⟨_, List.mem_map.mpr ⟨z, h, rfl⟩, by simp [PyData.eqv]⟩
 simp only [inD, e]
theorem nm_strOk {x : Str} (h : nmB x = true) : PyData.strOk x = true := by
 unfold nmB at h
 rw [Bool.and_eq_true, List.all_eq_true] at h
 unfold PyData.strOk
 rw [Array.all_eq_true']
 intro c hc
 have := h.2 c (by simpa using hc)
 simp only [chB, decide_eq_true_eq] at this
 simp only [decide_eq_true_eq]
 omega
theorem lidx {zs : List Str} {j : Nat} {z : Str} (h : zs[j]? = some z) (hn : zs.Nodup) : lindexM (.lst (zs.map D.str)) [.str z] m = .ok (.int j) m := by
 have hm : z ∈ zs := List.mem_of_getElem? h
 have hj := (List.getElem?_eq_some_iff.mp h).1
 have e : zs.idxOf z = j := by
  have h1 := List.idxOf_lt_length_of_mem hm
  have h2 : zs[zs.idxOf z] = z := List.getElem_idxOf h1
  have h3 : zs[j] = z := (List.getElem?_eq_some_iff.mp h).2
  exact (List.getElem_inj hn).mp (h2.trans h3.symm)
 simp only [lindexM, asStrs_s]; rw [if_pos hm, e]
theorem numsRead_ok {ns : List Int} {ρ : En} {f : EV} {i : Nat} (hf : f ρ m = .ok (.lst ((ns.map tS).map D.str)) m) (hρ : ρ.length = i) (hn : ∀ n ∈ ns, 0 <= n /\ n.natAbs < 10 ^ 15) (hl : ns.length <= 100) : aComp 1 (aIt f) (gN i) tYesM (eFn gNumberRead (zab (zag i) zaj)) ρ m = .ok (ns.map D.int) m := by
 subst hρ
 rw [aComp_en (fun n : Int => D.str (tS n)) (l := ns) D.int (by show (f ρ m).bind asSeq = _; rw [hf, List.map_map]; rfl) (by omega) (by
  intro n hn'
  refine ⟨ρ ++ [some (.str (tS n))], ?_, ?_⟩
  ·show Res.ok ((ρ ++ [none]).set ρ.length (some (D.str (tS n)))) m = _
   rw [List.set_append_right _ _ (Nat.le_refl _), Nat.sub_self]
   rfl
  ·have e : zag ρ.length (ρ ++ [some (.str (tS n))]) m = .ok (.str (tS n)) m := by
    unfold zag; rw [List.getElem?_append_right (Nat.le_refl _), Nat.sub_self]
    rfl
   show ((((zag ρ.length (ρ ++ [some (.str (tS n))]) m).bind _)).bind gNumberRead) = _
   rw [e]
   obtain ⟨k, rfl⟩ := Int.eq_ofNat_of_zero_le (hn n hn').1
   exact number_read (by have := (hn _ hn').2; simpa using this))]
theorem kindRead_ok {fs : List Fd} {i : Nat} {f : Fd} (hs : ShG fs) (hn : fs.length <= 12) (hi : fs[i]? = some f) : gKindRead [.lst (((fs.take i).map Fd.nm).map D.str), .lst ((kdW fs f.kd).map D.str)] m = .ok f.kd.e m := by
 obtain ⟨b0, b1, hk⟩ := hs.at' i f hi
 obtain ⟨nm, b, kd⟩ := f
 simp only at b0 b1 hk ⊢
 have hil := (List.getElem?_eq_some_iff.mp hi).1
 apply run_eq
 unfold gKindRead gKindRead0; generalize hN : ((fs.take i).map Fd.nm) = N
 cases kd with
 | still =>
  simp only [kdW, Kd.e]; walk_at "w"; rw [ix_c0]; walk_at "w"; exact Run.ok ⟨rfl, rfl⟩
 | drawn =>
  simp only [kdW, Kd.e]; walk_at "w"; rw [ix_c0]; walk_at "w"; exact Run.ok ⟨rfl, rfl⟩
 | step n =>
  obtain ⟨k, rfl⟩ := Int.eq_ofNat_of_zero_le hk.1.1
  simp only [kdW, Kd.e]; walk_at "w"; rw [ix_c0]; walk_at "w"; rw [if_neg (by decide)]; walk_at "w"; rw [ix_c0]; walk_at "w"; rw [if_pos (show ((2 : Nat) : Int) = 2 from rfl)]; walk_at "w"; rw [ix_c1]; walk_at "w"; rw [number_read (by have := lt_2b b1 hk.1; simpa using this)]; walk_at "w"; exact Run.ok ⟨rfl, rfl⟩
 | turn row =>
  have r2 := (hk.2 row rfl).1
  have r12 := hk.1.2.1
  simp only [kdW, Kd.e]; walk_at "w"; rw [if_neg (show ¬ ((((row.map tS).map D.str).length + 1 : Nat) : Int) = 1 by rw [List.length_map, List.length_map]; omega)]; walk_at "w"; rw [ix_c0]; walk_at "w"; rw [ix_c0]; walk_at "w"; rw [numsRead_ok (i := 2) (ns := row) (by walk_at "w"; rw [sl_c1]) (by rfl) (fun n hn' => ⟨(hk.1.2.2 n hn').1, lt_2b b1 (hk.1.2.2 n hn')⟩) (by omega)]; walk_at "w"; exact Run.ok ⟨rfl, rfl⟩
 | wth j t =>
  obtain ⟨g, hg⟩ : ∃ g, fs[j]? = some g := ⟨fs[j]'(by have := hk.1.1; omega), List.getElem?_eq_getElem _⟩
  have hj := hk.1.1
  have ht : t.natAbs < 10 ^ 15 := by have := hk.1.2; omega
  have hNj : N[j]? = some g.nm := by
   rw [<- hN, List.getElem?_map, List.getElem?_take, if_pos hj, hg]
   rfl
  have hNd : N.Nodup := by
   rw [<- hN, List.map_take]
   exact List.Nodup.sublist (List.take_sublist _ _) hs.nd
  have hNo : ∀ z ∈ N, PyData.strOk z = true := fun z hz => by
   rw [<- hN, List.map_take] at hz
   exact nm_strOk (hs.nm z (List.mem_of_mem_take hz)).1
  simp only [kdW, Kd.e, hg, Option.map_some, Option.getD_some]; walk_at "w"; rw [ix_c0]; walk_at "w"; rw [if_neg (show ¬ ((3 : Nat) : Int) = 1 by decide)]; walk_at "w"; rw [ix_c0]; walk_at "w"; rw [ix_c0]; walk_at "w"; rw [ix_c0]; walk_at "w"; rw [if_pos (show ((3 : Nat) : Int) = 3 from rfl)]; walk_at "w"; rw [ix_c1]; walk_at "w"; rw [in_st (List.mem_of_getElem? hNj) hNo]; walk_at "w"; rw [ix_c1]
  walk_at "w"; rw [lidx hNj hNd]; walk_at "w"; rw [if_pos (show isLst (.lst (N.map D.str)) m = true from rfl)]; walk_at "w"; rw [ix_c2]; walk_at "w"; rw [signedRead_ok ht]; walk_at "w"; exact Run.ok ⟨rfl, rfl⟩
end
theorem at_one {x : Str} {c i : Nat} : StrLaws.At x ⟨#[c]⟩ x.length i ↔ x.cps.toList[i]? = some c := by
 unfold StrLaws.At
 rw [StrLaws.subAt_eq]
 have hl : x.length = x.cps.toList.length := Array.length_toList.symm
 rw [hl]; generalize x.cps.toList = L
 show (i + 1 <= L.length /\ ((L.drop i).take 1 == [c]) = true) ↔ _
 rw [beq_iff_eq]
 constructor
 ·rintro ⟨h1, h2⟩
  rw [List.drop_eq_getElem_cons (by omega), List.take_succ_cons, List.take_zero] at h2
  rw [List.getElem?_eq_getElem (by omega)]
  exact congrArg some (List.cons.inj h2).1
 ·intro h
  obtain ⟨h1, h2⟩ := List.getElem?_eq_some_iff.mp h
  exact ⟨h1, by rw [List.drop_eq_getElem_cons h1, List.take_succ_cons, List.take_zero, h2]⟩
theorem part_one {a b : Str} {c : Nat} (h : c ∉ a.cps.toList) : Txt.partition (a ++ ⟨#[c]⟩ ++ b) ⟨#[c]⟩ = (a, ⟨#[c]⟩, b) := by
 have hL : (a ++ (⟨#[c]⟩ : Str) ++ b).cps.toList = a.cps.toList ++ c :: b.cps.toList := by rw [app_L, app_L]; simp
 have hn : (a ++ (⟨#[c]⟩ : Str) ++ b).length = a.cps.toList.length + 1 + b.cps.toList.length := by
  have : (a ++ (⟨#[c]⟩ : Str) ++ b).length = (a ++ (⟨#[c]⟩ : Str) ++ b).cps.toList.length := Array.length_toList.symm
  rw [this, hL, List.length_append, List.length_cons]
  omega
 have hat : (a ++ (⟨#[c]⟩ : Str) ++ b).cps.toList[a.cps.toList.length]? = some c := by rw [hL]; simp
 unfold Txt.partition
 rcases StrLaws.occ_head (a ++ (⟨#[c]⟩ : Str) ++ b) ⟨#[c]⟩ 1 (Nat.le_refl 1) with ⟨h0, hno⟩ | ⟨i, r, h0, hi, hno⟩
 ·exact absurd (at_one.mpr hat) (hno _)
 ·have h1 : i <= a.cps.toList.length := by
   apply Nat.le_of_not_lt
   intro z
   exact hno _ z (at_one.mpr hat)
  have h2 := at_one.mp hi
  have h3 : i = a.cps.toList.length := by
   rcases Nat.lt_or_eq_of_le h1 with z | z
   ·rw [hL, List.getElem?_append_left z] at h2
    exact absurd (List.mem_of_getElem? h2) h
   ·exact z
  subst h3
  rw [h0]
  show (Builtin.Str.strSub _ 0 a.cps.toList.length, _, Builtin.Str.strSub _ (a.cps.toList.length + 1) (a ++ (⟨#[c]⟩ : Str) ++ b).length) = _
  congr 1
  ·exact str_ext (by rw [StrLaws.strSub_toList, hL]; simp)
  ·congr 1
   refine str_ext ?_
   rw [StrLaws.strSub_toList, hL, hn]; rw [List.drop_append, List.drop_of_length_le (by omega)]
   simp
   exact List.take_of_length_le (by simp)
section
variable {m : Sto}
theorem kdW_ne (fs : List Fd) (kd : Kd) : kdW fs kd ≠ [] := by cases kd <;> simp [kdW]
theorem fieldRead_ok {fs : List Fd} {i : Nat} {f : Fd} (hs : ShG fs) (hn : fs.length <= 12) (hi : fs[i]? = some f) : gFieldRead [.tup ((fs.take i).map Fd.e), .lst ((fdW fs f).map D.str)] m = .ok f.e m := by
 have hkr := kindRead_ok (m := m) hs hn hi
 obtain ⟨b0, b1, hk⟩ := hs.at' i f hi
 obtain ⟨nm, b, kd⟩ := f
 simp only at b0 b1 hk hkr
 apply run_eq
 unfold gFieldRead gFieldRead0 fdW
 have hne := kdW_ne fs kd
 have hlen : 1 <= (kdW fs kd).length := by
  cases hq : kdW fs kd with
  | nil => exact absurd hq hne
  | cons a r => simp
 generalize kdW fs kd = K at hkr hne hlen ⊢; walk_at "w"; rw [if_neg (show ¬ (((K.map D.str).length + 1 + 1 + 1 : Nat) : Int) < 4 by rw [List.length_map]; omega)]; walk_at "w"
 rw [aComp_en Fd.e (l := fs.take i) (fun f => .str f.nm) (by walk_at "w") (by rw [List.length_take]; omega) (by
  intro f hf
  refine ⟨_, rfl, ?_⟩
  show eOp ixD (zag 3) (eC (.int 0)) [some (.tup ((fs.take i).map Fd.e)), some (.lst (.str "field" :: .str nm :: .str (tS b) :: K.map D.str)), none, some f.e] m = _
  unfold Fd.e
  walk_at "w")]
 walk_at "w"; rw [ix_c1]; walk_at "w"; rw [ix_c2]; walk_at "w"; rw [number_read (by omega)]; walk_at "w"; rw [sl_c3]; walk_at "w"; rw [show ((fs.take i).map fun f => D.str f.nm) = ((fs.take i).map Fd.nm).map D.str by rw [List.map_map]; rfl, hkr]; walk_at "w"; exact Run.ok ⟨rfl, rfl⟩
theorem wayRead_ok {wy : Wy} {b : Nat} (h : wy.Ok b) (hb : b <= 40) : gWayRead [.str (wyW wy)] m = .ok wy.e m := by
 apply run_eq
 unfold gWayRead gWayRead0
 cases wy with
 | keep =>
  simp only [wyW, Wy.e]; walk_at "w"; exact Run.ok ⟨rfl, rfl⟩
 | whole =>
  simp only [wyW, Wy.e]; walk_at "w"; exact Run.ok ⟨rfl, rfl⟩
 | low w v =>
  simp only [wyW, Wy.e]; walk_at "w"
  have hv := h.2.2
  have hv' : v.natAbs < 10 ^ 15 := lt_2b (b := w) (Nat.le_trans h.2.1 hb) hv
  have hw' : w < 10 ^ 15 := by have := h.2.1; omega
  obtain ⟨k, rfl⟩ := Int.eq_ofNat_of_zero_le hv.1
  have hk' : k < 10 ^ 15 := by simpa using hv'
  have hdash : (Str.ofString "-" : Str) = ⟨#[45]⟩ := by decide
  have h45 : 45 ∉ (tS w).cps.toList := by
   rw [tS_n]
   intro z
   have := dg_all w 45 z
   omega
  have hin : 45 ∈ (tS w ++ Str.ofString "-" ++ tS k).cps.toList := by
   rw [app_L, app_L, hdash]
   simp
  have l1 := tS_len hw'
  have l2 := tS_len hk'
  have hp := part_one (b := tS k) h45
  rw [<- hdash] at hp
  have hlen : (tS w ++ Str.ofString "-" ++ tS k).length <= 40 := by
   simp only [PySem.strLen_append]; rw [show (Str.ofString "-").length = 1 by decide]
   omega
  rw [if_neg (show ¬ tS w ++ Str.ofString "-" ++ tS k = Str.ofString "=" from fun z => by rw [z] at hin; exact absurd hin (by decide))]; walk_at "w"; rw [if_neg (show ¬ tS w ++ Str.ofString "-" ++ tS k = Str.ofString "*" from fun z => by rw [z] at hin; exact absurd hin (by decide))]; walk_at "w"
  rw [show partM (.str (tS w ++ Str.ofString "-" ++ tS k)) [.str (Str.ofString "-")] m = .ok (.tup [.str (tS w), .str (Str.ofString "-"), .str (tS k)]) m from by
   refine (if_pos ⟨by decide, Nat.le_trans hlen (by decide)⟩).trans ?_
   rw [hp]]
  walk_at "w"; rw [number_read hw']; walk_at "w"; rw [number_read hk']; walk_at "w"; exact Run.ok ⟨rfl, rfl⟩
end
section
variable {m : Sto}
theorem formRead_ok {fs : List Fd} {fm : Fm} (hs : ShG fs) (hn : fs.length <= 12) (h : FmOk fs fm) : gFormRead [.lst ((fmWs fm).map D.str)] m = .ok fm.e m := by
 have hw := wys_ok hs h
 have hl : fm.wys.length <= 12 := by have := h.wy.len; omega
 have ha := h.a1
 have hb := h.b1
 apply run_eq
 unfold gFormRead gFormRead0 fmWs; walk_at "w"; rw [if_neg (show ¬ ((((fm.wys.map wyW).map D.str).length + 1 + 1 + 1 : Nat) : Int) < 3 by omega)]; walk_at "w"; rw [ix_c0]; walk_at "w"; rw [ix_c1]; walk_at "w"; rw [number_read (by omega)]; walk_at "w"; rw [ix_c2]; walk_at "w"; rw [number_read (by omega)]; walk_at "w"
 rw [aComp_en (fun w : Wy => D.str (wyW w)) (l := fm.wys) Wy.e (by
  walk_at "w"; rw [sl_c3]; walk_at "w"; rw [List.map_map]
  rfl) (by omega) (by
  intro w hw'
  obtain ⟨b, h1, h2⟩ := hw w hw'
  refine ⟨_, rfl, ?_⟩
  show eFn gWayRead (zab (zag 1) zaj) [some _, some (.str (wyW w))] m = _
  walk_at "w"
  exact wayRead_ok h1 h2)]
 walk_at "w"; exact Run.ok ⟨rfl, rfl⟩
theorem FmOk_take {fs : List Fd} {fms : List Fm} (h : ∀ f ∈ fms, FmOk fs f) (k : Nat) : ∀ f ∈ fms.take k, FmOk fs f := fun f hf => h f (List.mem_of_mem_take hf)
theorem formsRead_ok {fs : List Fd} {n : Int} {fms : List Fm} {rows : List D} {B : Nat} (hs : ShG fs) (hn : fs.length <= 12) (h : ∀ f ∈ fms, FmOk fs f) (hl : fms.length <= 12) (hr : rows.length = B + fms.length) (hB : B <= 100) (hat : ∀ (k : Nat) (f : Fm), fms[k]? = some f -> rows[B + k]? = some (.lst ((fmWs f).map D.str))) :
  gFormsRead [shD fs n, .lst rows, .int B] m = .ok (.tup (fms.map Fm.e)) m := by
 apply run_eq
 unfold gFormsRead gFormsRead0; walk_at "w"; rw [hr, rng2_ok (by omega) (by omega) (by omega) (by omega)]; walk_at "w"; rw [show (((B + fms.length : Nat) : Int) - (B : Nat)).toNat = fms.length by omega]; refine Run.bind (loop_run (fun k ρ m' => ∃ (x4 : Option D), ρ = [some (shD fs n), some (.lst rows), some (.int B), some (.tup ((fms.take k).map Fm.e)), x4] /\ m' = m) _ 0 ⟨_, rfl, rfl⟩ ?_) ?_
 ·rintro i d ρ m1 hd ⟨x4, rfl, rfl⟩
  have hi := (List.getElem?_eq_some_iff.mp hd).1
  rw [len_ints] at hi
  have hdd : d = .int ((B + i : Nat) : Int) := by
   rw [intsD, List.getElem?_map, List.getElem?_range hi] at hd
   cases hd
   congr 1
  subst hdd
  rw [Nat.zero_add]
  have hf : fms[i]? = some fms[i] := List.getElem?_eq_getElem hi
  walk_at "w"; rw [ix_l (hat i _ hf)]; walk_at "w"; rw [formRead_ok hs hn (h _ (List.mem_of_getElem? hf))]; walk_at "w"; rw [add_tt (by rw [List.length_map, List.length_take]; exact slen (by show min i fms.length + 1 <= 100; omega))]; walk_at "w"
  have e : (fms.take i).map Fm.e ++ [(fms[i]).e] = (fms.take (i + 1)).map Fm.e := by
   rw [List.take_succ, hf, List.map_append]
   rfl
  rw [e, areForms_f hs.ok hn (FmOk_take h (i + 1)) (by rw [List.length_take]; omega)]; walk_at "w"; exact Run.ok ⟨_, rfl, _, rfl, rfl⟩
 ·rintro _ m1 ⟨ρ, rfl, x4, rfl, rfl⟩; rw [Nat.zero_add, len_ints, List.take_length]; walk_at "w"; exact Run.ok ⟨rfl, rfl⟩
end
theorem ShG.take {fs : List Fd} (h : ShG fs) (k : Nat) : ShG (fs.take k) := by
 refine ⟨fun i f hi => ?_, fun x hx => ?_, ?_⟩
 ·rw [List.getElem?_take] at hi
  split at hi
  ·exact h.at' i f hi
  ·cases hi
 ·rw [List.map_take] at hx
  exact h.nm x (List.mem_of_mem_take hx)
 ·rw [List.map_take]
  exact List.Nodup.sublist (List.take_sublist _ _) h.nd
theorem while_run {t : TV} {b : SV} (I : Nat -> En -> Sto -> Prop) (N : Nat) : ∀ (d k fuel : Nat) {ρ : En} {m : Sto}, k + d = N -> d < fuel -> I k ρ m -> (∀ k ρ m, k < N -> I k ρ m -> t ρ m = .ok true m /\ Run (b ρ m) fun fl m2 => ∃ ρ2, fl = .nx ρ2 /\ I (k + 1) ρ2 m2) -> (∀ ρ m, I N ρ m -> t ρ m = .ok false m) →
  Run (loopW t b fuel ρ m) fun fl m' => ∃ ρ', fl = .nx ρ' /\ I N ρ' m'
 | d, k, 0, _, _, _, h, _, _, _ => absurd h (Nat.not_lt_zero _)
 | 0, k, fuel + 1, ρ, m, hk, _, h, _, h2 => by
  have : k = N := by omega
  subst this
  rw [loopW, h2 ρ m h]; exact Run.ok ⟨ρ, rfl, h⟩
 | d + 1, k, fuel + 1, ρ, m, hk, hd, h, h1, h2 => by
  obtain ⟨e1, _, m2, e2, ρ2, rfl, hI⟩ := h1 k ρ m (by omega) h
  rw [loopW, e1, bind_ok, if_pos rfl, e2, bind_ok]
  exact while_run I N d (k + 1) fuel (by omega) (by omega) hI h1 h2
def s51t : TV := (tAndM (tV (eOp ltD (eFn lenF (zab (zag 1) zaj)) (eFn lenF (zab (zag 0) zaj)))) (tV (eOp eqD (eOp ixD (eOp ixD (zag 0) (eFn lenF (zab (zag 1) zaj))) (eC (.int 0))) (eC (.str "field")))))
def s51w : SV := (sSeq (sAsg (eOp addD (zag 1) (eFn gTup (zab (eFn gFieldRead (zab (zag 1) (zab (eOp ixD (zag 0) (eFn lenF (zab (zag 1) zaj))) zaj))) zaj))) (gN 2))
 (sSeq (sIf (tNotM (tV (eFn gAreFields (zab (zag 2) zaj))))
 sBad
 sNil)
 (sAsg (zag 2) (gN 1))))
theorem gShapeRead_cut : gShapeRead0 = (sSeq (sAsg (eFn gTup zaj) (gN 1))
 (sSeq (sWhile fuelW s51t s51w)
 (sSeq (sAsg (eFn gTup (zab (zag 1) (zab (eOp ixD (eFn gNumbersRead (zab (zag 0) (zab (eFn lenF (zab (zag 1) zaj)) (zab (eC (.str "check")) (zab (eC (.int 1)) zaj))))) (eC (.int 0))) zaj))) (gN 3))
 (sSeq (sIf (tNotM (tV (eFn gIsShape (zab (zag 3) zaj))))
 sBad
 sNil)
 (sRet (zag 3)))))) := rfl
section
variable {m : Sto} {p : Pt}
theorem shapeRead_ok {rows : List D} (h : PtOk p) (hr : ∀ (k : Nat) (f : Fd), p.fs[k]? = some f -> rows[k]? = some (.lst ((fdW p.fs f).map D.str))) (hc : rows[p.fs.length]? = some (wdD ["check", tS p.n])) (hl : rows.length <= 1000) : gShapeRead [.lst rows] m = .ok (shD p.fs p.n) m := by
 have f1 := h.f1
 have hrl := (List.getElem?_eq_some_iff.mp hc).1
 apply run_eq
 unfold gShapeRead; rw [gShapeRead_cut]; walk_at "w"; rw [while_at]; refine Run.bind (while_run (fun k ρ m' => ∃ x2 x3 : Option D, ρ = [some (.lst rows), some (.tup ((p.fs.take k).map Fd.e)), x2, x3] /\ m' = m) p.fs.length p.fs.length 0 fuelW (by omega) (Nat.lt_of_le_of_lt f1 (by decide)) ⟨_, _, rfl, rfl⟩ ?_ ?_) ?_
 ·rintro k ρ m1 hk ⟨x2, x3, rfl, rfl⟩
  have hf : p.fs[k]? = some p.fs[k] := List.getElem?_eq_getElem hk
  have hlk : ((p.fs.take k).map Fd.e).length = k := by rw [List.length_map, List.length_take]; omega
  refine ⟨?_, ?_⟩
  ·unfold s51t; walk_at "w"; rw [hlk, if_pos (by omega), ix_l (hr k _ hf)]
   unfold fdW; walk_at "w"; rw [ix_c0]; walk_at "w"
  ·unfold s51w; walk_at "w"; rw [hlk, ix_l (hr k _ hf)]; walk_at "w"; rw [fieldRead_ok h.sh f1 hf]; walk_at "w"; rw [add_tt (by rw [hlk]; exact slen (by show k + 1 <= 100; omega))]; walk_at "w"
   have e : (p.fs.take k).map Fd.e ++ [(p.fs[k]).e] = (p.fs.take (k + 1)).map Fd.e := by
    rw [List.take_succ, hf, List.map_append]
    rfl
   rw [e, areFields_f (h.sh.take (k + 1)) (by rw [List.length_take]; omega) (by rw [List.length_take]; omega)]; walk_at "w"; exact Run.ok ⟨_, rfl, _, _, rfl, rfl⟩
 ·rintro ρ m1 ⟨x2, x3, rfl, rfl⟩
  unfold s51t; rw [List.take_length]; walk_at "w"; rw [List.length_map, if_pos (by omega), ix_l hc]
  unfold wdD; walk_at "w"; rw [ix_c0]; walk_at "w"
 ·rintro _ m1 ⟨ρ, rfl, x2, x3, rfl, rfl⟩; rw [List.take_length]; walk_at "w"
  obtain ⟨n, hn⟩ := Int.eq_ofNat_of_zero_le (Int.le_of_lt h.n0)
  have hn15 : n < 10 ^ 15 := by have := h.n1; omega
  rw [hn] at hc
  rw [List.length_map, show gNumbersRead [.lst rows, .int p.fs.length, .str (Str.ofString "check"), .int 1] m1 = .ok (.tup [.int n]) m1 from numbersRead_ok (ns := [n]) hc (fun k hk => by rw [List.mem_singleton.mp hk]; exact hn15) (by simp) hl]; walk_at "w"; rw [<- hn]
  have e := isShape_s (m := m1) h.sh h.f0 f1 h.n0 h.n1
  unfold shD at e; rw [e]; walk_at "w"; exact Run.ok ⟨rfl, rfl⟩
end
section
variable {m : Sto} {p : Pt}
theorem rows_at (p : Pt) : ((ptW p).map wdD).length = p.fs.length + 3 + p.fms.length /\ (∀ (k : Nat) (f : Fd), p.fs[k]? = some f -> ((ptW p).map wdD)[k]? = some (.lst ((fdW p.fs f).map D.str))) /\ ((ptW p).map wdD)[p.fs.length]? = some (wdD ["check", tS p.n]) /\ ((ptW p).map wdD)[p.fs.length + 1]? = some (wdD ["wide", tS p.wide]) /\ ((ptW p).map wdD)[p.fs.length + 2]? = some (wdD (Str.ofString "road" :: rdWs p.rd)) /\ ∀ (k : Nat) (f : Fm), p.fms[k]? = some f -> ((ptW p).map wdD)[p.fs.length + 3 + k]? = some (.lst ((fmWs f).map D.str)) := by
 unfold ptW
 refine ⟨by simp; omega, fun k f hk => ?_, ?_, ?_, ?_, fun k f hk => ?_⟩
 ·have hl := (List.getElem?_eq_some_iff.mp hk).1
  rw [List.getElem?_map, List.getElem?_append_left (by simp; omega), List.getElem?_append_left (by simpa using hl), List.getElem?_map, hk]
  rfl
 ·rw [List.getElem?_map, List.getElem?_append_left (by simp), List.getElem?_append_right (by simp), List.length_map, Nat.sub_self]
  rfl
 ·rw [List.getElem?_map, List.getElem?_append_left (by simp), List.getElem?_append_right (by simp), List.length_map, show p.fs.length + 1 - p.fs.length = 1 by omega]
  rfl
 ·rw [List.getElem?_map, List.getElem?_append_left (by simp), List.getElem?_append_right (by simp), List.length_map, show p.fs.length + 2 - p.fs.length = 2 by omega]
  rfl
 ·rw [List.getElem?_map, List.getElem?_append_right (by simp only [List.length_append, List.length_map, List.length_cons, List.length_nil]; omega), List.getElem?_map]; simp only [List.length_append, List.length_map, List.length_cons, List.length_nil]; rw [show p.fs.length + 3 + k - (p.fs.length + (0 + 1 + 1 + 1)) = k by omega, hk]
  rfl
theorem split_M {x : Str} {c : Nat} {s : String} (hs : (Str.ofString s : Str) = ⟨#[c]⟩) (hl : x.length <= 20000) : splitM (.str x) [.str (Str.ofString s)] m = .ok (.lst ((Txt.split x ⟨#[c]⟩).map D.str)) m := by
 rw [hs]
 exact if_pos ⟨rfl, Nat.le_trans (Nat.add_le_add_right hl 2) (by decide)⟩
theorem readPact_ok (h : PtOk p) : gReadPact [.str (ptS p)] m = .ok p.e m := by
 have f1 := h.f1
 have w1 := h.w1
 have hfml := h.fml
 obtain ⟨r0, r1, r2, r3, r4, r5⟩ := rows_at p
 have hb := ptW_b h
 apply run_eq
 unfold gReadPact gReadPact0; walk_at "w"; rw [show isiD "str" (.str (ptS p)) m = .ok (.bl true) m from rfl]; walk_at "w"
 rw [aComp_en (fun ws : List Str => D.str (rowS ws)) (l := ptW p) wdD (by
  walk_at "w"; rw [split_M (c := 10) (by decide) (pt_len h), show Txt.split (ptS p) ⟨#[10]⟩ = (ptW p).map rowS from split_pt h]; walk_at "w"; rw [List.map_map]
  rfl) (by have := hb.1; omega) (by
  intro ws hw
  obtain ⟨b1, b2, b3⟩ := hb.2 ws hw
  refine ⟨_, rfl, ?_⟩
  show eMeth isStr splitM (zag 6) (zab (eC (.str " ")) zaj) [some (.str (ptS p)), none, none, none, none, none, some (.str (rowS ws))] m = _
  walk_at "w"; rw [split_M (c := 32) (by decide) (Nat.le_trans (row_b b1 b2) (by decide)), show Txt.split (rowS ws) ⟨#[32]⟩ = ws from split_row (fr_pt h ws hw) b3]
  rfl)]
 walk_at "w"; generalize (ptW p).map wdD = R at r0 r1 r2 r3 r4 r5 ⊢; rw [shapeRead_ok h r1 r2 (by omega)]; walk_at "w"; rw [ix_sh]; walk_at "w"; rw [List.length_map]
 have ⟨q1, q2, q3, q4, q5⟩ := h.rd
 rw [show gNumbersRead [.lst R, .int ((p.fs.length : Int) + 1), .str (Str.ofString "wide"), .int 1] m = .ok (.tup [.int p.wide]) m from numbersRead_ok (at' := p.fs.length + 1) (ns := [p.wide]) r3 (fun k hk => by rw [List.mem_singleton.mp hk]; omega) (by simp) (by omega)]; walk_at "w"; rw [isWide_w h.w0 w1]; walk_at "w"
 rw [show (p.fs.length : Int) + 1 + 1 = ((p.fs.length + 2 : Nat) : Int) by omega, show gNumbersRead [.lst R, .int ((p.fs.length + 2 : Nat) : Int), .str (Str.ofString "road"), .int 4] m = .ok p.rd.e m from numbersRead_ok (ns := [p.rd.skips, p.rd.gap, p.rd.late, p.rd.anew]) r4 (fun k hk => by
  simp only [List.mem_cons, List.not_mem_nil, or_false] at hk
  rcases hk with rfl | rfl | rfl | rfl <;> omega) (by simp) (by omega)]
 walk_at "w"; rw [isRoad_r h.rd]; walk_at "w"; rw [show (p.fs.length : Int) + 1 + 2 = ((p.fs.length + 3 : Nat) : Int) by omega, formsRead_ok h.sh f1 h.fm hfml r0 (by omega) r5]; walk_at "w"; exact Run.ok ⟨rfl, rfl⟩
end
structure Dq (k : Nat) (d : D) : Prop where
 ok : pyOk d = true
 ly : (py d).canLay0 = true
 dp : (py d).depth <= k
theorem Dq.all {k : Nat} : ∀ {xs : List D}, (∀ x ∈ xs, Dq k x) -> pyOkL xs = true /\ PyData.canLayAll0 (pyL xs) = true /\ PyData.depthAll (pyL xs) <= k
 | [], _ => ⟨by simp [pyOkL], by simp [pyL, PyData.canLayAll0], by simp [pyL, PyData.depthAll]⟩
 | x :: r, h => by
  obtain ⟨a, b, c⟩ := Dq.all fun y hy => h y (List.mem_cons_of_mem _ hy)
  have hx := h x (by simp)
  refine ⟨by simp [pyOkL, hx.ok, a], by simp [pyL, PyData.canLayAll0, hx.ly, b], ?_⟩
  simp only [pyL, PyData.depthAll]
  have := hx.dp
  omega
def Sq : Nat -> D -> Prop
 | 0, d => (∃ a, d = .int a) ∨ ∃ s, d = .str s /\ PyData.strOk s = true
 | n + 1, d => ((∃ a, d = .int a) ∨ ∃ s, d = .str s /\ PyData.strOk s = true) ∨ ∃ xs, d = .tup xs /\ xs.length <= 1000 /\ ∀ x ∈ xs, Sq n x
theorem qq_i (n : Nat) (a : Int) : Sq n (.int a) := by cases n with
 | zero => exact .inl ⟨_, rfl⟩
 | succ => exact .inl (.inl ⟨_, rfl⟩)
theorem qq_s (n : Nat) {a : Str} (h : PyData.strOk a = true) : Sq n (.str a) := by cases n with
 | zero => exact .inr ⟨_, rfl, h⟩
 | succ => exact .inl (.inr ⟨_, rfl, h⟩)
theorem qq_t {n : Nat} {xs : List D} (hl : xs.length <= 1000) (h : ∀ x ∈ xs, Sq n x) : Sq (n + 1) (.tup xs) := .inr ⟨_, rfl, hl, h⟩
theorem sq_dq : ∀ {n : Nat} {d : D}, Sq n d -> Dq n d
 | 0, d, h => by
  rcases h with ⟨a, rfl⟩ | ⟨s, rfl, hs⟩
  ·exact ⟨by simp [pyOk], by simp [py, PyData.canLay0], by simp [py, PyData.depth]⟩
  ·exact ⟨by simp [pyOk], by simp [py, PyData.canLay0, hs], by simp [py, PyData.depth]⟩
 | n + 1, d, h => by
  rcases h with (⟨a, rfl⟩ | ⟨s, rfl, hs⟩) | ⟨xs, rfl, _, hx⟩
  ·exact ⟨by simp [pyOk], by simp [py, PyData.canLay0], by simp [py, PyData.depth]⟩
  ·exact ⟨by simp [pyOk], by simp [py, PyData.canLay0, hs], by simp [py, PyData.depth]⟩
  ·obtain ⟨a, b, c⟩ := Dq.all fun x h => sq_dq (hx x h)
   exact ⟨by simp [pyOk, a], by simp [py, PyData.canLay0, b], by simp [py, PyData.depth]; omega⟩
theorem ne_sq {n : Nat} {xs : List D} {m : Sto} (h : Sq n (.tup xs)) (hn : n <= 60) : neD (.tup xs) (.tup xs) m = .ok (.bl false) m := by
 have q := sq_dq h
 have hd : deep (.tup xs) = true := by
  have := q.dp
  simp only [MD.deep, q.ok, SeqAt.shaped, q.ly, Bool.true_and, Bool.and_true]
  simp
  omega
 have e : eqB (.tup xs) (.tup xs) = some true := by
  show (if deep (.tup xs) && deep (.tup xs) then some (PyData.eqv (py (.tup xs)) (py (.tup xs))) else none) = _
  rw [hd, SeqAt.eqv_refl _ q.ly]
  rfl
 simp only [neD, rs, e]
 rfl
theorem same_lo {n : Nat} {d : D} {m : Sto} (h : (∃ a, d = .int a) ∨ ∃ s, d = .str s /\ PyData.strOk s = true) : gLawSame3N (n + 1) [d, d] m = .ok (.bl true) m := by
 apply run_eq
 rw [gLawSame3N]
 unfold gLawSame30
 rcases h with ⟨a, rfl⟩ | ⟨s, rfl, _⟩
 ·walk_at "w"; rw [show isi2D "tuple" "list" (.int a) m = .ok (.bl false) m from rfl]; walk_at "w"; rw [show isiD "bool" (.int a) m = .ok (.bl false) m from rfl]; walk_at "w"; rw [show isiD "str" (.int a) m = .ok (.bl false) m from rfl]; walk_at "w"; rw [show isiD "str" (.int a) m = .ok (.bl false) m from rfl]; walk_at "w"; rw [show eqD (.bl false) (.bl false) m = .ok (.bl true) m from rfl]
  walk_at "w"; rw [show isiD "bool" (.int a) m = .ok (.bl false) m from rfl]; walk_at "w"; exact Run.ok ⟨by simp, rfl⟩
 ·walk_at "w"; rw [show isi2D "tuple" "list" (.str s) m = .ok (.bl false) m from rfl]; walk_at "w"; rw [show isD (.str s) .non m = .ok (.bl false) m from rfl]; walk_at "w"; rw [show isiD "bool" (.str s) m = .ok (.bl false) m from rfl]; walk_at "w"; rw [show isiD "str" (.str s) m = .ok (.bl true) m from rfl]; walk_at "w"; rw [show isiD "str" (.str s) m = .ok (.bl true) m from rfl]; walk_at "w"
  rw [show eqD (.bl true) (.bl true) m = .ok (.bl true) m from rfl]; walk_at "w"; rw [show isiD "bool" (.str s) m = .ok (.bl false) m from rfl]; walk_at "w"; exact Run.ok ⟨by simp, rfl⟩
theorem same_qq : ∀ (n : Nat) (d : D) {m : Sto}, Sq n d -> gLawSame3N (n + 1) [d, d] m = .ok (.bl true) m
 | 0, d, m, h => same_lo h
 | n + 1, d, m, h => by
  rcases h with h | ⟨xs, rfl, hl, hx⟩
  ·exact same_lo h
  apply run_eq
  rw [gLawSame3N]
  unfold gLawSame30; walk_at "w"; rw [show isi2D "tuple" "list" (.tup xs) m = .ok (.bl true) m from rfl]; walk_at "w"; rw [show isiD "tuple" (.tup xs) m = .ok (.bl true) m from rfl]; walk_at "w"; rw [show isiD "tuple" (.tup xs) m = .ok (.bl true) m from rfl]; walk_at "w"; rw [show neD (.bl true) (.bl true) m = .ok (.bl false) m from rfl]; walk_at "w"; rw [show isiD "list" (.tup xs) m = .ok (.bl false) m from rfl]
  walk_at "w"; rw [show isiD "list" (.tup xs) m = .ok (.bl false) m from rfl]; walk_at "w"; rw [show neD (.bl false) (.bl false) m = .ok (.bl false) m from rfl]; walk_at "w"; rw [aComp_map (ds := xs.map fun a => D.tup [a, a]) (fun _ => .bl true)]
  ·walk_at "w"; rw [List.map_map, show ((fun _ => D.bl true) ∘ fun a : D => D.tup [a, a]) = fun _ => D.bl true from rfl, all_trueM]; walk_at "w"; exact Run.ok ⟨rfl, rfl⟩
  ·walk_at "w"; simp only [zip2]; rw [if_pos (Nat.le_refl _), zip_self]
  ·simp; omega
  ·intro d hd
   obtain ⟨x, hx', rfl⟩ := List.mem_map.mp hd
   refine ⟨_, rfl, ?_⟩
   exact same_qq n x (hx x hx')
open PySem PyProof.Rows L2 Mth
open PySem PyProof.Rows L2 Mth
open PySem PyProof.Rows L2 Mth
open PySem PyProof.Rows L2 Mth
open PySem PyProof.Rows L2 Mth
open PySem PyProof.Rows L2 Mth
theorem pow1040 {m : Sto} : powD (.int 10) (.int 40) m = .ok (.int 10000000000000000000000000000000000000000) m := by
 rw [powD_eq]
 have e : powR (.int 10) (.int 40) m = if (0 : Int) <= 40 /\ (40 : Int) <= 1000000 /\ (10 : Int).natAbs < 2 ^ 64 then .ok (.int ((10 : Int) ^ (40 : Int).toNat)) m else .bad := rfl
 rw [e, if_pos (by decide)]
 rfl
theorem pot6_run {ns : List Int} {m : Sto} (hn : ns.length <= 63) : Run (gLawPot3 [.scr (ns.map D.int)] m) fun a m' => ∃ p q, a = .ob p /\ P3 m' p q 0 m' := by
 unfold gLawPot3 gLawPot30; walk_at "w"; rw [pow1060]; walk_at "w"; rw [pow1060]; walk_at "w"; rw [mulB_i (by decide +kernel)]; walk_at "w"; rw [pow1060]; walk_at "w"; rw [mulB_i (by decide +kernel)]; walk_at "w"; rw [pow1060]; walk_at "w"; rw [mulB_i (by decide +kernel)]; walk_at "w"; rw [pow1060]; walk_at "w"; rw [mulB_i (by decide +kernel)]; walk_at "w"
 have hN := far_pos
 generalize (10 : Int) ^ 60 * 10 ^ 60 * 10 ^ 60 * 10 ^ 60 * 10 ^ 60 = N at hN; rw [new_0]; walk_at "w"; rw [sl_scr]; walk_at "w"
 have hr : (m ++ [MO.lst []])[m.length]? = some (.lst []) := by simp
 generalize m.length = r at hr ⊢; generalize m ++ [MO.lst []] = mA at hr ⊢; refine Run.bind (loop_run (fun k ρ m' => ∃ (seed : Int) (own : List Int) (x4 : Option D), ρ = [some (.scr (ns.map D.int)), some (.int N), some (.int seed), some (.ob r), x4] /\ m'[r]? = some (.lst (own.map D.int)) /\ own.length <= k /\ (∀ a ∈ own, 0 <= a) /\ 0 <= seed /\ seed < 2305843009213693951) ((ns.take 63).map D.int) 0 ⟨41, [], none, rfl, hr, Nat.le_refl _, fun _ h => (nomatch h), by decide, by decide⟩ ?_) ?_
 ·rintro i d ρ m1 hd ⟨seed, own, x4, rfl, g1, g2, g3, g4, g5⟩
  have hi := (List.getElem?_eq_some_iff.mp hd).1
  rw [List.length_map, List.length_take] at hi
  obtain ⟨v, hv, rfl⟩ := List.mem_map.mp (List.mem_of_getElem? hd)
  walk_at "w"; rw [mul_i ⟨by decide, by decide⟩]; walk_at "w"; rw [pow1040]; walk_at "w"; rw [mod_i (by decide)]; walk_at "w"; rw [mod_i (by decide)]; walk_at "w"; rw [abs_i]; walk_at "w"; rw [pow1018]; walk_at "w"; generalize hS : (seed * 6364136223846793005 + v % 10000000000000000000000000000000000000000 + 17) % 2305843009213693951 = S
  have S0 : 0 <= S := by rw [<- hS]; exact Int.emod_nonneg _ (by decide)
  have S1 : S < 2305843009213693951 := by rw [<- hS]; exact Int.emod_lt_of_pos _ (by decide)
  by_cases hb : (1000000000000000000 : Int) <= (v.natAbs : Int)
  ·rw [if_pos hb]; walk_at "w"; rw [if_pos (is_lst g1)]; walk_at "w"; rw [abs_i]; walk_at "w"; rw [mod_i hN]; walk_at "w"; rw [app_ok g1 (by rw [List.length_map]; exact small_lt (by omega))]; walk_at "w"
   refine Run.ok ⟨_, rfl, S, own ++ [(v.natAbs : Int) % N], _, rfl, by rw [set_get g1, List.map_append]; rfl, by rw [List.length_append]; show own.length + 1 <= _; omega, fun a ha => ?_, S0, S1⟩
   rcases List.mem_append.mp ha with ha | ha
   ·exact g3 a ha
   ·rw [List.mem_singleton.mp ha]
    exact Int.emod_nonneg _ (by omega)
  ·rw [if_neg hb]; walk_at "w"; exact Run.ok ⟨_, rfl, S, own, _, rfl, g1, by omega, g3, S0, S1⟩
 ·rintro _ m1 ⟨ρ, rfl, seed, own, x4, rfl, g1, g2, g3, g4, g5⟩
  rw [Nat.zero_add, List.length_map, List.length_take] at g2
  walk_at "w"; rw [show eDict [("own", zag 3), ("seed", zag 2), ("turn", eC (.int 0))] [some (.scr (ns.map D.int)), some (.int N), some (.int seed), some (.ob r), x4] m1 = .ok (.ob m1.length) (m1 ++ [.dct (boxL r seed 0)]) from rfl]; walk_at "w"
  have hrl := (List.getElem?_eq_some_iff.mp g1).1
  exact Run.ok ⟨m1.length, r, rfl, ⟨⟨own, seed, 0, by simp, by rw [List.getElem?_append_left hrl]; exact g1, by omega, by omega, g3, g4, by omega, by decide, by decide⟩, Fr.refl⟩⟩
theorem Sq.up : ∀ {n : Nat} {d : D}, Sq n d -> Sq (n + 1) d
 | 0, d, h => .inl h
 | n + 1, d, h => by
  rcases h with h | ⟨xs, rfl, hl, hx⟩
  ·exact .inl h
  ·exact .inr ⟨xs, rfl, hl, fun x hh => (hx x hh).up⟩
theorem Sq.le {n k : Nat} {d : D} (h : Sq n d) (hk : n <= k) : Sq k d := by
 obtain ⟨j, rfl⟩ := Nat.le.dest hk
 induction j with
 | zero => exact h
 | succ j ih => exact (ih (by omega)).up
theorem sq_kd (kd : Kd) {pl b : Nat} (h : kd.Ok2 pl b) : Sq 2 kd.e := by
 have hs : ∀ s : String, PyData.strOk (Str.ofString s) = true -> Sq 1 (.str (Str.ofString s)) := fun s h => qq_s 1 h
 cases kd with
 | still => exact qq_t (by simp) fun x hx => by rw [List.mem_singleton.mp hx]; exact hs "still" (by decide +kernel)
 | drawn => exact qq_t (by simp) fun x hx => by rw [List.mem_singleton.mp hx]; exact hs "drawn" (by decide +kernel)
 | step n =>
  exact qq_t (by simp) fun x hx => by
   simp only [List.mem_cons, List.not_mem_nil, or_false] at hx
   rcases hx with rfl | rfl
   ·exact hs "step" (by decide +kernel)
   ·exact qq_i _ _
 | turn row =>
  exact qq_t (by simp) fun x hx => by
   simp only [List.mem_cons, List.not_mem_nil, or_false] at hx
   rcases hx with rfl | rfl
   ·exact hs "turn" (by decide +kernel)
   ·exact qq_t (by rw [List.length_map]; have := h.1.2.1; omega) fun y hy => by
     obtain ⟨v, _, rfl⟩ := List.mem_map.mp hy
     exact qq_i _ _
 | wth i f =>
  exact qq_t (by simp) fun x hx => by
   simp only [List.mem_cons, List.not_mem_nil, or_false] at hx
   rcases hx with rfl | rfl | rfl
   ·exact hs "with" (by decide +kernel)
   ·exact qq_i _ _
   ·exact qq_i _ _
theorem sq_wy (w : Wy) : Sq 1 w.e := by
 cases w with
 | keep => exact qq_t (by simp) fun x hx => by rw [List.mem_singleton.mp hx]; exact qq_s 0 (by decide +kernel)
 | whole => exact qq_t (by simp) fun x hx => by rw [List.mem_singleton.mp hx]; exact qq_s 0 (by decide +kernel)
 | low a b =>
  exact qq_t (by simp) fun x hx => by
   simp only [List.mem_cons, List.not_mem_nil, or_false] at hx
   rcases hx with rfl | rfl | rfl
   ·exact qq_s 0 (by decide +kernel)
   ·exact qq_i _ _
   ·exact qq_i _ _
theorem sq_pt {p : Pt} (h : PtOk p) : Sq 6 p.e := by
 have f1 := h.f1
 have hfml := h.fml
 refine qq_t (by simp) fun x hx => ?_
 simp only [List.mem_cons, List.not_mem_nil, or_false] at hx
 rcases hx with rfl | rfl | rfl | rfl
 ·refine qq_t (n := 4) (by simp) fun x hx => ?_
  simp only [List.mem_cons, List.not_mem_nil, or_false] at hx
  rcases hx with rfl | rfl
  ·refine qq_t (n := 3) (by rw [List.length_map]; omega) fun x hx => ?_
   obtain ⟨f, hf, rfl⟩ := List.mem_map.mp hx
   obtain ⟨i, hi⟩ := List.mem_iff_getElem?.mp hf
   refine qq_t (n := 2) (by simp) fun x hx => ?_
   simp only [List.mem_cons, List.not_mem_nil, or_false] at hx
   rcases hx with rfl | rfl | rfl
   ·exact qq_s _ (nm_strOk (h.sh.nm f.nm (List.mem_map.mpr ⟨f, hf, rfl⟩)).1)
   ·exact qq_i _ _
   ·exact sq_kd _ (h.sh.at' i f hi).2.2
  ·exact qq_i _ _
 ·exact qq_i _ _
 ·refine qq_t (n := 4) (by rw [List.length_map]; omega) fun x hx => ?_
  obtain ⟨f, hf, rfl⟩ := List.mem_map.mp hx
  have hw := (h.fm f hf).wy.len
  refine qq_t (n := 3) (by simp) fun x hx => ?_
  simp only [List.mem_cons, List.not_mem_nil, or_false] at hx
  rcases hx with rfl | rfl | rfl
  ·exact qq_i _ _
  ·exact qq_i _ _
  ·exact qq_t (n := 2) (by rw [List.length_map]; omega) fun x hx => by
    obtain ⟨w, _, rfl⟩ := List.mem_map.mp hx
    exact (sq_wy w).up
 ·exact qq_t (n := 4) (by simp) fun x hx => by
   simp only [List.mem_cons, List.not_mem_nil, or_false] at hx
   rcases hx with rfl | rfl | rfl | rfl <;> exact qq_i _ _
theorem same_pt {p : Pt} (h : PtOk p) {m : Sto} : gLawSame3 [p.e, p.e] m = .ok (.bl true) m := same_qq 11 _ ((sq_pt h).le (by decide))
theorem ne_pt {p : Pt} (h : PtOk p) {m : Sto} : neD p.e p.e m = .ok (.bl false) m := ne_sq (sq_pt h) (by decide)
theorem same_tx {z : Str} {m : Sto} : gLawSame3 [.str z, .str z] m = .ok (.bl true) m := by
 apply run_eq
 show Run (gLawSame3N (11 + 1) [.str z, .str z] m) _
 rw [gLawSame3N]
 unfold gLawSame30; walk_at "w"; rw [show isi2D "tuple" "list" (.str z) m = .ok (.bl false) m from rfl]; walk_at "w"; rw [show isD (.str z) .non m = .ok (.bl false) m from rfl]; walk_at "w"; rw [show isiD "bool" (.str z) m = .ok (.bl false) m from rfl]; walk_at "w"; rw [show isiD "str" (.str z) m = .ok (.bl true) m from rfl]; walk_at "w"; rw [show isiD "str" (.str z) m = .ok (.bl true) m from rfl]
 walk_at "w"; rw [show eqD (.bl true) (.bl true) m = .ok (.bl true) m from rfl]; walk_at "w"; rw [show isiD "bool" (.str z) m = .ok (.bl false) m from rfl]; walk_at "w"; exact Run.ok ⟨by simp, rfl⟩
def s51r : SV := (sSeq (sAsg (eMeth isStr joinM (eC (.str "\n")) (zab (eFn gLawRows (zab (zag 3) zaj)) zaj)) (gN 4))
 (sSeq (sIf (tOrM (tNotM (tV (eFn gLawSame3 (zab (eFn gShowPact (zab (zag 3) zaj)) (zab (zag 4) zaj))))) (tNotM (tV (eFn gLawSame3 (zab (eFn gReadPact (zab (zag 4) zaj)) (zab (zag 3) zaj))))))
 (sRet (eC (.bl false)))
 sNil)
 (sIf (tOrM (tV (eOp neD (eFn gShowPact (zab (eFn gReadPact (zab (zag 4) zaj)) zaj)) (zag 4))) (tV (eOp neD (eFn gReadPact (zab (eFn gShowPact (zab (zag 3) zaj)) zaj)) (zag 3))))
 (sRet (eC (.bl false)))
 sNil)))
theorem gLaw26_cut : gLaw260 = (sSeq (sAsg (eFn gLawPot3 (zab (zag 0) zaj)) (gN 1))
 (sSeq (sFor (aRng rng1 (zab (eC (.int 6)) zaj)) (gN 2)
 (sSeq (sAsg (eFn gLawPact2 (zab (zag 1) zaj)) (gN 3))
 (sSeq (sIf (tV (eOp eqD (zag 2) (eC (.int 5))))
 (sAsg (eOp addD (eSl (zag 3) oNone (oSome (eC (.int 3)))) (eFn gTup (zab (eOp ixD (eFn gLst (zab (eFn gTup (zab (eC (.int 0)) (zab (eC (.int 0)) (zab (eC (.int 0)) (zab (eC (.int 0)) zaj))))) (zab (eFn gTup (zab (eC (.int 39)) (zab (eC (.int 400)) (zab (eC (.int 20)) (zab (eC (.int 400)) zaj))))) (zab (eFn gTup (zab (eC (.int 39)) (zab (eC (.int 39)) (zab (eC (.int 0)) (zab (eC (.int 1)) zaj))))) zaj)))) (eFn zai (zab (zag 1) (zab (eC (.int 3)) zaj)))) zaj))) (gN 3))
 sNil)
 s51r)))
 (sRet (eC (.bl true))))) := rfl
theorem law_worth51 {ns : List Int} (hn : ns.length <= 63) : Run (gLaw26 [.scr (ns.map D.int)] []) fun a _ => a = .bl true := by
 unfold gLaw26; rw [gLaw26_cut]; walk_at "w"; refine Run.bind (pot6_run hn) ?_; rintro _ m1 ⟨p, q, rfl, hp1⟩; walk_at "w"; rw [rng_ok (by decide) (by decide)]; walk_at "w"; refine Run.bind (loop_run (fun k ρ m' => ∃ (x2 x3 x4 : Option D), ρ = [some (.scr (ns.map D.int)), some (.ob p), x2, x3, x4] /\ P3 m1 p q (3000 * k) m') _ 0 ⟨_, _, _, rfl, hp1.re⟩ ?_) ?_
 ·rintro i d ρ m3 hd ⟨x2, x3, x4, rfl, hp3⟩
  have hi := (List.getElem?_eq_some_iff.mp hd).1
  rw [len_ints] at hi
  have hi : i < 6 := hi
  have := at_ints hd
  subst this
  rw [Nat.zero_add] at hp3 ⊢
  walk_at "w"; refine Run.bind (pt51_run hp3 (by omega)) ?_; rintro _ m4 ⟨pt, rfl, hpt, hp4⟩
  have hq4 := hp3.via hp4
  have fin : ∀ {pt : Pt} {m5 : Sto} {c : Nat}, PtOk pt -> P3 m1 p q c m5 -> c <= 3000 * i + 2500 -> Run (s51r [some (.scr (ns.map D.int)), some (.ob p), some (.int (i : Nat)), some pt.e, x4] m5) fun fl m2 => ∃ ρ2, fl = .nx ρ2 /\ ∃ (x2 x3 x4 : Option D), ρ2 = [some (.scr (ns.map D.int)), some (.ob p), x2, x3, x4] /\ P3 m1 p q (3000 * (i + 1)) m2 := by
   intro pt m5 c hpt hp5 hc
   unfold s51r; walk_at "w"; refine Run.bind (lawRows_run hpt) ?_; rintro _ m6 ⟨r, rfl, hr, hg⟩
   have hrl : ((ptW pt).map rowS).length <= 27 := by rw [List.length_map]; exact (ptW_b hpt).1
   walk_at "w"; rw [show (Str.ofString "\n" : Str) = lf from lf_s, join_M (s := lf) (ts := (ptW pt).map rowS) (B := 600) (by simp only [lOf, hr]) rfl (rows_b hpt) (by omega), show Txt.join lf ((ptW pt).map rowS) = ptS pt from rfl]; walk_at "w"; rw [showPact_ok hpt]; walk_at "w"; rw [same_tx]; walk_at "w"; rw [readPact_ok hpt]; walk_at "w"; rw [same_pt hpt]; walk_at "w"; rw [readPact_ok hpt]
   walk_at "w"; rw [showPact_ok hpt]; walk_at "w"; rw [showPact_ok hpt]; walk_at "w"; rw [readPact_ok hpt]; walk_at "w"; rw [ne_pt hpt]; walk_at "w"; exact Run.ok ⟨_, rfl, _, _, _, rfl, (hp5.gw hg).more (by omega)⟩
  walk_at "w"
  by_cases h5 : (i : Int) = 5
  ·rw [if_pos h5]; rw [show slD pt.e none (some 3) m4 = .ok (.tup [shD pt.fs pt.n, .int pt.wide, .tup (pt.fms.map Fm.e)]) m4 from sl_take (xs := [shD pt.fs pt.n, .int pt.wide, .tup (pt.fms.map Fm.e), pt.rd.e]) (k := 3) (by simp)]; walk_at "w"; rw [tup_of (by simp)]; walk_at "w"; rw [tup_of (by simp)]; walk_at "w"; rw [tup_of (by simp)]; walk_at "w"; refine Run.bind (dr6_run hq4 (by omega) (by decide) (by decide)) ?_
   rintro _ m5 ⟨y, rfl, y0, y1, hp5⟩
   obtain ⟨u, hu, e⟩ := ix_any (m := m5) (xs := [.tup [.int 0, .int 0, .int 0, .int 0], .tup [.int 39, .int 400, .int 20, .int 400], .tup [.int 39, .int 39, .int 0, .int 1]]) y0 y1
   walk_at "w"; rw [e]
   obtain ⟨rd, rfl, hrd⟩ : ∃ rd : Rd4, u = rd.e /\ RdOk rd := by
    simp only [List.mem_cons, List.not_mem_nil, or_false] at hu
    rcases hu with rfl | rfl | rfl
    ·exact ⟨⟨0, 0, 0, 0⟩, rfl, by decide, by decide, by decide, by decide, by decide⟩
    ·exact ⟨⟨39, 400, 20, 400⟩, rfl, by decide, by decide, by decide, by decide, by decide⟩
    ·exact ⟨⟨39, 39, 0, 1⟩, rfl, by decide, by decide, by decide, by decide, by decide⟩
   walk_at "w"; rw [add_tt (by simp; exact slen (by decide))]; walk_at "w"
   exact fin (pt := ⟨pt.fs, pt.n, pt.wide, pt.fms, rd⟩) ⟨hpt.n0, hpt.n1, hpt.f0, hpt.f1, hpt.sh, hpt.w0, hpt.w1, hpt.fm, hpt.fml, hrd⟩ (hq4.via hp5) (by omega)
  ·rw [if_neg h5]; walk_at "w"
   exact fin hpt hq4 (by omega)
 ·rintro _ m3 ⟨ρ, rfl, x2, x3, x4, rfl, _⟩; walk_at "w"
  exact Run.ok rfl
end MD
set_option autoImplicit false
namespace K51
open PySem PyProof.Rows L2 MD
structure Txt (mg : Str -> Option Value) : Prop where
 ValueError : mg "ValueError" = none
 enumerate : mg "enumerate" = none
 all : mg "all" = none
 range : mg "range" = none
 tuple : mg "tuple" = none
 int : mg "int" = none
 min : mg "min" = none
 isi : mg "isinstance" = none
 bool : mg "bool" = none
 str : mg "str" = none
 len : mg "len" = none
 list : mg "list" = none
 set : mg "set" = none
 abs : mg "abs" = none
 zip : mg "zip" = none
set_option maxHeartbeats 16000000
section
variable (P : Program) (w : World) {K : PySem.W.Frag} {mg : Str -> Option Value} (base : Heap) {cl : Str -> Addr} {f : Addr} {fd : FuncData}
theorem scIsWhole : FnScope ["thing"] ["thing"] (zak sIsWhole) := sco
theorem ok_IsWhole (F : Fun K "is_whole" "is_whole" sIsWhole f fd) (b : Binds K fd ["thing"] []) (m : mg "is_whole" = some (.ref f)) (T : Txt mg) : FnX P w K mg base cl "is_whole" 1 1 gIsWhole :=
 have h := mkx P w base cl 0 F b m scIsWhole fun cdv A outer s H E hr =>
  (zah (zan (qe_and (qe_isi (n := "int") (by decide) (by rfl) T.isi (by rfl) T.int boot_int (zac 0)) (qe_one (qe_not (qe_isi (n := "bool") (by decide) (by rfl) T.isi (by rfl) T.bool boot_bool (zac 0)))))))
 h
theorem scIsBetween : FnScope ["thing", "least", "most"] ["thing", "least", "most"] (zak sIsBetween) := sco
theorem ok_IsBetween (F : Fun K "is_between" "is_between" sIsBetween f fd) (b : Binds K fd ["thing", "least", "most"] []) (m : mg "is_between" = some (.ref f)) (T : Txt mg) (hIsWhole : FnX P w K mg base cl "is_whole" 1 1 gIsWhole) : FnX P w K mg base cl "is_between" 2 3 gIsBetween :=
 have h := mkx P w base cl 1 F b m scIsBetween fun cdv A outer s H E hr =>
  (zah (zan (qe_and (qfn hIsWhole hr (zaa (zac 0) zae)) (qe_one (qe_chain op_leA od_le op_leA od_le (zac 1) (zac 0) (zac 2))))))
 h
theorem scIsValue : FnScope ["thing", "breadth"] ["thing", "breadth"] (zak sIsValue) := sco
theorem ok_IsValue (F : Fun K "is_value" "is_value" sIsValue f fd) (b : Binds K fd ["thing", "breadth"] []) (m : mg "is_value" = some (.ref f)) (T : Txt mg) (hIsBetween : FnX P w K mg base cl "is_between" 2 3 gIsBetween) : FnX P w K mg base cl "is_value" 3 2 gIsValue :=
 have h := mkx P w base cl 2 F b m scIsValue fun cdv A outer s H E hr =>
  (zah (zan (qfn hIsBetween hr (zaa (zac 0) (zaa zad (zaa (qe_op op_sub od_sub (qe_op op_shl od_shl zad (zac 1)) zad) zae))))))
 h
theorem scIsRow : FnScope ["thing", "least", "most"] ["thing", "least", "most"] (zak sIsRow) := sco
theorem ok_IsRow (F : Fun K "is_row" "is_row" sIsRow f fd) (b : Binds K fd ["thing", "least", "most"] []) (m : mg "is_row" = some (.ref f)) (T : Txt mg) : FnX P w K mg base cl "is_row" 1 3 gIsRow :=
 have h := mkx P w base cl 0 F b m scIsRow fun cdv A outer s H E hr =>
  (zah (zan (qe_and (qe_isi (n := "tuple") (by decide) (by rfl) T.isi (by rfl) T.tuple boot_tuple (zac 0)) (qe_one (qe_chain op_leA od_le op_leA od_le (zac 1) (qe_callB call_lenA fd_len (by rfl) T.len PySem.boot_len (zaa (zac 0) zae)) (zac 2))))))
 h
theorem scIsWorded : FnScope ["thing", "word", "many"] ["thing", "word", "many"] (zak sIsWorded) := sco
theorem ok_IsWorded (F : Fun K "is_worded" "is_worded" sIsWorded f fd) (b : Binds K fd ["thing", "word", "many"] []) (m : mg "is_worded" = some (.ref f)) (T : Txt mg) (hIsRow : FnX P w K mg base cl "is_row" 1 3 gIsRow) : FnX P w K mg base cl "is_worded" 2 3 gIsWorded :=
 have h := mkx P w base cl 1 F b m scIsWorded fun cdv A outer s H E hr =>
  (zah (zan (qe_and (qfn hIsRow hr (zaa (zac 0) (zaa (zac 2) (zaa (zac 2) zae)))) (qe_and (qe_isi (n := "str") (by decide) (by rfl) T.isi (by rfl) T.str boot_str (qxi hr (zac 0) zad)) (qe_one (qe_cmp (op_eqA hr.units) od_eq (qxi hr (zac 0) zad) (zac 1) (nomark _)))))))
 h
theorem scIsShape : FnScope ["thing"] ["thing"] (zak sIsShape) := sco
theorem ok_IsShape (F : Fun K "is_shape" "is_shape" sIsShape f fd) (b : Binds K fd ["thing"] []) (m : mg "is_shape" = some (.ref f)) (T : Txt mg) (hAreFields : FnX P w K mg base cl "are_fields" 7 1 gAreFields) (hIsBetween : FnX P w K mg base cl "is_between" 2 3 gIsBetween) (hIsRow : FnX P w K mg base cl "is_row" 1 3 gIsRow) : FnX P w K mg base cl "is_shape" 8 1 gIsShape :=
 have h := mkx P w base cl 7 F b m scIsShape fun cdv A outer s H E hr =>
  (zah (zan (qe_and (qfn hIsRow hr (zaa (zac 0) (zaa zad (zaa zad zae)))) (qe_and (qfn hAreFields hr (zaa (qxi hr (zac 0) zad) zae)) (qe_one (qfn hIsBetween hr (zaa (qxi hr (zac 0) zad) (zaa zad (zaa (qe_op op_pow od_pow zad zad) zae)))))))))
 h
theorem scAreFields : FnScope ["thing", "place", "field"] ["thing"] (zak sAreFields) := sco
theorem ok_AreFields (F : Fun K "are_fields" "are_fields" sAreFields f fd) (b : Binds K fd ["thing"] []) (m : mg "are_fields" = some (.ref f)) (T : Txt mg) (hIsField : FnX P w K mg base cl "is_field" 6 2 gIsField) (hIsRow : FnX P w K mg base cl "is_row" 1 3 gIsRow) : FnX P w K mg base cl "are_fields" 7 1 gAreFields :=
 have h := mkx P w base cl 6 F b m scAreFields fun cdv A outer s H E hr =>
  (zaf (qs_if (qt_not (qt_val (qfn hIsRow hr (zaa (zac 0) (zaa zad (zaa zad zae))))))
  (zah (zan qe_bl))
  qss_nil)
  (zaf (qs_for PassesOwn.never rfl (qi_enum (by rfl) T.enumerate (zac 0)) (qg_tup (n := 2) rfl (qgs_cons (zal (i := 1) scAreFields.nd rfl (Or.inl rfl)) (qgs_cons (zal (i := 2) scAreFields.nd rfl (Or.inl rfl)) qgs_nil)))
  (zah (qs_if (qt_not (qt_val (qfn hIsField hr (zaa (zac 2) (zaa (zac 1) zae)))))
  (zah (zan qe_bl))
  qss_nil)))
  (zah (zan (qe_cmp (op_eqA hr.units) od_eq (qe_lenC rfl rfl (N0 := ["thing", "place", "field'"]) (xs := ["field"]) ⟨(by with_unfolding_all rfl), rfl, rfl, rfl, (by repeat (first | exact trivial | refine ⟨rfl, ?_⟩)), rfl, .inr ⟨rfl, rfl⟩⟩ (qi_seq (zac 0)) (fun _ _ _ _ => (zal (i := 3) (by decide +kernel : (["thing", "place", "field'", "field"] : List Str).Nodup) rfl (Or.inl rfl))) (fun _ _ _ _ => (qxi hr (zac 3) zad)) (by rfl) T.len PySem.boot_len) (qe_callB call_lenA fd_len (by rfl) T.len PySem.boot_len (zaa (zac 0) zae)) (nomark _))))))
 h
theorem scIsField : FnScope ["thing", "place", "name", "breadth", "kind"] ["thing", "place"] (zak sIsField) := sco
theorem ok_IsField (F : Fun K "is_field" "is_field" sIsField f fd) (b : Binds K fd ["thing", "place"] []) (m : mg "is_field" = some (.ref f)) (T : Txt mg) (hIsBetween : FnX P w K mg base cl "is_between" 2 3 gIsBetween) (hIsKind : FnX P w K mg base cl "is_kind" 5 3 gIsKind) (hIsName : FnX P w K mg base cl "is_name" 1 1 gIsName) (hIsRow : FnX P w K mg base cl "is_row" 1 3 gIsRow) : FnX P w K mg base cl "is_field" 6 2 gIsField :=
 have h := mkx P w base cl 5 F b m scIsField fun cdv A outer s H E hr =>
  (zaf (qs_if (qt_not (qt_val (qfn hIsRow hr (zaa (zac 0) (zaa zad (zaa zad zae))))))
  (zah (zan qe_bl))
  qss_nil)
  (zaf (qs_asg (zac 0) (qg_tup (n := 3) rfl (qgs_cons (zal (i := 2) scIsField.nd rfl (Or.inl rfl)) (qgs_cons (zal (i := 3) scIsField.nd rfl (Or.inl rfl)) (qgs_cons (zal (i := 4) scIsField.nd rfl (Or.inl rfl)) qgs_nil)))))
  (zah (zan (qe_and (qfn hIsName hr (zaa (zac 2) zae)) (qe_and (qfn hIsBetween hr (zaa (zac 3) (zaa zad (zaa zad zae)))) (qe_one (qfn hIsKind hr (zaa (zac 4) (zaa (zac 1) (zaa (zac 3) zae)))))))))))
 h
theorem scIsName : FnScope ["thing"] ["thing"] (zak sIsName) := sco
theorem ok_IsName (F : Fun K "is_name" "is_name" sIsName f fd) (b : Binds K fd ["thing"] []) (m : mg "is_name" = some (.ref f)) (T : Txt mg) : FnX P w K mg base cl "is_name" 1 1 gIsName :=
 have h := mkx P w base cl 0 F b m scIsName fun cdv A outer s H E hr =>
  (zaf (qs_if (qt_bool (qw_or (qt_not (qt_val (qe_isi (n := "str") (by decide) (by rfl) T.isi (by rfl) T.str boot_str (zac 0)))) (qw_or1 (qt_not (qt_chain op_leA od_le op_leA od_le zad (qe_callB call_lenA fd_len (by rfl) T.len PySem.boot_len (zaa (zac 0) zae)) zad)))))
  (zah (zan qe_bl))
  qss_nil)
  (zah (zan (qe_callB (call_allB rfl) fd_all (by rfl) T.all boot_all (zaa (qe_comp rfl rfl (N0 := ["thing"]) (xs := ["sign"]) ⟨(by with_unfolding_all rfl), rfl, rfl, rfl, (by repeat (first | exact trivial | refine ⟨rfl, ?_⟩)), rfl, .inl rfl⟩ (qi_seq (zac 0)) (fun _ _ _ _ => (zal (i := 1) (by decide +kernel : (["thing", "sign"] : List Str).Nodup) rfl (Or.inl rfl))) (fun _ _ _ _ => qif_nil) (fun _ _ _ _ => (qe_chain op_leA od_le op_leA od_le zam (zac 1) zam))) zae)))))
 h
theorem scIsKind : FnScope ["thing", "place", "breadth"] ["thing", "place", "breadth"] (zak sIsKind) := sco
theorem ok_IsKind (F : Fun K "is_kind" "is_kind" sIsKind f fd) (b : Binds K fd ["thing", "place", "breadth"] []) (m : mg "is_kind" = some (.ref f)) (T : Txt mg) (hIsBetween : FnX P w K mg base cl "is_between" 2 3 gIsBetween) (hIsTurn : FnX P w K mg base cl "is_turn" 4 2 gIsTurn) (hIsValue : FnX P w K mg base cl "is_value" 3 2 gIsValue) (hIsWorded : FnX P w K mg base cl "is_worded" 2 3 gIsWorded) : FnX P w K mg base cl "is_kind" 5 3 gIsKind :=
 have h := mkx P w base cl 4 F b m scIsKind fun cdv A outer s H E hr =>
  (zaf (qs_if (qt_bool (qw_or (qt_val (qfn hIsWorded hr (zaa (zac 0) (zaa zam (zaa zad zae))))) (qw_or1 (qt_val (qfn hIsWorded hr (zaa (zac 0) (zaa zam (zaa zad zae))))))))
  (zah (zan qe_bl))
  qss_nil)
  (zaf (qs_if (qt_val (qfn hIsWorded hr (zaa (zac 0) (zaa zam (zaa zad zae)))))
  (zah (zan (qfn hIsValue hr (zaa (qxi hr (zac 0) zad) (zaa (zac 2) zae)))))
  qss_nil)
  (zaf (qs_if (qt_val (qfn hIsWorded hr (zaa (zac 0) (zaa zam (zaa zad zae)))))
  (zah (zan (qfn hIsTurn hr (zaa (qxi hr (zac 0) zad) (zaa (zac 2) zae)))))
  qss_nil)
  (zaf (qs_if (qt_val (qfn hIsWorded hr (zaa (zac 0) (zaa zam (zaa zad zae)))))
  (zah (zan (qe_and (qfn hIsBetween hr (zaa (qxi hr (zac 0) zad) (zaa zad (zaa (qe_op op_sub od_sub (zac 1) zad) zae)))) (qe_one (qfn hIsBetween hr (zaa (qxi hr (zac 0) zad) (zaa (qe_un un_neg ud_neg zad) (zaa zad zae))))))))
  qss_nil)
  (zah (zan qe_bl))))))
 h
theorem scIsTurn : FnScope ["thing", "breadth"] ["thing", "breadth"] (zak sIsTurn) := sco
theorem ok_IsTurn (F : Fun K "is_turn" "is_turn" sIsTurn f fd) (b : Binds K fd ["thing", "breadth"] []) (m : mg "is_turn" = some (.ref f)) (T : Txt mg) (hIsRow : FnX P w K mg base cl "is_row" 1 3 gIsRow) (hIsValue : FnX P w K mg base cl "is_value" 3 2 gIsValue) : FnX P w K mg base cl "is_turn" 4 2 gIsTurn :=
 have h := mkx P w base cl 3 F b m scIsTurn fun cdv A outer s H E hr =>
  (zaf (qs_if (qt_not (qt_val (qfn hIsRow hr (zaa (zac 0) (zaa zad (zaa zad zae))))))
  (zah (zan qe_bl))
  qss_nil)
  (zaf (qs_if (qt_not (qt_val (qe_callB (call_allB rfl) fd_all (by rfl) T.all boot_all (zaa (qe_comp rfl rfl (N0 := ["thing", "breadth"]) (xs := ["value"]) ⟨(by with_unfolding_all rfl), rfl, rfl, rfl, (by repeat (first | exact trivial | refine ⟨rfl, ?_⟩)), rfl, .inl rfl⟩ (qi_seq (zac 0)) (fun _ _ _ _ => (zal (i := 2) (by decide +kernel : (["thing", "breadth", "value"] : List Str).Nodup) rfl (Or.inl rfl))) (fun _ _ _ _ => qif_nil) (fun _ _ _ _ => (qfn hIsValue hr (zaa (zac 2) (zaa (zac 1) zae))))) zae))))
  (zah (zan qe_bl))
  qss_nil)
  (zah (zan (qe_cmp (op_eqA hr.units) od_eq (qe_lenS rfl (zac 0) (by rfl) T.len PySem.boot_len (by rfl) T.set PyProof.Rows.boot_set) (qe_callB call_lenA fd_len (by rfl) T.len PySem.boot_len (zaa (zac 0) zae)) (nomark _))))))
 h
theorem scBreadths : FnScope ["shape"] ["shape"] (zak sBreadths) := sco
theorem ok_Breadths (F : Fun K "breadths" "breadths" sBreadths f fd) (b : Binds K fd ["shape"] []) (m : mg "breadths" = some (.ref f)) (T : Txt mg) : FnX P w K mg base cl "breadths" 1 1 gBreadths :=
 have h := mkx P w base cl 0 F b m scBreadths fun cdv A outer s H E hr =>
  (zah (zan (qe_comp rfl rfl (N0 := ["shape"]) (xs := ["field"]) ⟨(by with_unfolding_all rfl), rfl, rfl, rfl, (by repeat (first | exact trivial | refine ⟨rfl, ?_⟩)), rfl, .inl rfl⟩ (qi_seq (qxi hr (zac 0) zad)) (fun _ _ _ _ => (zal (i := 1) (by decide +kernel : (["shape", "field"] : List Str).Nodup) rfl (Or.inl rfl))) (fun _ _ _ _ => qif_nil) (fun _ _ _ _ => (qxi hr (zac 1) zad)))))
 h
theorem scIsForm : FnScope ["shape", "thing", "reach", "count", "ways"] ["shape", "thing"] (zak sIsForm) := sco
theorem ok_IsForm (F : Fun K "is_form" "is_form" sIsForm f fd) (b : Binds K fd ["shape", "thing"] []) (m : mg "is_form" = some (.ref f)) (T : Txt mg) (hAreWays : FnX P w K mg base cl "are_ways" 5 2 gAreWays) (hIsBetween : FnX P w K mg base cl "is_between" 2 3 gIsBetween) (hIsRow : FnX P w K mg base cl "is_row" 1 3 gIsRow) : FnX P w K mg base cl "is_form" 6 2 gIsForm :=
 have h := mkx P w base cl 5 F b m scIsForm fun cdv A outer s H E hr =>
  (zaf (qs_if (qt_not (qt_val (qfn hIsRow hr (zaa (zac 1) (zaa zad (zaa zad zae))))))
  (zah (zan qe_bl))
  qss_nil)
  (zaf (qs_asg (zac 1) (qg_tup (n := 3) rfl (qgs_cons (zal (i := 2) scIsForm.nd rfl (Or.inl rfl)) (qgs_cons (zal (i := 3) scIsForm.nd rfl (Or.inl rfl)) (qgs_cons (zal (i := 4) scIsForm.nd rfl (Or.inl rfl)) qgs_nil)))))
  (zah (zan (qe_and (qfn hIsBetween hr (zaa (zac 2) (zaa zad (zaa zad zae)))) (qe_and (qfn hIsBetween hr (zaa (zac 3) (zaa zad (zaa zad zae)))) (qe_one (qfn hAreWays hr (zaa (zac 0) (zaa (zac 4) zae))))))))))
 h
theorem scAreWays : FnScope ["shape", "thing", "asked"] ["shape", "thing"] (zak sAreWays) := sco
theorem ok_AreWays (F : Fun K "are_ways" "are_ways" sAreWays f fd) (b : Binds K fd ["shape", "thing"] []) (m : mg "are_ways" = some (.ref f)) (T : Txt mg) (hBreadths : FnX P w K mg base cl "breadths" 1 1 gBreadths) (hIsRow : FnX P w K mg base cl "is_row" 1 3 gIsRow) (hIsWay : FnX P w K mg base cl "is_way" 4 2 gIsWay) : FnX P w K mg base cl "are_ways" 5 2 gAreWays :=
 have h := mkx P w base cl 4 F b m scAreWays fun cdv A outer s H E hr =>
  (zaf (qs_set (i := 2) scAreWays.nd rfl (Or.inl rfl) (qfn hBreadths hr (zaa (zac 0) zae)))
  (zaf (qs_if (qt_not (qt_val (qfn hIsRow hr (zaa (zac 1) (zaa (qe_callB call_lenA fd_len (by rfl) T.len PySem.boot_len (zaa (zac 2) zae)) (zaa (qe_callB call_lenA fd_len (by rfl) T.len PySem.boot_len (zaa (zac 2) zae)) zae))))))
  (zah (zan qe_bl))
  qss_nil)
  (zah (zan (qe_callB (call_allB rfl) fd_all (by rfl) T.all boot_all (zaa (qe_comp rfl rfl (N0 := ["shape", "thing", "asked"]) (xs := ["way", "breadth"]) ⟨(by with_unfolding_all rfl), rfl, rfl, rfl, (by repeat (first | exact trivial | refine ⟨rfl, ?_⟩)), rfl, .inl rfl⟩ (qi_zip (by rfl) T.zip (zac 1) (zac 2)) (fun _ _ _ _ => (qg_tup (n := 2) rfl (qgs_cons (zal (i := 3) (by decide +kernel : (["shape", "thing", "asked", "way", "breadth"] : List Str).Nodup) rfl (Or.inl rfl)) (qgs_cons (zal (i := 4) (by decide +kernel : (["shape", "thing", "asked", "way", "breadth"] : List Str).Nodup) rfl (Or.inl rfl)) qgs_nil)))) (fun _ _ _ _ => qif_nil) (fun _ _ _ _ => (qfn hIsWay hr (zaa (zac 3) (zaa (zac 4) zae))))) zae))))))
 h
theorem scIsWay : FnScope ["thing", "breadth"] ["thing", "breadth"] (zak sIsWay) := sco
theorem ok_IsWay (F : Fun K "is_way" "is_way" sIsWay f fd) (b : Binds K fd ["thing", "breadth"] []) (m : mg "is_way" = some (.ref f)) (T : Txt mg) (hIsBetween : FnX P w K mg base cl "is_between" 2 3 gIsBetween) (hIsValue : FnX P w K mg base cl "is_value" 3 2 gIsValue) (hIsWorded : FnX P w K mg base cl "is_worded" 2 3 gIsWorded) : FnX P w K mg base cl "is_way" 4 2 gIsWay :=
 have h := mkx P w base cl 3 F b m scIsWay fun cdv A outer s H E hr =>
  (zaf (qs_if (qt_bool (qw_or (qt_val (qfn hIsWorded hr (zaa (zac 0) (zaa zam (zaa zad zae))))) (qw_or1 (qt_val (qfn hIsWorded hr (zaa (zac 0) (zaa zam (zaa zad zae))))))))
  (zah (zan qe_bl))
  qss_nil)
  (zaf (qs_if (qt_not (qt_val (qfn hIsWorded hr (zaa (zac 0) (zaa zam (zaa zad zae))))))
  (zah (zan qe_bl))
  qss_nil)
  (zah (zan (qe_and (qfn hIsBetween hr (zaa (qxi hr (zac 0) zad) (zaa zad (zaa (zac 1) zae)))) (qe_one (qfn hIsValue hr (zaa (qxi hr (zac 0) zad) (zaa (qxi hr (zac 0) zad) zae)))))))))
 h
theorem scIsWide : FnScope ["thing"] ["thing"] (zak sIsWide) := sco
theorem ok_IsWide (F : Fun K "is_wide" "is_wide" sIsWide f fd) (b : Binds K fd ["thing"] []) (m : mg "is_wide" = some (.ref f)) (T : Txt mg) (hIsBetween : FnX P w K mg base cl "is_between" 2 3 gIsBetween) : FnX P w K mg base cl "is_wide" 3 1 gIsWide :=
 have h := mkx P w base cl 2 F b m scIsWide fun cdv A outer s H E hr =>
  (zah (zan (qfn hIsBetween hr (zaa (zac 0) (zaa zad (zaa zad zae))))))
 h
theorem scAreForms : FnScope ["shape", "thing"] ["shape", "thing"] (zak sAreForms) := sco
theorem ok_AreForms (F : Fun K "are_forms" "are_forms" sAreForms f fd) (b : Binds K fd ["shape", "thing"] []) (m : mg "are_forms" = some (.ref f)) (T : Txt mg) (hIsForm : FnX P w K mg base cl "is_form" 6 2 gIsForm) (hIsRow : FnX P w K mg base cl "is_row" 1 3 gIsRow) : FnX P w K mg base cl "are_forms" 7 2 gAreForms :=
 have h := mkx P w base cl 6 F b m scAreForms fun cdv A outer s H E hr =>
  (zah (zan (qe_and (qfn hIsRow hr (zaa (zac 1) (zaa zad (zaa zad zae)))) (qe_one (qe_callB (call_allB rfl) fd_all (by rfl) T.all boot_all (zaa (qe_comp rfl rfl (N0 := ["shape", "thing"]) (xs := ["form"]) ⟨(by with_unfolding_all rfl), rfl, rfl, rfl, (by repeat (first | exact trivial | refine ⟨rfl, ?_⟩)), rfl, .inl rfl⟩ (qi_seq (zac 1)) (fun _ _ _ _ => (zal (i := 2) (by decide +kernel : (["shape", "thing", "form"] : List Str).Nodup) rfl (Or.inl rfl))) (fun _ _ _ _ => qif_nil) (fun _ _ _ _ => (qfn hIsForm hr (zaa (zac 0) (zaa (zac 2) zae))))) zae))))))
 h
theorem scIsRoad : FnScope ["thing", "skips", "gap", "late", "anew"] ["thing"] (zak sIsRoad) := sco
theorem ok_IsRoad (F : Fun K "is_road" "is_road" sIsRoad f fd) (b : Binds K fd ["thing"] []) (m : mg "is_road" = some (.ref f)) (T : Txt mg) (hIsBetween : FnX P w K mg base cl "is_between" 2 3 gIsBetween) (hIsRow : FnX P w K mg base cl "is_row" 1 3 gIsRow) : FnX P w K mg base cl "is_road" 3 1 gIsRoad :=
 have h := mkx P w base cl 2 F b m scIsRoad fun cdv A outer s H E hr =>
  (zaf (qs_if (qt_not (qt_val (qfn hIsRow hr (zaa (zac 0) (zaa zad (zaa zad zae))))))
  (zah (zan qe_bl))
  qss_nil)
  (zaf (qs_asg (zac 0) (qg_tup (n := 4) rfl (qgs_cons (zal (i := 1) scIsRoad.nd rfl (Or.inl rfl)) (qgs_cons (zal (i := 2) scIsRoad.nd rfl (Or.inl rfl)) (qgs_cons (zal (i := 3) scIsRoad.nd rfl (Or.inl rfl)) (qgs_cons (zal (i := 4) scIsRoad.nd rfl (Or.inl rfl)) qgs_nil))))))
  (zaf (qs_if (qt_bool (qw_or (qt_not (qt_val (qfn hIsBetween hr (zaa (zac 1) (zaa zad (zaa zad zae)))))) (qw_or1 (qt_not (qt_val (qfn hIsBetween hr (zaa (zac 2) (zaa (zac 1) (zaa zad zae)))))))))
  (zah (zan qe_bl))
  qss_nil)
  (zah (zan (qe_and (qfn hIsBetween hr (zaa (zac 3) (zaa zad (zaa zad zae)))) (qe_one (qfn hIsBetween hr (zaa (zac 4) (zaa zad (zaa zad zae)))))))))))
 h
theorem scShowPact : FnScope ["pact", "shape", "wide", "forms", "road", "rows"] ["pact"] (zak sShowPact) := sco
theorem ok_ShowPact (F : Fun K "show_pact" "show_pact" sShowPact f fd) (b : Binds K fd ["pact"] []) (m : mg "show_pact" = some (.ref f)) (T : Txt mg) (hShowField : FnX P w K mg base cl "show_field" 2 2 gShowField) (hShowForm : FnX P w K mg base cl "show_form" 2 1 gShowForm) (hShowWords : FnX P w K mg base cl "show_words" 1 1 gShowWords) : FnX P w K mg base cl "show_pact" 3 1 gShowPact :=
 have h := mkx P w base cl 2 F b m scShowPact fun cdv A outer s H E hr =>
  (zaf (qs_asg (zac 0) (qg_tup (n := 4) rfl (qgs_cons (zal (i := 1) scShowPact.nd rfl (Or.inr rfl)) (qgs_cons (zal (i := 2) scShowPact.nd rfl (Or.inl rfl)) (qgs_cons (zal (i := 3) scShowPact.nd rfl (Or.inl rfl)) (qgs_cons (zal (i := 4) scShowPact.nd rfl (Or.inl rfl)) qgs_nil))))))
  (zaf (qs_setC (i := 5) rfl rfl scShowPact.nd rfl rfl (N0 := ["pact", "shape", "wide", "forms", "road", "rows"]) (xs := ["field"]) ⟨(by with_unfolding_all rfl), rfl, rfl, rfl, (by repeat (first | exact trivial | refine ⟨rfl, ?_⟩)), rfl, .inl rfl⟩ (qi_seq (qxi hr (zac 1) zad)) (fun _ _ _ _ => (zal (i := 6) (by decide +kernel : (["pact", "shape", "wide", "forms", "road", "rows", "field"] : List Str).Nodup) rfl (Or.inl rfl))) (fun _ _ _ _ => qif_nil) (fun _ _ _ _ => (qfn hShowField hr (zaa (qxi hr (zac 1) zad) (zaa (zac 6) zae)))))
  (zaf (qs_set (i := 5) scShowPact.nd rfl (Or.inl rfl) (qe_op op_addA od_add (zac 5) (qe_lst (zaa (qe_fstr (QJs.cons zam (QJs.cons (qe_fv (qxi hr (zac 1) zad)) QJs.nil))) (zaa (qe_fstr (QJs.cons zam (QJs.cons (qe_fv (zac 2)) QJs.nil))) (zaa (qe_op op_addA od_add zam (qfn hShowWords hr (zaa (zac 4) zae))) zae))))))
  (zah (zan (qe_bm PySem.F.plainAttrs_str PySem.F.slot_str_join PySem.F.type_str_join mt_join ty_str md_join zam (zaa (qe_op op_addA od_add (zac 5) (qe_comp rfl rfl (N0 := ["pact", "shape", "wide", "forms", "road", "rows"]) (xs := ["form"]) ⟨(by with_unfolding_all rfl), rfl, rfl, rfl, (by repeat (first | exact trivial | refine ⟨rfl, ?_⟩)), rfl, .inl rfl⟩ (qi_seq (zac 3)) (fun _ _ _ _ => (zal (i := 6) (by decide +kernel : (["pact", "shape", "wide", "forms", "road", "rows", "form"] : List Str).Nodup) rfl (Or.inl rfl))) (fun _ _ _ _ => qif_nil) (fun _ _ _ _ => (qfn hShowForm hr (zaa (zac 6) zae))))) zae)))))))
 h
theorem scShowField : FnScope ["fields", "field", "name", "breadth", "kind"] ["fields", "field"] (zak sShowField) := sco
theorem ok_ShowField (F : Fun K "show_field" "show_field" sShowField f fd) (b : Binds K fd ["fields", "field"] []) (m : mg "show_field" = some (.ref f)) (T : Txt mg) (hShowWords : FnX P w K mg base cl "show_words" 1 1 gShowWords) : FnX P w K mg base cl "show_field" 2 2 gShowField :=
 have h := mkx P w base cl 1 F b m scShowField fun cdv A outer s H E hr =>
  (zaf (qs_asg (zac 1) (qg_tup (n := 3) rfl (qgs_cons (zal (i := 2) scShowField.nd rfl (Or.inl rfl)) (qgs_cons (zal (i := 3) scShowField.nd rfl (Or.inl rfl)) (qgs_cons (zal (i := 4) scShowField.nd rfl (Or.inl rfl)) qgs_nil)))))
  (zaf (qs_if (qt_cmp (op_eqA hr.units) od_eq (qxi hr (zac 4) zad) zam (nomark _))
  (zah (zan (qe_op op_addA od_add (qe_fstr (QJs.cons zam (QJs.cons (qe_fv (zac 2)) (QJs.cons zam (QJs.cons (qe_fv (zac 3)) (QJs.cons zam QJs.nil)))))) (qfn hShowWords hr (zaa (qxi hr (zac 4) zad) zae)))))
  qss_nil)
  (zaf (qs_if (qt_cmp (op_eqA hr.units) od_eq (qxi hr (zac 4) zad) zam (nomark _))
  (zah (zan (qe_fstr (QJs.cons zam (QJs.cons (qe_fv (zac 2)) (QJs.cons zam (QJs.cons (qe_fv (zac 3)) (QJs.cons zam (QJs.cons (qe_fv (qxi hr (qxi hr (zac 0) (qxi hr (zac 4) zad)) zad)) (QJs.cons zam (QJs.cons (qe_fv (qxi hr (zac 4) zad)) QJs.nil)))))))))))
  qss_nil)
  (zah (zan (qe_op op_addA od_add (qe_fstr (QJs.cons zam (QJs.cons (qe_fv (zac 2)) (QJs.cons zam (QJs.cons (qe_fv (zac 3)) (QJs.cons zam QJs.nil)))))) (qfn hShowWords hr (zaa (zac 4) zae))))))))
 h
theorem scShowForm : FnScope ["form", "reach", "count", "ways"] ["form"] (zak sShowForm) := sco
theorem ok_ShowForm (F : Fun K "show_form" "show_form" sShowForm f fd) (b : Binds K fd ["form"] []) (m : mg "show_form" = some (.ref f)) (T : Txt mg) (hShowWay : FnX P w K mg base cl "show_way" 1 1 gShowWay) (hShowWords : FnX P w K mg base cl "show_words" 1 1 gShowWords) : FnX P w K mg base cl "show_form" 2 1 gShowForm :=
 have h := mkx P w base cl 1 F b m scShowForm fun cdv A outer s H E hr =>
  (zaf (qs_asg (zac 0) (qg_tup (n := 3) rfl (qgs_cons (zal (i := 1) scShowForm.nd rfl (Or.inl rfl)) (qgs_cons (zal (i := 2) scShowForm.nd rfl (Or.inl rfl)) (qgs_cons (zal (i := 3) scShowForm.nd rfl (Or.inl rfl)) qgs_nil)))))
  (zah (zan (qe_op op_addA od_add (qe_fstr (QJs.cons zam (QJs.cons (qe_fv (zac 1)) (QJs.cons zam (QJs.cons (qe_fv (zac 2)) (QJs.cons zam QJs.nil)))))) (qfn hShowWords hr (zaa (qe_comp rfl rfl (N0 := ["form", "reach", "count", "ways"]) (xs := ["way"]) ⟨(by with_unfolding_all rfl), rfl, rfl, rfl, (by repeat (first | exact trivial | refine ⟨rfl, ?_⟩)), rfl, .inl rfl⟩ (qi_seq (zac 3)) (fun _ _ _ _ => (zal (i := 4) (by decide +kernel : (["form", "reach", "count", "ways", "way"] : List Str).Nodup) rfl (Or.inl rfl))) (fun _ _ _ _ => qif_nil) (fun _ _ _ _ => (qfn hShowWay hr (zaa (zac 4) zae)))) zae))))))
 h
theorem scShowWay : FnScope ["way"] ["way"] (zak sShowWay) := sco
theorem ok_ShowWay (F : Fun K "show_way" "show_way" sShowWay f fd) (b : Binds K fd ["way"] []) (m : mg "show_way" = some (.ref f)) (T : Txt mg) : FnX P w K mg base cl "show_way" 1 1 gShowWay :=
 have h := mkx P w base cl 0 F b m scShowWay fun cdv A outer s H E hr =>
  (zaf (qs_if (qt_cmp (op_eqA hr.units) od_eq (qxi hr (zac 0) zad) zam (nomark _))
  (zah (zan zam))
  qss_nil)
  (zaf (qs_if (qt_cmp (op_eqA hr.units) od_eq (qxi hr (zac 0) zad) zam (nomark _))
  (zah (zan zam))
  qss_nil)
  (zah (zan (qe_fstr (QJs.cons (qe_fv (qxi hr (zac 0) zad)) (QJs.cons zam (QJs.cons (qe_fv (qxi hr (zac 0) zad)) QJs.nil))))))))
 h
theorem scShowWords : FnScope ["parts"] ["parts"] (zak sShowWords) := sco
theorem ok_ShowWords (F : Fun K "show_words" "show_words" sShowWords f fd) (b : Binds K fd ["parts"] []) (m : mg "show_words" = some (.ref f)) (T : Txt mg) : FnX P w K mg base cl "show_words" 1 1 gShowWords :=
 have h := mkx P w base cl 0 F b m scShowWords fun cdv A outer s H E hr =>
  (zah (zan (qe_bm PySem.F.plainAttrs_str PySem.F.slot_str_join PySem.F.type_str_join mt_join ty_str md_join zam (zaa (qe_comp rfl rfl (N0 := ["parts"]) (xs := ["part"]) ⟨(by with_unfolding_all rfl), rfl, rfl, rfl, (by repeat (first | exact trivial | refine ⟨rfl, ?_⟩)), rfl, .inl rfl⟩ (qi_seq (zac 0)) (fun _ _ _ _ => (zal (i := 1) (by decide +kernel : (["parts", "part"] : List Str).Nodup) rfl (Or.inl rfl))) (fun _ _ _ _ => qif_nil) (fun _ _ _ _ => (qe_callTy call_str2 fd_str2 (by rfl) T.str boot_str (zaa (zac 1) zae)))) zae))))
 h
theorem scReadPact : FnScope ["text", "rows", "shape", "at", "wide", "road"] ["text"] (zak sReadPact) := sco
theorem ok_ReadPact (F : Fun K "read_pact" "read_pact" sReadPact f fd) (b : Binds K fd ["text"] []) (m : mg "read_pact" = some (.ref f)) (T : Txt mg) (hFormsRead : FnX P w K mg base cl "forms_read" 8 3 gFormsRead) (hIsRoad : FnX P w K mg base cl "is_road" 3 1 gIsRoad) (hIsWide : FnX P w K mg base cl "is_wide" 3 1 gIsWide) (hNumbersRead : FnX P w K mg base cl "numbers_read" 2 4 gNumbersRead) (hShapeRead : FnX P w K mg base cl "shape_read" 9 1 gShapeRead) : FnX P w K mg base cl "read_pact" 10 1 gReadPact :=
 have h := mkx P w base cl 9 F b m scReadPact fun cdv A outer s H E hr =>
  (zaf (qs_if (qt_not (qt_val (qe_isi (n := "str") (by decide) (by rfl) T.isi (by rfl) T.str boot_str (zac 0))))
  (zah qs_never)
  qss_nil)
  (zaf (qs_setC (i := 1) rfl rfl scReadPact.nd rfl rfl (N0 := ["text", "rows", "shape", "at", "wide", "road"]) (xs := ["row"]) ⟨(by with_unfolding_all rfl), rfl, rfl, rfl, (by repeat (first | exact trivial | refine ⟨rfl, ?_⟩)), rfl, .inl rfl⟩ (qi_seq (qe_bm PySem.F.plainAttrs_str PySem.F.slot_str_split PySem.F.type_str_split mt_split ty_str md_split (zac 0) (zaa zam zae))) (fun _ _ _ _ => (zal (i := 6) (by decide +kernel : (["text", "rows", "shape", "at", "wide", "road", "row"] : List Str).Nodup) rfl (Or.inl rfl))) (fun _ _ _ _ => qif_nil) (fun _ _ _ _ => (qe_bm PySem.F.plainAttrs_str PySem.F.slot_str_split PySem.F.type_str_split mt_split ty_str md_split (zac 6) (zaa zam zae))))
  (zaf (qs_set (i := 2) scReadPact.nd rfl (Or.inl rfl) (qfn hShapeRead hr (zaa (zac 1) zae)))
  (zaf (qs_set (i := 3) scReadPact.nd rfl (Or.inl rfl) (qe_op op_addA od_add (qe_callB call_lenA fd_len (by rfl) T.len PySem.boot_len (zaa (qxi hr (zac 2) zad) zae)) zad))
  (zaf (qs_set (i := 4) scReadPact.nd rfl (Or.inl rfl) (qxi hr (qfn hNumbersRead hr (zaa (zac 1) (zaa (zac 3) (zaa zam (zaa zad zae))))) zad))
  (zaf (qs_if (qt_not (qt_val (qfn hIsWide hr (zaa (zac 4) zae))))
  (zah qs_never)
  qss_nil)
  (zaf (qs_set (i := 5) scReadPact.nd rfl (Or.inl rfl) (qfn hNumbersRead hr (zaa (zac 1) (zaa (qe_op op_addA od_add (zac 3) zad) (zaa zam (zaa zad zae))))))
  (zaf (qs_if (qt_not (qt_val (qfn hIsRoad hr (zaa (zac 5) zae))))
  (zah qs_never)
  qss_nil)
  (zah (zan (qe_tup (zaa (zac 2) (zaa (zac 4) (zaa (qfn hFormsRead hr (zaa (zac 2) (zaa (zac 1) (zaa (qe_op op_addA od_add (zac 3) zad) zae)))) (zaa (zac 5) zae)))))))))))))))
 h
theorem scShapeRead : FnScope ["rows", "fields", "longer", "shape"] ["rows"] (zak sShapeRead) := sco
theorem ok_ShapeRead (F : Fun K "shape_read" "shape_read" sShapeRead f fd) (b : Binds K fd ["rows"] []) (m : mg "shape_read" = some (.ref f)) (T : Txt mg) (hAreFields : FnX P w K mg base cl "are_fields" 7 1 gAreFields) (hFieldRead : FnX P w K mg base cl "field_read" 4 2 gFieldRead) (hIsShape : FnX P w K mg base cl "is_shape" 8 1 gIsShape) (hNumbersRead : FnX P w K mg base cl "numbers_read" 2 4 gNumbersRead) : FnX P w K mg base cl "shape_read" 9 1 gShapeRead :=
 have h := mkx P w base cl 8 F b m scShapeRead fun cdv A outer s H E hr =>
  (zaf (qs_set (i := 1) scShapeRead.nd rfl (Or.inl rfl) (qe_tup zae))
  (zaf (qs_while (n := fuelW) PassesOwn.never (qt_bool (qw_and (qt_cmp op_ltA od_lt (qe_callB call_lenA fd_len (by rfl) T.len PySem.boot_len (zaa (zac 1) zae)) (qe_callB call_lenA fd_len (by rfl) T.len PySem.boot_len (zaa (zac 0) zae)) (nomark _)) (qw_and1 (qt_cmp (op_eqA hr.units) od_eq (qxi hr (qxi hr (zac 0) (qe_callB call_lenA fd_len (by rfl) T.len PySem.boot_len (zaa (zac 1) zae))) zad) zam (nomark _)))))
  (zaf (qs_set (i := 2) scShapeRead.nd rfl (Or.inl rfl) (qe_op op_addA od_add (zac 1) (qe_tup (zaa (qfn hFieldRead hr (zaa (zac 1) (zaa (qxi hr (zac 0) (qe_callB call_lenA fd_len (by rfl) T.len PySem.boot_len (zaa (zac 1) zae))) zae))) zae))))
  (zaf (qs_if (qt_not (qt_val (qfn hAreFields hr (zaa (zac 2) zae))))
  (zah qs_never)
  qss_nil)
  (zah (qs_set (i := 1) scShapeRead.nd rfl (Or.inl rfl) (zac 2))))))
  (zaf (qs_set (i := 3) scShapeRead.nd rfl (Or.inl rfl) (qe_tup (zaa (zac 1) (zaa (qxi hr (qfn hNumbersRead hr (zaa (zac 0) (zaa (qe_callB call_lenA fd_len (by rfl) T.len PySem.boot_len (zaa (zac 1) zae)) (zaa zam (zaa zad zae))))) zad) zae))))
  (zaf (qs_if (qt_not (qt_val (qfn hIsShape hr (zaa (zac 3) zae))))
  (zah qs_never)
  qss_nil)
  (zah (zan (zac 3)))))))
 h
theorem scFormsRead : FnScope ["shape", "rows", "begin", "forms", "at"] ["shape", "rows", "begin"] (zak sFormsRead) := sco
theorem ok_FormsRead (F : Fun K "forms_read" "forms_read" sFormsRead f fd) (b : Binds K fd ["shape", "rows", "begin"] []) (m : mg "forms_read" = some (.ref f)) (T : Txt mg) (hAreForms : FnX P w K mg base cl "are_forms" 7 2 gAreForms) (hFormRead : FnX P w K mg base cl "form_read" 3 1 gFormRead) : FnX P w K mg base cl "forms_read" 8 3 gFormsRead :=
 have h := mkx P w base cl 7 F b m scFormsRead fun cdv A outer s H E hr =>
  (zaf (qs_set (i := 3) scFormsRead.nd rfl (Or.inl rfl) (qe_tup zae))
  (zaf (qs_for PassesOwn.never rfl (qi_rng2 (by rfl) T.range (zaa (zac 2) (zaa (qe_callB call_lenA fd_len (by rfl) T.len PySem.boot_len (zaa (zac 1) zae)) zae))) (zal (i := 4) scFormsRead.nd rfl (Or.inl rfl))
  (zaf (qs_set (i := 3) scFormsRead.nd rfl (Or.inl rfl) (qe_op op_addA od_add (zac 3) (qe_tup (zaa (qfn hFormRead hr (zaa (qxi hr (zac 1) (zac 4)) zae)) zae))))
  (zah (qs_if (qt_not (qt_val (qfn hAreForms hr (zaa (zac 0) (zaa (zac 3) zae)))))
  (zah qs_never)
  qss_nil))))
  (zah (zan (zac 3)))))
 h
theorem scNumbersRead : FnScope ["rows", "at", "word", "many"] ["rows", "at", "word", "many"] (zak sNumbersRead) := sco
theorem ok_NumbersRead (F : Fun K "numbers_read" "numbers_read" sNumbersRead f fd) (b : Binds K fd ["rows", "at", "word", "many"] []) (m : mg "numbers_read" = some (.ref f)) (T : Txt mg) (hNumberRead : FnX P w K mg base cl "number_read" 1 1 gNumberRead) : FnX P w K mg base cl "numbers_read" 2 4 gNumbersRead :=
 have h := mkx P w base cl 1 F b m scNumbersRead fun cdv A outer s H E hr =>
  (zaf (qs_if (qt_bool (qw_or (qt_cmp op_ge od_ge (zac 1) (qe_callB call_lenA fd_len (by rfl) T.len PySem.boot_len (zaa (zac 0) zae)) (nomark _)) (qw_or (qt_cmp (op_neA hr.units) od_ne (qe_callB call_lenA fd_len (by rfl) T.len PySem.boot_len (zaa (qxi hr (zac 0) (zac 1)) zae)) (qe_op op_addA od_add zad (zac 3)) (nomark _)) (qw_or1 (qt_cmp (op_neA hr.units) od_ne (qxi hr (qxi hr (zac 0) (zac 1)) zad) (zac 2) (nomark _))))))
  (zah qs_never)
  qss_nil)
  (zah (zan (qe_callTy (call_tupA rfl) fd_tup (by rfl) T.tuple boot_tuple (zaa (qe_comp rfl rfl (N0 := ["rows", "at", "word", "many"]) (xs := ["number"]) ⟨(by with_unfolding_all rfl), rfl, rfl, rfl, (by repeat (first | exact trivial | refine ⟨rfl, ?_⟩)), rfl, .inl rfl⟩ (qi_seq (qe_sl (qxi hr (zac 0) (zac 1)) (qo_some zad) qo_none)) (fun _ _ _ _ => (zal (i := 4) (by decide +kernel : (["rows", "at", "word", "many", "number"] : List Str).Nodup) rfl (Or.inl rfl))) (fun _ _ _ _ => qif_nil) (fun _ _ _ _ => (qfn hNumberRead hr (zaa (zac 4) zae)))) zae)))))
 h
theorem scFieldRead : FnScope ["fields", "words", "names"] ["fields", "words"] (zak sFieldRead) := sco
theorem ok_FieldRead (F : Fun K "field_read" "field_read" sFieldRead f fd) (b : Binds K fd ["fields", "words"] []) (m : mg "field_read" = some (.ref f)) (T : Txt mg) (hKindRead : FnX P w K mg base cl "kind_read" 3 2 gKindRead) (hNumberRead : FnX P w K mg base cl "number_read" 1 1 gNumberRead) : FnX P w K mg base cl "field_read" 4 2 gFieldRead :=
 have h := mkx P w base cl 3 F b m scFieldRead fun cdv A outer s H E hr =>
  (zaf (qs_if (qt_cmp op_ltA od_lt (qe_callB call_lenA fd_len (by rfl) T.len PySem.boot_len (zaa (zac 1) zae)) zad (nomark _))
  (zah (zan qe_non))
  qss_nil)
  (zaf (qs_setC (i := 2) rfl rfl scFieldRead.nd rfl rfl (N0 := ["fields", "words", "names"]) (xs := ["field"]) ⟨(by with_unfolding_all rfl), rfl, rfl, rfl, (by repeat (first | exact trivial | refine ⟨rfl, ?_⟩)), rfl, .inl rfl⟩ (qi_seq (zac 0)) (fun _ _ _ _ => (zal (i := 3) (by decide +kernel : (["fields", "words", "names", "field"] : List Str).Nodup) rfl (Or.inl rfl))) (fun _ _ _ _ => qif_nil) (fun _ _ _ _ => (qxi hr (zac 3) zad)))
  (zah (zan (qe_tup (zaa (qxi hr (zac 1) zad) (zaa (qfn hNumberRead hr (zaa (qxi hr (zac 1) zad) zae)) (zaa (qfn hKindRead hr (zaa (zac 2) (zaa (qe_sl (zac 1) (qo_some zad) qo_none) zae))) zae))))))))
 h
theorem scKindRead : FnScope ["names", "words"] ["names", "words"] (zak sKindRead) := sco
theorem ok_KindRead (F : Fun K "kind_read" "kind_read" sKindRead f fd) (b : Binds K fd ["names", "words"] []) (m : mg "kind_read" = some (.ref f)) (T : Txt mg) (hNumberRead : FnX P w K mg base cl "number_read" 1 1 gNumberRead) (hSignedRead : FnX P w K mg base cl "signed_read" 2 1 gSignedRead) : FnX P w K mg base cl "kind_read" 3 2 gKindRead :=
 have h := mkx P w base cl 2 F b m scKindRead fun cdv A outer s H E hr =>
  (zaf (qs_if (qt_cmp (op_eqA hr.units) od_eq (qe_callB call_lenA fd_len (by rfl) T.len PySem.boot_len (zaa (zac 1) zae)) zad (nomark _))
  (zah (zan (qe_tup (zaa (qxi hr (zac 1) zad) zae))))
  qss_nil)
  (zaf (qs_if (qt_bool (qw_and (qt_cmp (op_eqA hr.units) od_eq (qxi hr (zac 1) zad) zam (nomark _)) (qw_and1 (qt_cmp (op_eqA hr.units) od_eq (qe_callB call_lenA fd_len (by rfl) T.len PySem.boot_len (zaa (zac 1) zae)) zad (nomark _)))))
  (zah (zan (qe_tup (zaa zam (zaa (qfn hNumberRead hr (zaa (qxi hr (zac 1) zad) zae)) zae)))))
  qss_nil)
  (zaf (qs_if (qt_cmp (op_eqA hr.units) od_eq (qxi hr (zac 1) zad) zam (nomark _))
  (zah (zan (qe_tup (zaa zam (zaa (qe_callTy (call_tupA rfl) fd_tup (by rfl) T.tuple boot_tuple (zaa (qe_comp rfl rfl (N0 := ["names", "words"]) (xs := ["word"]) ⟨(by with_unfolding_all rfl), rfl, rfl, rfl, (by repeat (first | exact trivial | refine ⟨rfl, ?_⟩)), rfl, .inl rfl⟩ (qi_seq (qe_sl (zac 1) (qo_some zad) qo_none)) (fun _ _ _ _ => (zal (i := 2) (by decide +kernel : (["names", "words", "word"] : List Str).Nodup) rfl (Or.inl rfl))) (fun _ _ _ _ => qif_nil) (fun _ _ _ _ => (qfn hNumberRead hr (zaa (zac 2) zae)))) zae)) zae)))))
  qss_nil)
  (zaf (qs_if (qt_bool (qw_and (qt_cmp (op_eqA hr.units) od_eq (qxi hr (zac 1) zad) zam (nomark _)) (qw_and (qt_cmp (op_eqA hr.units) od_eq (qe_callB call_lenA fd_len (by rfl) T.len PySem.boot_len (zaa (zac 1) zae)) zad (nomark _)) (qw_and1 (qt_cmp (op_inA hr) od_in (qxi hr (zac 1) zad) (zac 0) rfl)))))
  (zah (zan (qe_tup (zaa zam (zaa (qe_bm PySem.F.plainAttrs_list PySem.F.slot_list_index PySem.F.type_list_index mt_lindex ty_lst md_lindex (zac 0) (zaa (qxi hr (zac 1) zad) zae)) (zaa (qfn hSignedRead hr (zaa (qxi hr (zac 1) zad) zae)) zae))))))
  qss_nil)
  (zah (zan qe_non))))))
 h
theorem scFormRead : FnScope ["words"] ["words"] (zak sFormRead) := sco
theorem ok_FormRead (F : Fun K "form_read" "form_read" sFormRead f fd) (b : Binds K fd ["words"] []) (m : mg "form_read" = some (.ref f)) (T : Txt mg) (hNumberRead : FnX P w K mg base cl "number_read" 1 1 gNumberRead) (hWayRead : FnX P w K mg base cl "way_read" 2 1 gWayRead) : FnX P w K mg base cl "form_read" 3 1 gFormRead :=
 have h := mkx P w base cl 2 F b m scFormRead fun cdv A outer s H E hr =>
  (zaf (qs_if (qt_bool (qw_or (qt_cmp op_ltA od_lt (qe_callB call_lenA fd_len (by rfl) T.len PySem.boot_len (zaa (zac 0) zae)) zad (nomark _)) (qw_or1 (qt_cmp (op_neA hr.units) od_ne (qxi hr (zac 0) zad) zam (nomark _)))))
  (zah (zan qe_non))
  qss_nil)
  (zah (zan (qe_tup (zaa (qfn hNumberRead hr (zaa (qxi hr (zac 0) zad) zae)) (zaa (qfn hNumberRead hr (zaa (qxi hr (zac 0) zad) zae)) (zaa (qe_callTy (call_tupA rfl) fd_tup (by rfl) T.tuple boot_tuple (zaa (qe_comp rfl rfl (N0 := ["words"]) (xs := ["word"]) ⟨(by with_unfolding_all rfl), rfl, rfl, rfl, (by repeat (first | exact trivial | refine ⟨rfl, ?_⟩)), rfl, .inl rfl⟩ (qi_seq (qe_sl (zac 0) (qo_some zad) qo_none)) (fun _ _ _ _ => (zal (i := 1) (by decide +kernel : (["words", "word"] : List Str).Nodup) rfl (Or.inl rfl))) (fun _ _ _ _ => qif_nil) (fun _ _ _ _ => (qfn hWayRead hr (zaa (zac 1) zae)))) zae)) zae)))))))
 h
theorem scWayRead : FnScope ["word", "width", "dash", "below"] ["word"] (zak sWayRead) := sco
theorem ok_WayRead (F : Fun K "way_read" "way_read" sWayRead f fd) (b : Binds K fd ["word"] []) (m : mg "way_read" = some (.ref f)) (T : Txt mg) (hNumberRead : FnX P w K mg base cl "number_read" 1 1 gNumberRead) : FnX P w K mg base cl "way_read" 2 1 gWayRead :=
 have h := mkx P w base cl 1 F b m scWayRead fun cdv A outer s H E hr =>
  (zaf (qs_if (qt_cmp (op_eqA hr.units) od_eq (zac 0) zam (nomark _))
  (zah (zan (qe_tup (zaa zam zae))))
  qss_nil)
  (zaf (qs_if (qt_cmp (op_eqA hr.units) od_eq (zac 0) zam (nomark _))
  (zah (zan (qe_tup (zaa zam zae))))
  qss_nil)
  (zaf (qs_asg (qe_bm PySem.F.plainAttrs_str PySem.F.slot_str_partition PySem.F.type_str_partition mt_part ty_str md_part (zac 0) (zaa zam zae)) (qg_tup (n := 3) rfl (qgs_cons (zal (i := 1) scWayRead.nd rfl (Or.inl rfl)) (qgs_cons (zal (i := 2) scWayRead.nd rfl (Or.inl rfl)) (qgs_cons (zal (i := 3) scWayRead.nd rfl (Or.inl rfl)) qgs_nil)))))
  (zah (zan (qe_tup (zaa zam (zaa (qfn hNumberRead hr (zaa (zac 1) zae)) (zaa (qfn hNumberRead hr (zaa (zac 3) zae)) zae)))))))))
 h
theorem scNumberRead : FnScope ["word"] ["word"] (zak sNumberRead) := sco
theorem ok_NumberRead (F : Fun K "number_read" "number_read" sNumberRead f fd) (b : Binds K fd ["word"] []) (m : mg "number_read" = some (.ref f)) (T : Txt mg) : FnX P w K mg base cl "number_read" 1 1 gNumberRead :=
 have h := mkx P w base cl 0 F b m scNumberRead fun cdv A outer s H E hr =>
  (zaf (qs_if (qt_bool (qw_or (qt_not (qt_chain op_leA od_le op_leA od_le zad (qe_callB call_lenA fd_len (by rfl) T.len PySem.boot_len (zaa (zac 0) zae)) zad)) (qw_or1 (qt_not (qt_val (qe_callB (call_allB rfl) fd_all (by rfl) T.all boot_all (zaa (qe_comp rfl rfl (N0 := ["word"]) (xs := ["sign"]) ⟨(by with_unfolding_all rfl), rfl, rfl, rfl, (by repeat (first | exact trivial | refine ⟨rfl, ?_⟩)), rfl, .inl rfl⟩ (qi_seq (zac 0)) (fun _ _ _ _ => (zal (i := 1) (by decide +kernel : (["word", "sign"] : List Str).Nodup) rfl (Or.inl rfl))) (fun _ _ _ _ => qif_nil) (fun _ _ _ _ => (qe_chain op_leA od_le op_leA od_le zam (zac 1) zam))) zae)))))))
  (zah (zan qe_non))
  qss_nil)
  (zaf (qs_if (qt_bool (qw_and (qt_cmp (op_eqA hr.units) od_eq (qxi hr (zac 0) zad) zam (nomark _)) (qw_and1 (qt_cmp (op_neA hr.units) od_ne (zac 0) zam (nomark _)))))
  (zah (zan qe_non))
  qss_nil)
  (zah (zan (qe_callTy call_intA fd_int (by rfl) T.int boot_int (zaa (zac 0) zae))))))
 h
theorem scSignedRead : FnScope ["word", "number"] ["word"] (zak sSignedRead) := sco
theorem ok_SignedRead (F : Fun K "signed_read" "signed_read" sSignedRead f fd) (b : Binds K fd ["word"] []) (m : mg "signed_read" = some (.ref f)) (T : Txt mg) (hNumberRead : FnX P w K mg base cl "number_read" 1 1 gNumberRead) : FnX P w K mg base cl "signed_read" 2 1 gSignedRead :=
 have h := mkx P w base cl 1 F b m scSignedRead fun cdv A outer s H E hr =>
  (zaf (qs_if (qt_not (qt_val (qe_bm PySem.F.plainAttrs_str PySem.F.slot_str_startswith PySem.F.type_str_startswith mt_start ty_str md_start (zac 0) (zaa zam zae))))
  (zah (zan (qfn hNumberRead hr (zaa (zac 0) zae))))
  qss_nil)
  (zaf (qs_set (i := 1) scSignedRead.nd rfl (Or.inl rfl) (qfn hNumberRead hr (zaa (qe_sl (zac 0) (qo_some zad) qo_none) zae)))
  (zaf (qs_if (qt_bool (qw_or (qt_cmp op_isA od_is (zac 1) qe_non (nomark _)) (qw_or1 (qt_cmp (op_eqA hr.units) od_eq (zac 1) zad (nomark _)))))
  (zah (zan qe_non))
  qss_nil)
  (zah (zan (qe_un un_neg ud_neg (zac 1)))))))
 h
theorem scLawPot : FnScope ["_law_script", "_law_far", "_law_seed", "_law_own", "_law_cell"] ["_law_script"] (zak sLawPot) := sco
theorem ok_LawPot (F : Fun K "_law_pot" "_law_pot" sLawPot f fd) (b : Binds K fd ["_law_script"] []) (m : mg "_law_pot" = some (.ref f)) (T : Txt mg) : FnX P w K mg base cl "_law_pot" 1 1 gLawPot3 :=
 have h := mkx P w base cl 0 F b m scLawPot fun cdv A outer s H E hr =>
  (zaf (qs_set (i := 1) scLawPot.nd rfl (Or.inl rfl) (qe_op op_mulB od_mulB (qe_op op_mulB od_mulB (qe_op op_mulB od_mulB (qe_op op_mulB od_mulB (qe_op op_pow od_pow zad zad) (qe_op op_pow od_pow zad zad)) (qe_op op_pow od_pow zad zad)) (qe_op op_pow od_pow zad zad)) (qe_op op_pow od_pow zad zad)))
  (zaf (qs_par (i := 2) (j := 3) rfl scLawPot.nd rfl rfl (by decide) rfl rfl (zaa zad (zaa (qe_newl zae) zae)) rfl)
  (zaf (qs_for PassesOwn.never rfl (qi_seq (qe_sl (zac 0) qo_none (qo_some zad))) (zal (i := 4) scLawPot.nd rfl (Or.inl rfl))
  (zaf (qs_set (i := 2) scLawPot.nd rfl (Or.inl rfl) (qe_op op_mod od_mod (qe_op op_addA od_add (qe_op op_addA od_add (qe_op op_mulA od_mul (zac 2) zad) (qe_op op_mod od_mod (zac 4) (qe_op op_pow od_pow zad zad))) zad) zad))
  (zah (qs_if (qt_cmp op_ge od_ge (qe_callB call_abs fd_abs (by rfl) T.abs boot_abs (zaa (zac 4) zae)) (qe_op op_pow od_pow zad zad) (nomark _))
  (zah (qs_drop (qe_bm PySem.F.plainAttrs_list PySem.F.slot_list_append PySem.F.type_list_append mt_append ty_lst md_append (zac 3) (zaa (qe_op op_mod od_mod (qe_callB call_abs fd_abs (by rfl) T.abs boot_abs (zaa (zac 4) zae)) (zac 1)) zae))))
  qss_nil))))
  (zah (zan (qe_dict (QPs.cons (zac 3) (QPs.cons (zac 2) (QPs.cons zad QPs.nil))) (by simp) (by decide)))))))
 h
theorem scLawDraw : FnScope ["_law_pot_here", "_law_many", "_law_digit", "_law_turn", "_law_mixed"] ["_law_pot_here", "_law_many"] (zak sLawDraw) := sco
theorem ok_LawDraw (F : Fun K "_law_draw" "_law_draw" sLawDraw f fd) (b : Binds K fd ["_law_pot_here", "_law_many"] []) (m : mg "_law_draw" = some (.ref f)) (T : Txt mg) : FnX P w K mg base cl "_law_draw" 1 2 zai :=
 have h := mkx P w base cl 0 F b m scLawDraw fun cdv A outer s H E hr =>
  (zaf (qs_while (n := fuelW) PassesOwn.never (qt_bool (qw_and (qt_cmp (op_neA hr.units) od_ne (qxi hr (zac 0) zam) (qe_lst zae) (nomark _)) (qw_and1 (qt_cmp (op_eqA hr.units) od_eq (qxi hr (qxi hr (zac 0) zam) zad) zad (nomark _)))))
  (zah (qs_drop (qe_bm PySem.F.plainAttrs_list PySem.F.slot_list_pop PySem.F.type_list_pop mt_popAt ty_lst md_pop (qxi hr (zac 0) zam) (zaa zad zae)))))
  (zaf (qs_if (qt_cmp (op_neA hr.units) od_ne (qxi hr (zac 0) zam) (qe_lst zae) (nomark _))
  (zaf (qs_set (i := 2) scLawDraw.nd rfl (Or.inl rfl) (qe_op op_mod od_mod (qxi hr (qxi hr (zac 0) zam) zad) (zac 1)))
  (zaf (qs_asg (qe_op op_fdivL od_fdiv (qxi hr (qxi hr (zac 0) zam) zad) (zac 1)) (qg_item (qxi hr (zac 0) zam) zad))
  (zah (zan (zac 2)))))
  qss_nil)
  (zaf (qs_dput (hu_of hr) (zac 0) zam (qe_op op_addA od_add (qxi hr (zac 0) zam) zad) rfl)
  (zaf (qs_set (i := 3) scLawDraw.nd rfl (Or.inl rfl) (qxi hr (zac 0) zam))
  (zaf (qs_set (i := 4) scLawDraw.nd rfl (Or.inl rfl) (qe_op op_addA od_add (qe_op op_addA od_add (qxi hr (zac 0) zam) (qe_op op_mulA od_mul (qe_op op_mulA od_mul (zac 3) (zac 3)) zad)) (qe_op op_mulA od_mul (zac 3) zad)))
  (zaf (qs_set (i := 4) scLawDraw.nd rfl (Or.inl rfl) (qe_op op_mod od_mod (qe_op op_mulA od_mul (zac 4) zad) zad))
  (zaf (qs_set (i := 4) scLawDraw.nd rfl (Or.inl rfl) (qe_op op_mod od_mod (qe_op op_mulA od_mul (zac 4) (qe_op op_addA od_add (qe_op op_mod od_mod (zac 4) zad) zad)) zad))
  (zah (zan (qe_op op_mod od_mod (qe_op op_addA od_add (qe_op op_fdivL od_fdiv (zac 4) zad) (qe_op op_fdivL od_fdiv (zac 4) zad)) (zac 1)))))))))))
 h
theorem scLawOf : FnScope ["_law_pot_here", "_law_some"] ["_law_pot_here", "_law_some"] (zak sLawOf) := sco
theorem ok_LawOf (F : Fun K "_law_of" "_law_of" sLawOf f fd) (b : Binds K fd ["_law_pot_here", "_law_some"] []) (m : mg "_law_of" = some (.ref f)) (T : Txt mg) (hLawDraw : FnX P w K mg base cl "_law_draw" 1 2 zai) : FnX P w K mg base cl "_law_of" 2 2 gLawOf2 :=
 have h := mkx P w base cl 1 F b m scLawOf fun cdv A outer s H E hr =>
  (zah (zan (qxi hr (zac 1) (qfn hLawDraw hr (zaa (zac 0) (zaa (qe_callB call_lenA fd_len (by rfl) T.len PySem.boot_len (zaa (zac 1) zae)) zae))))))
 h
theorem scLawSize : FnScope ["_law_pot_here", "_law_few", "_law_most"] ["_law_pot_here", "_law_few", "_law_most"] (zak sLawSize) := sco
theorem ok_LawSize (F : Fun K "_law_size" "_law_size" sLawSize f fd) (b : Binds K fd ["_law_pot_here", "_law_few", "_law_most"] []) (m : mg "_law_size" = some (.ref f)) (T : Txt mg) (hLawDraw : FnX P w K mg base cl "_law_draw" 1 2 zai) : FnX P w K mg base cl "_law_size" 2 3 gLawSize :=
 have h := mkx P w base cl 1 F b m scLawSize fun cdv A outer s H E hr =>
  (zah (zan (qe_op op_addA od_add zad (qfn hLawDraw hr (zaa (zac 0) (zaa (qxi hr (qe_lst (zaa (zac 1) (zaa (zac 2) zae))) (qe_callTy call_intA fd_int (by rfl) T.int boot_int (zaa (qe_cmp (op_eqA hr.units) od_eq (qfn hLawDraw hr (zaa (zac 0) (zaa zad zae))) zad (nomark _)) zae))) zae))))))
 h
theorem scLawNames : FnScope ["_law_pot_here", "_law_many", "_law_letters", "_law_first", "_law_step"] ["_law_pot_here", "_law_many"] (zak sLawNames) := sco
theorem ok_LawNames (F : Fun K "_law_names" "_law_names" sLawNames f fd) (b : Binds K fd ["_law_pot_here", "_law_many"] []) (m : mg "_law_names" = some (.ref f)) (T : Txt mg) (hLawDraw : FnX P w K mg base cl "_law_draw" 1 2 zai) (hLawOf : FnX P w K mg base cl "_law_of" 2 2 gLawOf2) : FnX P w K mg base cl "_law_names" 3 2 gLawNames2 :=
 have h := mkx P w base cl 2 F b m scLawNames fun cdv A outer s H E hr =>
  (zaf (qs_set (i := 2) scLawNames.nd rfl (Or.inr rfl) zam)
  (zaf (qs_asg (qe_tup (zaa (qfn hLawDraw hr (zaa (zac 0) (zaa zad zae))) (zaa (qfn hLawOf hr (zaa (zac 0) (zaa (qe_lst (zaa zad (zaa zad (zaa zad (zaa zad (zaa zad (zaa zad zae))))))) zae))) zae))) (qg_tup (n := 2) rfl (qgs_cons (zal (i := 3) scLawNames.nd rfl (Or.inr rfl)) (qgs_cons (zal (i := 4) scLawNames.nd rfl (Or.inr rfl)) qgs_nil))))
  (zah (zan (qe_comp rfl rfl (N0 := ["_law_pot_here", "_law_many", "_law_letters", "_law_first", "_law_step"]) (xs := ["_law_k"]) ⟨(by with_unfolding_all rfl), rfl, rfl, rfl, (by repeat (first | exact trivial | refine ⟨rfl, ?_⟩)), rfl, .inl rfl⟩ (qi_rng1 (by rfl) T.range (zaa (zac 1) zae)) (fun _ _ _ _ => (zal (i := 5) (by decide +kernel : (["_law_pot_here", "_law_many", "_law_letters", "_law_first", "_law_step", "_law_k"] : List Str).Nodup) rfl (Or.inl rfl))) (fun _ _ _ _ => qif_nil) (fun _ _ _ _ => (qe_op op_mulA od_mul (qxi hr (zac 2) (qe_op op_mod od_mod (qe_op op_addA od_add (zac 3) (qe_op op_mulA od_mul (zac 4) (zac 5))) zad)) (qe_op op_addA od_add zad (qe_op op_mod od_mod (qe_op op_addA od_add (zac 3) (qe_op op_mulA od_mul (zac 5) (zac 5))) zad)))))))))
 h
theorem scLawValue : FnScope ["_law_pot_here", "_law_breadth", "_law_top", "_law_near"] ["_law_pot_here", "_law_breadth"] (zak sLawValue) := sco
theorem ok_LawValue (F : Fun K "_law_value" "_law_value" sLawValue f fd) (b : Binds K fd ["_law_pot_here", "_law_breadth"] []) (m : mg "_law_value" = some (.ref f)) (T : Txt mg) (hLawDraw : FnX P w K mg base cl "_law_draw" 1 2 zai) : FnX P w K mg base cl "_law_value" 2 2 gLawValue4 :=
 have h := mkx P w base cl 1 F b m scLawValue fun cdv A outer s H E hr =>
  (zaf (qs_set (i := 2) scLawValue.nd rfl (Or.inl rfl) (qe_op op_shl od_shl zad (zac 1)))
  (zaf (qs_set (i := 3) scLawValue.nd rfl (Or.inl rfl) (qfn hLawDraw hr (zaa (zac 0) (zaa (qe_callB (call_min2 rfl) fd_min2 (by rfl) T.min boot_min (zaa (zac 2) (zaa zad zae))) zae))))
  (zah (zan (qxi hr (qe_lst (zaa (qfn hLawDraw hr (zaa (zac 0) (zaa (zac 2) zae))) (zaa (zac 3) (zaa (qe_op op_sub od_sub (qe_op op_sub od_sub (zac 2) zad) (zac 3)) (zaa (qfn hLawDraw hr (zaa (zac 0) (zaa (zac 2) zae))) zae))))) (qfn hLawDraw hr (zaa (zac 0) (zaa zad zae))))))))
 h
theorem scLawKind : FnScope ["_law_pot_here", "_law_many", "_law_breadth", "_law_top", "_law_way_here", "_law_first", "_law_odd"] ["_law_pot_here", "_law_many", "_law_breadth"] (zak sLawKind) := sco
theorem ok_LawKind (F : Fun K "_law_kind" "_law_kind" sLawKind f fd) (b : Binds K fd ["_law_pot_here", "_law_many", "_law_breadth"] []) (m : mg "_law_kind" = some (.ref f)) (T : Txt mg) (hLawDraw : FnX P w K mg base cl "_law_draw" 1 2 zai) (hLawValue : FnX P w K mg base cl "_law_value" 2 2 gLawValue4) : FnX P w K mg base cl "_law_kind" 3 3 gLawKind4 :=
 have h := mkx P w base cl 2 F b m scLawKind fun cdv A outer s H E hr =>
  (zaf (qs_asg (qe_tup (zaa (qe_op op_shl od_shl zad (zac 2)) (zaa (qfn hLawDraw hr (zaa (zac 0) (zaa zad zae))) zae))) (qg_tup (n := 2) rfl (qgs_cons (zal (i := 3) scLawKind.nd rfl (Or.inr rfl)) (qgs_cons (zal (i := 4) scLawKind.nd rfl (Or.inl rfl)) qgs_nil))))
  (zaf (qs_if (qt_cmp op_ltA od_lt (zac 4) zad (nomark _))
  (zah (zan (qe_tup (zaa zam (zaa (qe_op op_mod od_mod (qxi hr (qe_lst (zaa zad (zaa (qfn hLawValue hr (zaa (zac 0) (zaa (zac 2) zae))) zae))) (qfn hLawDraw hr (zaa (zac 0) (zaa zad zae)))) (zac 3)) zae)))))
  qss_nil)
  (zaf (qs_if (qt_cmp (op_eqA hr.units) od_eq (zac 4) zad (nomark _))
  (zaf (qs_asg (qe_tup (zaa (qfn hLawValue hr (zaa (zac 0) (zaa (zac 2) zae))) (zaa (qe_op op_addA od_add zad (qe_op op_mulA od_mul zad (qfn hLawDraw hr (zaa (zac 0) (zaa zad zae))))) zae))) (qg_tup (n := 2) rfl (qgs_cons (zal (i := 5) scLawKind.nd rfl (Or.inr rfl)) (qgs_cons (zal (i := 6) scLawKind.nd rfl (Or.inr rfl)) qgs_nil))))
  (zah (zan (qe_tup (zaa zam (zaa (qe_callTy (call_tupA rfl) fd_tup (by rfl) T.tuple boot_tuple (zaa (qe_comp rfl rfl (N0 := ["_law_pot_here", "_law_many", "_law_breadth", "_law_top", "_law_way_here", "_law_first", "_law_odd"]) (xs := ["_law_k"]) ⟨(by with_unfolding_all rfl), rfl, rfl, rfl, (by repeat (first | exact trivial | refine ⟨rfl, ?_⟩)), rfl, .inl rfl⟩ (qi_rng1 (by rfl) T.range (zaa (qe_callB (call_min2 rfl) fd_min2 (by rfl) T.min boot_min (zaa (zac 3) (zaa (qe_op op_addA od_add zad (qfn hLawDraw hr (zaa (zac 0) (zaa zad zae)))) zae))) zae)) (fun _ _ _ _ => (zal (i := 7) (by decide +kernel : (["_law_pot_here", "_law_many", "_law_breadth", "_law_top", "_law_way_here", "_law_first", "_law_odd", "_law_k"] : List Str).Nodup) rfl (Or.inl rfl))) (fun _ _ _ _ => qif_nil) (fun _ _ _ _ => (qe_op op_mod od_mod (qe_op op_addA od_add (zac 5) (qe_op op_mulA od_mul (zac 6) (zac 7))) (zac 3)))) zae)) zae))))))
  qss_nil)
  (zaf (qs_if (qt_bool (qw_and (qt_cmp op_ltA od_lt (zac 4) zad (nomark _)) (qw_and1 (qt_cmp op_gt od_gt (zac 1) zad (nomark _)))))
  (zah (zan (qe_tup (zaa zam (zaa (qfn hLawDraw hr (zaa (zac 0) (zaa (zac 1) zae))) (zaa (qxi hr (qe_lst (zaa zad (zaa (qe_un un_neg ud_neg zad) (zaa (qe_op op_sub od_sub (qfn hLawDraw hr (zaa (zac 0) (zaa zad zae))) zad) zae)))) (qfn hLawDraw hr (zaa (zac 0) (zaa zad zae)))) zae))))))
  qss_nil)
  (zah (zan (qxi hr (qe_lst (zaa (qe_tup (zaa zam zae)) (zaa (qe_tup (zaa zam zae)) zae))) (qfn hLawDraw hr (zaa (zac 0) (zaa zad zae))))))))))
 h
theorem scLawShape : FnScope ["_law_pot_here", "_law_fields", "_law_name", "_law_breadth"] ["_law_pot_here"] (zak sLawShape) := sco
theorem ok_LawShape (F : Fun K "_law_shape" "_law_shape" sLawShape f fd) (b : Binds K fd ["_law_pot_here"] []) (m : mg "_law_shape" = some (.ref f)) (T : Txt mg) (hLawDraw : FnX P w K mg base cl "_law_draw" 1 2 zai) (hLawKind : FnX P w K mg base cl "_law_kind" 3 3 gLawKind4) (hLawNames : FnX P w K mg base cl "_law_names" 3 2 gLawNames2) (hLawSize : FnX P w K mg base cl "_law_size" 2 3 gLawSize) : FnX P w K mg base cl "_law_shape" 4 1 gLawShape5 :=
 have h := mkx P w base cl 3 F b m scLawShape fun cdv A outer s H E hr =>
  (zaf (qs_set (i := 1) scLawShape.nd rfl (Or.inl rfl) (qe_newl zae))
  (zaf (qs_for PassesOwn.never rfl (qi_seq (qfn hLawNames hr (zaa (zac 0) (zaa (qfn hLawSize hr (zaa (zac 0) (zaa zad (zaa zad zae)))) zae)))) (zal (i := 2) scLawShape.nd rfl (Or.inl rfl))
  (zaf (qs_set (i := 3) scLawShape.nd rfl (Or.inl rfl) (qxi hr (qe_lst (zaa (qe_op op_addA od_add zad (qfn hLawDraw hr (zaa (zac 0) (zaa zad zae)))) (zaa (qe_op op_addA od_add zad (qfn hLawDraw hr (zaa (zac 0) (zaa zad zae)))) (zaa zad (zaa (qe_op op_addA od_add zad (qfn hLawDraw hr (zaa (zac 0) (zaa zad zae)))) (zaa zad zae)))))) (qfn hLawDraw hr (zaa (zac 0) (zaa zad zae)))))
  (zah (qs_drop (qe_bm PySem.F.plainAttrs_list PySem.F.slot_list_append PySem.F.type_list_append mt_append ty_lst md_append (zac 1) (zaa (qe_tup (zaa (zac 2) (zaa (zac 3) (zaa (qfn hLawKind hr (zaa (zac 0) (zaa (qe_callB call_lenA fd_len (by rfl) T.len PySem.boot_len (zaa (zac 1) zae)) (zaa (zac 3) zae)))) zae)))) zae))))))
  (zah (zan (qe_tup (zaa (qe_callTy (call_tupA rfl) fd_tup (by rfl) T.tuple boot_tuple (zaa (zac 1) zae)) (zaa (qxi hr (qe_lst (zaa zad (zaa zad (zaa zad (zaa zad (zaa (qe_op op_pow od_pow zad zad) (zaa (qe_op op_addA od_add zad (qfn hLawDraw hr (zaa (zac 0) (zaa (qe_op op_pow od_pow zad zad) zae)))) zae))))))) (qfn hLawDraw hr (zaa (zac 0) (zaa zad zae)))) zae)))))))
 h
theorem scLawWay : FnScope ["_law_pot_here", "_law_breadth", "_law_way_here", "_law_width"] ["_law_pot_here", "_law_breadth"] (zak sLawWay) := sco
theorem ok_LawWay (F : Fun K "_law_way" "_law_way" sLawWay f fd) (b : Binds K fd ["_law_pot_here", "_law_breadth"] []) (m : mg "_law_way" = some (.ref f)) (T : Txt mg) (hLawDraw : FnX P w K mg base cl "_law_draw" 1 2 zai) : FnX P w K mg base cl "_law_way" 2 2 gLawWay4 :=
 have h := mkx P w base cl 1 F b m scLawWay fun cdv A outer s H E hr =>
  (zaf (qs_set (i := 2) scLawWay.nd rfl (Or.inl rfl) (qfn hLawDraw hr (zaa (zac 0) (zaa zad zae))))
  (zaf (qs_if (qt_cmp op_ltA od_lt (zac 2) zad (nomark _))
  (zah (zan (qe_tup (zaa zam zae))))
  qss_nil)
  (zaf (qs_if (qt_cmp (op_eqA hr.units) od_eq (zac 2) zad (nomark _))
  (zah (zan (qe_tup (zaa zam zae))))
  qss_nil)
  (zaf (qs_set (i := 3) scLawWay.nd rfl (Or.inl rfl) (qe_op op_addA od_add zad (qfn hLawDraw hr (zaa (zac 0) (zaa (qxi hr (qe_lst (zaa (qe_callB (call_min2 rfl) fd_min2 (by rfl) T.min boot_min (zaa (zac 1) (zaa zad zae))) (zaa (zac 1) zae))) (qfn hLawDraw hr (zaa (zac 0) (zaa zad zae)))) zae)))))
  (zah (zan (qe_tup (zaa zam (zaa (zac 3) (zaa (qfn hLawDraw hr (zaa (zac 0) (zaa (qe_op op_shl od_shl zad (zac 3)) zae))) zae))))))))))
 h
theorem scLawForm : FnScope ["_law_pot_here", "_law_fields", "_law_reach", "_law_count"] ["_law_pot_here", "_law_fields"] (zak sLawForm) := sco
theorem ok_LawForm (F : Fun K "_law_form" "_law_form" sLawForm f fd) (b : Binds K fd ["_law_pot_here", "_law_fields"] []) (m : mg "_law_form" = some (.ref f)) (T : Txt mg) (hLawDraw : FnX P w K mg base cl "_law_draw" 1 2 zai) (hLawWay : FnX P w K mg base cl "_law_way" 2 2 gLawWay4) : FnX P w K mg base cl "_law_form" 3 2 gLawForm4 :=
 have h := mkx P w base cl 2 F b m scLawForm fun cdv A outer s H E hr =>
  (zaf (qs_par (i := 2) (j := 3) rfl scLawForm.nd rfl rfl (by decide) rfl rfl (zaa (qe_op op_addA od_add zad (qfn hLawDraw hr (zaa (zac 0) (zaa zad zae)))) (zaa (qe_op op_addA od_add zad (qfn hLawDraw hr (zaa (zac 0) (zaa zad zae)))) zae)) rfl)
  (zaf (qs_if (qt_cmp (op_eqA hr.units) od_eq (qfn hLawDraw hr (zaa (zac 0) (zaa zad zae))) zad (nomark _))
  (zah (qs_par (i := 2) (j := 3) rfl scLawForm.nd rfl rfl (by decide) rfl rfl (zaa (qe_op op_addA od_add zad (qfn hLawDraw hr (zaa (zac 0) (zaa zad zae)))) (zaa (qe_op op_addA od_add zad (qfn hLawDraw hr (zaa (zac 0) (zaa zad zae)))) zae)) rfl))
  qss_nil)
  (zah (zan (qe_tup (zaa (zac 2) (zaa (zac 3) (zaa (qe_callTy (call_tupA rfl) fd_tup (by rfl) T.tuple boot_tuple (zaa (qe_comp rfl rfl (N0 := ["_law_pot_here", "_law_fields", "_law_reach", "_law_count"]) (xs := ["_law_field"]) ⟨(by with_unfolding_all rfl), rfl, rfl, rfl, (by repeat (first | exact trivial | refine ⟨rfl, ?_⟩)), rfl, .inl rfl⟩ (qi_seq (zac 1)) (fun _ _ _ _ => (zal (i := 4) (by decide +kernel : (["_law_pot_here", "_law_fields", "_law_reach", "_law_count", "_law_field"] : List Str).Nodup) rfl (Or.inl rfl))) (fun _ _ _ _ => qif_nil) (fun _ _ _ _ => (qfn hLawWay hr (zaa (zac 0) (zaa (qxi hr (zac 4) zad) zae))))) zae)) zae))))))))
 h
theorem scLawRoad : FnScope ["_law_pot_here", "_law_skips", "_law_gap", "_law_late"] ["_law_pot_here"] (zak sLawRoad) := sco
theorem ok_LawRoad (F : Fun K "_law_road" "_law_road" sLawRoad f fd) (b : Binds K fd ["_law_pot_here"] []) (m : mg "_law_road" = some (.ref f)) (T : Txt mg) (hLawDraw : FnX P w K mg base cl "_law_draw" 1 2 zai) : FnX P w K mg base cl "_law_road" 2 1 gLawRoad2 :=
 have h := mkx P w base cl 1 F b m scLawRoad fun cdv A outer s H E hr =>
  (zaf (qs_set (i := 1) scLawRoad.nd rfl (Or.inl rfl) (qxi hr (qe_lst (zaa zad (zaa zad (zaa (qfn hLawDraw hr (zaa (zac 0) (zaa zad zae))) (zaa (qfn hLawDraw hr (zaa (zac 0) (zaa zad zae))) zae))))) (qfn hLawDraw hr (zaa (zac 0) (zaa zad zae)))))
  (zaf (qs_set (i := 2) scLawRoad.nd rfl (Or.inl rfl) (qe_callB (call_min2 rfl) fd_min2 (by rfl) T.min boot_min (zaa zad (zaa (qe_op op_addA od_add (zac 1) (qxi hr (qe_lst (zaa (qfn hLawDraw hr (zaa (zac 0) (zaa zad zae))) (zaa zad (zaa (qfn hLawDraw hr (zaa (zac 0) (zaa zad zae))) zae)))) (qfn hLawDraw hr (zaa (zac 0) (zaa zad zae))))) zae))))
  (zaf (qs_set (i := 3) scLawRoad.nd rfl (Or.inl rfl) (qxi hr (qe_lst (zaa zad (zaa zad (zaa (qfn hLawDraw hr (zaa (zac 0) (zaa zad zae))) (zaa (qfn hLawDraw hr (zaa (zac 0) (zaa zad zae))) zae))))) (qfn hLawDraw hr (zaa (zac 0) (zaa zad zae)))))
  (zah (zan (qe_tup (zaa (zac 1) (zaa (zac 2) (zaa (zac 3) (zaa (qxi hr (qe_lst (zaa zad (zaa zad (zaa zad (zaa (qe_op op_addA od_add zad (qfn hLawDraw hr (zaa (zac 0) (zaa zad zae)))) (zaa (qfn hLawDraw hr (zaa (zac 0) (zaa zad zae))) zae)))))) (qfn hLawDraw hr (zaa (zac 0) (zaa zad zae)))) zae))))))))))
 h
theorem scLawPact : FnScope ["_law_pot_here", "_law_shape_here", "_law_many", "_law_forms", "_law_wide"] ["_law_pot_here"] (zak sLawPact) := sco
theorem ok_LawPact (F : Fun K "_law_pact" "_law_pact" sLawPact f fd) (b : Binds K fd ["_law_pot_here"] []) (m : mg "_law_pact" = some (.ref f)) (T : Txt mg) (hLawDraw : FnX P w K mg base cl "_law_draw" 1 2 zai) (hLawForm : FnX P w K mg base cl "_law_form" 3 2 gLawForm4) (hLawRoad : FnX P w K mg base cl "_law_road" 2 1 gLawRoad2) (hLawShape : FnX P w K mg base cl "_law_shape" 4 1 gLawShape5) : FnX P w K mg base cl "_law_pact" 5 1 gLawPact2 :=
 have h := mkx P w base cl 4 F b m scLawPact fun cdv A outer s H E hr =>
  (zaf (qs_set (i := 1) scLawPact.nd rfl (Or.inr rfl) (qfn hLawShape hr (zaa (zac 0) zae)))
  (zaf (qs_set (i := 2) scLawPact.nd rfl (Or.inl rfl) (qxi hr (qe_lst (zaa zad (zaa zad (zaa zad (zaa zad (zaa zad (zaa zad zae))))))) (qfn hLawDraw hr (zaa (zac 0) (zaa zad zae)))))
  (zaf (qs_set (i := 3) scLawPact.nd rfl (Or.inl rfl) (qe_callTy (call_tupA rfl) fd_tup (by rfl) T.tuple boot_tuple (zaa (qe_comp rfl rfl (N0 := ["_law_pot_here", "_law_shape_here", "_law_many", "_law_forms", "_law_wide"]) (xs := ["_law_k"]) ⟨(by with_unfolding_all rfl), rfl, rfl, rfl, (by repeat (first | exact trivial | refine ⟨rfl, ?_⟩)), rfl, .inl rfl⟩ (qi_rng1 (by rfl) T.range (zaa (zac 2) zae)) (fun _ _ _ _ => (zal (i := 5) (by decide +kernel : (["_law_pot_here", "_law_shape_here", "_law_many", "_law_forms", "_law_wide", "_law_k"] : List Str).Nodup) rfl (Or.inl rfl))) (fun _ _ _ _ => qif_nil) (fun _ _ _ _ => (qfn hLawForm hr (zaa (zac 0) (zaa (qxi hr (zac 1) zad) zae))))) zae)))
  (zaf (qs_set (i := 4) scLawPact.nd rfl (Or.inl rfl) (qxi hr (qe_lst (zaa (qe_op op_addA od_add zad (qfn hLawDraw hr (zaa (zac 0) (zaa zad zae)))) (zaa (qe_op op_addA od_add zad (qfn hLawDraw hr (zaa (zac 0) (zaa zad zae)))) zae))) (qe_callTy call_intA fd_int (by rfl) T.int boot_int (zaa (qe_cmp (op_eqA hr.units) od_eq (qfn hLawDraw hr (zaa (zac 0) (zaa zad zae))) zad (nomark _)) zae))))
  (zah (zan (qe_tup (zaa (zac 1) (zaa (zac 4) (zaa (zac 3) (zaa (qfn hLawRoad hr (zaa (zac 0) zae)) zae)))))))))))
 h
theorem scLawWayWord : FnScope ["_law_way_here"] ["_law_way_here"] (zak sLawWayWord) := sco
theorem ok_LawWayWord (F : Fun K "_law_way_word" "_law_way_word" sLawWayWord f fd) (b : Binds K fd ["_law_way_here"] []) (m : mg "_law_way_word" = some (.ref f)) (T : Txt mg) : FnX P w K mg base cl "_law_way_word" 1 1 gLawWayWord :=
 have h := mkx P w base cl 0 F b m scLawWayWord fun cdv A outer s H E hr =>
  (zaf (qs_if (qt_cmp (op_eqA hr.units) od_eq (qxi hr (zac 0) zad) zam (nomark _))
  (zah (zan (qe_op op_addA od_add (qe_op op_addA od_add (qe_callTy call_str_int fd_str (by rfl) T.str boot_str (zaa (qxi hr (zac 0) zad) zae)) zam) (qe_callTy call_str_int fd_str (by rfl) T.str boot_str (zaa (qxi hr (zac 0) zad) zae)))))
  qss_nil)
  (zah (zan (qxi hr (qe_dict (QPs.cons zam (QPs.cons zam QPs.nil)) (by simp) (by decide)) (qxi hr (zac 0) zad)))))
 h
theorem scLawRows : FnScope ["_law_pact_here", "_law_fields", "_law_m", "_law_wide", "_law_forms", "_law_road_here", "_law_rows_here", "_law_name", "_law_breadth", "_law_kind_here", "_law_words", "_law_reach", "_law_count", "_law_ways"] ["_law_pact_here"] (zak sLawRows) := sco
theorem ok_LawRows (F : Fun K "_law_rows" "_law_rows" sLawRows f fd) (b : Binds K fd ["_law_pact_here"] []) (m : mg "_law_rows" = some (.ref f)) (T : Txt mg) (hLawWayWord : FnX P w K mg base cl "_law_way_word" 1 1 gLawWayWord) : FnX P w K mg base cl "_law_rows" 2 1 gLawRows :=
 have h := mkx P w base cl 1 F b m scLawRows fun cdv A outer s H E hr =>
  (zaf (qs_asg (zac 0) (qg_tup (n := 4) rfl (qgs_cons (qg_tup (n := 2) rfl (qgs_cons (zal (i := 1) scLawRows.nd rfl (Or.inl rfl)) (qgs_cons (zal (i := 2) scLawRows.nd rfl (Or.inl rfl)) qgs_nil))) (qgs_cons (zal (i := 3) scLawRows.nd rfl (Or.inl rfl)) (qgs_cons (zal (i := 4) scLawRows.nd rfl (Or.inl rfl)) (qgs_cons (zal (i := 5) scLawRows.nd rfl (Or.inl rfl)) qgs_nil))))))
  (zaf (qs_set (i := 6) scLawRows.nd rfl (Or.inl rfl) (qe_newl zae))
  (zaf (qs_for PassesOwn.never rfl (qi_seq (zac 1)) (qg_tup (n := 3) rfl (qgs_cons (zal (i := 7) scLawRows.nd rfl (Or.inl rfl)) (qgs_cons (zal (i := 8) scLawRows.nd rfl (Or.inl rfl)) (qgs_cons (zal (i := 9) scLawRows.nd rfl (Or.inl rfl)) qgs_nil))))
  (zaf (qs_set (i := 10) scLawRows.nd rfl (Or.inl rfl) (qe_newl (zaa zam (zaa (zac 7) (zaa (qe_callTy call_str_int fd_str (by rfl) T.str boot_str (zaa (zac 8) zae)) (zaa (qxi hr (zac 9) zad) zae))))))
  (zaf (qs_if (qt_cmp (op_eqA hr.units) od_eq (qxi hr (zac 9) zad) zam (nomark _))
  (zah (qs_drop (qe_bm PySem.F.plainAttrs_list PySem.F.slot_list_append PySem.F.type_list_append mt_append ty_lst md_append (zac 10) (zaa (qe_callTy call_str_int fd_str (by rfl) T.str boot_str (zaa (qxi hr (zac 9) zad) zae)) zae))))
  qss_nil)
  (zaf (qs_if (qt_cmp (op_eqA hr.units) od_eq (qxi hr (zac 9) zad) zam (nomark _))
  (zah (qs_set (i := 10) scLawRows.nd rfl (Or.inl rfl) (qe_op op_addA od_addN (zac 10) (qe_comp rfl rfl (N0 := ["_law_pact_here", "_law_fields", "_law_m", "_law_wide", "_law_forms", "_law_road_here", "_law_rows_here", "_law_name", "_law_breadth", "_law_kind_here", "_law_words", "_law_reach", "_law_count", "_law_ways"]) (xs := ["_law_value_here"]) ⟨(by with_unfolding_all rfl), rfl, rfl, rfl, (by repeat (first | exact trivial | refine ⟨rfl, ?_⟩)), rfl, .inl rfl⟩ (qi_seq (qxi hr (zac 9) zad)) (fun _ _ _ _ => (zal (i := 14) (by decide +kernel : (["_law_pact_here", "_law_fields", "_law_m", "_law_wide", "_law_forms", "_law_road_here", "_law_rows_here", "_law_name", "_law_breadth", "_law_kind_here", "_law_words", "_law_reach", "_law_count", "_law_ways", "_law_value_here"] : List Str).Nodup) rfl (Or.inl rfl))) (fun _ _ _ _ => qif_nil) (fun _ _ _ _ => (qe_callTy call_str_int fd_str (by rfl) T.str boot_str (zaa (zac 14) zae)))))))
  qss_nil)
  (zaf (qs_if (qt_cmp (op_eqA hr.units) od_eq (qxi hr (zac 9) zad) zam (nomark _))
  (zah (qs_set (i := 10) scLawRows.nd rfl (Or.inl rfl) (qe_op op_addA od_addN (zac 10) (qe_lst (zaa (qxi hr (qxi hr (zac 1) (qxi hr (zac 9) zad)) zad) (zaa (qe_callTy call_str_int fd_str (by rfl) T.str boot_str (zaa (qxi hr (zac 9) zad) zae)) zae))))))
  qss_nil)
  (zah (qs_drop (qe_bm PySem.F.plainAttrs_list PySem.F.slot_list_append PySem.F.type_list_append mt_append ty_lst md_append (zac 6) (zaa (qe_bm PySem.F.plainAttrs_str PySem.F.slot_str_join PySem.F.type_str_join mt_join ty_str md_join zam (zaa (zac 10) zae)) zae)))))))))
  (zaf (qs_set (i := 6) scLawRows.nd rfl (Or.inl rfl) (qe_op op_addA od_addN (zac 6) (qe_lst (zaa (qe_op op_addA od_add zam (qe_callTy call_str_int fd_str (by rfl) T.str boot_str (zaa (zac 2) zae))) (zaa (qe_op op_addA od_add zam (qe_callTy call_str_int fd_str (by rfl) T.str boot_str (zaa (zac 3) zae))) (zaa (qe_op op_addA od_add zam (qe_bm PySem.F.plainAttrs_str PySem.F.slot_str_join PySem.F.type_str_join mt_join ty_str md_join zam (zaa (qe_comp rfl rfl (N0 := ["_law_pact_here", "_law_fields", "_law_m", "_law_wide", "_law_forms", "_law_road_here", "_law_rows_here", "_law_name", "_law_breadth", "_law_kind_here", "_law_words", "_law_reach", "_law_count", "_law_ways"]) (xs := ["_law_number"]) ⟨(by with_unfolding_all rfl), rfl, rfl, rfl, (by repeat (first | exact trivial | refine ⟨rfl, ?_⟩)), rfl, .inl rfl⟩ (qi_seq (zac 5)) (fun _ _ _ _ => (zal (i := 14) (by decide +kernel : (["_law_pact_here", "_law_fields", "_law_m", "_law_wide", "_law_forms", "_law_road_here", "_law_rows_here", "_law_name", "_law_breadth", "_law_kind_here", "_law_words", "_law_reach", "_law_count", "_law_ways", "_law_number"] : List Str).Nodup) rfl (Or.inl rfl))) (fun _ _ _ _ => qif_nil) (fun _ _ _ _ => (qe_callTy call_str_int fd_str (by rfl) T.str boot_str (zaa (zac 14) zae)))) zae))) zae))))))
  (zaf (qs_for PassesOwn.never rfl (qi_seq (zac 4)) (qg_tup (n := 3) rfl (qgs_cons (zal (i := 11) scLawRows.nd rfl (Or.inl rfl)) (qgs_cons (zal (i := 12) scLawRows.nd rfl (Or.inl rfl)) (qgs_cons (zal (i := 13) scLawRows.nd rfl (Or.inl rfl)) qgs_nil))))
  (zah (qs_drop (qe_bm PySem.F.plainAttrs_list PySem.F.slot_list_append PySem.F.type_list_append mt_append ty_lst md_append (zac 6) (zaa (qe_bm PySem.F.plainAttrs_str PySem.F.slot_str_join PySem.F.type_str_join mt_join ty_str md_join zam (zaa (qe_op op_addA od_add (qe_lst (zaa zam (zaa (qe_callTy call_str_int fd_str (by rfl) T.str boot_str (zaa (zac 11) zae)) (zaa (qe_callTy call_str_int fd_str (by rfl) T.str boot_str (zaa (zac 12) zae)) zae)))) (qe_comp rfl rfl (N0 := ["_law_pact_here", "_law_fields", "_law_m", "_law_wide", "_law_forms", "_law_road_here", "_law_rows_here", "_law_name", "_law_breadth", "_law_kind_here", "_law_words", "_law_reach", "_law_count", "_law_ways"]) (xs := ["_law_way_here"]) ⟨(by with_unfolding_all rfl), rfl, rfl, rfl, (by repeat (first | exact trivial | refine ⟨rfl, ?_⟩)), rfl, .inl rfl⟩ (qi_seq (zac 13)) (fun _ _ _ _ => (zal (i := 14) (by decide +kernel : (["_law_pact_here", "_law_fields", "_law_m", "_law_wide", "_law_forms", "_law_road_here", "_law_rows_here", "_law_name", "_law_breadth", "_law_kind_here", "_law_words", "_law_reach", "_law_count", "_law_ways", "_law_way_here"] : List Str).Nodup) rfl (Or.inl rfl))) (fun _ _ _ _ => qif_nil) (fun _ _ _ _ => (qfn hLawWayWord hr (zaa (zac 14) zae))))) zae)) zae)))))
  (zah (zan (zac 6))))))))
 h
theorem scLawSame : FnScope ["_law_found", "_law_due"] ["_law_found", "_law_due"] (zak sLawSame) := sco
theorem okN_LawSame (F : Fun K "_law_same" "_law_same" sLawSame f fd) (b : Binds K fd ["_law_found", "_law_due"] []) (m : mg "_law_same" = some (.ref f)) (T : Txt mg) : ∀ n, FnX P w K mg base cl "_law_same" (0 + n) 2 (gLawSame3N n)
 | 0 => FnX.none F b m
 | n + 1 => by
  have hLawSame := okN_LawSame F b m T  n
  have h := mkx P w base cl (0 + n) F b m scLawSame fun cdv A outer s H E hr =>
   (zaf (qs_if (qt_val (qe_isi2 (n := "tuple") (n' := "list") (by decide) (by decide) (by rfl) T.isi (by rfl) T.tuple boot_tuple (by rfl) T.list boot_list (zac 1)))
   (zaf (qs_if (qt_bool (qw_or (qt_cmp (op_neA hr.units) od_ne (qe_isi (n := "tuple") (by decide) (by rfl) T.isi (by rfl) T.tuple boot_tuple (zac 0)) (qe_isi (n := "tuple") (by decide) (by rfl) T.isi (by rfl) T.tuple boot_tuple (zac 1)) (nomark _)) (qw_or1 (qt_cmp (op_neA hr.units) od_ne (qe_isi (n := "list") (by decide) (by rfl) T.isi (by rfl) T.list boot_list (zac 0)) (qe_isi (n := "list") (by decide) (by rfl) T.isi (by rfl) T.list boot_list (zac 1)) (nomark _)))))
   (zah (zan qe_bl))
   qss_nil)
   (zah (zan (qe_and (qe_cmp (op_eqA hr.units) od_eq (qe_callB call_lenA fd_len (by rfl) T.len PySem.boot_len (zaa (zac 0) zae)) (qe_callB call_lenA fd_len (by rfl) T.len PySem.boot_len (zaa (zac 1) zae)) (nomark _)) (qe_one (qe_callB (call_allB rfl) fd_all (by rfl) T.all boot_all (zaa (qe_comp rfl rfl (N0 := ["_law_found", "_law_due"]) (xs := ["_law_one", "_law_other"]) ⟨(by with_unfolding_all rfl), rfl, rfl, rfl, (by repeat (first | exact trivial | refine ⟨rfl, ?_⟩)), rfl, .inl rfl⟩ (qi_zip (by rfl) T.zip (zac 0) (zac 1)) (fun _ _ _ _ => (qg_tup (n := 2) rfl (qgs_cons (zal (i := 2) (by decide +kernel : (["_law_found", "_law_due", "_law_one", "_law_other"] : List Str).Nodup) rfl (Or.inl rfl)) (qgs_cons (zal (i := 3) (by decide +kernel : (["_law_found", "_law_due", "_law_one", "_law_other"] : List Str).Nodup) rfl (Or.inl rfl)) qgs_nil)))) (fun _ _ _ _ => qif_nil) (fun _ _ _ _ => (qe_fn hLawSame rfl (hr.mono (Nat.le_refl _)) rfl (zaa (zac 2) (zaa (zac 3) zae)) (aCons_len (aCons_len aNil_len))))) zae)))))))
   qss_nil)
   (zaf (qs_if (qt_cmp op_isA od_is (zac 1) qe_non (nomark _))
   (zah (zan (qe_cmp op_isA od_is (zac 0) qe_non (nomark _))))
   qss_nil)
   (zaf (qs_if (qt_val (qe_isi (n := "bool") (by decide) (by rfl) T.isi (by rfl) T.bool boot_bool (zac 1)))
   (zah (zan (qe_and (qe_isi (n := "bool") (by decide) (by rfl) T.isi (by rfl) T.bool boot_bool (zac 0)) (qe_one (qe_cmp (op_eqA hr.units) od_eq (zac 0) (zac 1) (nomark _))))))
   qss_nil)
   (zah (zan (qe_and (qe_cmp (op_eqA hr.units) od_eq (qe_isi (n := "str") (by decide) (by rfl) T.isi (by rfl) T.str boot_str (zac 0)) (qe_isi (n := "str") (by decide) (by rfl) T.isi (by rfl) T.str boot_str (zac 1)) (nomark _)) (qe_and (qe_not (qe_isi (n := "bool") (by decide) (by rfl) T.isi (by rfl) T.bool boot_bool (zac 0))) (qe_one (qe_cmp (op_eqA hr.units) od_eq (zac 0) (zac 1) (nomark _))))))))))
  exact h
theorem ok_LawSame (F : Fun K "_law_same" "_law_same" sLawSame f fd) (b : Binds K fd ["_law_found", "_law_due"] []) (m : mg "_law_same" = some (.ref f)) (T : Txt mg) : FnX P w K mg base cl "_law_same" 12 2 gLawSame3 := okN_LawSame P w base F b m T  12
theorem scLaw : FnScope ["_law_script", "_law_pot_here", "_law_turn", "_law_pact_here", "_law_text"] ["_law_script"] (zak sLaw) := sco
theorem ok_Law (F : Fun K "law" "law" sLaw f fd) (b : Binds K fd ["_law_script"] []) (m : mg "law" = some (.ref f)) (T : Txt mg) (hLawDraw : FnX P w K mg base cl "_law_draw" 1 2 zai) (hLawPact : FnX P w K mg base cl "_law_pact" 5 1 gLawPact2) (hLawPot : FnX P w K mg base cl "_law_pot" 1 1 gLawPot3) (hLawRows : FnX P w K mg base cl "_law_rows" 2 1 gLawRows) (hLawSame : FnX P w K mg base cl "_law_same" 12 2 gLawSame3) (hReadPact : FnX P w K mg base cl "read_pact" 10 1 gReadPact) (hShowPact : FnX P w K mg base cl "show_pact" 3 1 gShowPact) : FnOk P w K mg base CX0 13 f fd ["_law_script"] (spD K cl X0 1 gLaw26) :=
 have h := fnO (P := P) (w := w) (mg := mg) (base := base) (cl := cl) (k := 12) F scLaw rfl fun cdv A outer s H E hr =>
  (zaf (qs_set (i := 1) scLaw.nd rfl (Or.inl rfl) (qfn hLawPot hr (zaa (zac 0) zae)))
  (zaf (qs_for PassesOwn.never rfl (qi_rng1 (by rfl) T.range (zaa zad zae)) (zal (i := 2) scLaw.nd rfl (Or.inl rfl))
  (zaf (qs_set (i := 3) scLaw.nd rfl (Or.inl rfl) (qfn hLawPact hr (zaa (zac 1) zae)))
  (zaf (qs_if (qt_cmp (op_eqA hr.units) od_eq (zac 2) zad (nomark _))
  (zah (qs_set (i := 3) scLaw.nd rfl (Or.inl rfl) (qe_op op_addA od_add (qe_sl (zac 3) qo_none (qo_some zad)) (qe_tup (zaa (qxi hr (qe_lst (zaa (qe_tup (zaa zad (zaa zad (zaa zad (zaa zad zae))))) (zaa (qe_tup (zaa zad (zaa zad (zaa zad (zaa zad zae))))) (zaa (qe_tup (zaa zad (zaa zad (zaa zad (zaa zad zae))))) zae)))) (qfn hLawDraw hr (zaa (zac 1) (zaa zad zae)))) zae)))))
  qss_nil)
  (zaf (qs_set (i := 4) scLaw.nd rfl (Or.inl rfl) (qe_bm PySem.F.plainAttrs_str PySem.F.slot_str_join PySem.F.type_str_join mt_join ty_str md_join zam (zaa (qfn hLawRows hr (zaa (zac 3) zae)) zae)))
  (zaf (qs_if (qt_bool (qw_or (qt_not (qt_val (qfn hLawSame hr (zaa (qfn hShowPact hr (zaa (zac 3) zae)) (zaa (zac 4) zae))))) (qw_or1 (qt_not (qt_val (qfn hLawSame hr (zaa (qfn hReadPact hr (zaa (zac 4) zae)) (zaa (zac 3) zae))))))))
  (zah (zan qe_bl))
  qss_nil)
  (zah (qs_if (qt_bool (qw_or (qt_cmp (op_neA hr.units) od_ne (qfn hShowPact hr (zaa (qfn hReadPact hr (zaa (zac 4) zae)) zae)) (zac 4) (nomark _)) (qw_or1 (qt_cmp (op_neA hr.units) od_ne (qfn hReadPact hr (zaa (qfn hShowPact hr (zaa (zac 3) zae)) zae)) (zac 3) (nomark _)))))
  (zah (zan qe_bl))
  qss_nil)))))))
  (zah (zan qe_bl))))
 h
end
end K51
set_option autoImplicit false
namespace K51
open PySem L2 MD
theorem law_worth {ns : List Int} (h : ns.length <= 63) : ∃ a m, gLaw26 [.scr (ns.map D.int)] [] = .ok a m /\ a = .bl true := law_worth51 h
end K51
set_option autoImplicit false
namespace K51
open PySem PyProof.Rows L2 MD PySem.W.Fast
theorem trH {α β : Type} {f f' g g' : α -> β} (a : f = f') (c : g = g') {w : α} (b : f' w = g' w) : f w = g w := by rw [a, c]; exact b
theorem hl : PySem.W.LeftO pw vw [] xt (fun s => obs (Kof 348 s.heap)) (fun _ => expd) 3958 := fun w => both (trH te10548898440397090894 te12604040712110488551 (hlq0 w)) (both3 (fun _ => rfl) (fun _ => rfl) (trH te12753117048664835329 te9910141708771433715 (hlq1 w)) (joinH (trH te17599340007872332440 te4248692431017281479 (hlq3 w)) (trH te3480110575640006257 te4750429029930063248 (hlq4 w))))
def c0 : Str -> Addr := fun _ => 0
theorem all_mk {l : PySem.W.OpenLaw} {w : World} {K : PySem.W.Frag} {h : Heap} {mg : Str -> Option Value} {fa : Addr} (y : obs K = expd) (X : K.In h) (G : h.Ns mainGlobals mg) (hfa : mg "law" = some (.ref fa)) :
  ∃ fd : FuncData, (∀ (s : Shared) (v : Value), BindsTo s fd ⟨[v], []⟩ [("_law_script", v)]) /\ ∀ base : Heap, K.In base -> base.Ns mainGlobals mg -> FnOk l.prog w K mg base CX0 13 fa fd ["_law_script"] (spLaw K) := by
 have y1 : nms.map (PySem.W.nsIn K mainGlobals) = nmsE := congrArg (fun x => x.1) y
 have y2 : fnd.map (fun p => PySem.W.findIn K (.ref p.1) p.2) = fndE := congrArg (fun x => x.2.1) y
 have y3 : fns.map (fnV K) = fnsE := congrArg (fun x => x.2.2.1) y
 have y4 : bls K = blsE := congrArg (fun x => x.2.2.2) y
 have n : ∀ (i : Nat) {x : Str} {v : Value}, nms[i]? = some x -> nmsE[i]? = some (some (some v)) -> mg x = some v := fun i _ _ a b => PySem.W.mg_of X G (pick y1 i a b)
 have o : ∀ (i : Nat) {x : Str}, nms[i]? = some x -> nmsE[i]? = some (some none) -> mg x = none := fun i _ a b => PySem.W.mg_none_of X G (pick y1 i a b)
 have u : ∀ (st : Stmt) (i : Nat) {a : Addr} {x q : Str}, fns[i]? = some a -> fnsE[i]? = some (fnE x q st) -> ∃ fd, Fun K x q st a fd := fun st i _ _ _ a b => fun_of (st := st) (pick y3 i a b)
 have e := hfa.symm.trans (n 48 rfl rfl)
 cases e
 have T : Txt mg := ⟨o 49 rfl rfl, o 50 rfl rfl, o 51 rfl rfl, o 52 rfl rfl, o 53 rfl rfl, o 54 rfl rfl, o 55 rfl rfl, o 56 rfl rfl, o 57 rfl rfl, o 58 rfl rfl, o 59 rfl rfl, o 60 rfl rfl, o 61 rfl rfl, o 62 rfl rfl, o 63 rfl rfl⟩
 have ⟨_, F48⟩ := u sLaw 48 rfl rfl
 have Fx := F48
 obtain ⟨oc, od, kV, doc, pm, an, cdv, ct, osl, rfl, lk, hcd⟩ := Fx.ex
 refine ⟨PySem.W.fnOf "law" "law" (defArgs sLaw) (defBody sLaw) (zak sLaw) .none kV doc pm an cdv ct, fun s v => .of_eq rfl, fun base _ _ => ?_⟩
 have ⟨_, F34⟩ := u sLawDraw 34 rfl rfl
 have g34 := ok_LawDraw l.prog w base (cl := c0) F34 F34.bindA (n 34 rfl rfl) T
 have ⟨_, F41⟩ := u sLawWay 41 rfl rfl
 have g41 := ok_LawWay l.prog w base (cl := c0) F41 F41.bindA (n 41 rfl rfl) T g34
 have ⟨_, F42⟩ := u sLawForm 42 rfl rfl
 have g42 := ok_LawForm l.prog w base (cl := c0) F42 F42.bindA (n 42 rfl rfl) T g34 g41
 have ⟨_, F43⟩ := u sLawRoad 43 rfl rfl
 have g43 := ok_LawRoad l.prog w base (cl := c0) F43 F43.bindA (n 43 rfl rfl) T g34
 have ⟨_, F38⟩ := u sLawValue 38 rfl rfl
 have g38 := ok_LawValue l.prog w base (cl := c0) F38 F38.bindA (n 38 rfl rfl) T g34
 have ⟨_, F39⟩ := u sLawKind 39 rfl rfl
 have g39 := ok_LawKind l.prog w base (cl := c0) F39 F39.bindA (n 39 rfl rfl) T g34 g38
 have ⟨_, F35⟩ := u sLawOf 35 rfl rfl
 have g35 := ok_LawOf l.prog w base (cl := c0) F35 F35.bindA (n 35 rfl rfl) T g34
 have ⟨_, F37⟩ := u sLawNames 37 rfl rfl
 have g37 := ok_LawNames l.prog w base (cl := c0) F37 F37.bindA (n 37 rfl rfl) T g34 g35
 have ⟨_, F36⟩ := u sLawSize 36 rfl rfl
 have g36 := ok_LawSize l.prog w base (cl := c0) F36 F36.bindA (n 36 rfl rfl) T g34
 have ⟨_, F40⟩ := u sLawShape 40 rfl rfl
 have g40 := ok_LawShape l.prog w base (cl := c0) F40 F40.bindA (n 40 rfl rfl) T g34 g39 g37 g36
 have ⟨_, F44⟩ := u sLawPact 44 rfl rfl
 have g44 := ok_LawPact l.prog w base (cl := c0) F44 F44.bindA (n 44 rfl rfl) T g34 g42 g43 g40
 have ⟨_, F33⟩ := u sLawPot 33 rfl rfl
 have g33 := ok_LawPot l.prog w base (cl := c0) F33 F33.bindA (n 33 rfl rfl) T
 have ⟨_, F45⟩ := u sLawWayWord 45 rfl rfl
 have g45 := ok_LawWayWord l.prog w base (cl := c0) F45 F45.bindA (n 45 rfl rfl) T
 have ⟨_, F46⟩ := u sLawRows 46 rfl rfl
 have g46 := ok_LawRows l.prog w base (cl := c0) F46 F46.bindA (n 46 rfl rfl) T g45
 have ⟨_, F47⟩ := u sLawSame 47 rfl rfl
 have g47 := ok_LawSame l.prog w base (cl := c0) F47 F47.bindA (n 47 rfl rfl) T
 have ⟨_, F11⟩ := u sBreadths 11 rfl rfl
 have g11 := ok_Breadths l.prog w base (cl := c0) F11 F11.bindA (n 11 rfl rfl) T
 have ⟨_, F3⟩ := u sIsRow 3 rfl rfl
 have g3 := ok_IsRow l.prog w base (cl := c0) F3 F3.bindA (n 3 rfl rfl) T
 have ⟨_, F0⟩ := u sIsWhole 0 rfl rfl
 have g0 := ok_IsWhole l.prog w base (cl := c0) F0 F0.bindA (n 0 rfl rfl) T
 have ⟨_, F1⟩ := u sIsBetween 1 rfl rfl
 have g1 := ok_IsBetween l.prog w base (cl := c0) F1 F1.bindA (n 1 rfl rfl) T g0
 have ⟨_, F2⟩ := u sIsValue 2 rfl rfl
 have g2 := ok_IsValue l.prog w base (cl := c0) F2 F2.bindA (n 2 rfl rfl) T g1
 have ⟨_, F4⟩ := u sIsWorded 4 rfl rfl
 have g4 := ok_IsWorded l.prog w base (cl := c0) F4 F4.bindA (n 4 rfl rfl) T g3
 have ⟨_, F14⟩ := u sIsWay 14 rfl rfl
 have g14 := ok_IsWay l.prog w base (cl := c0) F14 F14.bindA (n 14 rfl rfl) T g1 g2 g4
 have ⟨_, F13⟩ := u sAreWays 13 rfl rfl
 have g13 := ok_AreWays l.prog w base (cl := c0) F13 F13.bindA (n 13 rfl rfl) T g11 g3 g14
 have ⟨_, F12⟩ := u sIsForm 12 rfl rfl
 have g12 := ok_IsForm l.prog w base (cl := c0) F12 F12.bindA (n 12 rfl rfl) T g13 g1 g3
 have ⟨_, F16⟩ := u sAreForms 16 rfl rfl
 have g16 := ok_AreForms l.prog w base (cl := c0) F16 F16.bindA (n 16 rfl rfl) T g12 g3
 have ⟨_, F31⟩ := u sNumberRead 31 rfl rfl
 have g31 := ok_NumberRead l.prog w base (cl := c0) F31 F31.bindA (n 31 rfl rfl) T
 have ⟨_, F30⟩ := u sWayRead 30 rfl rfl
 have g30 := ok_WayRead l.prog w base (cl := c0) F30 F30.bindA (n 30 rfl rfl) T g31
 have ⟨_, F29⟩ := u sFormRead 29 rfl rfl
 have g29 := ok_FormRead l.prog w base (cl := c0) F29 F29.bindA (n 29 rfl rfl) T g31 g30
 have ⟨_, F25⟩ := u sFormsRead 25 rfl rfl
 have g25 := ok_FormsRead l.prog w base (cl := c0) F25 F25.bindA (n 25 rfl rfl) T g16 g29
 have ⟨_, F17⟩ := u sIsRoad 17 rfl rfl
 have g17 := ok_IsRoad l.prog w base (cl := c0) F17 F17.bindA (n 17 rfl rfl) T g1 g3
 have ⟨_, F15⟩ := u sIsWide 15 rfl rfl
 have g15 := ok_IsWide l.prog w base (cl := c0) F15 F15.bindA (n 15 rfl rfl) T g1
 have ⟨_, F26⟩ := u sNumbersRead 26 rfl rfl
 have g26 := ok_NumbersRead l.prog w base (cl := c0) F26 F26.bindA (n 26 rfl rfl) T g31
 have ⟨_, F10⟩ := u sIsTurn 10 rfl rfl
 have g10 := ok_IsTurn l.prog w base (cl := c0) F10 F10.bindA (n 10 rfl rfl) T g3 g2
 have ⟨_, F9⟩ := u sIsKind 9 rfl rfl
 have g9 := ok_IsKind l.prog w base (cl := c0) F9 F9.bindA (n 9 rfl rfl) T g1 g10 g2 g4
 have ⟨_, F8⟩ := u sIsName 8 rfl rfl
 have g8 := ok_IsName l.prog w base (cl := c0) F8 F8.bindA (n 8 rfl rfl) T
 have ⟨_, F7⟩ := u sIsField 7 rfl rfl
 have g7 := ok_IsField l.prog w base (cl := c0) F7 F7.bindA (n 7 rfl rfl) T g1 g9 g8 g3
 have ⟨_, F6⟩ := u sAreFields 6 rfl rfl
 have g6 := ok_AreFields l.prog w base (cl := c0) F6 F6.bindA (n 6 rfl rfl) T g7 g3
 have ⟨_, F32⟩ := u sSignedRead 32 rfl rfl
 have g32 := ok_SignedRead l.prog w base (cl := c0) F32 F32.bindA (n 32 rfl rfl) T g31
 have ⟨_, F28⟩ := u sKindRead 28 rfl rfl
 have g28 := ok_KindRead l.prog w base (cl := c0) F28 F28.bindA (n 28 rfl rfl) T g31 g32
 have ⟨_, F27⟩ := u sFieldRead 27 rfl rfl
 have g27 := ok_FieldRead l.prog w base (cl := c0) F27 F27.bindA (n 27 rfl rfl) T g28 g31
 have ⟨_, F5⟩ := u sIsShape 5 rfl rfl
 have g5 := ok_IsShape l.prog w base (cl := c0) F5 F5.bindA (n 5 rfl rfl) T g6 g1 g3
 have ⟨_, F24⟩ := u sShapeRead 24 rfl rfl
 have g24 := ok_ShapeRead l.prog w base (cl := c0) F24 F24.bindA (n 24 rfl rfl) T g6 g27 g5 g26
 have ⟨_, F23⟩ := u sReadPact 23 rfl rfl
 have g23 := ok_ReadPact l.prog w base (cl := c0) F23 F23.bindA (n 23 rfl rfl) T g25 g17 g15 g26 g24
 have ⟨_, F22⟩ := u sShowWords 22 rfl rfl
 have g22 := ok_ShowWords l.prog w base (cl := c0) F22 F22.bindA (n 22 rfl rfl) T
 have ⟨_, F19⟩ := u sShowField 19 rfl rfl
 have g19 := ok_ShowField l.prog w base (cl := c0) F19 F19.bindA (n 19 rfl rfl) T g22
 have ⟨_, F21⟩ := u sShowWay 21 rfl rfl
 have g21 := ok_ShowWay l.prog w base (cl := c0) F21 F21.bindA (n 21 rfl rfl) T
 have ⟨_, F20⟩ := u sShowForm 20 rfl rfl
 have g20 := ok_ShowForm l.prog w base (cl := c0) F20 F20.bindA (n 20 rfl rfl) T g21 g22
 have ⟨_, F18⟩ := u sShowPact 18 rfl rfl
 have g18 := ok_ShowPact l.prog w base (cl := c0) F18 F18.bindA (n 18 rfl rfl) T g19 g20 g22
 have g48 := ok_Law l.prog w base (cl := c0) F48 F48.bindA (n 48 rfl rfl) T g34 g44 g33 g46 g47 g23 g18
 exact MD.law_fn g48 fun _ h => law_worth h
end K51
open PySem PySem.W PyProof.Rows
set_option maxRecDepth 100000 in
theorem PySem.Challenge.cw_shorthead_k51_pacts_written_holds : PySem.Challenge.rw_shorthead_k51_pacts_written.Holds := by
 w_on; o_law
 refine PySem.W.holds_openX (q := K51.vw) (loose := []) (Xt := K51.xt) (XP := PySem.W.XL K51.vw []) (Yf := fun s => K51.obs (MD.Kof 348 s.heap)) (Ya := fun _ => K51.expd) (N := 3958) K51.hl (fun s e => PySem.W.xl_of s (Bool.and_eq_true_iff.mp e).1) PySem.W.XL.keeps (by rfl) (by rfl) (by rfl) (fun s e => PySem.W.recFacts_of (Bool.and_eq_true_iff.mp e).2) (by rfl) (by first | assumption | decide +kernel) (by decide +kernel) ⟨rfl, rfl, rfl, rfl, rfl, by decide +kernel⟩ ?hw ?hc
 case hw => w_witness2
 case hc => exact MD.walk_ofY (l := PySem.Challenge.rw_shorthead_k51_pacts_written) (n := 63) (k := 13) (x := "_law_script") (CX := L2.CX0) (sp := MD.spLaw) rfl (by decide) rfl ⟨rfl, by decide, by decide, rfl⟩ (fun K y w mg fa h X G hmg => K51.all_mk y X G hmg) (fun _ _ a ns hl _ hS => ⟨a, ns, rfl, hS, hl, fun _ => rfl⟩) fun _ _ _ _ z => z
