import PyProof.Rows.All
import Wide.All
import OpenK.AllK
import Wide.FinOn
import Lean
import PyProof.EqAt
import PyProof.EqKinds
import PyProof.TupleCall
import PySem.Challenge.RW_shorthead_k25_what_is_no_letter
set_option maxHeartbeats 16000000
noncomputable section
set_option Elab.async false
set_option linter.all false
set_option maxRecDepth 100000
namespace AutoP
theorem a0 (h : True := by first | exact .inl rfl | exact .inr rfl | assumption) : True := h
theorem a1 (h : True := by decide) : True := h
theorem a2 (h : True := by intro _; rfl) : True := h
theorem a3 (h : True := by rfl) : True := h
theorem a4 (h : True := by with_unfolding_all rfl) : True := h
theorem a5 (h : True := by intro _ _ z; simp [*] at z) : True := h
theorem a6 (h : True := by decide +kernel) : True := h
theorem a7 (h : True := by intro _ _; rfl) : True := h
theorem a8 (h : True := by repeat first | exact aNil_len | refine aCons_len ?_) : True := h
end AutoP
namespace L2
open PySem PySem.Spec PyProof.Rows
abbrev Key := Sum Int Str
def keyIs : Key -> Value -> Bool
 | .inl k, v => Value.isInt k v
 | .inr x, v => Value.isStrOf x v
def keyH (w : World) : Key -> Int
 | .inl k => hashInt k
 | .inr x => hashStr w x
theorem keyIs_shape : ∀ {k : Key} {v : Value}, keyIs k v = true -> (∃ i t, k = Sum.inl i /\ v = Value.int i t) ∨ (∃ x t, k = Sum.inr x /\ v = Value.str x t)
 | .inl i, v, h => by
  obtain ⟨t, e⟩ := Value.isInt_shape (k := i) (v := v) h
  exact .inl ⟨i, t, rfl, e⟩
 | .inr x, v, h => by
  obtain ⟨t, e⟩ := Value.isStrOf_shape (x := x) (v := v) h
  exact .inr ⟨x, t, rfl, e⟩
theorem keyIs_int (i : Int) (t : Tok) : keyIs (.inl i) (.int i t) = true := by simp [keyIs, Value.isInt]
theorem keyIs_str (x : Str) (t : Tok) : keyIs (.inr x) (.str x t) = true := by simp [keyIs, Value.isStrOf]
theorem key_ll (a b : Int) : decide ((Sum.inl a : Key) = Sum.inl b) = (a == b) := by
 by_cases e : a = b
 ·subst e; simp
 ·have h : ¬ (Sum.inl a : Key) = Sum.inl b := fun q => e (Sum.inl.inj q)
  rw [decide_eq_false h]
  exact (beq_eq_false_iff_ne.mpr e).symm
theorem key_rr (a b : Str) : decide ((Sum.inr a : Key) = Sum.inr b) = decide (a = b) := by
 by_cases e : a = b
 ·subst e; simp
 ·have h : ¬ (Sum.inr a : Key) = Sum.inr b := fun q => e (Sum.inr.inj q)
  rw [decide_eq_false h, decide_eq_false e]
theorem key_lr (a : Int) (b : Str) : decide ((Sum.inl a : Key) = Sum.inr b) = false := decide_eq_false (fun q => nomatch q)
theorem key_rl (a : Str) (b : Int) : decide ((Sum.inr a : Key) = Sum.inl b) = false := decide_eq_false (fun q => nomatch q)
def mixKind (prog : Program) (w : World) : PySem.KeyKind prog w Key where
 is := keyIs
 hash := keyH w
 inj := fun v a b ha hb => by
  rcases keyIs_shape ha with ⟨i, t, rfl, rfl⟩ | ⟨x, t, rfl, rfl⟩
  ·rcases keyIs_shape hb with ⟨j, u, rfl, e⟩ | ⟨y, u, rfl, e⟩
   ·injection e with e1 _; rw [e1]
   ·exact nomatch e
  ·rcases keyIs_shape hb with ⟨j, u, rfl, e⟩ | ⟨y, u, rfl, e⟩
   ·exact nomatch e
   ·injection e with e1 _; rw [e1]
 byValue := fun k v h => by
  rcases keyIs_shape h with ⟨i, t, rfl, rfl⟩ | ⟨x, t, rfl, rfl⟩ <;> rfl
 pyHash := fun hv h => by
  rcases keyIs_shape hv with ⟨i, t, rfl, rfl⟩ | ⟨x, t, rfl, rfl⟩
  ·exact wpAny_pyHash_int h
  ·exact wpAny_pyHash_str h
 eqBool := fun hu hv h => by
  rcases keyIs_shape hu with ⟨i, t, rfl, rfl⟩ | ⟨x, t, rfl, rfl⟩
  ·rcases keyIs_shape hv with ⟨j, u, rfl, rfl⟩ | ⟨y, u, rfl, rfl⟩
   ·rw [key_ll] at h; exact wpAny_eqBool_int h
   ·rw [key_lr] at h; exact SeqAt.EqAt.int_str i t y u _ _ _ _ h
  ·rcases keyIs_shape hv with ⟨j, u, rfl, rfl⟩ | ⟨y, u, rfl, rfl⟩
   ·rw [key_rl] at h; exact SeqAt.EqAt.str_int x t j u _ _ _ _ h
   ·rw [key_rr] at h; exact wpAny_eqBool_str h
 «strs» := fun k x t v h => by
  rcases keyIs_shape h with ⟨i, u, rfl, e⟩ | ⟨y, u, rfl, e⟩
  ·exact nomatch e
  ·injection e with e1 _
   subst e1
   cases v <;> rfl
theorem mixKind_int (prog : Program) (w : World) (i : Int) (t : Tok) : (mixKind prog w).is (.inl i) (.int i t) = true := keyIs_int i t
theorem mixKind_str (prog : Program) (w : World) (x : Str) (t : Tok) : (mixKind prog w).is (.inr x) (.str x t) = true := keyIs_str x t
inductive V where
 | non | bl (b : Bool) | int (i : Int) | str (x : Str) | byt (b : Array UInt8) | flt (b : UInt64) | ref (a : Addr) | ty (n : String)
 deriving DecidableEq
def RelV : V -> Value -> Prop
 | .non, u => u = Value.none
 | .bl b, u => u = Value.bool b
 | .int i, u => ∃ t, u = Value.int i t
 | .str x, u => ∃ t, u = Value.str x t
 | .byt b, u => ∃ t, u = Value.bytes b t
 | .flt b, u => ∃ t, u = Value.float b t
 | .ref a, u => u = Value.ref a
 | .ty n, u => u = Value.type n
abbrev Vals : List V -> List Value -> Prop := Paired RelV
theorem Vals.length {xs : List V} {us : List Value} (r : Vals xs us) : xs.length = us.length := Paired.length r
theorem Vals.get : ∀ {xs : List V} {us : List Value} {i : Nat} {x : V}, Vals xs us -> xs[i]? = some x -> ∃ u, us[i]? = some u /\ RelV x u
 | _, _, _, _, .nil, e => by simp at e
 | _, _, 0, _, .cons r _, e => by simp at e; subst e; exact ⟨_, rfl, r⟩
 | _, _, i + 1, x, .cons _ t, e => by
  obtain ⟨u, h1, h2⟩ := Vals.get (i := i) (x := x) t (by simpa using e)
  exact ⟨u, by simpa using h1, h2⟩
theorem Vals.set {x : V} {u : Value} (r : RelV x u) : ∀ {xs : List V} {us : List Value} (i : Nat), Vals xs us -> Vals (xs.set i x) (us.set i u)
 | _, _, _, .nil => .nil
 | _, _, 0, .cons _ t => .cons r t
 | _, _, i + 1, .cons q t => .cons q (Vals.set r i t)
theorem Vals.append : ∀ {xs ys : List V} {us ws : List Value}, Vals xs us -> Vals ys ws -> Vals (xs ++ ys) (us ++ ws)
 | _, _, _, _, .nil, s => s
 | _, _, _, _, .cons r t, s => .cons r (Vals.append t s)
theorem Vals.take : ∀ {xs : List V} {us : List Value} (n : Nat), Vals xs us -> Vals (xs.take n) (us.take n)
 | _, _, 0, _ => .nil
 | _, _, _ + 1, .nil => .nil
 | _, _, n + 1, .cons r t => .cons r (Vals.take n t)
theorem Vals.drop : ∀ {xs : List V} {us : List Value} (n : Nat), Vals xs us -> Vals (xs.drop n) (us.drop n)
 | _, _, 0, r => r
 | _, _, _ + 1, .nil => .nil
 | _, _, n + 1, .cons _ t => Vals.drop n t
def RelO : Option V -> Option Value -> Prop
 | some v, some u => RelV v u
 | none, none => True
 | _, _ => False
def KV {κ : Type} : List (κ × V) -> List (κ × Value) -> Prop := Paired fun (p : κ × V) (q : κ × Value) => p.1 = q.1 /\ RelV p.2 q.2
def kV : Key -> V
 | .inl i => .int i
 | .inr x => .str x
inductive HO where
 | lst (xs : List V)
 | tup (xs : List V)
 | dK (kvs : List (Key × V)) | dT (kvs : List (List Key × V))
 | set (S : Int -> Bool) (n : Nat)
 | ins (C dx : Addr) (fs : List (Str × V))
 | own (x : Addr)
 | xd (fs : List (Str × V))
 | met (f x : Addr)
 | rng (lo hi : Int)
 | frz (o : Obj) (u : HO)
 | tbl (ps : Array Value)
 | ext (φ : Heap -> Prop)
abbrev Hp := Addr -> Option HO
def upd (H : Hp) (a : Addr) (o : HO) : Hp := fun b => if b = a then some o else H b
theorem upd_same {H : Hp} {a : Addr} {o : HO} : upd H a o a = some o := by unfold upd; rw [if_pos rfl]
theorem upd_ne {H : Hp} {a b : Addr} {o : HO} (h : b ≠ a) : upd H a o b = H b := by unfold upd; rw [if_neg h]
theorem ne_of {H : Hp} {a b : Addr} {o u : HO} (h : H a = some o) (h' : H b = some u) (d : o ≠ u) : a ≠ b := by
 intro e; subst e; rw [h] at h'; exact d (Option.some.inj h')
theorem ne_of_none {H : Hp} {a b : Addr} {o : HO} (h : H a = some o) (h' : H b = none) : a ≠ b := by
 intro e; subst e; rw [h] at h'; cases h'
section
variable (P : Program) (w : World)
def NoD (h : Heap) (a : Addr) : Prop := ∃ o, h.get? a = some o /\ o.dict = none
def ObjOk (H : Hp) (h : Heap) (a : Addr) : HO -> Prop
 | .lst xs => xs.length <= sizeLine /\ ∃ (its : List Value) (n : Nat), Vals xs its /\ h.get? a = some { cls := .type "list", data := .seq its.toArray n }
 | .tup xs => xs.length <= sizeLine /\ ∃ its : List Value, Vals xs its /\ IsTup h a its.toArray /\ NoD h a
 | .dK kvs => kvs.length <= sizeLine /\ (a == sysModules) = false /\ ∃ vs, KV kvs vs /\ h.DictOf (mixKind P w) a vs
 | .dT kvs => kvs.length <= sizeLine /\ (a == sysModules) = false /\ ∃ xs : List (List Key × Addr × Value),
   Paired (fun (p : List Key × V) (q : List Key × Addr × Value) => p.1 = q.1 /\ H q.2.1 = some (.tup (p.1.map kV)) /\ RelV p.2 q.2.2) kvs xs ∧
   ∃ o es ep, h.get? a = some o /\ o.ExactDict /\ o.data = .dict es ep /\ es.toList = xs.map (entryOfKey (tupleKind (mixKind P w))) /\ (xs.map (·.1)).Nodup
 | .set S n => h.SetOf (intKind P w) a S n
 | .ins C dx fs => H dx = some (.own a) /\ fs.length <= 1000 /\ dx ≠ a /\ h.get? a = some (PySem.W.instObj C dx) ∧
   ∃ mA, h.Ns1 dx mA /\ (∀ f, RelO (fs.lookup f) (mA f)) /\ PySem.Within mA (fs.map (·.1))
 | .own _ => ∃ o, h.get? a = some o
 | .xd fs => ∃ mA, h.Ns1 a mA /\ ∀ f, RelO (fs.lookup f) (mA f)
 | .rng lo hi => ∃ t u v, h.get? a = some { cls := .type "range", data := .fields #[.int lo t, .int hi u, .int 1 v] }
 | .frz o u => h.get? a = some o /\ ObjOk H h a u
 | .tbl ps => h.get? a = some { cls := .none, data := .fields ps }
 | .met f x => h.get? a = some (PySem.W.methodObj (.ref f) (.ref x))
 | .ext φ => φ h /\ (∃ o, h.get? a = some o) /\ ∀ h1 h2 : Heap, φ h1 -> (∀ o, h1.get? a = some o -> h2.get? a = some o) -> φ h2
def HOk (H : Hp) (h : Heap) : Prop := ∀ a o, H a = some o -> ObjOk P w H h a o
end
section
variable {P : Program} {w : World} {H H' : Hp} {h h' : Heap} {a : Addr} {o : HO}
theorem ObjOk.lt (x : ObjOk P w H h a o) : a < h.objs.size := by
 cases o with
 | lst xs => obtain ⟨_, _, _, _, e⟩ := x; exact Heap.lt_size e
 | tup xs => obtain ⟨_, _, _, p, _⟩ := x; exact p.lt
 | dK kvs => obtain ⟨_, _, _, _, o, _, _, e, _⟩ := x; exact Heap.lt_size e
 | dT kvs => obtain ⟨_, _, _, _, o, _, _, e, _⟩ := x; exact Heap.lt_size e
 | set S n => obtain ⟨o, _, _, _, e, _⟩ := x; exact Heap.lt_size e
 | ins C dx fs => obtain ⟨_, _, _, e, _⟩ := x; exact Heap.lt_size e
 | own y => obtain ⟨_, e⟩ := x; exact Heap.lt_size e
 | xd fs => obtain ⟨_, ⟨_, _, _, e, _⟩, _⟩ := x; exact Heap.lt_size e
 | rng lo hi => obtain ⟨_, _, _, e⟩ := x; exact Heap.lt_size e
 | frz ob u => obtain ⟨e, _⟩ := x; exact Heap.lt_size e
 | tbl ps => exact Heap.lt_size (show h.get? a = some _ from x)
 | met f y => exact Heap.lt_size (show h.get? a = some _ from x)
 | ext φ => obtain ⟨_, ⟨_, e⟩, _⟩ := x; exact Heap.lt_size e
theorem Paired.mapP {α β : Type} {F G : α -> β -> Prop} : ∀ {l₁ : List α} {l₂ : List β}, Paired F l₁ l₂ -> (∀ a b, F a b -> G a b) -> Paired G l₁ l₂
 | _, _, .nil, _ => .nil
 | _, _, .cons r t, f => .cons (f _ _ r) (Paired.mapP t f)
theorem ObjOk.stay (x : ObjOk P w H h a o) (k : ∀ b u, (b = a ∨ H b = some (.own a)) -> h.get? b = some u -> h'.get? b = some u)
  (ho : ∀ b, H b = some (.own a) -> H' b = some (.own a)) (ht : ∀ b xs, H b = some (.tup xs) -> H' b = some (.tup xs)) : ObjOk P w H' h' a o := by
 induction o with
 | lst xs => obtain ⟨z, its, n, r, e⟩ := x; exact ⟨z, its, n, r, k _ _ (.inl rfl) e⟩
 | tup xs => obtain ⟨z, its, r, ⟨ob, e, c⟩, od, ed, dn⟩ := x; exact ⟨z, its, r, ⟨ob, k _ _ (.inl rfl) e, c⟩, od, k _ _ (.inl rfl) ed, dn⟩
 | dK kvs => obtain ⟨z, y, vs, r, ob, es, ep, e, c⟩ := x; exact ⟨z, y, vs, r, ob, es, ep, k _ _ (.inl rfl) e, c⟩
 | dT kvs =>
  obtain ⟨z, y, xs, r, ob, es, ep, e, c⟩ := x
  exact ⟨z, y, xs, Paired.mapP r fun p q z => ⟨z.1, ht _ _ z.2.1, z.2.2⟩, ob, es, ep, k _ _ (.inl rfl) e, c⟩
 | set S n => obtain ⟨ob, es, ep, t, e, c⟩ := x; exact ⟨ob, es, ep, t, k _ _ (.inl rfl) e, c⟩
 | ins C dx fs =>
  obtain ⟨d, z, ne, e, mA, ⟨od, es, ep, e2, c⟩, r⟩ := x
  exact ⟨ho _ d, z, ne, k _ _ (.inl rfl) e, mA, ⟨od, es, ep, k _ _ (.inr d) e2, c⟩, r⟩
 | own y => obtain ⟨ob, e⟩ := x; exact ⟨ob, k _ _ (.inl rfl) e⟩
 | xd fs => obtain ⟨mA, ⟨od, es, ep, e, c⟩, r⟩ := x; exact ⟨mA, ⟨od, es, ep, k _ _ (.inl rfl) e, c⟩, r⟩
 | rng lo hi => obtain ⟨t, u, v, e⟩ := x; exact ⟨t, u, v, k _ _ (.inl rfl) e⟩
 | frz ob u ih => obtain ⟨e, q⟩ := x; exact ⟨k _ _ (.inl rfl) e, ih q⟩
 | tbl ps =>
  have e : h.get? a = some { cls := .none, data := .fields ps } := x
  show h'.get? a = some { cls := .none, data := .fields ps }
  exact k a _ (.inl rfl) e
 | met f y =>
  have e : h.get? a = some (PySem.W.methodObj (.ref f) (.ref y)) := x
  show h'.get? a = some (PySem.W.methodObj (.ref f) (.ref y))
  exact k a _ (.inl rfl) e
 | ext φ => obtain ⟨p, ⟨o, e⟩, st⟩ := x; exact ⟨st _ _ p fun o q => k _ _ (.inl rfl) q, ⟨o, k _ _ (.inl rfl) e⟩, st⟩
theorem HOk.lt (x : HOk P w H h) (e : H a = some o) : a < h.objs.size := (x a o e).lt
theorem HOk.fresh (x : HOk P w H h) (e : h.objs.size <= a) : H a = none := by
 cases q : H a with
 | none => rfl
 | some u => exact absurd (Nat.lt_of_lt_of_le (x.lt q) e) (Nat.lt_irrefl _)
theorem HOk.kept (x : HOk P w H h) (k : ∀ b u, h.get? b = some u -> h'.get? b = some u) : HOk P w H h' := fun a o e =>
 (x a o e).stay (fun b u _ q => k b u q) (fun _ q => q) fun _ _ q => q
theorem HOk.laid (x : HOk P w H h) (k : ∀ b u, h.get? b = some u -> h'.get? b = some u) (hp : h.objs.size <= a) (new : ObjOk P w (upd H a o) h' a o) : HOk P w (upd H a o) h' := fun b u e => by
 have hn := x.fresh hp
 by_cases hb : b = a
 ·subst hb; rw [upd_same] at e; cases e; exact new
 ·rw [upd_ne hb] at e
  exact (x b u e).stay (fun c v _ q => k c v q) (fun c q => by rw [upd_ne (ne_of_none q hn)]; exact q) fun c xs q => by rw [upd_ne (ne_of_none q hn)]; exact q
end
def Rd (H : Hp) (a : Addr) (u : HO) : Prop := H a = some u ∨ ∃ o, H a = some (.frz o u)
theorem Rd.ok {P : Program} {w : World} {H : Hp} {h : Heap} {a : Addr} {u : HO} (r : Rd H a u) (x : HOk P w H h) : ObjOk P w H h a u := by
 rcases r with r | ⟨o, r⟩
 ·exact x a u r
 ·obtain ⟨_, q⟩ := x a _ r
  exact q
def Mut : Option HO -> Prop
 | some (.lst _) => True
 | some (.dK _) => True
 | some (.dT _) => True
 | some (.set _ _) => True
 | some (.ins _ _ _) => True
 | some (.ext _) => True
 | _ => False
section
variable {P : Program} {w : World} {H : Hp} {h h' : Heap} {x e : Addr} {o' : HO}
theorem HOk.write (ok : HOk P w H h) (mu : Mut (H x)) (he : e = x ∨ H e = some (.own x)) (k : ∀ b u, b ≠ e -> h.get? b = some u -> h'.get? b = some u) (heo : ∃ u, h'.get? e = some u)
  (new : ObjOk P w (upd H x o') h' x o') : HOk P w (upd H x o') h' := fun b u q => by
 have nown : ∀ c y, H c = some (.own y) -> c ≠ x := fun c y r z => by subst z; rw [r] at mu; exact mu
 have ntup : ∀ c xs, H c = some (.tup xs) -> c ≠ x := fun c xs r z => by subst z; rw [r] at mu; exact mu
 by_cases hb : b = x
 ·subst hb; rw [upd_same] at q; cases q; exact new
 ·rw [upd_ne hb] at q
  by_cases hbe : b = e
  ·have q' : H b = some (.own x) := by
    rcases he with z | z
    ·exact absurd (hbe.trans z) hb
    ·rw [hbe]; exact z
   rw [q] at q'; cases q'
   obtain ⟨v, hv⟩ := heo
   exact ⟨v, by rw [hbe]; exact hv⟩
  ·refine (ok b u q).stay (fun c v hc r => k c v ?_ r) (fun c r => by rw [upd_ne (nown c b r)]; exact r) fun c xs r => by rw [upd_ne (ntup c xs r)]; exact r
   rcases hc with rfl | hc
   ·exact hbe
   ·rintro rfl
    rcases he with z | z
    ·exact nown c b hc z
    ·rw [hc] at z; cases z; exact hb rfl
end
structure Un (fs ex : List Addr) (H H' : Hp) (h h' : Heap) : Prop where
 keep : ∀ b o, h.get? b = some o -> H b = none -> b ∉ fs -> b ∉ ex -> h'.get? b = some o
 slot : ∀ b o, h.get? b = some o -> H b = none -> b ∈ fs -> b ∉ ex -> ∃ sl, h'.get? b = some { o with slots := sl }
 free : ∀ b o, h.get? b = some o -> H b = none -> b ∉ ex -> H' b = none
 there : ∀ b o, h.get? b = some o -> b ∉ ex -> ∃ o', h'.get? b = some o'
 tups : ∀ b xs, H b = some (.tup xs) -> H' b = some (.tup xs)
 frzs : ∀ b o u, H b = some (.frz o u) -> H' b = some (.frz o u)
 tbls : ∀ b ps, H b = some (.tbl ps) -> ∃ more, H' b = some (.tbl (ps ++ more))
section
variable {fs fs' ex ex' : List Addr} {H H1 H2 : Hp} {h h1 h2 h' : Heap} {a x e : Addr} {o : HO}
theorem Un.any (u : Un fs ex H H1 h h1) {b : Addr} {ob : Obj} (q : h.get? b = some ob) (n : H b = none) (hx : b ∉ ex) : ∃ sl, h1.get? b = some { ob with slots := sl } := by
 by_cases hb : b ∈ fs
 ·exact u.slot b ob q n hb hx
 ·exact ⟨ob.slots, u.keep b ob q n hb hx⟩
theorem Un.kept (k : ∀ b u, h.get? b = some u -> h'.get? b = some u) : Un fs ex H H h h' :=
 ⟨fun b ob q _ _ _ => k b ob q, fun b ob q _ _ _ => ⟨ob.slots, k b ob q⟩, fun _ _ _ n _ => n, fun b ob q _ => ⟨ob, k b ob q⟩, fun _ _ q => q, fun _ _ _ q => q, fun _ ps q => ⟨#[], by rw [q]; simp⟩⟩
theorem Un.refl : Un fs ex H H h h := Un.kept fun _ _ q => q
theorem Un.laid (k : ∀ b u, h.get? b = some u -> h'.get? b = some u) (hp : h.objs.size <= a) (hn : H a = none) : Un fs ex H (upd H a o) h h' where
 keep := fun b u q _ _ _ => k b u q
 slot := fun b u q _ _ _ => ⟨u.slots, k b u q⟩
 free := fun b u q n _ => by rw [upd_ne (Nat.ne_of_lt (Nat.lt_of_lt_of_le (Heap.lt_size q) hp))]; exact n
 there := fun b u q _ => ⟨u, k b u q⟩
 tups := fun b xs q => by rw [upd_ne (ne_of_none q hn)]; exact q
 frzs := fun b u xs q => by rw [upd_ne (ne_of_none q hn)]; exact q
 tbls := fun b ps q => ⟨#[], by rw [upd_ne (ne_of_none q hn), q]; simp⟩
theorem Un.write (mu : Mut (H x)) (he : e = x ∨ H e = some (.own x)) (k : ∀ b u, b ≠ e -> h.get? b = some u -> h'.get? b = some u) (heo : ∃ u, h'.get? e = some u) : Un fs ex H (upd H x o) h h' := by
 have hx : ∀ b, H b = none -> b ≠ x := fun b n z => by subst z; rw [n] at mu; exact mu
 have hb : ∀ b, H b = none -> b ≠ e := fun b n z => by
  subst z
  rcases he with r | r
  ·exact hx b n r
  ·rw [n] at r; cases r
 have hm : ∀ b u, H b = some u -> ¬ Mut (some u) -> b ≠ x := fun b u q nm z => by subst z; rw [q] at mu; exact nm mu
 refine ⟨fun b u q n _ _ => k b u (hb b n) q, fun b u q n _ _ => ⟨u.slots, k b u (hb b n) q⟩, fun b u q n _ => by rw [upd_ne (hx b n)]; exact n, fun b u q _ => ?_,
  fun b xs q => by rw [upd_ne (hm b _ q fun z => z)]; exact q, fun b u xs q => by rw [upd_ne (hm b _ q fun z => z)]; exact q, fun b ps q => ⟨#[], by rw [upd_ne (hm b _ q fun z => z), q]; simp⟩⟩
 by_cases hbe : b = e
 ·subst hbe; exact heo
 ·exact ⟨u, k b u hbe q⟩
end
def trk (h : Heap) (H : Hp) : List Addr := (List.range h.objs.size).filter fun a => (H a).isSome
def hidT (h : Heap) (H : Hp) : Heap := PySem.W.hideAll h (trk h H)
theorem hidT_size (h : Heap) (H : Hp) : (hidT h H).objs.size = h.objs.size := PySem.W.hideAll_size _ _
theorem hidT_get {h : Heap} {H : Hp} {b : Addr} {o : Obj} (e : h.get? b = some o) (n : H b = none) : (hidT h H).get? b = some o :=
 PySem.W.hideAll_get _ e fun hm => by
  have q : (H b).isSome = true := (List.mem_filter.mp hm).2
  rw [n] at q; simp at q
theorem of_hidT {h : Heap} {H : Hp} {b : Addr} {o : Obj} (e : (hidT h H).get? b = some o) : h.get? b = some o /\ H b = none := by
 have e' : h.get? b = some o := PySem.W.of_hideAll (trk h H) e
 refine ⟨e', ?_⟩
 cases q : H b with
 | none => rfl
 | some x =>
  have hm : b ∈ trk h H := List.mem_filter.mpr ⟨List.mem_range.mpr (Heap.lt_size e'), by simp [q]⟩
  have z : (hidT h H).get? b = none := PySem.W.hideAll_none (trk h H) hm
  rw [z] at e; cases e
structure Mod (K : PySem.W.Frag) (mg : Str -> Option Value) (base : Heap) : Prop where
 kin : K.In base
 glob : base.Ns mainGlobals mg
 blt : ∃ mb, base.Ns builtinsNs mb /\ ∀ x : Str, x ≠ "__name__" -> mb x = bootBuiltins x
 nolimit : base.NoLimit
structure Cx where
 prog : Program
 w : World
 K : PySem.W.Frag
 mg : Str -> Option Value
 base : Heap
 A : Around
 N : List Str
 s₀ : Shared
 H₀ : Hp
 env : Env
 outer : List Env
 stack : List Env
 ex : List Addr
 fn : Str -> Bool
 calm : Bool
 pn : List (Addr × Obj)
 xe : Value -> Shared -> Prop
def frs (l : List Env) : List Addr := l.filterMap (·.frame)
abbrev Cx.fs (X : Cx) : List Addr := frs X.outer
def Vis (sc : Scope) (x : Str) : Prop := sc.names.lookup x = some .local ∨ sc.names.lookup x = some .cell ∨ sc.names.lookup x = some .free
def Loc (sc : Scope) (x : Str) : Prop := sc.names.lookup x = some .local ∨ sc.names.lookup x = some .cell
def Look (env : Env) (h : Heap) (m : Str -> Option Value) (x : Str) (u : Value) : Prop :=
 (env.kindOf x = some .local /\ m x = some u) ∨ ((env.kindOf x = some .cell ∨ env.kindOf x = some .free) /\ ∃ c, env.cells.lookup x = some c /\ h.IsCell c (some u))
structure Cx.Ok (X : Cx) : Prop where
 mod : Mod X.K X.mg X.base
 kind : X.env.scope.kind = .function
 glob : X.env.globals = mainGlobals
 blt : X.env.builtins = builtinsNs
 above : X.s₀.heap.objs.size <= X.env.locals
 inj : ∀ x y c, X.env.cells.lookup x = some c -> X.env.cells.lookup y = some c -> x = y
 has : ∀ x, (X.env.kindOf x = some .cell ∨ X.env.kindOf x = some .free) -> ∃ c, X.env.cells.lookup x = some c
 cab : ∀ x c, X.fn x = true -> X.env.cells.lookup x = some c -> X.s₀.heap.objs.size <= c
 hd : X.calm = true -> X.A.handled = none
 frames : X.A.frames = some X.stack
 stk : X.stack = X.outer ∨ (X.stack = X.env :: X.outer /\ X.env.frame = some X.env.locals)
 exf : ∀ b ∈ X.ex, b ≠ X.env.locals /\ ∀ x c, X.env.cells.lookup x = some c -> c ≠ b
 bs : ∀ b o, X.base.get? b = some o -> X.s₀.heap.get? b = some o /\ X.H₀ b = none
 bsz : X.base.objs.size <= X.s₀.heap.objs.size
 noex : ∀ b o, X.base.get? b = some o -> b ∉ X.ex
 exfs : ∀ b ∈ X.ex, b ∉ X.fs
 funs : X.s₀.heap.FunFrames X.base X.outer
 frf : ∀ b ∈ X.fs, X.H₀ b = none
structure Inv (X : Cx) (pins : List (Addr × Obj)) (σ : List (Option V)) (H : Hp) (s : Shared) : Prop where
 ok : X.Ok
 os : s.os = X.s₀.os
 bare : AllBare s.gens
 base : Un X.fs X.ex X.H₀ H X.s₀.heap s.heap
 loc : ∃ m, s.heap.Ns X.env.locals m /\ ∀ (i : Nat) (x : Str) (v : V), X.N[i]? = some x -> σ[i]? = some (some v) -> Vis X.env.scope x -> ∃ u, RelV v u /\ Look X.env s.heap m x u
 cell : ∀ x c, X.env.cells.lookup x = some c -> ∃ v, s.heap.IsCell c v
 free : H X.env.locals = none
 freeC : ∀ x c, X.env.cells.lookup x = some c -> H c = none
 pin : ∀ p ∈ X.pn ++ pins, s.heap.get? p.1 = some p.2 /\ H p.1 = none /\ p.1 ≠ X.env.locals /\ p.1 ∉ X.fs /\ ∀ v, p.2.data ≠ .cell v
 hok : HOk X.prog X.w H s.heap
 len : σ.length = X.N.length
section
variable {X : Cx} {pins : List (Addr × Obj)} {σ : List (Option V)} {H H' : Hp} {s : Shared} {h' : Heap}
theorem Cx.Ok.nofr (ok : X.Ok) {b : Addr} {o : Obj} (e : X.base.get? b = some o) : b ∉ X.fs := fun hb => by
 have := (ok.funs.mem hb).1
 rw [e] at this; cases this
theorem Inv.bs (I : Inv X pins σ H s) : ∀ b o, X.base.get? b = some o -> s.heap.get? b = some o /\ H b = none := fun b o e =>
 ⟨I.base.keep b o (I.ok.bs b o e).1 (I.ok.bs b o e).2 (I.ok.nofr e) (I.ok.noex b o e), I.base.free b o (I.ok.bs b o e).1 (I.ok.bs b o e).2 (I.ok.noex b o e)⟩
theorem Inv.bk (I : Inv X pins σ H s) : ∀ b o, X.base.get? b = some o -> s.heap.get? b = some o := fun b o e => (I.bs b o e).1
theorem Inv.mod (I : Inv X pins σ H s) : Mod X.K X.mg X.base := I.ok.mod
theorem Inv.kIn (I : Inv X pins σ H s) : X.K.In s.heap := I.ok.mod.kin.keeps I.bk
theorem Inv.lt (I : Inv X pins σ H s) : X.env.locals < s.heap.objs.size := let ⟨_, hn, _⟩ := I.loc; hn.lt
theorem Inv.sz (I : Inv X pins σ H s) : X.s₀.heap.objs.size <= s.heap.objs.size := Nat.le_trans I.ok.above (Nat.le_of_lt I.lt)
theorem Inv.nofs (I : Inv X pins σ H s) {a : Addr} (h : s.heap.objs.size <= a) : a ∉ X.fs := fun hb => by
 obtain ⟨_, o, ho, _⟩ := I.ok.funs.mem hb
 exact absurd (Nat.lt_of_lt_of_le (Heap.lt_size ho) (Nat.le_trans I.sz h)) (Nat.lt_irrefl _)
theorem Inv.cne (I : Inv X pins σ H s) : ∀ x c, X.env.cells.lookup x = some c -> c ≠ X.env.locals := fun x c e z => by
 obtain ⟨v, o, ho, hd⟩ := I.cell x c e
 obtain ⟨m, ⟨o', es, ep, ho', hd', _⟩, _⟩ := I.loc
 rw [z, ho'] at ho; cases ho; rw [hd'] at hd; cases hd
theorem Inv.funs (I : Inv X pins σ H s) : s.heap.FunFrames X.base X.outer := by
 have all : ∀ (l : List Env), (∀ b ∈ frs l, b ∈ X.fs) -> X.s₀.heap.FunFrames X.base l -> s.heap.FunFrames X.base l := by
  intro l
  induction l with
  | nil => intro _ _; trivial
  | cons env r ih =>
   intro hs hl
   obtain ⟨hk, ⟨L, o, hf, hn, ho, hd⟩, hr⟩ := hl
   have hL : L ∈ X.fs := hs L (by unfold frs; rw [List.filterMap_cons, hf]; exact List.mem_cons_self)
   obtain ⟨sl, e⟩ := I.base.slot L o ho (I.ok.frf L hL) hL fun z => I.ok.exfs L z hL
   exact ⟨hk, ⟨L, _, hf, hn, e, hd⟩, ih (fun b hb => hs b (by unfold frs; rw [List.filterMap_cons, hf]; exact List.mem_cons_of_mem _ hb)) hr⟩
 exact all X.outer (fun _ hb => hb) I.ok.funs
theorem Inv.stack (I : Inv X pins σ H s) : s.heap.FunFrames X.base X.stack := by
 rcases I.ok.stk with e | ⟨e, hf⟩
 ·rw [e]; exact I.funs
 ·rw [e]
  obtain ⟨m, hn, _⟩ := I.loc
  refine .cons (by rw [I.ok.kind]; decide) hf hn ?_ I.funs
  exact Heap.get?_none_of_le (Nat.le_trans I.ok.bsz I.ok.above)
theorem Inv.stkSub (I : Inv X pins σ H s) : ∀ b ∈ frs X.stack, b ∈ X.env.locals :: X.fs := fun b hb => by
 rcases I.ok.stk with e | ⟨e, hf⟩
 ·rw [e] at hb; exact List.mem_cons_of_mem _ hb
 ·rw [e] at hb
  unfold frs at hb
  rw [List.filterMap_cons, hf] at hb
  exact hb
theorem Inv.stkFree (I : Inv X pins σ H s) : ∀ b ∈ frs X.stack, H b = none := fun b hb => by
 rcases List.mem_cons.mp (I.stkSub b hb) with e | hb
 ·rw [e]; exact I.free
 ·obtain ⟨_, o, ho, _⟩ := I.ok.funs.mem hb
  exact I.base.free b o ho (I.ok.frf b hb) fun z => I.ok.exfs b z hb
theorem Inv.step {g' : Array GenState} {t' : Nat} {d' : Drawn} {ch : List Addr} (I : Inv X pins σ H s)
  (hch : ∀ b ∈ ch, (b ∈ X.ex ∨ X.s₀.heap.objs.size <= b) /\ b ≠ X.env.locals /\ (∀ x c, X.env.cells.lookup x = some c -> c ≠ b) /\ ∀ p ∈ X.pn ++ pins, p.1 ≠ b)
  (keep : ∀ b o, b ≠ X.env.locals -> b ∉ X.fs -> b ∉ ch -> s.heap.get? b = some o -> H b = none -> h'.get? b = some o)
  (slot : ∀ b o, b ≠ X.env.locals -> b ∈ X.fs -> b ∉ ch -> s.heap.get? b = some o -> H b = none -> ∃ sl, h'.get? b = some { o with slots := sl }) (free : ∀ b o, b ∉ ch -> s.heap.get? b = some o -> H b = none -> H' b = none)
  (there : ∀ b o, b ∉ ch -> s.heap.get? b = some o -> ∃ o', h'.get? b = some o')
  (tups : ∀ b xs, H b = some (.tup xs) -> H' b = some (.tup xs)) (frzs : ∀ b o u, H b = some (.frz o u) -> H' b = some (.frz o u)) (tbls : ∀ b ps, H b = some (.tbl ps) -> ∃ more, H' b = some (.tbl (ps ++ more)))
  (ns : ∀ m, s.heap.Ns X.env.locals m -> h'.Ns X.env.locals m) (hok : HOk X.prog X.w H' h') (hg : AllBare g') :
  Inv X pins σ H' { s with heap := h', gens := g', drawn := d', toks := t' } := by
 have neL : ∀ b o, X.s₀.heap.get? b = some o -> b ≠ X.env.locals := fun b o e => Nat.ne_of_lt (Nat.lt_of_lt_of_le (Heap.lt_size e) I.ok.above)
 have neC : ∀ b o, X.s₀.heap.get? b = some o -> b ∉ X.ex -> b ∉ ch := fun b o e hx hb => by
  rcases (hch b hb).1 with z | z
  ·exact hx z
  ·exact absurd (Nat.lt_of_lt_of_le (Heap.lt_size e) z) (Nat.lt_irrefl _)
 have cellK : ∀ x c, X.env.cells.lookup x = some c -> ∀ v, s.heap.IsCell c v -> h'.IsCell c v := fun x c e v ⟨o, ho, hd⟩ => by
  have nch : c ∉ ch := fun z => (hch c z).2.2.1 x c e rfl
  by_cases hc : c ∈ X.fs
  ·obtain ⟨sl, q⟩ := slot c o (I.cne x c e) hc nch ho (I.freeC x c e)
   exact ⟨_, q, hd⟩
  ·exact ⟨o, keep c o (I.cne x c e) hc nch ho (I.freeC x c e), hd⟩
 refine ⟨I.ok, I.os, hg, ⟨fun b o e n hb hx => ?_, fun b o e n hb hx => ?_, fun b o e n hx => ?_, fun b o e hx => ?_, fun b xs e => tups b xs (I.base.tups b xs e), fun b o xs e => frzs b o xs (I.base.frzs b o xs e), fun b ps e => ?_⟩, ?_, fun x c e => ?_, ?_, fun x c e => ?_, fun p hp => ?_, hok, I.len⟩
 ·exact keep b o (neL b o e) hb (neC b o e hx) (I.base.keep b o e n hb hx) (I.base.free b o e n hx)
 ·obtain ⟨sl, e1⟩ := I.base.slot b o e n hb hx
  obtain ⟨sl', e2⟩ := slot b _ (neL b o e) hb (neC b o e hx) e1 (I.base.free b o e n hx)
  exact ⟨sl', e2⟩
 ·obtain ⟨o', e1⟩ := I.base.there b o e hx
  exact free b o' (neC b o e hx) e1 (I.base.free b o e n hx)
 ·obtain ⟨o', e1⟩ := I.base.there b o e hx
  exact there b o' (neC b o e hx) e1
 ·obtain ⟨m1, e1⟩ := I.base.tbls b ps e
  obtain ⟨m2, e2⟩ := tbls b _ e1
  exact ⟨m1 ++ m2, by rw [e2, Array.append_assoc]⟩
 ·obtain ⟨m, hn, hl⟩ := I.loc
  refine ⟨m, ns m hn, fun i x v e1 e2 e3 => ?_⟩
  obtain ⟨u, r, l⟩ := hl i x v e1 e2 e3
  refine ⟨u, r, ?_⟩
  rcases l with l | ⟨k, c, e, z⟩
  ·exact .inl l
  ·exact .inr ⟨k, c, e, cellK x c e _ z⟩
 ·obtain ⟨v, z⟩ := I.cell x c e
  exact ⟨v, cellK x c e v z⟩
 ·obtain ⟨m, ⟨o, _, _, ho, _⟩, _⟩ := I.loc
  exact free _ o (fun z => (hch _ z).2.1 rfl) ho I.free
 ·obtain ⟨v, o, ho, hd⟩ := I.cell x c e
  exact free c o (fun z => (hch c z).2.2.1 x c e rfl) ho (I.freeC x c e)
 ·obtain ⟨e, n, ne, nf, d⟩ := I.pin p hp
  have nch : p.1 ∉ ch := fun z => (hch p.1 z).2.2.2 p hp rfl
  exact ⟨keep p.1 p.2 ne nf nch e n, free p.1 p.2 nch e n, ne, nf, d⟩
theorem Inv.un {t' : Nat} (I : Inv X pins σ H s) (u : Un X.fs [] H H' s.heap h') (hok : HOk X.prog X.w H' h') : Inv X pins σ H' { s with heap := h', toks := t' } := by
 obtain ⟨m, ⟨o, es, ep, ho, r⟩, _⟩ := id I.loc
 obtain ⟨sl, hL⟩ := u.any ho I.free (by simp)
 exact I.step (g' := s.gens) (d' := s.drawn) (ch := []) (fun _ z => nomatch z) (fun b o _ hb _ e n => u.keep b o e n hb (by simp)) (fun b o _ hb _ e n => u.slot b o e n hb (by simp)) (fun b o _ e n => u.free b o e n (by simp)) (fun b o _ e => u.there b o e (by simp)) u.tups u.frzs u.tbls (fun m' hm => by
  obtain ⟨o', es', ep', ho', r'⟩ := hm
  rw [ho] at ho'; cases ho'
  exact ⟨_, es', ep', hL, r'⟩) hok I.bare
theorem Inv.call {g' : Array GenState} {t' : Nat} {d' : Drawn} {ch : List Addr} (I : Inv X pins σ H s) (u : Un (frs X.stack) ch H H' s.heap h') (hok : HOk X.prog X.w H' h') (hg : AllBare g')
  (hch : ∀ b ∈ ch, (b ∈ X.ex ∨ X.s₀.heap.objs.size <= b) /\ b ≠ X.env.locals /\ (∀ x c, X.env.cells.lookup x = some c -> c ≠ b) /\ ∀ p ∈ X.pn ++ pins, p.1 ≠ b) :
  Inv X pins σ H' { s with heap := h', gens := g', drawn := d', toks := t' } := by
 obtain ⟨m, ⟨o, es, ep, ho, r⟩, _⟩ := id I.loc
 obtain ⟨sl, hL⟩ := u.any ho I.free fun z => (hch _ z).2.1 rfl
 exact I.step (ch := ch) hch (fun b o hL hb hc e n => u.keep b o e n (fun z => (List.mem_cons.mp (I.stkSub b z)).elim hL hb) hc) (fun b o _ _ hc e n => u.any e n hc) (fun b o hc e n => u.free b o e n hc) (fun b o hc e => u.there b o e hc) u.tups u.frzs u.tbls (fun m' hm => by
  obtain ⟨o', es', ep', ho', r'⟩ := hm
  rw [ho] at ho'; cases ho'
  exact ⟨_, es', ep', hL, r'⟩) hok hg
theorem Inv.turned {t' : Nat} {it : Addr} (I : Inv X pins σ H s) (k : ∀ b o, b ≠ it -> s.heap.get? b = some o -> h'.get? b = some o) (hn : H it = none) (hL : it ≠ X.env.locals)
  (h1 : it ∈ X.ex ∨ X.s₀.heap.objs.size <= it) (h2 : ∀ x c, X.env.cells.lookup x = some c -> c ≠ it) (h3 : ∀ p ∈ X.pn ++ pins, p.1 ≠ it) : Inv X pins σ H { s with heap := h', toks := t' } := by
 have nit : ∀ b u, H b = some u -> b ≠ it := fun b u e z => by rw [z, hn] at e; cases e
 refine I.step (g' := s.gens) (d' := s.drawn) (ch := [it]) (fun b hb => ?_) (fun b o _ _ hc e _ => k b o (fun z => hc (by simp [z])) e) (fun b o _ _ hc e _ => ⟨o.slots, k b o (fun z => hc (by simp [z])) e⟩) (fun _ _ _ _ n => n)
  (fun b o hc e => ⟨o, k b o (fun z => hc (by simp [z])) e⟩) (fun _ _ e => e) (fun _ _ _ e => e) (fun b ps e => ⟨#[], by rw [e]; simp⟩) (fun m hm => ?_) (fun b u e => ?_) I.bare
 ·have e : b = it := by simpa using hb
  subst e
  exact ⟨h1, hL, h2, h3⟩
 ·obtain ⟨o, es, ep, ho, r⟩ := hm
  exact ⟨o, es, ep, k _ o (Ne.symm hL) ho, r⟩
 ·refine (I.hok b u e).stay (fun c v hc q => k c v ?_ q) (fun _ q => q) fun _ _ q => q
  rcases hc with z | z
  ·rw [z]; exact nit b u e
  ·exact nit c _ z
theorem Inv.tok (I : Inv X pins σ H s) (t : Nat) : Inv X pins σ H { s with toks := t } := I.un (h' := s.heap) (t' := t) Un.refl I.hok
theorem Inv.kept {t' : Nat} (I : Inv X pins σ H s) (k : ∀ b u, s.heap.get? b = some u -> h'.get? b = some u) : Inv X pins σ H { s with heap := h', toks := t' } := I.un (Un.kept k) (I.hok.kept k)
theorem Inv.laid {a : Addr} {o : HO} {t' : Nat} (I : Inv X pins σ H s) (k : ∀ b u, s.heap.get? b = some u -> h'.get? b = some u) (hp : s.heap.objs.size <= a) (new : ObjOk X.prog X.w (upd H a o) h' a o) :
  Inv X pins σ (upd H a o) { s with heap := h', toks := t' } := I.un (Un.laid k hp (I.hok.fresh hp)) (I.hok.laid k hp new)
theorem Inv.write {x e : Addr} {o : HO} {t' : Nat} (I : Inv X pins σ H s) (mu : Mut (H x)) (he : e = x ∨ H e = some (.own x)) (k : ∀ b u, b ≠ e -> s.heap.get? b = some u -> h'.get? b = some u) (heo : ∃ u, h'.get? e = some u)
  (new : ObjOk X.prog X.w (upd H x o) h' x o) : Inv X pins σ (upd H x o) { s with heap := h', toks := t' } := I.un (Un.write mu he k heo) (I.hok.write mu he k heo new)
theorem Inv.pins_of {pins' : List (Addr × Obj)} (I : Inv X pins σ H s) (h : ∀ p ∈ pins', s.heap.get? p.1 = some p.2 /\ H p.1 = none /\ p.1 ≠ X.env.locals /\ p.1 ∉ X.fs /\ ∀ v, p.2.data ≠ .cell v) : Inv X pins' σ H s :=
 ⟨I.ok, I.os, I.bare, I.base, I.loc, I.cell, I.free, I.freeC, fun p hp => (List.mem_append.mp hp).elim (fun z => I.pin p (List.mem_append_left _ z)) (h p), I.hok, I.len⟩
theorem nodup_ix {N : List Str} (hN : N.Nodup) {i j : Nat} {x : Str} (a : N[i]? = some x) (b : N[j]? = some x) : i = j := by
 obtain ⟨h1, e1⟩ := List.getElem?_eq_some_iff.mp a
 obtain ⟨h2, e2⟩ := List.getElem?_eq_some_iff.mp b
 exact (List.getElem_inj hN).mp (e1.trans e2.symm)
theorem store_ok2 {M : Model} {A : Around} {E : Value -> Shared -> Prop} {i : Nat} {x : Str} {v : V} {u : Value} {Q : Unit -> Shared -> Prop} (I : Inv X pins σ H s) (hN : X.N.Nodup) (hi : X.N[i]? = some x) (hx : Loc X.env.scope x) (r : RelV v u)
  (h : ∀ s', Inv X pins (σ.set i (some v)) H s' -> (∃ a, Heap.SameBut a s.heap s'.heap /\ (a = X.env.locals ∨ X.env.cells.lookup x = some a)) -> Q () s') (hf : autoParam (X.fn x = true ∨ X.env.scope.names.lookup x = some .local) AutoP.a0._auto_1) : wpAny M A (storeName X.env x u) Q E s := by
 obtain ⟨m, hn, hl⟩ := id I.loc
 have hcls : (X.env.scope.kind == .class || (X.env.scope.kind == .module && X.env.locals != X.env.globals)) = false := by rw [I.ok.kind]; rfl
 have hiσ : i < σ.length := by rw [I.len]; exact (List.getElem?_eq_some_iff.mp hi).1
 have cne := I.cne
 have tracked : ∀ {a : Addr} {h' : Heap}, (∃ o, s.heap.get? a = some o /\ H a = none) -> Heap.SameBut a s.heap h' -> HOk X.prog X.w H h' := fun {a h'} ha hs b ob e => by
  obtain ⟨_, _, hfree⟩ := ha
  refine (I.hok b ob e).stay (fun c w' hc q => (hs.2 c ?_).trans q) (fun _ q => q) fun _ _ q => q
  rintro rfl
  rcases hc with rfl | hc
  ·rw [hfree] at e; cases e
  ·rw [hfree] at hc; cases hc
 rcases hx with hk | hk
 ·refine wpAny_storeName_local hk hn (fun h' hn' hs => ?_) hcls
  obtain ⟨oL, _, _, hoL, _⟩ := id hn
  refine h _ ⟨I.ok, I.os, I.bare, ⟨fun b o e n hb hx => ?_, fun b o e n hb hx => ?_, I.base.free, fun b o e hx => ?_, I.base.tups, I.base.frzs, I.base.tbls⟩, ⟨_, hn', fun j y v' e1 e2 e3 => ?_⟩, fun y c e => ?_, I.free, I.freeC, fun p hp => ?_, tracked ⟨oL, hoL, I.free⟩ hs, by simpa using I.len⟩ ⟨_, hs, .inl rfl⟩
  ·exact (hs.2 b (Nat.ne_of_lt (Nat.lt_of_lt_of_le (Heap.lt_size e) I.ok.above))).trans (I.base.keep b o e n hb hx)
  ·obtain ⟨sl, e1⟩ := I.base.slot b o e n hb hx
   exact ⟨sl, (hs.2 b (Nat.ne_of_lt (Nat.lt_of_lt_of_le (Heap.lt_size e) I.ok.above))).trans e1⟩
  ·obtain ⟨o', e1⟩ := I.base.there b o e hx
   exact ⟨o', (hs.2 b (Nat.ne_of_lt (Nat.lt_of_lt_of_le (Heap.lt_size e) I.ok.above))).trans e1⟩
  ·by_cases hj : j = i
   ·subst hj
    rw [hi] at e1; cases e1
    rw [List.getElem?_set_self hiσ] at e2
    cases e2
    exact ⟨u, r, .inl ⟨hk, by simp⟩⟩
   ·rw [List.getElem?_set_ne (Ne.symm hj)] at e2
    obtain ⟨u', r', q⟩ := hl j y v' e1 e2 e3
    refine ⟨u', r', ?_⟩
    rcases q with ⟨k, e⟩ | ⟨k, c, e, z⟩
    ·refine .inl ⟨k, ?_⟩
     have : y ≠ x := fun e => hj (nodup_ix hN e1 (e ▸ hi))
     simp [this, e]
    ·exact .inr ⟨k, c, e, z.sameBut hs (cne y c e)⟩
  ·obtain ⟨w', z⟩ := I.cell y c e
   exact ⟨w', z.sameBut hs (cne y c e)⟩
  ·obtain ⟨e, n, ne, nf, d⟩ := I.pin p hp
   exact ⟨(hs.2 p.1 ne).trans e, n, ne, nf, d⟩
 ·have hfn : X.fn x = true := by
   rcases hf with z | z
   ·exact z
   ·rw [z] at hk; cases hk
  obtain ⟨c, hc⟩ := I.ok.has x (.inl hk)
  obtain ⟨w', z⟩ := I.cell x c hc
  refine wpAny_storeName_cell I.ok.kind hk hc z (fun h' hc' hs => ?_)
  obtain ⟨oc, hoc, hocd⟩ := id z
  refine h { s with heap := h' } ⟨I.ok, I.os, I.bare, ⟨fun b o e n hb hx => ?_, fun b o e n hb hx => ?_, I.base.free, fun b o e hx => ?_, I.base.tups, I.base.frzs, I.base.tbls⟩, ⟨m, hn.sameBut hs (Ne.symm (cne x c hc)), fun j y v' e1 e2 e3 => ?_⟩, fun y c' e => ?_, I.free, I.freeC, fun p hp => ?_, tracked ⟨oc, hoc, I.freeC x c hc⟩ hs, by simpa using I.len⟩ ⟨c, hs, .inr hc⟩
  ·exact (hs.2 b (Nat.ne_of_lt (Nat.lt_of_lt_of_le (Heap.lt_size e) (I.ok.cab x c hfn hc)))).trans (I.base.keep b o e n hb hx)
  ·obtain ⟨sl, e1⟩ := I.base.slot b o e n hb hx
   exact ⟨sl, (hs.2 b (Nat.ne_of_lt (Nat.lt_of_lt_of_le (Heap.lt_size e) (I.ok.cab x c hfn hc)))).trans e1⟩
  ·obtain ⟨o', e1⟩ := I.base.there b o e hx
   exact ⟨o', (hs.2 b (Nat.ne_of_lt (Nat.lt_of_lt_of_le (Heap.lt_size e) (I.ok.cab x c hfn hc)))).trans e1⟩
  ·by_cases hj : j = i
   ·subst hj
    rw [hi] at e1; cases e1
    rw [List.getElem?_set_self hiσ] at e2
    cases e2
    exact ⟨u, r, .inr ⟨.inl hk, c, hc, hc'⟩⟩
   ·rw [List.getElem?_set_ne (Ne.symm hj)] at e2
    obtain ⟨u', r', q⟩ := hl j y v' e1 e2 e3
    refine ⟨u', r', ?_⟩
    rcases q with q | ⟨k, c', e, z'⟩
    ·exact .inl q
    ·refine .inr ⟨k, c', e, z'.sameBut hs ?_⟩
     rintro rfl
     exact hj (nodup_ix hN e1 (I.ok.inj _ _ _ e hc ▸ hi))
  ·by_cases hcc : c' = c
   ·subst hcc; exact ⟨_, hc'⟩
   ·obtain ⟨w2, z2⟩ := I.cell y c' e
    exact ⟨w2, z2.sameBut hs hcc⟩
  ·obtain ⟨e, n, ne, nf, d⟩ := I.pin p hp
   refine ⟨(hs.2 p.1 ?_).trans e, n, ne, nf, d⟩
   intro q
   rw [q, hoc] at e
   have q' : oc = p.2 := Option.some.inj e
   exact d w' (by rw [<- q']; exact hocd)
theorem store_ok {M : Model} {A : Around} {E : Value -> Shared -> Prop} {i : Nat} {x : Str} {v : V} {u : Value} {Q : Unit -> Shared -> Prop} (I : Inv X pins σ H s) (hN : X.N.Nodup) (hi : X.N[i]? = some x) (hx : Loc X.env.scope x) (r : RelV v u)
  (h : ∀ s', Inv X pins (σ.set i (some v)) H s' -> Q () s') (hf : autoParam (X.fn x = true ∨ X.env.scope.names.lookup x = some .local) AutoP.a0._auto_1) : wpAny M A (storeName X.env x u) Q E s :=
 store_ok2 I hN hi hx r (fun s' I' _ => h s' I') hf
theorem Inv.call' {s' : Shared} {ch : List Addr} (I : Inv X pins σ H s) (ho : s'.os = s.os) (u : Un (frs X.stack) ch H H' s.heap s'.heap) (hok : HOk X.prog X.w H' s'.heap) (hg : AllBare s'.gens)
  (hch : ∀ b ∈ ch, (b ∈ X.ex ∨ X.s₀.heap.objs.size <= b) /\ b ≠ X.env.locals /\ (∀ x c, X.env.cells.lookup x = some c -> c ≠ b) /\ ∀ p ∈ X.pn ++ pins, p.1 ≠ b) : Inv X pins σ H' s' := by
 obtain ⟨h', g', d', t', o'⟩ := s'
 have e : o' = s.os := ho
 subst e
 exact I.call (g' := g') (t' := t') (d' := d') u hok hg hch
end
abbrev XK := Value -> Option Addr -> Hp -> Prop
abbrev St := List (Option V)
abbrev VK := V -> Hp -> Prop
abbrev TE := St -> Hp -> VK -> Prop
abbrev TT := St -> Hp -> (Bool -> Hp -> Prop) -> Prop
abbrev TA := St -> Hp -> (List V -> Hp -> Prop) -> Prop
structure Ends where
 nx : St -> Hp -> Prop
 rt : VK
 bk : St -> Hp -> Prop := fun _ _ => False
 ct : St -> Hp -> Prop := fun _ _ => False
abbrev TS := Ends -> St -> Hp -> Prop
def EP (X : Cx) (pins : List (Addr × Obj)) (σ : St) (Q : VK) (u : Value) (s' : Shared) : Prop := ∃ v H', Inv X pins σ H' s' /\ RelV v u /\ Q v H'
def TP (X : Cx) (pins : List (Addr × Obj)) (σ : St) (Q : Bool -> Hp -> Prop) (b : Bool) (s' : Shared) : Prop := ∃ H', Inv X pins σ H' s' /\ Q b H'
def AP (X : Cx) (pins : List (Addr × Obj)) (σ : St) (Q : List V -> Hp -> Prop) (us : List Value) (s' : Shared) : Prop := ∃ vs H', Inv X pins σ H' s' /\ Vals vs us /\ Q vs H'
def SP (X : Cx) (pins : List (Addr × Obj)) (D : Ends) (f : Flow) (s' : Shared) : Prop :=
 match f with
 | .next => ∃ σ' H', Inv X pins σ' H' s' /\ D.nx σ' H'
 | .brk => ∃ σ' H', Inv X pins σ' H' s' /\ D.bk σ' H'
 | .cont => ∃ σ' H', Inv X pins σ' H' s' /\ D.ct σ' H'
 | .ret u => ∃ v σ' H', Inv X pins σ' H' s' /\ RelV v u /\ D.rt v H'
def PE (X : Cx) (e : Expr) (t : TE) : Prop :=
 ∀ (pins : List (Addr × Obj)) (s : Shared) (σ : St) (H : Hp) (Q : VK), Inv X pins σ H s -> t σ H Q -> wpAny (model X.prog X.w) X.A (eval e X.env) (EP X pins σ Q) X.xe s
def PT (X : Cx) (e : Expr) (t : TT) : Prop :=
 ∀ (pins : List (Addr × Obj)) (s : Shared) (σ : St) (H : Hp) (Q : Bool -> Hp -> Prop), Inv X pins σ H s -> t σ H Q -> wpAny (model X.prog X.w) X.A (isTrue e X.env (eval e X.env)) (TP X pins σ Q) X.xe s
def PW (X : Cx) (e : Expr) (t : TT) : Prop :=
 ∀ (whole : Sem Value) (pins : List (Addr × Obj)) (s : Shared) (σ : St) (H : Hp) (Q : Bool -> Hp -> Prop), Inv X pins σ H s -> t σ H Q -> wpAny (model X.prog X.w) X.A (isTrue e X.env whole) (TP X pins σ Q) X.xe s
theorem PW.pt {X : Cx} {e : Expr} {t : TT} (h : PW X e t) : PT X e t := h _
def PA (X : Cx) (es : List Expr) (t : TA) : Prop :=
 ∀ (pos : Pos) (pins : List (Addr × Obj)) (s : Shared) (σ : St) (H : Hp) (Q : List V -> Hp -> Prop), Inv X pins σ H s -> t σ H Q -> wpAny (model X.prog X.w) X.A (spliced (backTo pos (starEach es X.env))) (AP X pins σ Q) X.xe s
def PS (X : Cx) (st : Stmt) (t : TS) : Prop :=
 ∀ (pins : List (Addr × Obj)) (s : Shared) (σ : St) (H : Hp) (D : Ends), Inv X pins σ H s -> t D σ H -> wpAny (model X.prog X.w) X.A (exec st X.env) (SP X pins D) X.xe s
def PSs (X : Cx) (st : List Stmt) (t : TS) : Prop :=
 ∀ (pins : List (Addr × Obj)) (s : Shared) (σ : St) (H : Hp) (D : Ends), Inv X pins σ H s -> t D σ H -> wpAny (model X.prog X.w) X.A (execs st X.env) (SP X pins D) X.xe s
theorem thn {α : Type} {t : Sem α} {Q Q' : α -> Shared -> Prop} {M : Model} {A : Around} {E : Value -> Shared -> Prop} {s : Shared} (h : wpAny M A t Q E s) (hQ : ∀ a s, Q a s -> Q' a s) : wpAny M A t Q' E s := wpAny_mono h hQ fun _ _ x => x
section
variable {X : Cx}
def tVar (i : Nat) : TE := fun σ H Q => ∃ v, σ[i]? = some (some v) /\ Q v H
def tC (v : V) : TE := fun _ H Q => Q v H
theorem pe_var {i : Nat} {x : Str} {pos : Pos} (hN : X.N[i]? = some x) (hv : Vis X.env.scope x) (hd : autoParam ((x == ("__debug__" : Str)) = false) AutoP.a1._auto_1) (hcd : autoParam ((x == ("__classdict__" : Str)) = false) AutoP.a1._auto_1) : PE X (.Name x pos) (tVar i) := by
 intro pins s σ H Q I h
 obtain ⟨v, e, h⟩ := h
 obtain ⟨m, hn, hl⟩ := I.loc
 obtain ⟨u, r, l⟩ := hl i x v hN e hv
 have fin : EP X pins σ Q u s := ⟨v, H, I, r, h⟩
 rcases l with ⟨hk, hm⟩ | ⟨hk, c, hc, hcell⟩
 ·exact wpAny_Name (wpAny_loadName_local I.ok.kind hk hn hm fin) hd
 ·rcases hk with hk | hk
  ·exact wpAny_Name (wpAny_loadName_cell I.ok.kind hk hc hcell fin) hd
  ·exact wpAny_Name (wpAny_loadName_free I.ok.kind hk hc hcell fin hcd) hd
theorem pe_int {i j pos} : PE X (.Constant (.int i) j pos) (tC (.int i)) := fun _ _ _ H _ I h => wpAny_Constant_int ⟨.int i, H, I.tok _, ⟨_, rfl⟩, h⟩
theorem pe_bl {b j pos} : PE X (.Constant (.bool b) j pos) (tC (.bl b)) := fun _ _ _ H _ I h => Constant_bool ⟨.bl b, H, I, rfl, h⟩
theorem pe_non {j pos} : PE X (.Constant .none j pos) (tC .non) := fun _ _ _ H _ I h => Constant_none ⟨.non, H, I, rfl, h⟩
theorem pe_str {x j pos} : PE X (.Constant (.str x) j pos) (tC (.str x)) := fun _ _ _ H _ I h => Calls.Constant_str ⟨.str x, H, I.tok _, ⟨_, rfl⟩, h⟩
def Gl (X : Cx) (x : Str) : Prop := X.env.kindOf x = some .globalImplicit
theorem ld_glob {E : Value -> Shared -> Prop} {pins : List (Addr × Obj)} {s : Shared} {σ : St} {H : Hp} {x : Str} {u : Value} {pos : Pos} {Q : Value -> Shared -> Prop} (I : Inv X pins σ H s) (hg : Gl X x) (hm : X.mg x = some u) (h : Q u s)
  (hd : autoParam ((x == ("__debug__" : Str)) = false) AutoP.a1._auto_1) : wpAny (model X.prog X.w) X.A (eval (.Name x pos) X.env) Q E s :=
 Calls.Name_function_global I.ok.kind hg (Calls.loadGlobal_global (by rw [I.ok.glob]; exact I.mod.glob.keeps I.bk) hm h) hd
theorem ld_blt {E : Value -> Shared -> Prop} {pins : List (Addr × Obj)} {s : Shared} {σ : St} {H : Hp} {x : Str} {u : Value} {pos : Pos} {Q : Value -> Shared -> Prop} (I : Inv X pins σ H s) (hg : Gl X x) (hm : X.mg x = none) (hv : bootBuiltins x = some u) (h : Q u s)
  (hn : autoParam (x ≠ "__name__") AutoP.a1._auto_1) (hd : autoParam ((x == ("__debug__" : Str)) = false) AutoP.a1._auto_1) : wpAny (model X.prog X.w) X.A (eval (.Name x pos) X.env) Q E s := by
 obtain ⟨mb, h1, h2⟩ := I.mod.blt
 exact Calls.Name_function_global I.ok.kind hg (Calls.loadGlobal_builtin (by rw [I.ok.glob]; exact I.mod.glob.keeps I.bk) hm (by rw [I.ok.blt]; exact h1.keeps I.bk) ((h2 x hn).trans hv) h) hd
theorem pe_bltn {x : Str} {v : V} {u : Value} {pos : Pos} (hg : Gl X x) (hm : X.mg x = none) (hv : bootBuiltins x = some u) (r : RelV v u) (hn : autoParam (x ≠ "__name__") AutoP.a1._auto_1) (hd : autoParam ((x == ("__debug__" : Str)) = false) AutoP.a1._auto_1) : PE X (.Name x pos) (tC v) :=
 fun _ _ _ H _ I h => ld_blt I hg hm hv ⟨v, H, I, r, h⟩ hn hd
variable {a b : Expr} {ta tb : TE} {pos : Pos}
def tB (t : TE) : TT := fun σ H Q => t σ H fun x H1 => ∃ c, x = .bl c /\ Q c H1
theorem pt_val {e : Expr} {t : TE} (h : PE X e t) (he : autoParam (∀ whole, isTrue e X.env whole = (do let v <- whole; standAt e.pos; holding [v] (truthy v))) AutoP.a2._auto_1) : PT X e (tB t) := by
 intro pins s σ H Q I hw
 refine isTrue_plain (thn (h pins s σ H _ I hw) fun v s1 ⟨x, H1, I1, r1, q1⟩ => ?_) (he _)
 obtain ⟨d, rfl, q⟩ := q1
 cases r1
 exact wpAny_truthy_bool ⟨H1, I1, q⟩
variable {tA tB' : TT} {rest : List Expr}
def tAnd (t u : TT) : TT := fun σ H Q => t σ H fun c H1 => if c = true then u σ H1 Q else Q false H1
def tOr (t u : TT) : TT := fun σ H Q => t σ H fun c H1 => if c = true then Q true H1 else u σ H1 Q
def tNot (t : TT) : TT := fun σ H Q => t σ H fun c H1 => Q (!c) H1
theorem pw_and1 (ha : PT X a tA) : PW X (.BoolOp .And [a] pos) tA := by
 intro wh pins s σ H Q I h
 refine isTrue_and (thn (ha pins s σ H Q I h) fun c s1 e => ?_)
 cases c with
 | true => exact isTrue_and_nil e
 | false => exact e
theorem pw_or1 (ha : PT X a tA) : PW X (.BoolOp .Or [a] pos) tA := by
 intro wh pins s σ H Q I h
 refine isTrue_or (thn (ha pins s σ H Q I h) fun c s1 e => ?_)
 cases c with
 | false => exact isTrue_or_nil e
 | true => exact e
theorem pw_and (ha : PT X a tA) (hb : PW X (.BoolOp .And (b :: rest) pos) tB') : PW X (.BoolOp .And (a :: b :: rest) pos) (tAnd tA tB') := by
 intro wh pins s σ H Q I h
 refine isTrue_and (thn (ha pins s σ H _ I h) fun c s1 ⟨H1, I1, q1⟩ => ?_)
 cases c with
 | true => exact hb wh pins s1 σ H1 Q I1 q1
 | false => exact ⟨H1, I1, q1⟩
theorem pw_or (ha : PT X a tA) (hb : PW X (.BoolOp .Or (b :: rest) pos) tB') : PW X (.BoolOp .Or (a :: b :: rest) pos) (tOr tA tB') := by
 intro wh pins s σ H Q I h
 refine isTrue_or (thn (ha pins s σ H _ I h) fun c s1 ⟨H1, I1, q1⟩ => ?_)
 cases c with
 | true => exact ⟨H1, I1, q1⟩
 | false => exact hb wh pins s1 σ H1 Q I1 q1
theorem pt_not (ha : PT X a tA) : PT X (.UnaryOp .Not a pos) (tNot tA) := by
 intro pins s σ H Q I h
 exact isTrue_not (ha pins s σ H (fun c H1 => Q (!c) H1) I h)
def tAndV (ta tb : TE) : TE := fun σ H Q => ta σ H fun x H1 => ∃ c, x = .bl c /\ if c = true then tb σ H1 Q else Q (.bl false) H1
def tNotV (ta : TE) : TE := fun σ H Q => ta σ H fun x H1 => ∃ c, x = .bl c /\ Q (.bl (!c)) H1
theorem pe_one {op} {t : TE} (h : PE X a t) : PE X (.BoolOp op [a] pos) t := fun pins s σ H Q I hw => BoolOp_one (h pins s σ H Q I hw)
theorem pe_and (ha : PE X a ta) (hb : PE X (.BoolOp .And (b :: rest) pos) tb) : PE X (.BoolOp .And (a :: b :: rest) pos) (tAndV ta tb) := by
 intro pins s σ H Q I h
 refine BoolOp_and (thn (ha pins s σ H _ I h) fun v s1 ⟨x, H1, I1, r1, q1⟩ => ?_)
 obtain ⟨c, rfl, q1⟩ := q1
 cases r1
 refine wpAny_truthy_bool ?_
 cases c with
 | true => exact hb pins s1 σ H1 Q I1 q1
 | false => exact ⟨.bl false, H1, I1, rfl, q1⟩
theorem pe_not (ha : PE X a ta) : PE X (.UnaryOp .Not a pos) (tNotV ta) := by
 intro pins s σ H Q I h
 refine UnaryOp_ (thn (ha pins s σ H _ I h) fun v s1 ⟨x, H1, I1, r1, q1⟩ => ?_)
 obtain ⟨c, rfl, q1⟩ := q1
 cases r1
 exact not_of (wpAny_truthy_bool ⟨.bl (!c), H1, I1, rfl, q1⟩)
def tIf (t : TT) (ta tb : TE) : TE := fun σ H Q => t σ H fun c H1 => if c = true then ta σ H1 Q else tb σ H1 Q
theorem pe_ifExp {c : Expr} (hc : PT X c tA) (ha : PE X a ta) (hb : PE X b tb) : PE X (.IfExp c a b pos) (tIf tA ta tb) := by
 intro pins s σ H Q I h
 refine wpAny_IfExp (thn (hc pins s σ H _ I h) fun d s1 ⟨H1, I1, q1⟩ => ?_)
 cases d with
 | true => exact ha pins s1 σ H1 Q I1 q1
 | false => exact hb pins s1 σ H1 Q I1 q1
end
def SqL (K : PySem.W.Frag) (H : Hp) (a : Addr) (xs : List V) : Prop :=
 Rd H a (.lst xs) ∨
  ∃ (o : Obj) (its : Array Value) (n : Nat), K.lookup a = some o /\ o.cls = .type "list" /\ o.dict = none /\ o.data = .seq its n /\ its.size <= sizeLine /\ Vals xs its.toList
def SqT (K : PySem.W.Frag) (H : Hp) (a : Addr) (xs : List V) : Prop :=
 Rd H a (.tup xs) ∨
  ∃ (o : Obj) (its : Array Value) (n : Nat), K.lookup a = some o /\ o.cls = .type "tuple" /\ o.data = .seq its n /\ its.size <= sizeLine /\ Vals xs its.toList
def absV : Value -> Option V
 | .none => some .non
 | .bool b => some (.bl b)
 | .int i _ => some (.int i)
 | .str x _ => some (.str x)
 | .bytes b _ => some (.byt b)
 | .float b _ => some (.flt b)
 | .ref a => some (.ref a)
 | .type n => some (.ty n)
 | _ => none
theorem RelV.abs {x : V} {u : Value} (r : RelV x u) : absV u = some x := by
 cases x with
 | non => cases r; rfl
 | bl _ => cases r; rfl
 | int _ => obtain ⟨t, rfl⟩ := r; rfl
 | str _ => obtain ⟨t, rfl⟩ := r; rfl
 | byt _ => obtain ⟨t, rfl⟩ := r; rfl
 | flt _ => obtain ⟨t, rfl⟩ := r; rfl
 | ref _ => cases r; rfl
 | ty _ => cases r; rfl
theorem RelV.inj {x y : V} {u : Value} (r : RelV x u) (q : RelV y u) : x = y := Option.some.inj (r.abs.symm.trans q.abs)
theorem Vals.inj : ∀ {xs ys : List V} {us : List Value}, Vals xs us -> Vals ys us -> xs = ys
 | _, _, _, .nil, .nil => rfl
 | _, _, _, .cons r t, .cons r' t' => by rw [r.inj r', Vals.inj t t']
section
variable {X : Cx} {pins : List (Addr × Obj)} {σ : St} {H : Hp} {s : Shared} {a : Addr} {xs ys : List V}
theorem SqL.of {K : PySem.W.Frag} (h : H a = some (.lst xs)) : SqL K H a xs := .inl (.inl h)
theorem SqT.of {K : PySem.W.Frag} (h : H a = some (.tup xs)) : SqT K H a xs := .inl (.inl h)
theorem Inv.list (I : Inv X pins σ H s) (h : SqL X.K H a xs) : ∃ its : List Value, Vals xs its /\ PlainL s.heap a its.toArray /\ xs.length <= sizeLine := by
 rcases h with h | ⟨o, its, n, hk, hc, hd, hs, hz, r⟩
 ·obtain ⟨z, its, n, r, e⟩ := h.ok I.hok
  exact ⟨its, r, ⟨_, n, e, rfl, rfl, rfl⟩, z⟩
 ·refine ⟨its.toList, r, ⟨o, n, I.kIn a o hk, hc, hd, by simpa using hs⟩, ?_⟩
  have e := r.length
  simp only [Array.length_toList] at e
  omega
theorem Inv.tuple (I : Inv X pins σ H s) (h : SqT X.K H a xs) : ∃ its : List Value, Vals xs its /\ IsTup s.heap a its.toArray /\ xs.length <= sizeLine := by
 rcases h with h | ⟨o, its, n, hk, hc, hs, hz, r⟩
 ·obtain ⟨z, its, r, p, _⟩ := h.ok I.hok
  exact ⟨its, r, p, z⟩
 ·refine ⟨its.toList, r, ⟨o, I.kIn a o hk, hc, n, by simpa using hs⟩, ?_⟩
  have e := r.length
  simp only [Array.length_toList] at e
  omega
theorem Inv.list_inj (I : Inv X pins σ H s) (h : SqL X.K H a xs) (h' : SqL X.K H a ys) : xs = ys := by
 obtain ⟨its, r, ⟨o, n, e, _, _, d⟩, _⟩ := I.list h
 obtain ⟨its', r', ⟨o', n', e', _, _, d'⟩, _⟩ := I.list h'
 rw [e] at e'; cases e'
 rw [d] at d'
 injection d' with d1 _
 have : its = its' := by simpa using congrArg Array.toList d1
 subst this
 exact r.inj r'
theorem Inv.tuple_inj (I : Inv X pins σ H s) (h : SqT X.K H a xs) (h' : SqT X.K H a ys) : xs = ys := by
 obtain ⟨its, r, ⟨o, e, _, n, d⟩, _⟩ := I.tuple h
 obtain ⟨its', r', ⟨o', e', _, n', d'⟩, _⟩ := I.tuple h'
 rw [e] at e'; cases e'
 rw [d] at d'
 injection d' with d1 _
 have : its = its' := by simpa using congrArg Array.toList d1
 subst this
 exact r.inj r'
end
abbrev Cx.wish (X : Cx) (E : Value -> Shared -> Prop) : Cx := { X with xe := E }
abbrev Cx.nox (X : Cx) : Cx := X.wish fun _ _ => False
theorem Cx.Ok.wish {X : Cx} (ok : X.Ok) (E : Value -> Shared -> Prop) : (X.wish E).Ok :=
 ⟨ok.mod, ok.kind, ok.glob, ok.blt, ok.above, ok.inj, ok.has, ok.cab, ok.hd, ok.frames, ok.stk, ok.exf, ok.bs, ok.bsz, ok.noex, ok.exfs, ok.funs, ok.frf⟩
theorem Cx.Ok.unwish {X : Cx} {E : Value -> Shared -> Prop} (ok : (X.wish E).Ok) : X.Ok :=
 ⟨ok.mod, ok.kind, ok.glob, ok.blt, ok.above, ok.inj, ok.has, ok.cab, ok.hd, ok.frames, ok.stk, ok.exf, ok.bs, ok.bsz, ok.noex, ok.exfs, ok.funs, ok.frf⟩
section
variable {X : Cx} {pins : List (Addr × Obj)} {σ : St} {H : Hp} {s : Shared} {E : Value -> Shared -> Prop}
theorem Inv.wish (I : Inv X pins σ H s) (E : Value -> Shared -> Prop) : Inv (X.wish E) pins σ H s := ⟨I.ok.wish E, I.os, I.bare, I.base, I.loc, I.cell, I.free, I.freeC, I.pin, I.hok, I.len⟩
theorem Inv.unwish (I : Inv (X.wish E) pins σ H s) : Inv X pins σ H s := ⟨I.ok.unwish, I.os, I.bare, I.base, I.loc, I.cell, I.free, I.freeC, I.pin, I.hok, I.len⟩
theorem SP.unwish {D : Ends} {f : Flow} {s' : Shared} (h : SP (X.wish E) pins D f s') : SP X pins D f s' := by
 cases f with
 | next => obtain ⟨σ', H', I, q⟩ := h; exact ⟨σ', H', I.unwish, q⟩
 | brk => obtain ⟨σ', H', I, q⟩ := h; exact ⟨σ', H', I.unwish, q⟩
 | cont => obtain ⟨σ', H', I, q⟩ := h; exact ⟨σ', H', I.unwish, q⟩
 | ret u => obtain ⟨v, σ', H', I, r, q⟩ := h; exact ⟨v, σ', H', I.unwish, r, q⟩
theorem PSs.nox {st : List Stmt} {t : TS} (h : PSs X.nox st t) : PSs X st t := fun pins s σ H D I hw =>
 wpAny_mono (h pins s σ H D (I.wish _) hw) (fun _ _ q => q.unwish) fun _ _ z => False.elim z
end
section
variable {X : Cx} {st : Stmt} {rest : List Stmt} {t u : TS} {e : Expr} {te : TE} {pos : Pos}
def tNext : TS := fun D σ H => D.nx σ H
def tSeq (t u : TS) : TS := fun D σ H => t { D with nx := u D } σ H
theorem pss_nil : PSs X [] tNext := fun _ _ σ H _ I h => wpAny_execs_nil ⟨σ, H, I, h⟩
theorem pss_cons (h1 : PS X st t) (h2 : PSs X rest u) : PSs X (st :: rest) (tSeq t u) := by
 intro pins s σ H D I h
 refine wpAny_execs_cons (thn (h1 pins s σ H { D with nx := u D } I h) fun f s1 q => ?_)
 cases f with
 | next =>
  obtain ⟨σ', H', I', q⟩ := q
  exact h2 pins s1 σ' H' D I' q
 | ret v => exact q
 | brk => exact q
 | cont => exact q
theorem pss_one (h1 : PS X st t) : PSs X [st] t := by
 intro pins s σ H D I h
 refine wpAny_execs_cons (thn (h1 pins s σ H D I h) fun f s1 q => ?_)
 cases f with
 | next => exact wpAny_execs_nil q
 | ret v => exact q
 | brk => exact q
 | cont => exact q
theorem Inv.quiet {pins : List (Addr × Obj)} {σ : St} {H : Hp} {s : Shared} (I : Inv X pins σ H s) : interactive X.env = false := by simp [interactive, I.ok.kind]
def tDrop (te : TE) : TS := fun D σ H => te σ H fun _ H1 => D.nx σ H1
theorem ps_expr (he : PE X e te) (hs : autoParam (swapsWith e none pos.line X.env = pure false) AutoP.a3._auto_1) : PS X (.Expr e pos) (tDrop te) := by
 intro pins s σ H D I h
 exact wpAny_Expr_any (thn (he pins s σ H _ I h) fun v s1 ⟨x, H1, I1, r1, q1⟩ => ⟨σ, H1, I1, q1⟩) I.quiet hs
def tRet (te : TE) : TS := fun D σ H => te σ H D.rt
theorem ps_ret (he : PE X e te) : PS X (.Return (some e) pos) (tRet te) := by
 intro pins s σ H D I h
 exact wpAny_Return_some (thn (he pins s σ H _ I h) fun v s1 ⟨x, H1, I1, r1, q1⟩ => ⟨x, σ, H1, I1, r1, q1⟩)
def tIfS (c : TT) (t u : TS) : TS := fun D σ H => c σ H fun b H1 => if b = true then t D σ H1 else u D σ H1
theorem ps_if {c : Expr} {a b : List Stmt} {tc : TT} (hc : PT X c tc) (ha : PSs X a t) (hb : PSs X b u) : PS X (.If c a b pos) (tIfS tc t u) := by
 intro pins s σ H D I h
 refine wpAny_If (thn (hc pins s σ H _ I h) fun d s1 ⟨H1, I1, q1⟩ => ?_)
 cases d with
 | true => exact ha pins s1 σ H1 D I1 q1
 | false => exact hb pins s1 σ H1 D I1 q1
end
abbrev TG := V -> St -> Hp -> (St -> Hp -> Prop) -> Prop
abbrev TGs := List V -> St -> Hp -> (St -> Hp -> Prop) -> Prop
def PG (X : Cx) (target : Expr) (t : TG) : Prop :=
 ∀ (pins : List (Addr × Obj)) (s : Shared) (σ : St) (H : Hp) (v : V) (u : Value) (Q : St -> Hp -> Prop), Inv X pins σ H s -> RelV v u -> t v σ H Q →
  wpAny (model X.prog X.w) X.A (assign target X.env u) (fun _ s' => ∃ σ' H', Inv X pins σ' H' s' /\ Q σ' H') X.xe s
def PGs (X : Cx) (ts : List Expr) (t : TGs) : Prop :=
 ∀ (pins : List (Addr × Obj)) (s : Shared) (σ : St) (H : Hp) (vs : List V) (us : List Value) (Q : St -> Hp -> Prop), Inv X pins σ H s -> Vals vs us -> t vs σ H Q →
  wpAny (model X.prog X.w) X.A (assignInOrder ((assignEach ts X.env).map (·.2)) us) (fun _ s' => ∃ σ' H', Inv X pins σ' H' s' /\ Q σ' H') X.xe s
abbrev TSet := V -> V -> V -> Hp -> (Hp -> Prop) -> Prop
def PSet (X : Cx) (t : TSet) : Prop :=
 ∀ (pins : List (Addr × Obj)) (s : Shared) (σ : St) (H : Hp) (o i v : V) (ov iv u : Value) (Q : Hp -> Prop), Inv X pins σ H s -> RelV o ov -> RelV i iv -> RelV v u -> t o i v H Q →
  wpAny (model X.prog X.w) X.A (setItem ov iv u) (fun _ s' => ∃ H', Inv X pins σ H' s' /\ Q H') X.xe s
section
variable {X : Cx} {pos : Pos}
def gName (i : Nat) : TG := fun v σ H Q => Q (σ.set i (some v)) H
theorem pg_name {i : Nat} {x : Str} (hN : X.N.Nodup) (hi : X.N[i]? = some x) (hx : Loc X.env.scope x) (hf : autoParam (X.fn x = true ∨ X.env.scope.names.lookup x = some .local) AutoP.a0._auto_1) : PG X (.Name x pos) (gName i) := by
 intro pins s σ H v u Q I r h
 exact wpAny_assign_Name (store_ok I hN hi hx r (fun s' I' => ⟨_, H, I', h⟩) hf)
def gNil : TGs := fun vs σ H Q => vs = [] /\ Q σ H
def gCons (t : TG) (u : TGs) : TGs := fun vs σ H Q => ∃ v r, vs = v :: r /\ t v σ H fun σ' H' => u r σ' H' Q
theorem pgs_nil : PGs X [] gNil := by
 intro pins s σ H vs us Q I r h
 obtain ⟨e, h⟩ := h
 subst e
 cases r
 exact assignInOrder_nil ⟨σ, H, I, h⟩
theorem pgs_cons {e : Expr} {es : List Expr} {t : TG} {u : TGs} (h1 : PG X e t) (h2 : PGs X es u)
  (hs : autoParam ((assignEach (e :: es) X.env).map (·.2) = assign e X.env :: (assignEach es X.env).map (·.2)) AutoP.a3._auto_1) : PGs X (e :: es) (gCons t u) := by
 intro pins s σ H vs us Q I r h
 obtain ⟨v, vr, e1, h⟩ := h
 subst e1
 cases r with
 | cons r rr =>
  rw [hs]
  refine assignInOrder_cons (thn (h1 pins s σ H _ _ _ I r h) fun _ s1 ⟨σ1, H1, I1, q1⟩ => ?_)
  exact h2 pins s1 σ1 H1 _ _ Q I1 rr q1
def gTup (K : PySem.W.Frag) (n : Nat) (t : TGs) : TG := fun v σ H Q => ∃ a xs, v = .ref a /\ SqT K H a xs /\ xs.length = n /\ t xs σ H Q
theorem pg_tup {es : List Expr} {k : Nat} {t : TGs} {n : Nat} (hc : X.calm = true) (h : PGs X es t)
  (hn : autoParam ((assignEach es X.env).length = n) AutoP.a3._auto_1) (hst : autoParam ((assignEach es X.env).findIdx? (·.1) = none) AutoP.a3._auto_1) : PG X (.Tuple es k pos) (gTup X.K n t) := by
 intro pins s σ H v u Q I r hw
 obtain ⟨a, xs, e1, hq, hl, hw⟩ := hw
 subst e1
 cases r
 obtain ⟨its, rv, ht, hz⟩ := I.tuple hq
 refine assign_Tuple_tuple (I.ok.hd hc) ht (by simp [hn, <- hl, rv.length]) hst fun h' hx => ?_
 have I1 : Inv X pins σ H { s with heap := h' } := I.kept (t' := s.toks) fun b o e => hx b o (Nat.ne_of_lt (Heap.lt_size e)) e
 exact h pins _ σ H xs _ Q I1 (by simpa using rv) hw
def gSub (to ti : TE) (t : TSet) : TG := fun v σ H Q => to σ H fun o H1 => ti σ H1 fun i H2 => t o i v H2 fun H3 => Q σ H3
theorem pg_sub {o i : Expr} {to ti : TE} {t : TSet} (ho : PE X o to) (hi : PE X i ti) (hs : PSet X t)
  (ha : autoParam (∀ v, assign (.Subscript o i pos) X.env v = (do
   let ov <- holding [v] (eval o X.env)
   let iv <- holding [v, ov] (eval i X.env)
   standAt pos
   holding [v, ov, iv] (setItem ov iv v)
   release [v, ov, iv] [])) AutoP.a2._auto_1) : PG X (.Subscript o i pos) (gSub to ti t) := by
 intro pins s σ H v u Q I r h
 rw [ha]
 refine wpAny_bind (wpAny_holding (thn (ho pins s σ H _ I h) fun ov s1 ⟨x, H1, I1, r1, q1⟩ => ?_))
 refine wpAny_bind (wpAny_holding (thn (hi pins s1 σ H1 _ I1 q1) fun iv s2 ⟨y, H2, I2, r2, q2⟩ => ?_))
 refine wpAny_bind (wpAny_standAt (wpAny_bind (wpAny_holding (thn (hs pins s2 σ H2 x y v ov iv u _ I2 r1 r2 r q2) fun _ s3 ⟨H3, I3, q3⟩ => ?_))))
 exact wpAny_release ⟨σ, H3, I3, q3⟩
def tAsg (te : TE) (g : TG) : TS := fun D σ H => te σ H fun x H1 => g x σ H1 D.nx
theorem ps_asg {tg e : Expr} {te : TE} {g : TG} (he : PE X e te) (hg : PG X tg g) (hs : autoParam (swapsWithSole [tg] e pos.line X.env = pure false) AutoP.a3._auto_1) (hw : autoParam (swappedStores [tg] e X.env = pure none) AutoP.a3._auto_1)
  (h1 : autoParam ((assignEach [tg] X.env).map (·.2) = [assign tg X.env]) AutoP.a3._auto_1) : PS X (.Assign [tg] e pos) (tAsg te g) := by
 intro pins s σ H D I h
 refine wpAny_Assign_stores (thn (he pins s σ H _ I h) fun v s1 ⟨x, H1, I1, r1, q1⟩ => ?_) hs hw
 rw [h1]
 exact thn (hg pins s1 σ H1 x v _ I1 r1 q1) fun _ s2 q => q
theorem ps_set {i : Nat} {x : Str} {e : Expr} {te : TE} {pos' : Pos} (hN : X.N.Nodup) (hi : X.N[i]? = some x) (hx : Loc X.env.scope x) (he : PE X e te) (hs : autoParam (swapsWith e (some (.Name x pos')) pos.line X.env = pure false) AutoP.a3._auto_1) (hf : autoParam (X.fn x = true ∨ X.env.scope.names.lookup x = some .local) AutoP.a0._auto_1) :
  PS X (.Assign [.Name x pos'] e pos) (tAsg te (gName i)) := by
 intro pins s σ H D I h
 refine wpAny_Assign_Name (thn (he pins s σ H _ I h) fun v s1 ⟨y, H1, I1, r1, q1⟩ => ?_) hs
 exact store_ok I1 hN hi hx r1 (fun s2 I2 => ⟨_, H1, I2, q1⟩) hf
def tPar (i j : Nat) (ta : TA) : TS := fun D σ H => ta σ H fun vs H1 => ∃ v w, vs = [v, w] /\ D.nx ((σ.set i (some v)).set j (some w)) H1
theorem ps_par {i j : Nat} {x y : Str} {a b : Expr} {ta : TA} {px py pt : Pos} {kt k2 pt2} (hc : X.calm = true) (hN : X.N.Nodup) (hi : X.N[i]? = some x) (hj : X.N[j]? = some y) (hij : i ≠ j)
  (hx : X.env.scope.names.lookup x = some .local) (hy : X.env.scope.names.lookup y = some .local) (ha : PA X [a, b] ta)
  (hw : swappedStores [.Tuple [.Name x px, .Name y py] kt pt] (.Tuple [a, b] k2 pt2) X.env = pure (some [x, y]))
  (hs : autoParam (swapsWithSole [.Tuple [.Name x px, .Name y py] kt pt] (.Tuple [a, b] k2 pt2) pos.line X.env = pure false) AutoP.a3._auto_1) :
  PS X (.Assign [.Tuple [.Name x px, .Name y py] kt pt] (.Tuple [a, b] k2 pt2) pos) (tPar i j ta) := by
 intro pins s σ H D I h
 rw [exec_Assign_arm]
 refine wpAny_bind (wpAny_standAt ?_)
 rw [hs]
 refine wpAny_bind (wpAny_pure ?_)
 rw [if_neg (by decide)]
 refine wpAny_bind (Tuple_ (thn (ha _ pins s σ H _ I h) fun us s1 ⟨vs, H1, I1, r1, q1⟩ => ?_))
 obtain ⟨v, w, e1, q1⟩ := q1
 subst e1
 obtain ⟨u1, u2, rfl, rv, rw'⟩ : ∃ u1 u2, us = [u1, u2] /\ RelV v u1 /\ RelV w u2 := by
  cases r1 with
  | cons p q =>
   cases q with
   | cons p' q' =>
    cases q'
    exact ⟨_, _, rfl, p, p'⟩
 refine wpAny_newObj_type ?_ (by show 2 <= sizeLine; decide)
 have I2 : Inv X pins σ H1 { s1 with heap := s1.heap.push { cls := .type "tuple", data := .seq [u1, u2].toArray } } := I1.kept (t' := s1.toks) fun b o e => Heap.get?_push_of_some _ e
 rw [hw]
 refine wpAny_bind (wpAny_pure ?_)
 show wpAny (model X.prog X.w) X.A (do rule "assign.swapped-stores"; let items <- unpackItems (.ref s1.heap.objs.size) 2 none; assignInOrder [fun v => bindName X.env y v, fun v => bindName X.env x v] items.reverse; pure Flow.next) _ _ _
 refine wpAny_bind (wpAny_rule (wpAny_bind (unpackItems_tuple (items := #[u1, u2]) (I.ok.hd hc) (IsTup.new s1.heap _) fun h' hx' => ?_)))
 have I3 := I2.kept (h' := h') (t' := s1.toks) fun b o e => hx' b o (Nat.ne_of_lt (Heap.lt_size e)) e
 show wpAny _ _ (assignInOrder [fun v => bindName X.env y v, fun v => bindName X.env x v] [u2, u1] >>= fun _ => pure Flow.next) _ _ _
 refine wpAny_bind (assignInOrder_cons (wpAny_bindName (store_ok I3 hN hj (.inl hy) rw' (fun s2 I4 => ?_) (.inr hy))))
 refine assignInOrder_cons (wpAny_bindName (store_ok I4 hN hi (.inl hx) rv (fun s3 I5 => assignInOrder_nil (wpAny_pure ?_)) (.inr hx)))
 rw [List.set_comm _ _ (Ne.symm hij)] at I5
 exact ⟨_, H1, I5, q1⟩
end
section
variable {X : Cx} {pos : Pos}
def tWhile (c : TT) (tb : TS) : TS := fun D σ H => ∃ W : Nat -> St -> Hp -> Prop, (∃ m, W m σ H) /\ ∀ m σ H, W m σ H →
 c σ H fun b H1 => if b = true then ∃ N : St -> Hp -> Prop, (∀ σ' H', N σ' H' -> ∃ m', m' < m /\ W m' σ' H') /\ tb { D with nx := N, ct := N, bk := D.nx } σ H1 else D.nx σ H1
theorem ps_while {c : Expr} {body : List Stmt} {tc : TT} {tb : TS} (hp : PassesOwn (model X.prog X.w) X.A X.env X.xe) (hc : PT X c tc) (hb : PSs X body tb) : PS X (.While c body [] pos) (tWhile tc tb) := by
 intro pins s σ H D I h
 obtain ⟨W, ⟨m0, w0⟩, turn⟩ := h
 refine wpAny_While (codeAny_whileLoop (fun n s' => ∃ σ' H', Inv X pins σ' H' s' /\ W n σ' H') ?_ m0 ⟨σ, H, I, w0⟩)
 rintro n s1 ⟨σ1, H1, I1, w1⟩
 refine wpAny_passesOwn hp (thn (hc pins s1 σ1 H1 _ I1 (turn n σ1 H1 w1)) fun b s2 ⟨H2, I2, q2⟩ => ?_)
 cases b with
 | true =>
  obtain ⟨N, hN, q2⟩ := q2
  rw [if_pos rfl]
  refine wpAny_passesOwn hp (thn (hb pins s2 σ1 H2 _ I2 q2) fun f s3 q3 => ?_)
  cases f with
  | next =>
   obtain ⟨σ3, H3, I3, n3⟩ := q3
   obtain ⟨m', hm, w3⟩ := hN σ3 H3 n3
   exact ⟨m', hm, σ3, H3, I3, w3⟩
  | cont =>
   obtain ⟨σ3, H3, I3, n3⟩ := q3
   obtain ⟨m', hm, w3⟩ := hN σ3 H3 n3
   exact ⟨m', hm, σ3, H3, I3, w3⟩
  | brk => exact q3
  | ret v => exact q3
 | false =>
  rw [if_neg Bool.false_ne_true]
  exact wpAny_execs_nil ⟨σ1, H2, I2, q2⟩
end
structure It where
 go : Nat -> Hp -> Prop
 yld : Nat -> Hp -> V -> Hp -> Prop
 stop : Nat -> Hp -> Prop
def FpOk (X : Cx) (pins : List (Addr × Obj)) (H : Hp) (b : Addr) : Prop :=
 H b = none /\ b ≠ X.env.locals /\ b ∉ X.fs /\ (b ∈ X.ex ∨ X.s₀.heap.objs.size <= b) /\ (∀ x c, X.env.cells.lookup x = some c -> c ≠ b) /\ ∀ p ∈ X.pn ++ pins, p.1 ≠ b
theorem Inv.fpOk {X : Cx} {pins : List (Addr × Obj)} {σ : St} {H H' : Hp} {s : Shared} {b : Addr} (I : Inv X pins σ H s) (hb : s.heap.objs.size <= b) (hn : H' b = none) : FpOk X pins H' b := by
 refine ⟨hn, Nat.ne_of_gt (Nat.lt_of_lt_of_le I.lt hb), I.nofs hb, .inr (Nat.le_trans I.sz hb), fun x c e z => ?_, fun p hp z => ?_⟩
 ·obtain ⟨v, q⟩ := I.cell x c e
  exact absurd (Nat.lt_of_lt_of_le q.lt (by rw [z]; exact hb)) (Nat.lt_irrefl _)
 ·exact absurd (Nat.lt_of_lt_of_le (Heap.lt_size (I.pin p hp).1) (by rw [z]; exact hb)) (Nat.lt_irrefl _)
structure Turn (P : Program) (w : World) (K : PySem.W.Frag) (tg : Expr) (J : It) (fp : List Addr) (it : Addr) (tn : Nat -> Heap -> Prop) : Prop where
 mem : it ∈ fp
 obj : ∀ i h, tn i h -> ∀ b ∈ fp, ∃ o, h.get? b = some o /\ ∀ v, o.data ≠ .cell v
 keep : ∀ i h h', tn i h -> (∀ b ∈ fp, ∀ o, h.get? b = some o -> h'.get? b = some o) -> tn i h'
 item : ∀ (X : Cx), X.prog = P -> X.w = w -> X.K = K -> X.calm = true -> ∀ (i : Nat) (pins : List (Addr × Obj)) (s : Shared) (σ : St) (H : Hp) (E : Value -> Shared -> Prop), Inv X pins σ H s -> (∀ b ∈ fp, FpOk X pins H b) -> tn i s.heap -> J.go i H →
  wpAny (model P w) X.A (pyNext (.ref it)) (fun r s1 => ∃ u, r = some u ∧
   wpAny (model P w) X.A (letOwnedTupleGo tg (.ref it) u) (fun _ s2 => ∃ x H', Inv X pins σ H' s2 /\ RelV x u /\ J.yld i H x H' /\ tn (i + 1) s2.heap /\ ∀ b ∈ fp, H' b = none) E s1) E s
 done : ∀ (X : Cx), X.prog = P -> X.w = w -> X.K = K -> X.calm = true -> ∀ (i : Nat) (pins : List (Addr × Obj)) (s : Shared) (σ : St) (H : Hp) (E : Value -> Shared -> Prop), Inv X pins σ H s -> (∀ b ∈ fp, FpOk X pins H b) -> tn i s.heap -> J.stop i H →
  wpAny (model P w) X.A (pyNext (.ref it)) (fun r s1 => r = none /\ Inv X pins σ H s1) E s
 self : ∀ (A : Around) (i : Nat) (s : Shared) (Q : Value -> Shared -> Prop) (E : Value -> Shared -> Prop), tn i s.heap -> Q (.ref it) s -> wpAny (model P w) A (pyIter (.ref it)) Q E s
abbrev TI := St -> Hp -> (It -> Hp -> Prop) -> Prop
def PIE (X : Cx) (pins : List (Addr × Obj)) (σ : St) (tg : Expr) (R : It -> Hp -> Prop) (itv : Value) (s2 : Shared) : Prop :=
 ∃ (it : Addr) (fp : List Addr) (tn : Nat -> Heap -> Prop) (J : It) (H' : Hp), itv = .ref it /\ Inv X pins σ H' s2 /\ Turn X.prog X.w X.K tg J fp it tn /\ tn 0 s2.heap /\ (∀ b ∈ fp, FpOk X pins H' b) /\ R J H'
def PI (X : Cx) (tg iter : Expr) (wi : TI) : Prop :=
 ∀ (pins : List (Addr × Obj)) (s : Shared) (σ : St) (H : Hp) (R : It -> Hp -> Prop), Inv X pins σ H s -> wi σ H R →
  wpAny (model X.prog X.w) X.A (eval iter X.env) (fun v s1 => wpAny (model X.prog X.w) X.A (pyIter v) (PIE X pins σ tg R) X.xe s1) X.xe s
theorem go_of {M : Model} {A : Around} {E : Value -> Shared -> Prop} {s : Shared} {tg : Expr} {it : Addr} {u : Value} {o : Obj} {n : String} {vs : Array Value} {Q : Unit -> Shared -> Prop} (ho : s.heap.get? it = some o) (hc : o.cls = .type n) (hd : o.data = .fields vs)
    (hn : ["enumerate", "zip", "dict_itemiterator", "dict_reverseitemiterator", "odict_iterator", "itertools.zip_longest", "itertools.pairwise"].contains n = false) (hQ : Q () s) : wpAny M A (letOwnedTupleGo tg (.ref it) u) Q E s := by
  unfold letOwnedTupleGo
  cases tg <;> first
    | exact wpAny_pure hQ
    | (cases u <;> first
        | exact wpAny_pure hQ
        | (refine wpAny_bind (wpAny_load ho ?_)
           rw [hc, hd]
           show wpAny M A (if (["enumerate", "zip", "dict_itemiterator", "dict_reverseitemiterator", "odict_iterator", "itertools.zip_longest", "itertools.pairwise"].contains n && vs[0]? == some (rawInt _)) = true then _ else _) Q E s
           rw [if_neg (by intro h; rw [hn, Bool.false_and] at h; cases h)]
           exact wpAny_pure hQ))
def Itl (K : PySem.W.Frag) (a : Addr) : It :=
 ⟨fun i H => ∃ xs x, SqL K H a xs /\ xs[i]? = some x, fun i H x H' => H' = H /\ ∀ xs, SqL K H a xs -> xs[i]? = some x, fun i H => ∃ xs, SqL K H a xs /\ xs.length <= i⟩
def Itt (K : PySem.W.Frag) (a : Addr) : It :=
 ⟨fun i H => ∃ xs x, SqT K H a xs /\ xs[i]? = some x, fun i H x H' => H' = H /\ ∀ xs, SqT K H a xs -> xs[i]? = some x, fun i H => ∃ xs, SqT K H a xs /\ xs.length <= i⟩
def Itr (lo : Int) (n : Nat) : It := ⟨fun i _ => i < n, fun i H x H' => H' = H /\ x = .int (lo + i), fun i _ => n <= i⟩
theorem turn_list {P : Program} {w : World} {K : PySem.W.Frag} {tg : Expr} (a it : Addr) : Turn P w K tg (Itl K a) [it] it (fun i h => h.IsListIter it a i) where
 mem := by simp
 obj := fun i h st b hb => by
  have e : b = it := by simpa using hb
  subst e
  obtain ⟨o, e, c, d⟩ := st
  exact ⟨o, e, fun v z => by rw [d] at z; cases z⟩
 keep := fun i h h' st k => st.at fun o e => k it (by simp) o e
 item := by
  intro X hP hw hK hc i pins s σ H E I hf st hg
  subst hP hw hK
  obtain ⟨xs, x, hq, hx⟩ := hg
  obtain ⟨its, rv, p, hz⟩ := I.list hq
  obtain ⟨u, hu, ru⟩ := rv.get hx
  obtain ⟨f0, f1, f2, f3, f4, f5⟩ := hf it (by simp)
  refine wpAny_pyNext_list_item st p.isList (x := u) (by simpa using hu) fun h' st' sb => ?_
  have I1 : Inv X pins σ H { s with heap := h' } := I.turned (t' := s.toks) (fun b o hb e => (sb.2 b hb).trans e) f0 f1 f3 f4 f5
  obtain ⟨o, e, c, d⟩ := id st'
  exact ⟨u, rfl, go_of (s := { s with heap := h' }) e c d (by decide) ⟨x, H, I1, ru, ⟨rfl, fun ys hy => by rw [I.list_inj hy hq]; exact hx⟩, st', fun b hb => (hf b hb).1⟩⟩
 done := by
  intro X hP hw hK hc i pins s σ H E I hf st hg
  subst hP hw hK
  obtain ⟨xs, hq, hx⟩ := hg
  obtain ⟨its, rv, p, hz⟩ := I.list hq
  obtain ⟨f0, f1, f2, f3, f4, f5⟩ := hf it (by simp)
  have hl := rv.length
  exact wpAny_pyNext_list_end (I.ok.hd hc) st p.isList (by simp; omega) fun h' eb => ⟨rfl, I.turned (t' := s.toks) (fun b o hb e => eb b o hb e) f0 f1 f3 f4 f5⟩
 self := fun _ _ _ _ _ st h => wpAny_pyIter_listiter st h
theorem turn_tuple {P : Program} {w : World} {K : PySem.W.Frag} {tg : Expr} (a it : Addr) : Turn P w K tg (Itt K a) [it] it (fun i h => h.IsTupleIter it a i) where
 mem := by simp
 obj := fun i h st b hb => by
  have e : b = it := by simpa using hb
  subst e
  obtain ⟨o, e, c, d⟩ := st
  exact ⟨o, e, fun v z => by rw [d] at z; cases z⟩
 keep := fun i h h' st k => st.at fun o e => k it (by simp) o e
 item := by
  intro X hP hw hK hc i pins s σ H E I hf st hg
  subst hP hw hK
  obtain ⟨xs, x, hq, hx⟩ := hg
  obtain ⟨its, rv, p, hz⟩ := I.tuple hq
  obtain ⟨u, hu, ru⟩ := rv.get hx
  obtain ⟨f0, f1, f2, f3, f4, f5⟩ := hf it (by simp)
  refine wpAny_pyNext_tuple_item st (show s.heap.IsTuple a its.toArray from p) (x := u) (by simpa using hu) fun h' st' sb => ?_
  have I1 : Inv X pins σ H { s with heap := h' } := I.turned (t' := s.toks) (fun b o hb e => (sb.2 b hb).trans e) f0 f1 f3 f4 f5
  obtain ⟨o, e, c, d⟩ := id st'
  exact ⟨u, rfl, go_of (s := { s with heap := h' }) e c d (by decide) ⟨x, H, I1, ru, ⟨rfl, fun ys hy => by rw [I.tuple_inj hy hq]; exact hx⟩, st', fun b hb => (hf b hb).1⟩⟩
 done := by
  intro X hP hw hK hc i pins s σ H E I hf st hg
  subst hP hw hK
  obtain ⟨xs, hq, hx⟩ := hg
  obtain ⟨its, rv, p, hz⟩ := I.tuple hq
  obtain ⟨f0, f1, f2, f3, f4, f5⟩ := hf it (by simp)
  have hl := rv.length
  exact wpAny_pyNext_tuple_end (I.ok.hd hc) st (show s.heap.IsTuple a its.toArray from p) (by simp; omega) fun h' eb => ⟨rfl, I.turned (t' := s.toks) (fun b o hb e => eb b o hb e) f0 f1 f3 f4 f5⟩
 self := fun _ _ _ _ _ st h => wpAny_pyIter_tupleiter st h
theorem turn_range {P : Program} {w : World} {K : PySem.W.Frag} {tg : Expr} (it : Addr) (lo : Int) (n : Nat) : Turn P w K tg (Itr lo n) [it] it (fun i h => IsRangeIter h it (lo + (i : Nat) * 1) ((n : Int) - (i : Nat)) 1) where
 mem := by simp
 obj := fun i h st b hb => by
  have e : b = it := by simpa using hb
  subst e
  exact ⟨_, st, fun v z => by
   have z' : Data.fields _ = Data.cell v := z
   cases z'⟩
 keep := fun i h h' st k => k it (by simp) _ st
 item := by
  intro X hP hw hK hc i pins s σ H E I hf st hg
  subst hP hw hK
  obtain ⟨f0, f1, f2, f3, f4, f5⟩ := hf it (by simp)
  have W := Walks.range (prog := X.prog) (w := X.w) (I.ok.hd hc) it lo 1 n
  refine W.item i s _ _ hg st fun v h' tk hv st' kk => ?_
  obtain ⟨t, rfl⟩ := hv
  have I1 : Inv X pins σ H { s with heap := h', toks := tk } := I.turned (fun b o hb e => kk b o (by simpa using hb) e) f0 f1 f3 f4 f5
  refine ⟨_, rfl, go_of (s := { s with heap := h', toks := tk }) (n := "range_iterator") st' rfl rfl (by decide) ⟨.int (lo + i), H, I1, ⟨t, ?_⟩, ⟨rfl, rfl⟩, st', fun b hb => (hf b hb).1⟩⟩
  rw [Int.mul_one]
 done := by
  intro X hP hw hK hc i pins s σ H E I hf st hg
  subst hP hw hK
  obtain ⟨f0, f1, f2, f3, f4, f5⟩ := hf it (by simp)
  exact wpAny_pyNext_range_end (I.ok.hd hc) st (by have : n <= i := hg; omega) fun h' eb => ⟨rfl, I.turned (t' := s.toks) (fun b o hb e => eb b o hb e) f0 f1 f3 f4 f5⟩
 self := fun _ _ _ _ _ st h => wpAny_pyIter_rangeiter st h
section
variable {X : Cx} {tg : Expr}
def iList (K : PySem.W.Frag) (tl : TE) : TI := fun σ H R => tl σ H fun x H1 => ∃ a, x = .ref a /\ (∃ xs, SqL K H1 a xs) /\ R (Itl K a) H1
def iTup (K : PySem.W.Frag) (tl : TE) : TI := fun σ H R => tl σ H fun x H1 => ∃ a, x = .ref a /\ (∃ xs, SqT K H1 a xs) /\ R (Itt K a) H1
theorem pi_list {l : Expr} {tl : TE} (hl : PE X l tl) : PI X tg l (iList X.K tl) := by
 intro pins s σ H R I h
 refine thn (hl pins s σ H _ I h) fun v s1 ⟨x, H1, I1, r1, q1⟩ => ?_
 obtain ⟨a, e, ⟨xs, hq⟩, q⟩ := q1
 subst e
 cases r1
 obtain ⟨its, rv, p, hz⟩ := I1.list hq
 refine wpAny_pyIter_list p.isList ?_
 refine ⟨s1.heap.objs.size, [s1.heap.objs.size], _, _, H1, rfl, I1.kept (t' := s1.toks) fun b o e => Heap.get?_push_of_some _ e, turn_list a _, ⟨_, Heap.get?_push_size _ rfl, rfl, rfl⟩, fun b hb => ?_, q⟩
 have e : b = s1.heap.objs.size := by simpa using hb
 subst e
 exact I1.fpOk (Nat.le_refl _) (I1.hok.fresh (Nat.le_refl _))
theorem pi_tup {l : Expr} {tl : TE} (hl : PE X l tl) : PI X tg l (iTup X.K tl) := by
 intro pins s σ H R I h
 refine thn (hl pins s σ H _ I h) fun v s1 ⟨x, H1, I1, r1, q1⟩ => ?_
 obtain ⟨a, e, ⟨xs, hq⟩, q⟩ := q1
 subst e
 cases r1
 obtain ⟨its, rv, p, hz⟩ := I1.tuple hq
 refine wpAny_pyIter_tuple (show s1.heap.IsTuple a its.toArray from p) ?_
 refine ⟨s1.heap.objs.size, [s1.heap.objs.size], _, _, H1, rfl, I1.kept (t' := s1.toks) fun b o e => Heap.get?_push_of_some _ e, turn_tuple a _, ⟨_, Heap.get?_push_size _ rfl, rfl, rfl⟩, fun b hb => ?_, q⟩
 have e : b = s1.heap.objs.size := by simpa using hb
 subst e
 exact I1.fpOk (Nat.le_refl _) (I1.hok.fresh (Nat.le_refl _))
theorem range_it {pins : List (Addr × Obj)} {σ : St} {H : Hp} {s : Shared} {R : It -> Hp -> Prop} {E : Value -> Shared -> Prop} {lo hi : Int} {t u v : Tok} {tk : Nat} (I : Inv X pins σ H s) (h1 : -(2 ^ 62) <= lo) (h2 : lo < 2 ^ 62) (h3 : -(2 ^ 62) <= hi) (h4 : hi < 2 ^ 62)
  (q : R (Itr lo (hi - lo).toNat) H) : wpAny (model X.prog X.w) X.A (pyIter (.ref s.heap.objs.size)) (PIE X pins σ tg R) E { s with heap := s.heap.push { cls := .type "range", data := .fields #[.int lo t, .int hi u, .int 1 v] }, toks := tk } := by
 refine wpAny_pyIter_range (IsRange.new ..) (small_one h1 h2 h3 h4) ?_
 have I1 : Inv X pins σ H { s with heap := s.heap.push { cls := .type "range", data := .fields #[.int lo t, .int hi u, .int 1 v] }, toks := tk } := I.kept fun b o e => Heap.get?_push_of_some _ e
 refine ⟨(s.heap.push { cls := .type "range", data := .fields #[.int lo t, .int hi u, .int 1 v] }).objs.size, [(s.heap.push { cls := .type "range", data := .fields #[.int lo t, .int hi u, .int 1 v] }).objs.size], _, _, H, rfl,
  I1.kept (t' := tk) fun b o e => Heap.get?_push_of_some _ e, turn_range _ lo (hi - lo).toNat, ?_, fun b hb => ?_, q⟩
 ·have e1 : lo + ((0 : Nat) : Int) * 1 = lo := by simp
  have e2 : (((hi - lo).toNat : Nat) : Int) - ((0 : Nat) : Int) = Builtin.Range.rangeSize lo hi 1 := by rw [rangeSize_one]; split <;> omega
  show IsRangeIter _ _ (lo + ((0 : Nat) : Int) * 1) ((((hi - lo).toNat : Nat) : Int) - ((0 : Nat) : Int)) 1
  rw [e1, e2]
  exact Heap.get?_push_size _ rfl
 ·have e : b = (s.heap.push { cls := .type "range", data := .fields #[.int lo t, .int hi u, .int 1 v] }).objs.size := by simpa using hb
  subst e
  exact I1.fpOk (Nat.le_refl _) (I1.hok.fresh (Nat.le_refl _))
def iRng1 (ta : TA) : TI := fun σ H R => ta σ H fun vs H1 => ∃ j : Int, vs = [.int j] /\ -(2 ^ 62) <= j /\ j < 2 ^ 62 /\ R (Itr 0 j.toNat) H1
theorem pi_range1 {a : Expr} {ta : TA} {p pos : Pos} (hg : Gl X "range") (hm : X.mg "range" = none) (ha : PA X [a] ta) (hs : autoParam (starEach [a] X.env = [(false, eval a X.env)]) AutoP.a3._auto_1) : PI X tg (.Call (.Name "range" p) [a] [] pos) (iRng1 ta) := by
 intro pins s σ H R I h
 refine Call_ (ld_blt I hg hm boot_range (PyProof.Rows.callWith_type1 (thn (ha pos pins s σ H _ I h) fun us s1 ⟨vs, H1, I1, r1, q1⟩ => ?_) hs rfl))
 obtain ⟨j, e, q1, q2, q⟩ := q1
 subst e
 cases r1 with
 | cons r rr =>
  cases rr
  obtain ⟨t, rfl⟩ := r
  exact call_range_1 (range_it I1 (by omega) (by omega) q1 q2 (by simpa using q))
def tFor (wi : TI) (g : TG) (tb : TS) : TS := fun D σ H => wi σ H fun J H1 => ∃ W : Nat -> Nat -> St -> Hp -> Prop, (∃ m, W 0 m σ H1) /\ ∀ i m σ H, W i m σ H →
 (J.stop i H /\ D.nx σ H) ∨ (J.go i H /\ ∃ N : St -> Hp -> Prop, (∀ σ' H', N σ' H' -> ∃ m', m' < m /\ W (i + 1) m' σ' H') /\ ∀ x H', J.yld i H x H' -> g x σ H' fun σ2 H2 => tb { D with nx := N, ct := N, bk := D.nx } σ2 H2)
def pinsAt (fp : List Addr) (h : Heap) : List (Addr × Obj) := fp.filterMap fun b => (h.get? b).map fun o => (b, o)
theorem mem_pinsAt {fp : List Addr} {h : Heap} {b : Addr} {o : Obj} (hb : b ∈ fp) (e : h.get? b = some o) : (b, o) ∈ pinsAt fp h := List.mem_filterMap.mpr ⟨b, hb, by rw [e]; rfl⟩
theorem of_pinsAt {fp : List Addr} {h : Heap} {p : Addr × Obj} (hp : p ∈ pinsAt fp h) : p.1 ∈ fp /\ h.get? p.1 = some p.2 := by
 obtain ⟨b, hb, e⟩ := List.mem_filterMap.mp hp
 cases q : h.get? b with
 | none => rw [q] at e; cases e
 | some o =>
  rw [q] at e
  have e' : (b, o) = p := Option.some.inj e
  subst e'
  exact ⟨hb, q⟩
theorem Inv.pinned {pins : List (Addr × Obj)} {σ : St} {H : Hp} {s : Shared} {fp : List Addr} (I : Inv X pins σ H s) (hf : ∀ b ∈ fp, FpOk X pins H b) (ho : ∀ b ∈ fp, ∃ o, s.heap.get? b = some o /\ ∀ v, o.data ≠ .cell v) : Inv X (pins ++ pinsAt fp s.heap) σ H s :=
 I.pins_of fun p hp => (List.mem_append.mp hp).elim (fun z => I.pin p (List.mem_append_right _ z)) fun z => by
  obtain ⟨hb, e⟩ := of_pinsAt z
  obtain ⟨f0, f1, f2, _⟩ := hf p.1 hb
  obtain ⟨o, e', d⟩ := ho p.1 hb
  rw [e] at e'; cases e'
  exact ⟨e, f0, f1, f2, d⟩
theorem Inv.unpinned {pins pl : List (Addr × Obj)} {σ : St} {H : Hp} {s : Shared} (I : Inv X (pins ++ pl) σ H s) : Inv X pins σ H s := I.pins_of fun p hp => I.pin p (List.mem_append_right _ (List.mem_append_left _ hp))
theorem ps_for {iter : Expr} {body : List Stmt} {wi : TI} {g : TG} {tb : TS} {pos : Pos} (hp : PassesOwn (model X.prog X.w) X.A X.env X.xe) (hc : X.calm = true) (hi : PI X tg iter wi) (hg : PG X tg g) (hb : PSs X body tb)
  (hs : autoParam (∀ x, foldedSetIterable iter X.env x = pure x) AutoP.a2._auto_1) : PS X (.For tg iter body [] pos) (tFor wi g tb) := by
 intro pins s σ H D I h
 refine wpAny_For (thn (hi pins s σ H _ I h) fun v s1 h1 => thn h1 fun itv s2 h2 => ?_) hs
 obtain ⟨it, fp, tn, J, H2, e, I2, T, st2, f2, W, ⟨m0, w0⟩, turn⟩ := h2
 subst e
 have stat : ∀ {H' : Hp}, (∀ b ∈ fp, H' b = none) -> ∀ b ∈ fp, FpOk X pins H' b := fun hn b hb => ⟨hn b hb, (f2 b hb).2⟩
 refine codeAny_forLoop_any (fun n s' => ∃ i σ' H', Inv X pins σ' H' s' /\ tn i s'.heap /\ (∀ b ∈ fp, H' b = none) /\ W i n σ' H') ?_ m0 ⟨0, σ, H2, I2, st2, fun b hb => (f2 b hb).1, w0⟩
 rintro n s3 ⟨i, σ3, H3, I3, st3, fr3, w3⟩
 rcases turn i n σ3 H3 w3 with ⟨stop, qn⟩ | ⟨go, N, hN, step⟩
 ·refine wpAny_passesOwn hp (thn (T.done X rfl rfl rfl hc i pins s3 σ3 H3 X.xe I3 (stat fr3) st3 stop) fun r s4 ⟨hr, I4⟩ => ?_)
  subst hr
  exact wpAny_execs_nil ⟨σ3, H3, I4, qn⟩
 ·refine wpAny_passesOwn hp (thn (T.item X rfl rfl rfl hc i pins s3 σ3 H3 X.xe I3 (stat fr3) st3 go) fun r s4 ⟨u, hr, h4⟩ => ?_)
  subst hr
  refine wpAny_passesOwn hp (thn h4 fun _ s5 ⟨x, H5, I5, r5, y5, st5, fr5⟩ => ?_)
  have I5' := I5.pinned (stat fr5) (T.obj _ _ st5)
  refine wpAny_passesOwn hp (thn (hg _ s5 σ3 H5 x u _ I5' r5 (step x H5 y5)) fun _ s6 ⟨σ6, H6, I6, q6⟩ => ?_)
  refine wpAny_passesOwn hp (thn (hb _ s6 σ6 H6 _ I6 q6) fun f s7 q7 => ?_)
  have again : ∀ {σ7 : St} {H7 : Hp}, Inv X (pins ++ pinsAt fp s5.heap) σ7 H7 s7 -> N σ7 H7 -> ∃ m, m < n /\ ∃ i σ' H', Inv X pins σ' H' s7 /\ tn i s7.heap /\ (∀ b ∈ fp, H' b = none) /\ W i m σ' H' := fun {σ7 H7} I7 n7 => by
   obtain ⟨m', hm, w7⟩ := hN σ7 H7 n7
   refine ⟨m', hm, i + 1, σ7, H7, I7.unpinned, T.keep _ _ _ st5 fun b hb o e => (I7.pin (b, o) (List.mem_append_right _ (List.mem_append_right _ (mem_pinsAt hb e)))).1, fun b hb => ?_, w7⟩
   obtain ⟨o, e, d⟩ := T.obj _ _ st5 b hb
   exact (I7.pin (b, o) (List.mem_append_right _ (List.mem_append_right _ (mem_pinsAt hb e)))).2.1
  cases f with
  | next => obtain ⟨σ7, H7, I7, n7⟩ := q7; exact again I7 n7
  | cont => obtain ⟨σ7, H7, I7, n7⟩ := q7; exact again I7 n7
  | brk => obtain ⟨σ7, H7, I7, q7⟩ := q7; exact ⟨σ7, H7, I7.unpinned, q7⟩
  | ret v => obtain ⟨x7, σ7, H7, I7, r7, q7⟩ := q7; exact ⟨x7, σ7, H7, I7.unpinned, r7, q7⟩
end
abbrev R2 := V -> V -> Hp -> VK -> Prop
def OpR (X : Cx) (f : Value -> Value -> Sem Value) (r : R2) : Prop :=
 ∀ (pins : List (Addr × Obj)) (s : Shared) (σ : St) (H : Hp) (x y : V) (v u : Value) (Q : VK), Inv X pins σ H s -> RelV x v -> RelV y u -> r x y H Q →
  wpAny (model X.prog X.w) X.A (f v u) (EP X pins σ Q) X.xe s
def UnR (X : Cx) (f : Value -> Sem Value) (r : V -> Hp -> VK -> Prop) : Prop :=
 ∀ (pins : List (Addr × Obj)) (s : Shared) (σ : St) (H : Hp) (x : V) (v : Value) (Q : VK), Inv X pins σ H s -> RelV x v -> r x H Q →
  wpAny (model X.prog X.w) X.A (f v) (EP X pins σ Q) X.xe s
def CallR (X : Cx) (f : Value) (r : List V -> Hp -> VK -> Prop) : Prop :=
 ∀ (pins : List (Addr × Obj)) (s : Shared) (σ : St) (H : Hp) (xs : List V) (us : List Value) (Q : VK), Inv X pins σ H s -> Vals xs us -> r xs H Q →
  wpAny (model X.prog X.w) X.A (call f us) (EP X pins σ Q) X.xe s
def tOp (r : R2) (ta tb : TE) : TE := fun σ H Q => ta σ H fun x H1 => tb σ H1 fun y H2 => r x y H2 Q
def tUn (r : V -> Hp -> VK -> Prop) (ta : TE) : TE := fun σ H Q => ta σ H fun x H1 => r x H1 Q
def rI (C : Int -> Int -> Prop) (g : Int -> Int -> V) : R2 := fun x y H Q => ∃ i j, x = .int i /\ y = .int j /\ C i j /\ Q (g i j) H
def rI0 (g : Int -> Int -> V) : R2 := fun x y H Q => ∃ i j, x = .int i /\ y = .int j /\ Q (g i j) H
def rU (g : Int -> V) : V -> Hp -> VK -> Prop := fun x H Q => ∃ i, x = .int i /\ Q (g i) H
section
variable {X : Cx} {a b c : Expr} {ta tb tc : TE} {pos : Pos}
theorem binT (ha : PE X a ta) (hb : PE X b tb) {pins : List (Addr × Obj)} {s : Shared} {σ : St} {H : Hp} {R : V -> V -> Hp -> Prop} (I : Inv X pins σ H s)
  (h : ta σ H fun x H1 => tb σ H1 fun y H2 => R x y H2) {Q : Value -> Shared -> Prop} {f : Value -> Value -> Sem Value}
  (hf : ∀ v u s2 x y H2, Inv X pins σ H2 s2 -> RelV x v -> RelV y u -> R x y H2 -> wpAny (model X.prog X.w) X.A (f v u) Q X.xe s2) :
  wpAny (model X.prog X.w) X.A (eval a X.env) (fun v s₁ => wpAny (model X.prog X.w) X.A (eval b X.env) (fun u s₂ => wpAny (model X.prog X.w) X.A (f v u) Q X.xe s₂) X.xe s₁) X.xe s := by
 refine thn (ha pins s σ H _ I h) fun v s1 ⟨x, H1, I1, r1, q1⟩ => ?_
 refine thn (hb pins s1 σ H1 _ I1 q1) fun u s2 ⟨y, H2, I2, r2, q2⟩ => ?_
 exact hf v u s2 x y H2 I2 r1 r2 q2
theorem pe_op {op : Operator} {r : R2} (ho : OpR X (binaryOp op) r) (ha : PE X a ta) (hb : PE X b tb) : PE X (.BinOp a op b pos) (tOp r ta tb) := by
 intro pins s σ H Q I h
 exact wpAny_BinOp (binT ha hb I h fun v u s2 x y H2 I2 rx ry q => ho pins s2 σ H2 x y v u Q I2 rx ry q)
theorem pe_un {op : UnaryOp} {r : V -> Hp -> VK -> Prop} (ho : UnR X (unaryOp op) r) (ha : PE X a ta) : PE X (.UnaryOp op a pos) (tUn r ta) := by
 intro pins s σ H Q I h
 exact UnaryOp_ (thn (ha pins s σ H _ I h) fun v s1 ⟨x, H1, I1, r1, q1⟩ => ho pins s1 σ H1 x v Q I1 r1 q1)
theorem opI {f : Value -> Value -> Sem Value} {C : Int -> Int -> Prop} {g : Int -> Int -> Int}
  (rule : ∀ (i j : Int) (t u : Tok) (s : Shared) (Q : Value -> Shared -> Prop) (E : Value -> Shared -> Prop), C i j -> Q (.int (g i j) s.toks) { s with toks := s.toks + 1 } -> wpAny (model X.prog X.w) X.A (f (.int i t) (.int j u)) Q E s) :
  OpR X f (rI C fun i j => .int (g i j)) := by
 intro pins s σ H x y v u Q I rx ry h
 obtain ⟨i, j, rfl, rfl, hc, q⟩ := h
 obtain ⟨t, rfl⟩ := rx
 obtain ⟨t', rfl⟩ := ry
 exact rule i j t t' s _ _ hc ⟨.int (g i j), H, I.tok _, ⟨_, rfl⟩, q⟩
theorem opI0 {f : Value -> Value -> Sem Value} {g : Int -> Int -> Int}
  (rule : ∀ (i j : Int) (t u : Tok) (s : Shared) (Q : Value -> Shared -> Prop) (E : Value -> Shared -> Prop), Q (.int (g i j) s.toks) { s with toks := s.toks + 1 } -> wpAny (model X.prog X.w) X.A (f (.int i t) (.int j u)) Q E s) :
  OpR X f (rI0 fun i j => .int (g i j)) := by
 intro pins s σ H x y v u Q I rx ry h
 obtain ⟨i, j, rfl, rfl, q⟩ := h
 obtain ⟨t, rfl⟩ := rx
 obtain ⟨t', rfl⟩ := ry
 exact rule i j t t' s _ _ ⟨.int (g i j), H, I.tok _, ⟨_, rfl⟩, q⟩
theorem opB0 {f : Value -> Value -> Sem Value} {g : Int -> Int -> Bool}
  (rule : ∀ (i j : Int) (t u : Tok) (s : Shared) (Q : Value -> Shared -> Prop) (E : Value -> Shared -> Prop), Q (.bool (g i j)) s -> wpAny (model X.prog X.w) X.A (f (.int i t) (.int j u)) Q E s) :
  OpR X f (rI0 fun i j => .bl (g i j)) := by
 intro pins s σ H x y v u Q I rx ry h
 obtain ⟨i, j, rfl, rfl, q⟩ := h
 obtain ⟨t, rfl⟩ := rx
 obtain ⟨t', rfl⟩ := ry
 exact rule i j t t' s _ _ ⟨.bl (g i j), H, I, rfl, q⟩
def CPow (i j : Int) : Prop := 0 <= j /\ j <= 1000000 /\ i.natAbs < 2 ^ 64
def CMul (i j : Int) : Prop := (-(2 ^ 64) < i /\ i < 2 ^ 64) ∨ (-(2 ^ 64) < j /\ j < 2 ^ 64)
theorem CMul.ok {i j : Int} (h : CMul i j) : IntMulOk i j := by
 rcases h with ⟨h1, h2⟩ | ⟨h1, h2⟩
 ·exact .of_left (intBits_le_64 h1 h2)
 ·exact .of_right (intBits_le_64 h1 h2)
theorem op_add : OpR X (binaryOp .Add) (rI0 fun i j => .int (i + j)) := opI0 fun _ _ _ _ _ _ _ q => add_int q
theorem op_sub : OpR X (binaryOp .Sub) (rI0 fun i j => .int (i - j)) := opI0 fun _ _ _ _ _ _ _ q => sub_int q
theorem op_mul : OpR X (binaryOp .Mult) (rI CMul fun i j => .int (i * j)) := opI fun _ _ _ _ _ _ _ hc q => mul_int q hc.ok
theorem op_mod : OpR X (binaryOp .Mod) (rI (fun _ j => 0 < j) fun i j => .int (i % j)) := opI fun i j _ _ _ _ _ hc q => by
 have h1 : (0 : Int) < j := hc
 exact mod_int' (by omega) (by rw [Int.fmod_eq_emod_of_nonneg i (by omega)]; exact q)
theorem op_pow : OpR X (binaryOp .Pow) (rI CPow fun i j => .int (i ^ j.toNat)) := opI fun _ _ _ _ _ _ _ hc q => pow_int_small hc.1 hc.2.1 hc.2.2 q
theorem op_shl : OpR X (binaryOp .LShift) (rI CPow fun i j => .int (i * 2 ^ j.toNat)) := opI fun _ _ _ _ _ _ _ hc q => lshift_int_small hc.1 hc.2.1 hc.2.2 q
theorem unI {f : Value -> Sem Value} {g : Int -> Int}
  (rule : ∀ (i : Int) (t : Tok) (s : Shared) (Q : Value -> Shared -> Prop) (E : Value -> Shared -> Prop), Q (.int (g i) s.toks) { s with toks := s.toks + 1 } -> wpAny (model X.prog X.w) X.A (f (.int i t)) Q E s) :
  UnR X f (rU fun i => .int (g i)) := by
 intro pins s σ H x v Q I rx h
 obtain ⟨i, rfl, q⟩ := h
 obtain ⟨t, rfl⟩ := rx
 exact rule i t s _ _ ⟨.int (g i), H, I.tok _, ⟨_, rfl⟩, q⟩
theorem un_neg : UnR X (unaryOp .USub) (rU fun i => .int (-i)) := unI fun _ _ _ _ _ q => neg_int q
end
def scal : V -> V -> Bool
 | .non, .non => true | .non, .int _ => true | .int _, .non => true | .non, .bl _ => true | .bl _, .non => true | .non, .str _ => true | .str _, .non => true
 | .int _, .int _ => true | .bl _, .bl _ => true | .str _, .str _ => true | .byt _, .byt _ => true
 | .int _, .str _ => true | .str _, .int _ => true | .bl _, .str _ => true | .str _, .bl _ => true
 | _, _ => false
def rEq : R2 := fun x y H Q => scal x y = true /\ Q (.bl (decide (x = y))) H
def rNe : R2 := fun x y H Q => scal x y = true /\ Q (.bl (!decide (x = y))) H
theorem dec_int {i j : Int} : decide (V.int i = V.int j) = (i == j) := by
 rw [Bool.eq_iff_iff]
 simp
theorem dec_bl {i j : Bool} : decide (V.bl i = V.bl j) = (i == j) := by
 rw [Bool.eq_iff_iff]
 simp
theorem dec_str {i j : Str} : decide (V.str i = V.str j) = (i == j) := by
 rw [Bool.eq_iff_iff]
 simp
theorem dec_byt {i j : Array UInt8} : decide (V.byt i = V.byt j) = (i.toList == j.toList) := by
 rw [Bool.eq_iff_iff]
 cases i
 cases j
 simp
section
variable {X : Cx} {a b c : Expr} {ta tb tc : TE} {pos : Pos}
theorem fin_bl {pins : List (Addr × Obj)} {σ : St} {H : Hp} {s : Shared} {Q : VK} {k k' : Bool} (I : Inv X pins σ H s) (q : Q (.bl k) H) (e : k = k') : EP X pins σ Q (.bool k') s := by
 subst e
 exact ⟨.bl k, H, I, rfl, q⟩
theorem op_eq : OpR X (compareOp .Eq) rEq := by
 intro pins s σ H x y v u Q I rx ry h
 obtain ⟨hs, q⟩ := h
 cases x with
 | non =>
  cases rx
  cases y with
  | non => cases ry; exact PySem.EqNone.eq_none_none (fin_bl I q (by simp))
  | bl j => cases ry; exact PySem.EqNone.eq_none_bool (fin_bl I q (by simp))
  | int j => obtain ⟨t', rfl⟩ := ry; exact PySem.EqNone.eq_none_int (fin_bl I q (by simp))
  | str j => obtain ⟨t', rfl⟩ := ry; exact PySem.EqNone.eq_none_str (fin_bl I q (by simp))
  | _ => exact absurd (show false = true from hs) Bool.false_ne_true
 | bl i =>
  cases rx
  cases y with
  | non => cases ry; exact PySem.EqNone.eq_bool_none (fin_bl I q (by simp))
  | bl j => cases ry; exact eq_bool (fin_bl I q dec_bl)
  | str j => obtain ⟨t', rfl⟩ := ry; exact PySem.EqMixed.eq_bool_str (fin_bl I q (by simp))
  | _ => exact absurd (show false = true from hs) Bool.false_ne_true
 | int i =>
  obtain ⟨t, rfl⟩ := rx
  cases y with
  | non => cases ry; exact PySem.EqNone.eq_int_none (fin_bl I q (by simp))
  | int j => obtain ⟨t', rfl⟩ := ry; exact eq_int (fin_bl I q dec_int)
  | str j => obtain ⟨t', rfl⟩ := ry; exact PySem.EqMixed.eq_int_str (fin_bl I q (by simp))
  | _ => exact absurd (show false = true from hs) Bool.false_ne_true
 | str i =>
  obtain ⟨t, rfl⟩ := rx
  cases y with
  | non => cases ry; exact PySem.EqNone.eq_str_none (fin_bl I q (by simp))
  | bl j => cases ry; exact PySem.EqMixed.eq_str_bool (fin_bl I q (by simp))
  | int j => obtain ⟨t', rfl⟩ := ry; exact PySem.EqMixed.eq_str_int (fin_bl I q (by simp))
  | str j => obtain ⟨t', rfl⟩ := ry; exact eq_str (fin_bl I q dec_str)
  | _ => exact absurd (show false = true from hs) Bool.false_ne_true
 | byt i =>
  obtain ⟨t, rfl⟩ := rx
  cases y with
  | byt j => obtain ⟨t', rfl⟩ := ry; exact PySem.W.eq_bytes (fin_bl I q dec_byt)
  | _ => exact absurd (show false = true from hs) Bool.false_ne_true
 | _ => cases y <;> exact absurd (show false = true from hs) Bool.false_ne_true
theorem op_ne : OpR X (compareOp .NotEq) rNe := by
 intro pins s σ H x y v u Q I rx ry h
 obtain ⟨hs, q⟩ := h
 cases x with
 | non =>
  cases rx
  cases y with
  | non => cases ry; exact PySem.EqNone.ne_none_none (fin_bl I q (by simp))
  | bl j => cases ry; exact PySem.EqNone.ne_none_bool (fin_bl I q (by simp))
  | int j => obtain ⟨t', rfl⟩ := ry; exact PySem.EqNone.ne_none_int (fin_bl I q (by simp))
  | str j => obtain ⟨t', rfl⟩ := ry; exact PySem.EqNone.ne_none_str (fin_bl I q (by simp))
  | _ => exact absurd (show false = true from hs) Bool.false_ne_true
 | bl i =>
  cases rx
  cases y with
  | non => cases ry; exact PySem.EqNone.ne_bool_none (fin_bl I q (by simp))
  | bl j => cases ry; exact ne_bool (fin_bl I q (congrArg not dec_bl))
  | str j => obtain ⟨t', rfl⟩ := ry; exact PySem.EqMixed.ne_bool_str (fin_bl I q (by simp))
  | _ => exact absurd (show false = true from hs) Bool.false_ne_true
 | int i =>
  obtain ⟨t, rfl⟩ := rx
  cases y with
  | non => cases ry; exact PySem.EqNone.ne_int_none (fin_bl I q (by simp))
  | int j => obtain ⟨t', rfl⟩ := ry; exact ne_int (fin_bl I q (congrArg not dec_int))
  | str j => obtain ⟨t', rfl⟩ := ry; exact PySem.EqMixed.ne_int_str (fin_bl I q (by simp))
  | _ => exact absurd (show false = true from hs) Bool.false_ne_true
 | str i =>
  obtain ⟨t, rfl⟩ := rx
  cases y with
  | non => cases ry; exact PySem.EqNone.ne_str_none (fin_bl I q (by simp))
  | bl j => cases ry; exact PySem.EqMixed.ne_str_bool (fin_bl I q (by simp))
  | int j => obtain ⟨t', rfl⟩ := ry; exact PySem.EqMixed.ne_str_int (fin_bl I q (by simp))
  | str j => obtain ⟨t', rfl⟩ := ry; exact ne_str (fin_bl I q (congrArg not dec_str))
  | _ => exact absurd (show false = true from hs) Bool.false_ne_true
 | byt i =>
  obtain ⟨t, rfl⟩ := rx
  cases y with
  | byt j => obtain ⟨t', rfl⟩ := ry; exact PySem.W.ne_bytes (fin_bl I q (congrArg not dec_byt))
  | _ => exact absurd (show false = true from hs) Bool.false_ne_true
 | _ => cases y <;> exact absurd (show false = true from hs) Bool.false_ne_true
theorem op_lt : OpR X (compareOp .Lt) (rI0 fun i j => .bl (decide (i < j))) := opB0 fun _ _ _ _ _ _ _ q => lt_int q
theorem op_gt : OpR X (compareOp .Gt) (rI0 fun i j => .bl (decide (j < i))) := opB0 fun _ _ _ _ _ _ _ q => gt_int q
theorem op_ge : OpR X (compareOp .GtE) (rI0 fun i j => .bl (decide (j <= i))) := opB0 fun _ _ _ _ _ _ _ q => ge_int q
theorem op_lt_str : OpR X (compareOp .Lt) (fun x y H Q => ∃ i j, x = .str i /\ y = .str j /\ Q (.bl (decide (i.cps.toList < j.cps.toList))) H) := by
 intro pins s σ H x y v u Q I rx ry h
 obtain ⟨i, j, rfl, rfl, q⟩ := h
 obtain ⟨t, rfl⟩ := rx
 obtain ⟨t', rfl⟩ := ry
 exact lt_str (fin_bl I q rfl)
theorem op_isN : OpR X (compareOp .Is) (fun x y H Q => y = .non /\ Q (.bl (decide (x = .non))) H) := by
 intro pins s σ H x y v u Q I rx ry h
 obtain ⟨rfl, q⟩ := h
 cases ry
 refine is_none_gen (fin_bl I q ?_)
 cases x <;> first
  | (cases rx; rfl)
  | (obtain ⟨t, rfl⟩ := rx; rfl)
theorem op_notN : OpR X (compareOp .IsNot) (fun x y H Q => y = .non /\ Q (.bl (!decide (x = .non))) H) := by
 intro pins s σ H x y v u Q I rx ry h
 obtain ⟨rfl, q⟩ := h
 cases ry
 refine isnot_none_gen (fin_bl I q ?_)
 cases x <;> first
  | (cases rx; rfl)
  | (obtain ⟨t, rfl⟩ := rx; rfl)
theorem OpR.or {f : Value -> Value -> Sem Value} {r r' : R2} (h : OpR X f r) (h' : OpR X f r') : OpR X f (fun x y H Q => r x y H Q ∨ r' x y H Q) := by
 intro pins s σ H x y v u Q I rx ry q
 rcases q with q | q
 ·exact h pins s σ H x y v u Q I rx ry q
 ·exact h' pins s σ H x y v u Q I rx ry q
theorem nomark (b : Expr) {op : CmpOp} (h : autoParam (op ≠ .In) AutoP.a1._auto_1) (h2 : autoParam (op ≠ .NotIn) AutoP.a1._auto_1) : behindInMarks op b = false := by
 have e1 : (op == CmpOp.In) = false := by cases op <;> first | rfl | exact absurd rfl h
 have e2 : (op == CmpOp.NotIn) = false := by cases op <;> first | rfl | exact absurd rfl h2
 cases b <;> simp [behindInMarks, e1, e2]
theorem pe_cmpR {op : CmpOp} {r : R2} (ho : OpR X (compareOp op) r) (ha : PE X a ta) (hb : PE X b tb) (hm : behindInMarks op b = false) : PE X (.Compare a [op] [b] pos) (tOp r ta tb) := by
 intro pins s σ H Q I h
 exact wpAny_Compare1 (binT ha hb I h fun v u s2 x y H2 I2 rx ry q => ho pins s2 σ H2 x y v u Q I2 rx ry q) hm
def tTest (t : TE) : TT := fun σ H Q => t σ H fun x H' => ∃ k, x = .bl k /\ Q k H'
theorem pt_cmpR {op : CmpOp} {r : R2} (ho : OpR X (compareOp op) r) (ha : PE X a ta) (hb : PE X b tb) (hm : behindInMarks op b = false) : PT X (.Compare a [op] [b] pos) (tTest (tOp r ta tb)) := by
 intro pins s σ H Q I h
 refine wpAny_isTrue_Compare1 (thn (ha pins s σ H _ I h) fun v s1 ⟨x, H1, I1, r1, q1⟩ => thn (hb pins s1 σ H1 _ I1 q1) fun u s2 ⟨y, H2, I2, r2, q2⟩ =>
  thn (ho pins s2 σ H2 x y v u _ I2 r1 r2 q2) fun c s3 ⟨z, H3, I3, r3, k, e, q3⟩ => ?_) hm
 subst e
 cases r3
 exact wpAny_truthy_bool ⟨H3, I3, q3⟩
theorem line63 : (sizeLine : Nat) < 2 ^ 63 := by rw [sizeLine_eq]; decide
theorem op_add_str : OpR X (binaryOp .Add) (fun x y H Q => ∃ i j, x = .str i /\ y = .str j /\ i.length + j.length <= sizeLine /\ Q (.str (i ++ j)) H) := by
 intro pins s σ H x y v u Q I rx ry h
 obtain ⟨i, j, rfl, rfl, hz, q⟩ := h
 obtain ⟨t, rfl⟩ := rx
 obtain ⟨t', rfl⟩ := ry
 exact add_str (fun t' tk => ⟨.str (i ++ j), H, I.tok _, ⟨_, rfl⟩, q⟩) hz
theorem vals1 {x : V} {us : List Value} (r : Vals [x] us) : ∃ u, us = [u] /\ RelV x u := by
 cases r with
 | cons r1 r2 => cases r2; exact ⟨_, rfl, r1⟩
theorem vals2 {x y : V} {us : List Value} (r : Vals [x, y] us) : ∃ u w', us = [u, w'] /\ RelV x u /\ RelV y w' := by
 cases r with
 | cons r1 r2 =>
  cases r2 with
  | cons r3 r4 => cases r4; exact ⟨_, _, rfl, r1, r3⟩
theorem call_abs : CallR X (.builtin "abs") (fun xs H Q => ∃ i, xs = [.int i] /\ Q (.int (if i < 0 then -i else i)) H) := by
 intro pins s σ H xs us Q I r h
 obtain ⟨i, rfl, q⟩ := h
 obtain ⟨u, rfl, t, rfl⟩ := vals1 r
 exact call_abs_int fun u tk => ⟨.int (if i < 0 then -i else i), H, I.tok _, ⟨_, rfl⟩, q⟩
theorem call_min2 (hc : X.calm = true) : CallR X (.builtin "min") (fun xs H Q => ∃ i j, xs = [.int i, .int j] /\ Q (.int (if j < i then j else i)) H) := by
 intro pins s σ H xs us Q I r h
 obtain ⟨i, j, rfl, q⟩ := h
 obtain ⟨u, w', rfl, ⟨t, rfl⟩, ⟨t', rfl⟩⟩ := vals2 r
 refine min_two_ints (I.ok.hd hc) fun h' tk k => ⟨_, H, I.kept k, ?_, q⟩
 by_cases hj : j < i
 ·rw [if_pos hj, if_pos hj]; exact ⟨_, rfl⟩
 ·rw [if_neg hj, if_neg hj]; exact ⟨_, rfl⟩
theorem call_int1 : CallR X (.type "int") (fun xs H Q => (∃ i, xs = [.int i] /\ Q (.int i) H) ∨ ∃ k, xs = [.bl k] /\ Q (.int (if k then 1 else 0)) H) := by
 intro pins s σ H xs us Q I r h
 rcases h with ⟨i, rfl, q⟩ | ⟨k, rfl, q⟩
 ·obtain ⟨u, rfl, t, rfl⟩ := vals1 r
  exact call_int_int ⟨.int i, H, I, ⟨_, rfl⟩, q⟩
 ·obtain ⟨u, rfl, r1⟩ := vals1 r
  cases r1
  exact call_int_bool ⟨.int (if k then 1 else 0), H, I.tok _, ⟨_, rfl⟩, q⟩
theorem call_str_int : CallR X (.type "str") (fun xs H Q => ∃ i, xs = [.int i] /\ i.natAbs.log2 < 1920 /\ Q (.str (toString i)) H) := by
 intro pins s σ H xs us Q I r h
 obtain ⟨i, rfl, hz, q⟩ := h
 obtain ⟨u, rfl, t, rfl⟩ := vals1 r
 exact PySem.P.str_of_int hz ⟨.str _, H, I.tok _, ⟨_, rfl⟩, q⟩
end
structure ObjM (h : Heap) (x dx C : Addr) (mA : Str -> Option Value) : Prop where
 obj : h.get? x = some (PySem.W.instObj C dx)
 ns : h.Ns1 dx mA
 ne : dx ≠ x
theorem lookIn_ns {h : Heap} {dx : Addr} {mA : Str -> Option Value} (n : h.Ns1 dx mA) : ∃ od, h.get? dx = some od /\ ∀ name, PySem.W.lookIn name od = some (mA name) := by
 obtain ⟨o, es, ep, ho, hd, hk, _, hm⟩ := n
 refine ⟨o, ho, fun name => ?_⟩
 have e := hm name
 unfold nsFind findBy at e
 rw [<- Array.find?_toList] at e
 unfold PySem.W.lookIn
 rw [hd]
 dsimp only
 split
 ·rename_i y q
  rw [q] at e
  exact congrArg some e
 ·rename_i q
  rw [q] at e
  have a : es.toList.any (·.refKey) = false := by
   rw [List.any_eq_false]
   intro y hy
   obtain ⟨z, t, hkey⟩ := hk y (Array.mem_toList_iff.mp hy)
   simp [DictEntry.refKey, hkey]
  have a' : ¬ es.toList.any (·.refKey) = true := by rw [a]; exact Bool.false_ne_true
  rw [if_neg a']
  exact congrArg some e
theorem ObjM.look {h : Heap} {x dx C : Addr} {mA : Str -> Option Value} (I : ObjM h x dx C mA) : ∃ od, PySem.W.InstAt h x (PySem.W.instObj C dx) C (some od) /\ ∀ name, PySem.W.lookIn name od = some (mA name) :=
 let ⟨od, ho, hl⟩ := lookIn_ns I.ns
 ⟨od, ⟨I.obj, rfl, rfl, ho⟩, hl⟩
section
variable {prog : Program} {w : World} {A : Around} {E : Value -> Shared -> Prop} {s : Shared} {K : PySem.W.Frag} {x dx C f : Addr} {mA : Str -> Option Value} {name : Str} {v : Value}
end
theorem RelO.some_of {v : V} {o : Option Value} (r : RelO (some v) o) : ∃ u, o = some u /\ RelV v u := by
 cases o with
 | none => exact (show False from r).elim
 | some u => exact ⟨u, rfl, r⟩
section
variable {P : Program} {w : World} {H H' : Hp} {h h' : Heap} {a C dx : Addr} {fs fs' : List (Str × V)}
theorem ins_get (hok : HOk P w H h) (e : H a = some (.ins C dx fs)) : ∃ mA, ObjM h a dx C mA /\ (∀ f, RelO (fs.lookup f) (mA f)) /\ PySem.Within mA (fs.map (·.1)) /\ fs.length <= 1000 /\ H dx = some (.own a) := by
 obtain ⟨d, z, ne, ob, mA, n, r, q⟩ := (show ObjOk P w H h a (.ins C dx fs) from hok a _ e)
 exact ⟨mA, ⟨ob, n, ne⟩, r, q, z, d⟩
end
structure Cls (K : PySem.W.Frag) (C : Addr) : Prop where
 pg : PySem.W.plainGet K C Str.empty = true
 hd : PySem.W.hasDictIn K C = true
 po : PySem.W.plainOver K C = true
 sa : PySem.W.findIn K (.ref C) "__setattr__" = some (some (.builtin "object.__setattr__"))
theorem Cls.get {K : PySem.W.Frag} {C : Addr} (c : Cls K C) (f : Str) : PySem.W.plainGet K C f = true := c.pg
section
variable {X : Cx} {pins : List (Addr × Obj)} {σ : St} {H : Hp} {s : Shared} {a C dx : Addr} {fs : List (Str × V)} {f : Str} {v : V} {A : Around} {E : Value -> Shared -> Prop}
end
section
variable {X : Cx} {pins : List (Addr × Obj)} {σ : St} {H : Hp} {s : Shared} {A : Around} {E : Value -> Shared -> Prop} {Q : Value -> Shared -> Prop} {c : Value} {b : Bool}
inductive TyOf (K : PySem.W.Frag) (H : Hp) : V -> Value -> Prop where
 | non : TyOf K H .non (.type "NoneType")
 | bl (x : Bool) : TyOf K H (.bl x) (.type "bool")
 | int (i : Int) : TyOf K H (.int i) (.type "int")
 | str (x : Str) : TyOf K H (.str x) (.type "str")
 | flt (x : UInt64) : TyOf K H (.flt x) (.type "float")
 | lst {a : Addr} {xs : List V} (e : H a = some (.lst xs)) : TyOf K H (.ref a) (.type "list")
 | frz {a : Addr} {o : Obj} {xs : List V} (e : H a = some (.frz o (.lst xs))) : TyOf K H (.ref a) (.type "list")
 | tup {a : Addr} {xs : List V} (e : H a = some (.tup xs)) : TyOf K H (.ref a) (.type "tuple")
 | dK {a : Addr} {kvs : List (Key × V)} (e : H a = some (.dK kvs)) : TyOf K H (.ref a) (.type "dict")
 | dT {a : Addr} {kvs : List (List Key × V)} (e : H a = some (.dT kvs)) : TyOf K H (.ref a) (.type "dict")
 | ins {a C dx : Addr} {fs : List (Str × V)} (e : H a = some (.ins C dx fs)) (cl : Cls K C) (ha : PySem.W.findIn K (.ref C) "__class__" = some (some (.builtin "object.__class__")))
   (hn : PySem.W.specialIn K (.builtin "object.__class__") "__get__" = some (some (.builtin "getset_descriptor.__get__"))) (htk : PySem.W.takesIn K (.builtin "object.__class__") = some true)
   (hm : PySem.W.mroIn K C (.type "object") = some true) : TyOf K H (.ref a) (.ref C)
theorem isinst_ok {x : V} {u t : Value} (I : Inv X pins σ H s) (rx : RelV x u) (ty : TyOf X.K H x t) (e : PySem.W.kitOne X.K t c = some b) (h : ∀ tk, Q (.bool b) { s with toks := tk }) :
  wpAny (model X.prog X.w) A (call (.builtin "isinstance") [u, c]) Q E s := by
 cases ty with
 | non => cases (show u = Value.none from rx); exact PySem.W.kia_one PySem.W.kitx_none I.kIn True.intro e (fun z => nomatch z) h
 | bl y => cases (show u = Value.bool y from rx); exact PySem.W.kia_one PySem.W.kitx_bool I.kIn True.intro e (fun z => nomatch z) h
 | int i => obtain ⟨t, q⟩ := (show ∃ t, u = Value.int i t from rx); cases q; exact PySem.W.kia_one PySem.W.kitx_int I.kIn True.intro e (fun z => nomatch z) h
 | str y => obtain ⟨t, q⟩ := (show ∃ t, u = Value.str y t from rx); cases q; exact PySem.W.kia_one PySem.W.kitx_str I.kIn True.intro e (fun z => nomatch z) h
 | flt y => obtain ⟨t, q⟩ := (show ∃ t, u = Value.float y t from rx); cases q; exact PySem.W.kia_one PySem.W.kitx_float I.kIn True.intro e (fun z => nomatch z) h
 | @lst a xs ea =>
  cases (show u = Value.ref a from rx)
  obtain ⟨_, _, n, _, h1⟩ := (show ObjOk X.prog X.w H s.heap a (.lst xs) from I.hok a _ ea)
  exact PySem.W.kia_one PySem.W.kitx_list I.kIn ⟨_, h1, rfl⟩ e (fun z => nomatch z) h
 | @frz a ob xs ea =>
  cases (show u = Value.ref a from rx)
  obtain ⟨_, _, _, n, _, h1⟩ := (show ObjOk X.prog X.w H s.heap a (.frz ob (.lst xs)) from I.hok a _ ea)
  exact PySem.W.kia_one PySem.W.kitx_list I.kIn ⟨_, h1, rfl⟩ e (fun z => nomatch z) h
 | @tup a xs ea =>
  cases (show u = Value.ref a from rx)
  obtain ⟨_, _, _, p, _⟩ := (show ObjOk X.prog X.w H s.heap a (.tup xs) from I.hok a _ ea)
  obtain ⟨o, h1, h2, _⟩ := p
  exact PySem.W.kia_one PySem.W.kitx_tuple I.kIn ⟨o, h1, h2⟩ e (fun z => nomatch z) h
 | @dK a kvs ea =>
  cases (show u = Value.ref a from rx)
  obtain ⟨_, _, vs, _, p⟩ := (show ObjOk X.prog X.w H s.heap a (.dK kvs) from I.hok a _ ea)
  obtain ⟨o, es, ep, h1, h2, _⟩ := p
  exact PySem.W.kia_one PySem.W.kitx_dict I.kIn ⟨o, h1, h2.1⟩ e (fun z => nomatch z) h
 | @dT a kvs ea =>
  cases (show u = Value.ref a from rx)
  obtain ⟨_, _, xs, _, o, es, ep, h1, h2, _⟩ := (show ObjOk X.prog X.w H s.heap a (.dT kvs) from I.hok a _ ea)
  exact PySem.W.kia_one PySem.W.kitx_dict I.kIn ⟨o, h1, h2.1⟩ e (fun z => nomatch z) h
 | @ins a C dx fs ea cl ha hn htk hm =>
  cases (show u = Value.ref a from rx)
  obtain ⟨mA, O, _⟩ := ins_get I.hok ea
  obtain ⟨od, J, _⟩ := O.look
  exact PySem.W.kia_one (PySem.W.kitx_own (cl.get _) cl.hd ha hn htk hm) I.kIn J e (fun z => nomatch z) h
end
structure Room (k : Nat) (A : Around) : Prop where
 hd : A.handled = none
 dp : A.depth + 3 * k + 5 < recursionLimit
 un : A.units + 16 * k + 200 < cLine
 gd : A.guards = some []
theorem Room.mono {j k : Nat} {A : Around} (r : Room k A) (h : j <= k) : Room j A := ⟨r.hd, by have := r.dp; omega, by have := r.un; omega, r.gd⟩
theorem Room.deeper {k : Nat} {A : Around} (r : Room (k + 1) A) (env : Env) : Room k (A.deeper env) :=
 ⟨r.hd, by have := r.dp; show A.depth + 1 + 3 * k + 5 < _; omega, by have := r.un; show A.units + 3 + 16 * k + 200 < _; omega, r.gd⟩
theorem Room.depth {k : Nat} {A : Around} (r : Room k A) : A.depth < recursionLimit := by have := r.dp; omega
theorem Room.units {k : Nat} {A : Around} (r : Room k A) : A.units + 64 < cLine := by have := r.un; omega
def tNil : TA := fun _ H Q => Q [] H
def tCons (ta : TE) (tr : TA) : TA := fun σ H Q => ta σ H fun x H1 => tr σ H1 fun xs H2 => Q (x :: xs) H2
section
variable {X : Cx} {e : Expr} {es : List Expr} {te : TE} {t : TA} {pos : Pos}
theorem pa_nil : PA X [] tNil := fun _ _ _ _ H Q I h => Calls.spliced_nil ⟨[], H, I, .nil, h⟩
theorem pa_cons (ha : PE X e te) (hr : PA X es t) (hs : autoParam (starEach (e :: es) X.env = (false, eval e X.env) :: starEach es X.env) AutoP.a3._auto_1) : PA X (e :: es) (tCons te t) := by
 intro pos pins s σ H Q I h
 rw [hs]
 show wpAny _ _ (spliced ((false, eval e X.env) :: backTo pos (starEach es X.env))) _ _ s
 refine Calls.spliced_cons (thn (ha pins s σ H _ I h) fun u s1 ⟨x, H1, I1, r1, q1⟩ => ?_)
 exact thn (hr pos pins s1 σ H1 _ I1 q1) fun us s2 ⟨xs, H2, I2, r2, q2⟩ => ⟨x :: xs, H2, I2, .cons r1 r2, q2⟩
def tTup (t : TA) : TE := fun σ H Q => t σ H fun xs H1 => xs.length <= sizeLine /\ ∀ p, H1 p = none -> Q (.ref p) (upd H1 p (.tup xs))
def tLst (t : TA) : TE := fun σ H Q => t σ H fun xs H1 => xs.length <= sizeLine /\ ∀ p, H1 p = none -> Q (.ref p) (upd H1 p (.lst xs))
theorem pe_tup {x1} (h : PA X es t) : PE X (.Tuple es x1 pos) (tTup t) := by
 intro pins s σ H Q I hq
 refine wpAny_Tuple_spliced (thn (h pos pins s σ H _ I hq) fun us s1 ⟨xs, H1, I1, r, z, q⟩ => ⟨by rw [<- r.length]; exact z, ?_⟩)
 have hf : H1 s1.heap.objs.size = none := I1.hok.fresh (Nat.le_refl _)
 refine ⟨.ref s1.heap.objs.size, upd H1 s1.heap.objs.size (.tup xs), I1.laid (t' := s1.toks) (fun b u e => Heap.get?_push_of_some _ e) (Nat.le_refl _) ?_, rfl, q _ hf⟩
 exact ⟨z, us, r, ⟨_, Heap.get?_push_size _ rfl, rfl, _, rfl⟩, _, Heap.get?_push_size _ rfl, rfl⟩
theorem pe_lst (h : PA X es t) : PE X (.List es pos) (tLst t) := by
 intro pins s σ H Q I hq
 refine wpAny_List_spliced (thn (h pos pins s σ H _ I hq) fun us s1 ⟨xs, H1, I1, r, z, q⟩ => ⟨by rw [<- r.length]; exact z, ?_⟩)
 have hf : H1 s1.heap.objs.size = none := I1.hok.fresh (Nat.le_refl _)
 refine ⟨.ref s1.heap.objs.size, upd H1 s1.heap.objs.size (.lst xs), I1.laid (t' := s1.toks) (fun b u e => Heap.get?_push_of_some _ e) (Nat.le_refl _) ?_, rfl, q _ hf⟩
 exact ⟨z, us, 0, r, Heap.get?_push_size _ rfl⟩
end
abbrev Sp := List V -> Hp -> VK -> XK -> Prop
abbrev CXT := List Env -> Hp -> Shared -> XK -> Value -> Shared -> Prop
structure Env0 (P : Program) (w : World) (K : PySem.W.Frag) (mg : Str -> Option Value) (base : Heap) (A : Around) (outer : List Env) (s : Shared) (H : Hp) : Prop where
 frames : A.frames = some outer
 mod : Mod K mg base
 bs : ∀ b o, base.get? b = some o -> s.heap.get? b = some o /\ H b = none
 bsz : base.objs.size <= s.heap.objs.size
 funs : s.heap.FunFrames base outer
 frf : ∀ b ∈ frs outer, H b = none
 hok : HOk P w H s.heap
 bare : AllBare s.gens
def CE (outer : List Env) (P : Program) (w : World) (H : Hp) (s : Shared) (Q : VK) (u : Value) (s' : Shared) : Prop :=
 ∃ v H', s'.os = s.os /\ AllBare s'.gens /\ Un (frs outer) [] H H' s.heap s'.heap /\ HOk P w H' s'.heap /\ RelV v u /\ Q v H'
def CR (CX : CXT) (outer : List Env) (P : Program) (w : World) (H : Hp) (s : Shared) (Q : VK) (E : XK) (r : Result) (s' : Shared) : Prop :=
 match r with
 | .ok (.ret u) => CE outer P w H s Q u s'
 | .ok _ => False
 | .error e => CX outer H s E e s'
structure FnOk (P : Program) (w : World) (K : PySem.W.Frag) (mg : Str -> Option Value) (base : Heap) (CX : CXT) (k : Nat) (f : Addr) (fd : FuncData) (ps : List Str) (sp : Sp) : Prop where
 len : ∀ vs H Q E, sp vs H Q E -> vs.length = ps.length
 run : ∀ (A : Around) (outer : List Env) (s : Shared) (H : Hp) (args : Args) (us : List Value) (vs : List V) (Q : VK) (E : XK), Room k A -> Env0 P w K mg base A outer s H -> BindsTo s fd args (ps.zip us) -> Vals vs us -> sp vs H Q E →
  codeAny (model P w) A (.call (.ref f) args) (CR CX outer P w H s Q E) s
theorem FnOk.imp {P : Program} {w : World} {K : PySem.W.Frag} {mg : Str -> Option Value} {base : Heap} {CX : CXT} {k : Nat} {f : Addr} {fd : FuncData} {ps : List Str} {sp sp' : Sp} (F : FnOk P w K mg base CX k f fd ps sp)
  (h : ∀ vs H Q E, sp' vs H Q E -> sp vs H Q E) : FnOk P w K mg base CX k f fd ps sp' :=
 ⟨fun vs H Q E q => F.len vs H Q E (h _ _ _ _ q), fun A outer s H args us vs Q E hr he hb hv hs => F.run A outer s H args us vs Q E hr he hb hv (h _ _ _ _ hs)⟩
section
variable {X : Cx} {pins : List (Addr × Obj)} {σ : St} {H : Hp} {s s' : Shared}
theorem Inv.env0 (I : Inv X pins σ H s) : Env0 X.prog X.w X.K X.mg X.base X.A X.stack s H :=
 ⟨I.ok.frames, I.ok.mod, I.bs, Nat.le_trans I.ok.bsz I.sz, I.stack, I.stkFree, I.hok, I.bare⟩
theorem Inv.after {Q : VK} {u : Value} (I : Inv X pins σ H s) (h : CE X.stack X.prog X.w H s Q u s') : EP X pins σ Q u s' := by
 obtain ⟨v, H', os, bare, un, hok, r, q⟩ := h
 obtain ⟨hh, g, d, t, os'⟩ := s'
 obtain rfl : os' = s.os := os
 exact ⟨v, H', I.call (h' := hh) (g' := g) (d' := d) (t' := t) (ch := []) un hok bare (fun b z => absurd z (by simp)), r, q⟩
end
def tCall (sp : Sp) (dvs : List V) (E : XK) (t : TA) : TE := fun σ H Q => t σ H fun vs H1 => sp (vs ++ dvs) H1 Q E
def Binds (K : PySem.W.Frag) (fd : FuncData) (ps : List Str) (ds : List Value) : Prop :=
 ∀ (s : Shared) (us : List Value), K.In s.heap -> (us ++ ds).length = ps.length -> BindsTo s fd ⟨us, []⟩ (ps.zip (us ++ ds))
theorem Binds.all {K : PySem.W.Frag} {fd : FuncData} {ps : List Str} (h : ∀ us : List Value, us.length = ps.length -> bindArgs fd ⟨us, []⟩ = pure (ps.zip us)) : Binds K fd ps [] := fun s us _ hl => by
 rw [List.append_nil] at hl ⊢
 exact .of_eq (h us hl)
def Passes (CX : CXT) (X : Cx) (E : XK) : Prop := ∀ (pins : List (Addr × Obj)) (σ : St) (H : Hp) (s : Shared) (e : Value) (s' : Shared), Inv X pins σ H s -> CX X.stack H s E e s' -> X.xe e s'
section
variable {X : Cx} {CX : CXT} {k : Nat} {f C : Addr} {fd : FuncData} {ps : List Str} {sp : Sp} {dvs : List V} {ds : List Value} {E : XK} {x m : Str} {p pos apos : Pos} {e o : Expr} {es : List Expr} {ta : TE} {t : TA}
theorem run_fn {pins : List (Addr × Obj)} {σ : St} {H : Hp} {s : Shared} {Q : VK} {us : List Value} {vs : List V} (F : FnOk X.prog X.w X.K X.mg X.base CX k f fd ps sp) (hr : Room k X.A) (hb : Binds X.K fd ps ds) (hd : Vals dvs ds) (hx : Passes CX X E)
  (I : Inv X pins σ H s) (r : Vals vs us) (h : sp (vs ++ dvs) H Q E) : wpAny (model X.prog X.w) X.A (call (.ref f) us) (EP X pins σ Q) X.xe s := by
 have r2 : Vals (vs ++ dvs) (us ++ ds) := r.append hd
 have hl : (us ++ ds).length = ps.length := by rw [<- r2.length]; exact F.len _ _ _ _ h
 refine wpAny_call (codeAny_mono (F.run X.A X.stack s H ⟨us, []⟩ (us ++ ds) (vs ++ dvs) Q E hr I.env0 (hb s us I.kIn hl) r2 h) fun r s' hq => ?_)
 cases r with
 | error e => exact hx pins σ H s e s' I hq
 | ok fl =>
  cases fl with
  | ret u => exact I.after hq
  | next => exact False.elim hq
  | brk => exact False.elim hq
  | cont => exact False.elim hq
theorem pe_call (F : FnOk X.prog X.w X.K X.mg X.base CX k f fd ps sp) (hr : Room k X.A) (hg : Gl X x) (hm : X.mg x = some (.ref f)) (hk : PySem.W.keepIn X.K (.ref f) = true) (hb : Binds X.K fd ps ds) (hd : Vals dvs ds) (hx : Passes CX X E)
  (ha : PA X (e :: es) t) (hdb : autoParam ((x == ("__debug__" : Str)) = false) AutoP.a1._auto_1) (he : autoParam (starEach (e :: es) X.env = (false, eval e X.env) :: starEach es X.env) AutoP.a3._auto_1) (hpl : autoParam ((backTo pos (starEach es X.env)).any (·.1) = false) AutoP.a3._auto_1) :
  PE X (.Call (.Name x p) (e :: es) [] pos) (tCall sp dvs E t) := by
 intro pins s σ H Q I h
 refine wpAny_Call_Name_kw (ld_glob I hg hm ?_ hdb)
 refine PySem.W.callWith_K (h₀ := X.base) I.ok.mod.kin hk (thn (ha pos pins s σ H _ I h) fun us s1 ⟨vs, H1, I1, r, q⟩ => ⟨I1.kIn, ?_⟩) he hpl
 exact run_fn F hr hb hd hx I1 r q
end
structure FnScope (N P : List Str) (sc : Scope) : Prop where
 kind : sc.kind = .function
 co : sc.isCoroutine = false
 gen : sc.isGenerator = false
 nd : N.Nodup
 pre : N.take P.length = P
 par : ∀ x ∈ P, sc.names.lookup x = some .local ∨ sc.names.lookup x = some .cell
 nofree : ∀ y ∈ sc.names, y.2 ≠ .free
theorem bindL_out {kindOf : Str -> Option NameKind} {x : Str} : ∀ {binds : List (Str × Value)} {m : Str -> Option Value}, (∀ v, (x, v) ∉ binds) -> bindL kindOf binds m x = m x
 | [], _, _ => rfl
 | (n, v) :: r, m, h => by
  unfold bindL
  rw [bindL_out fun w hw => h w (List.mem_cons_of_mem _ hw)]
  split
  ·have : x ≠ n := by rintro rfl; exact h v List.mem_cons_self
   simp [this]
  ·rfl
theorem bindC_out {kindOf : Str -> Option NameKind} {x : Str} : ∀ {binds : List (Str × Value)} {m : Str -> Option Value}, (∀ v, (x, v) ∉ binds) -> bindC kindOf binds m x = m x
 | [], _, _ => rfl
 | (n, v) :: r, m, h => by
  unfold bindC
  rw [bindC_out fun w hw => h w (List.mem_cons_of_mem _ hw)]
  split
  ·rfl
  ·have : x ≠ n := by rintro rfl; exact h v List.mem_cons_self
   simp [this]
theorem bindL_get {kindOf : Str -> Option NameKind} {x : Str} {v : Value} : ∀ {P : List Str} {vs : List Value} {i : Nat} {m : Str -> Option Value}, P.Nodup -> P[i]? = some x -> vs[i]? = some v -> kindOf x = some .local →
  bindL kindOf (P.zip vs) m x = some v
 | [], _, _, _, _, h, _, _ => by simp at h
 | _ :: _, [], _, _, _, _, h, _ => by simp at h
 | p :: P, w :: vs, 0, m, nd, h1, h2, hk => by
  simp at h1 h2; subst h1; subst h2
  show bindL kindOf ((p, w) :: P.zip vs) m p = _
  unfold bindL
  rw [bindL_out fun v hv => (List.nodup_cons.mp nd).1 (List.of_mem_zip hv).1, if_pos hk]
  simp
 | p :: P, w :: vs, i + 1, m, nd, h1, h2, hk => by
  show bindL kindOf ((p, w) :: P.zip vs) m x = _
  unfold bindL
  exact bindL_get (i := i) (List.nodup_cons.mp nd).2 (by simpa using h1) (by simpa using h2) hk
theorem bindC_get {kindOf : Str -> Option NameKind} {x : Str} {v : Value} : ∀ {P : List Str} {vs : List Value} {i : Nat} {m : Str -> Option Value}, P.Nodup -> P[i]? = some x -> vs[i]? = some v -> kindOf x ≠ some .local →
  bindC kindOf (P.zip vs) m x = some v
 | [], _, _, _, _, h, _, _ => by simp at h
 | _ :: _, [], _, _, _, _, h, _ => by simp at h
 | p :: P, w :: vs, 0, m, nd, h1, h2, hk => by
  simp at h1 h2; subst h1; subst h2
  show bindC kindOf ((p, w) :: P.zip vs) m p = _
  unfold bindC
  rw [bindC_out fun v hv => (List.nodup_cons.mp nd).1 (List.of_mem_zip hv).1, if_neg hk]
  simp
 | p :: P, w :: vs, i + 1, m, nd, h1, h2, hk => by
  show bindC kindOf ((p, w) :: P.zip vs) m x = _
  unfold bindC
  exact bindC_get (i := i) (List.nodup_cons.mp nd).2 (by simpa using h1) (by simpa using h2) hk
def start (N : List Str) (vs : List V) : St := vs.map some ++ List.replicate (N.length - vs.length) none
def cxOf (CX : CXT) (P : Program) (w : World) (K : PySem.W.Frag) (mg : Str -> Option Value) (base : Heap) (N : List Str) (qual : Str) (scope : Scope) (f : Addr) (cd : Value) (A : Around) (outer : List Env) (s : Shared) (H : Hp) (E : XK) : Cx where
 prog := P
 w := w
 K := K
 mg := mg
 base := base
 A := A.deeper (envOfC qual scope s.heap.objs.size f cd)
 N := N
 s₀ := s
 H₀ := H
 env := envOfC qual scope s.heap.objs.size f cd
 outer := outer
 stack := envOfC qual scope s.heap.objs.size f cd :: outer
 ex := []
 calm := true
 fn := fun _ => true
 pn := []
 xe := fun e s' => wpAny (model P w) (A.deeper (envOfC qual scope s.heap.objs.size f cd)) (leaving (envOfC qual scope s.heap.objs.size f cd) e) (fun _ s'' => CX outer H s E e s'') (fun e' s'' => CX outer H s E e' s'') s'
theorem cell_has {sc : Scope} {n : Nat} {x : Str} (h : sc.names.lookup x = some .cell) : ∃ c, (cellsFrom n sc.names []).lookup x = some c := by
 have q := PySem.W.cellsFrom_some sc.names n [] (.inl h)
 exact Option.isSome_iff_exists.mp q
theorem inv_start {CX : CXT} {P : Program} {w : World} {K : PySem.W.Frag} {mg : Str -> Option Value} {base : Heap} {N ps : List Str} {qual : Str} {scope : Scope} {f : Addr} {cd : Value} {A : Around} {outer : List Env} {s s1 : Shared} {H : Hp} {E : XK} {us : List Value} {vs : List V}
  (S : FnScope N ps scope) (hd : A.handled = none) (e0 : Env0 P w K mg base A outer s H) (hl : vs.length = ps.length) (r : Vals vs us)
  (x : InCallC s s.heap.objs.size (bindL (envOfC qual scope s.heap.objs.size f cd).kindOf (ps.zip us) fun _ => none) (cellsFrom (s.heap.objs.size + 1) scope.names []) (bindC (envOfC qual scope s.heap.objs.size f cd).kindOf (ps.zip us) fun _ => none) s1) :
  Inv (cxOf CX P w K mg base N qual scope f cd A outer s H E) [] (start N vs) H s1 := by
 have hpl : ps.length <= N.length := by have := congrArg List.length S.pre; rw [List.length_take] at this; omega
 obtain ⟨h1, tk, rfl, hk⟩ := x.done
 have noA : ∀ b : Addr, b ∉ (cxOf CX P w K mg base N qual scope f cd A outer s H E).ex := fun b z => absurd (show b ∈ ([] : List Addr) from z) (by simp)
 refine ⟨⟨e0.mod, S.kind, rfl, rfl, Nat.le_refl _, fun y z c h1 h2 => ?_, fun y hy => ?_, fun y c _ h => ?_, fun _ => hd, Around.frames_deeper e0.frames, .inr ⟨rfl, rfl⟩, fun b z => absurd z (noA b), e0.bs, e0.bsz, fun b _ _ => noA b, fun b z => absurd z (noA b), e0.funs, e0.frf⟩,
  rfl, e0.bare, Un.kept hk, ⟨_, x.toInCall.ns, fun i y v h1 h2 h3 => ?_⟩, fun y c h => ⟨_, x.cell y c h⟩, e0.hok.fresh (Nat.le_refl _), fun y c h => ?_, fun p hp => absurd (show p ∈ ([] : List (Addr × Obj)) from hp) (by simp), e0.hok.kept hk, ?_⟩
 ·exact name_of_addr x.apart (PySem.mem_of_lookup h1) (PySem.mem_of_lookup h2)
 ·have hy : scope.names.lookup y = some .cell ∨ scope.names.lookup y = some .free := hy
  rcases hy with hy | hy
  ·exact cell_has hy
  ·exact absurd rfl (S.nofree _ (PySem.mem_of_lookup hy))
 ·exact Nat.le_of_lt (x.above y c (PySem.mem_of_lookup h))
 ·have hi : i < vs.length := by
   unfold start at h2
   by_cases hi : i < vs.length
   ·exact hi
   ·rw [List.getElem?_append_right (by simpa using hi)] at h2
    rw [List.getElem?_replicate] at h2
    split at h2 <;> cases h2
  have ha : vs[i]? = some v := by
   unfold start at h2
   rw [List.getElem?_append_left (by simpa using hi), List.getElem?_map] at h2
   cases e : vs[i]? with
   | none => rw [e] at h2; cases h2
   | some a => rw [e] at h2; cases h2; rfl
  obtain ⟨u, hu, rv⟩ := r.get ha
  have hp : ps[i]? = some y := by
   rw [<- S.pre, List.getElem?_take_of_lt (by omega)]; exact h1
  have ndP : ps.Nodup := by rw [<- S.pre]; exact S.nd.sublist (List.take_sublist _ _)
  refine ⟨u, rv, ?_⟩
  rcases S.par y (List.mem_of_getElem? hp) with k | k
  ·exact .inl ⟨k, bindL_get ndP hp hu k⟩
  ·obtain ⟨c, e⟩ := cell_has (n := s.heap.objs.size + 1) k
   refine .inr ⟨.inl k, c, e, ?_⟩
   have q := x.cell y c e
   rw [bindC_get ndP hp hu (by show scope.names.lookup y ≠ _; rw [k]; decide)] at q
   exact q
 ·exact e0.hok.fresh (Nat.le_of_lt (x.above y c (PySem.mem_of_lookup h)))
 ·unfold start
  show _ = N.length
  rw [List.length_append, List.length_map, List.length_replicate]
  omega
theorem fn_of {CX : CXT} {P : Program} {w : World} {K : PySem.W.Frag} {mg : Str -> Option Value} {base : Heap} {k : Nat} {f : Addr} {name qual : Str} {params : Arguments} {body : List Stmt} {scope : Scope} {dV kV doc pm cdv ct oc : Value} {an od : Option Addr}
  {osl : Array (Option Value)} {N ps : List Str} {sp : Sp} (lk : K.lookup f = some ⟨oc, od, .func (PySem.W.fnOf name qual params body scope dV kV doc pm an cdv ct), osl⟩) (hcd : PySem.W.codeIn K cdv qual = true) (S : FnScope N ps scope)
  (len : ∀ vs H Q E, sp vs H Q E -> vs.length = ps.length)
  (hbody : ∀ (A : Around) (outer : List Env) (s : Shared) (H : Hp) (vs : List V) (Q : VK) (E : XK), Room k (A.deeper (envOfC qual scope s.heap.objs.size f cdv)) -> sp vs H Q E →
   ∃ t, PSs (cxOf CX P w K mg base N qual scope f cdv A outer s H E) body t /\ t { nx := fun _ H' => Q .non H', rt := Q } (start N vs) H) :
  FnOk P w K mg base CX (k + 1) f (PySem.W.fnOf name qual params body scope dV kV doc pm an cdv ct) ps sp := by
 refine ⟨len, fun A outer s H args us vs Q E hr e0 hb r hsp => ?_⟩
 have hl := len _ _ _ _ hsp
 have KX : K.In s.heap := e0.mod.kin.keeps fun b o e => (e0.bs b o e).1
 have lim : s.heap.NoLimit := e0.mod.nolimit.keeps fun b o e => (e0.bs b o e).1
 have hkind : ∀ y ∈ ps.zip us, scope.names.lookup y.1 = some .local ∨ (scope.names.lookup y.1 = some .cell /\ ((cellsFrom (s.heap.objs.size + 1) scope.names []).lookup y.1).isSome = true) := fun ⟨n, v⟩ hy => by
  rcases S.par n (List.of_mem_zip hy).1 with q | q
  ·exact .inl q
  ·exact .inr ⟨q, PySem.W.cellsFrom_some _ _ _ (.inl q)⟩
 refine codeAny_call_function hr.depth (KX _ _ lk) rfl S.co S.gen rfl (PySem.W.codeRec_of KX hcd) (hb _ _ _ _ ?_)
 refine wpAny_newFunctionEnv_cells S.kind hkind fun env he s1 x => ?_
 subst he
 refine ⟨lim.keeps x.toInCall.keep, codeAny_func ?_⟩
 obtain ⟨t, ht, hq⟩ := hbody A outer s H vs Q E (hr.deeper _) hsp
 have I : Inv (cxOf CX P w K mg base N qual scope f cdv A outer s H E) [] (start N vs) H s1 := inv_start S hr.hd e0 hl r x
 refine wpAny_mono (ht [] s1 (start N vs) H _ I hq) (fun fl s' hs => ?_) fun e s' hs => hs
 have fin : ∀ {σ' : St} {H' : Hp} {v : V} {u : Value}, Inv (cxOf CX P w K mg base N qual scope f cdv A outer s H E) [] σ' H' s' -> RelV v u -> Q v H' -> CE outer P w H s Q u s' :=
  fun {σ' H' v u} J rv q => ⟨v, H', J.os, J.bare, J.base, J.hok, rv, q⟩
 cases fl with
 | ret u =>
  obtain ⟨v, σ', H', J, rv, q⟩ := hs
  exact fin J rv q
 | next =>
  obtain ⟨σ', H', J, q⟩ := hs
  exact fin (v := V.non) (u := Value.none) J rfl q
 | brk =>
  obtain ⟨_, _, _, q⟩ := hs
  exact False.elim q
 | cont =>
  obtain ⟨_, _, _, q⟩ := hs
  exact False.elim q
section
variable {X : Cx} {x : Str} {p pos : Pos} {e : Expr} {es : List Expr} {t : TA} {id T : String} {r : List V -> Hp -> VK -> Prop}
def tCB (r : List V -> Hp -> VK -> Prop) (t : TA) : TE := fun σ H Q => t σ H fun vs H1 => r vs H1 Q
theorem pe_callB (hc : CallR X (.builtin id) r) (hg : Gl X x) (hm : X.mg x = none) (hv : bootBuiltins x = some (.builtin id)) (ha : PA X (e :: es) t) (hn : autoParam (x ≠ "__name__") AutoP.a1._auto_1) (hdb : autoParam ((x == ("__debug__" : Str)) = false) AutoP.a1._auto_1)
  (he : autoParam (starEach (e :: es) X.env = (false, eval e X.env) :: starEach es X.env) AutoP.a3._auto_1) (hpl : autoParam ((backTo pos (starEach es X.env)).any (·.1) = false) AutoP.a3._auto_1) : PE X (.Call (.Name x p) (e :: es) [] pos) (tCB r t) := by
 intro pins s σ H Q I h
 refine wpAny_Call_Name_kw (ld_blt I hg hm hv ?_ hn hdb)
 exact PyProof.Rows.callWith_builtin1 (thn (ha pos pins s σ H _ I h) fun us s1 ⟨vs, H1, I1, r1, q1⟩ => hc pins s1 σ H1 vs us Q I1 r1 q1) he hpl
theorem pe_callTy (hc : CallR X (.type T) r) (hg : Gl X x) (hm : X.mg x = none) (hv : bootBuiltins x = some (.type T)) (ha : PA X (e :: es) t) (hn : autoParam (x ≠ "__name__") AutoP.a1._auto_1) (hdb : autoParam ((x == ("__debug__" : Str)) = false) AutoP.a1._auto_1)
  (he : autoParam (starEach (e :: es) X.env = (false, eval e X.env) :: starEach es X.env) AutoP.a3._auto_1) (hpl : autoParam ((backTo pos (starEach es X.env)).any (·.1) = false) AutoP.a3._auto_1) : PE X (.Call (.Name x p) (e :: es) [] pos) (tCB r t) := by
 intro pins s σ H Q I h
 refine wpAny_Call_Name_kw (ld_blt I hg hm hv ?_ hn hdb)
 exact PyProof.Rows.callWith_type1 (thn (ha pos pins s σ H _ I h) fun us s1 ⟨vs, H1, I1, r1, q1⟩ => hc pins s1 σ H1 vs us Q I1 r1 q1) he hpl
end
end L2
namespace HT
open PySem PyProof.Rows
section
open PySem.SeqAt
open PySem.AutoSeq1 (wpAny_loadPart')
open PySem.MeetsSeq PySem.MeetsSeq2 PySem.MeetsSeq3
end
section
variable {prog : Program} {w : World} {A : Around} {E : Value -> Shared -> Prop} {s : Shared}
theorem cat_tup {t b : Addr} {vs ws : List Value} {Q : Value -> Shared -> Prop} (ht : IsTup s.heap t vs.toArray) (hb : IsTup s.heap b ws.toArray) (hv : vs ≠ [])
  (h1 : ws = [] -> Q (.ref t) s) (h2 : ws ≠ [] -> Q (.ref s.heap.objs.size) { s with heap := s.heap.push { cls := .type "tuple", data := .seq (vs ++ ws).toArray } })
  (hsz : vs.length + ws.length <= sizeLine) : wpAny (model prog w) A (binaryOp .Add (.ref t) (.ref b)) Q E s := by
 obtain ⟨⟨cls, dd, data, sl⟩, ho, hc, n, hd⟩ := id ht
 obtain ⟨⟨cls2, dd2, data2, sl2⟩, ho2, hc2, n2, hd2⟩ := id hb
 simp only at hc hd hc2 hd2
 subst hc hd hc2 hd2
 have e : vs.toArray ++ ws.toArray = (vs ++ ws).toArray := by simp
 by_cases hw : ws = []
 ·exact concat_meets ⟨_, ho, rfl⟩ ⟨_, ho2, rfl⟩ noFill_tuple_add seq_tuple_add PySem.F.slot_tuple_add PySem.F.entry_tuple_add (PySem.F.args_tuple_add_2 _ _)
   (tuple_addW1 t b vs.toArray ws.toArray n n2 dd dd2 sl sl2 (by simpa using hv) (by simp [hw])) ⟨ho, ho2, h1 hw⟩
 ·refine concat_meets ⟨_, ho, rfl⟩ ⟨_, ho2, rfl⟩ noFill_tuple_add seq_tuple_add PySem.F.slot_tuple_add PySem.F.entry_tuple_add (PySem.F.args_tuple_add_2 _ _)
   (tuple_addW2 t b vs.toArray ws.toArray n n2 dd dd2 sl sl2 (by simpa using hv) (by simpa using hw) (by rw [List.size_toArray, List.size_toArray]; exact hsz)) ⟨ho, ho2, ?_⟩
  rw [e]
  exact h2 hw
def sIx (n d : Nat) : Option Int -> Nat
 | none => d
 | some v => if v < 0 then (v + (n : Int)).toNat else min v.toNat n
theorem sIx_none (n d : Nat) : sIx n d none = d := rfl
theorem sIx_nat (n d k : Nat) : sIx n d (some (k : Int)) = min k n := by
 show (if (k : Int) < 0 then ((k : Int) + (n : Int)).toNat else min (k : Int).toNat n) = min k n
 rw [if_neg (by omega), Int.toNat_natCast]
theorem sIx_le (n d : Nat) (hd : d <= n) (o : Option Int) : sIx n d o <= n := by
 cases o with
 | none => exact hd
 | some v =>
  show (if v < 0 then (v + (n : Int)).toNat else min v.toNat n) <= n
  by_cases hv : v < 0
  ·rw [if_pos hv]; omega
  ·rw [if_neg hv]; exact Nat.min_le_right _ _
theorem clip_eq (v : Int) (n d : Nat) : (if v < 0 then max (v + (n : Int)) 0 else min v (n : Int)) = ((sIx n d (some v) : Nat) : Int) := by
 show (if v < 0 then max (v + (n : Int)) 0 else min v (n : Int)) = (((if v < 0 then (v + (n : Int)).toNat else min v.toNat n) : Nat) : Int)
 by_cases hv : v < 0
 ·simp only [if_pos hv]; omega
 ·simp only [if_neg hv]; omega
theorem adjust_gen (lo hi : Option Int) (n : Nat) : Builtin.Slice.sliceAdjust lo hi 1 (n : Int) = (((sIx n 0 lo : Nat) : Int), ((sIx n n hi : Nat) : Int)) := by
 have h1 : ¬ ((1 : Int) < 0) := by omega
 unfold Builtin.Slice.sliceAdjust
 simp only [h1, if_false]
 refine Prod.ext ?_ ?_
 ·cases lo with
  | none => rfl
  | some v => exact clip_eq v n 0
 ·cases hi with
  | none => rfl
  | some v => exact clip_eq v n n
theorem places_gen (i j : Nat) : Builtin.Slice.slicePlaces (i : Int) (j : Int) 1 = j - i := by
 unfold Builtin.Slice.slicePlaces
 have h1 : (1 : Int) > 0 := by omega
 simp only [h1, if_true, Int.ediv_one]
 split <;> omega
theorem slicePart_ {v : Value} {o : Option Int} {Q : Option Int -> Shared -> Prop} (p : IsPart v o) (h : Q o s) : wpAny (model prog w) A (Builtin.Slice.slicePartIndex v) Q E s := by
 cases p with
 | none => exact slicePart_none h
 | int i t => exact slicePart_int h
theorem sliceApplied_gen {sl : Addr} {vl vu : Value} {lo hi : Option Int} {n : Nat} {Q : Int × Int × Nat -> Shared -> Prop} (hs : s.heap.IsSliceOf sl vl vu .none) (pl : IsPart vl lo) (pu : IsPart vu hi)
  (h : Q (((sIx n 0 lo : Nat) : Int), 1, sIx n n hi - sIx n 0 lo) s) : wpAny (model prog w) A (Builtin.Slice.sliceApplied (.ref sl) (pure (n : Int))) Q E s := by
 obtain ⟨os, hos, hcs, hds⟩ := id hs
 unfold Builtin.Slice.sliceApplied Builtin.Slice.sliceFields
 refine wpAny_bind (wpAny_bind (wpAny_field hos hds (x := vl) rfl (wpAny_bind (wpAny_field hos hds (x := vu) rfl (wpAny_bind (wpAny_field hos hds (x := .none) rfl (wpAny_pure ?_)))))))
 refine wpAny_bind (slicePart_none ?_)
 show wpAny _ _ (if ((1 : Int) == 0) = true then _ else _) _ _ s
 rw [if_neg (by decide)]
 refine wpAny_bind (slicePart_ pl (wpAny_bind (slicePart_ pu (wpAny_bind (wpAny_pure ?_)))))
 show wpAny _ _ (match Builtin.Slice.sliceAdjust lo hi 1 (n : Int) with | (lo, hi) => pure (lo, (1 : Int), Builtin.Slice.slicePlaces lo hi 1)) _ _ s
 rw [adjust_gen lo hi n]
 show wpAny _ _ (pure (((sIx n 0 lo : Nat) : Int), (1 : Int), Builtin.Slice.slicePlaces ((sIx n 0 lo : Nat) : Int) ((sIx n n hi : Nat) : Int) 1)) _ _ s
 rw [places_gen]
 exact wpAny_pure h
theorem pick_gen (xs : Array Value) (i k : Nat) : ((List.range k).filterMap fun (m : Nat) => xs[((i : Int) + (m : Int) * 1).toNat]?).toArray = ((xs.toList.drop i).take k).toArray := by
 have e : (fun (m : Nat) => xs[((i : Int) + (m : Int) * 1).toNat]?) = fun m => xs[i + m]? := by
  funext m
  have : ((i : Int) + (m : Int) * 1).toNat = i + m := by omega
  rw [this]
 rw [e]
 have := pick_run xs i k
 rw [List.filterMap_map] at this
 have e2 : ((fun x => xs[x]?) ∘ fun x => i + x) = fun m => xs[i + m]? := rfl
 rw [e2] at this
 rw [this]
theorem getItem_tuple_cut {t sl : Addr} {items : Array Value} {vl vu : Value} {lo hi : Option Int} {Q : Value -> Shared -> Prop} (ht : IsTup s.heap t items) (hs : s.heap.IsSliceOf sl vl vu .none) (pl : IsPart vl lo) (pu : IsPart vu hi)
  (hw : ¬ (sIx items.size 0 lo = 0 /\ sIx items.size items.size hi = items.size))
  (h : Q (.ref s.heap.objs.size) { s with heap := s.heap.push { cls := .type "tuple", data := .seq ((items.toList.drop (sIx items.size 0 lo)).take (sIx items.size items.size hi - sIx items.size 0 lo)).toArray } })
  (hsz : items.size <= sizeLine) : wpAny (model prog w) A (getItem (.ref t) (.ref sl)) Q E s := by
 have htake : sizeOk (.seq ((items.toList.drop (sIx items.size 0 lo)).take (sIx items.size items.size hi - sIx items.size 0 lo)).toArray) := by
  show ((items.toList.drop (sIx items.size 0 lo)).take (sIx items.size items.size hi - sIx items.size 0 lo)).toArray.size <= sizeLine
  rw [List.size_toArray, List.length_take, List.length_drop, Array.length_toList]
  omega
 have hj : sIx items.size items.size hi <= items.size := sIx_le _ _ (Nat.le_refl _) hi
 obtain ⟨os, hos, hcs, hds⟩ := id hs
 have hTs : s.TypeIs (.ref sl) "slice" := ⟨os, hos, hcs⟩
 unfold getItem
 try with_reducible refine wpAny_holding ?_
 first | refine wpAny_bind (wpAny_pure ?_) | skip
 refine wpAny_bind (wpAny_sequenceKey ht.typeIs (by decide) ?_)
 refine wpAny_bind (wpAny_callSpecial?_slot (name := Str.ofString "__getitem__") ht.typeIs PyProof.Rows.slot_tuple_getitem
  (wpAny_call_entry PyProof.Rows.slot_tuple_getitem ht.typeIs entry_tuple_getitem ?_ (args_tuple_getitem _ _)))
 show wpAny _ _ (Builtin.Tuple.tupleItemsOf (.ref t) >>= _) _ _ s
 refine wpAny_bind (tupleItemsOf_ ht ?_)
 refine wpAny_bind (wpAny_typeOf hTs ?_)
 rw [if_pos (by decide)]
 refine wpAny_bind (sliceApplied_gen hs pl pu ?_)
 have hno : ¬ ((((sIx items.size 0 lo : Nat) : Int) == 0 && (1 : Int) == 1 && (sIx items.size items.size hi - sIx items.size 0 lo) == items.size) = true) := by
  intro q
  rw [Bool.and_eq_true, Bool.and_eq_true] at q
  have q1 : ((sIx items.size 0 lo : Nat) : Int) = 0 := eq_of_beq q.1.1
  have q2 : sIx items.size items.size hi - sIx items.size 0 lo = items.size := eq_of_beq q.2
  exact hw ⟨by omega, by omega⟩
 show wpAny _ _ (if (((sIx items.size 0 lo : Nat) : Int) == 0 && (1 : Int) == 1 && (sIx items.size items.size hi - sIx items.size 0 lo) == items.size) = true then _ else _) _ _ s
 rw [if_neg hno, pick_gen]
 first
  | exact wpAny_bind (m := Builtin.Tuple.tupleExact _) (wpAny_newObj_type (wpAny_pure ⟨_, rfl, wpAny_pure h⟩) htake)
  | exact wpAny_bind (m := Builtin.Tuple.tupleExact _) (wpAny_newObj_type (wpAny_bind (wpAny_pure (wpAny_pure ⟨_, rfl, wpAny_pure h⟩))) htake)
  | exact wpAny_bind (wpAny_bind (m := Builtin.Tuple.tupleExact _) (wpAny_newObj_type (wpAny_pure (wpAny_pure ⟨_, rfl, wpAny_pure h⟩)) htake))
  | exact wpAny_bind (wpAny_bind (m := Builtin.Tuple.tupleExact _) (wpAny_newObj_type (wpAny_pure ⟨_, rfl, wpAny_pure h⟩) htake))
end
end HT
namespace L2
open PySem PySem.Spec PyProof.Rows
abbrev TO := St -> Hp -> (Option Int -> Hp -> Prop) -> Prop
def PO (X : Cx) (e : Option Expr) (t : TO) : Prop :=
 ∀ (pins : List (Addr × Obj)) (s : Shared) (σ : St) (H : Hp) (Q : Option Int -> Hp -> Prop), Inv X pins σ H s -> t σ H Q →
  wpAny (model X.prog X.w) X.A (evalPart e X.env) (fun u s' => ∃ o H', Inv X pins σ H' s' /\ IsPart u o /\ Q o H') X.xe s
def tNoPart : TO := fun _ H Q => Q none H
def tPart (t : TE) : TO := fun σ H Q => t σ H fun x H1 => ∃ i, x = .int i /\ Q (some i) H1
section
variable {X : Cx} {e : Expr} {te : TE} {lo hi : Option Expr} {tl th : TO} {pos p2 : Pos}
theorem po_none : PO X none tNoPart := by
 intro pins s σ H Q I h
 rw [evalPart_none]
 exact wpAny_pure ⟨none, H, I, .none, h⟩
theorem po_some (h : PE X e te) : PO X (some e) (tPart te) := by
 intro pins s σ H Q I hw
 rw [evalPart_some]
 refine thn (h pins s σ H _ I hw) fun u s1 ⟨x, H1, I1, r1, q1⟩ => ?_
 obtain ⟨i, rfl, q⟩ := q1
 obtain ⟨t, rfl⟩ := r1
 exact ⟨some i, H1, I1, .int i t, q⟩
def SlR (X : Cx) (r : V -> Option Int -> Option Int -> Hp -> VK -> Prop) : Prop :=
 ∀ (pins : List (Addr × Obj)) (s : Shared) (σ : St) (H : Hp) (x : V) (v vl vu : Value) (lo hi : Option Int) (sl : Addr) (Q : VK), Inv X pins σ H s -> RelV x v -> s.heap.IsSliceOf sl vl vu .none -> IsPart vl lo -> IsPart vu hi -> r x lo hi H Q →
  ∃ T id, typeLookup (.type T) "__getitem__" = pure (some (.builtin id)) /\ s.TypeIs v T /\ wpAny (model X.prog X.w) X.A (getItem v (.ref sl)) (EP X pins σ Q) X.xe s
theorem SlR.or {r r' : V -> Option Int -> Option Int -> Hp -> VK -> Prop} (h : SlR X r) (h' : SlR X r') : SlR X (fun x lo hi H Q => r x lo hi H Q ∨ r' x lo hi H Q) := by
 intro pins s σ H x v vl vu lo hi sl Q I rx hs pl pu q
 rcases q with q | q
 ·exact h pins s σ H x v vl vu lo hi sl Q I rx hs pl pu q
 ·exact h' pins s σ H x v vl vu lo hi sl Q I rx hs pl pu q
def tSl (r : V -> Option Int -> Option Int -> Hp -> VK -> Prop) (te : TE) (tl th : TO) : TE := fun σ H Q => te σ H fun x H1 => tl σ H1 fun l H2 => th σ H2 fun u H3 => r x l u H3 Q
theorem pe_slice {r : V -> Option Int -> Option Int -> Hp -> VK -> Prop} (hr : SlR X r) (he : PE X e te) (hl : PO X lo tl) (hu : PO X hi th) : PE X (.Subscript e (.Slice lo hi none p2) pos) (tSl r te tl th) := by
 intro pins s σ H Q I h
 refine Subscript_ (thn (he pins s σ H _ I h) fun v s1 ⟨x, H1, I1, r1, q1⟩ => ?_)
 refine wpAny_Slice (thn (hl pins s1 σ H1 _ I1 q1) fun vl s2 ⟨l, H2, I2, pl, q2⟩ => thn (hu pins s2 σ H2 _ I2 q2) fun vu s3 ⟨u, H3, I3, pu, q3⟩ => ?_)
 rw [evalPart_none]
 refine wpAny_pure ?_
 have I4 : Inv X pins σ H3 { s3 with heap := s3.heap.push { cls := .type "slice", data := .fields #[vl, vu, .none] } } := I3.kept (t' := s3.toks) fun b ob q => Heap.get?_push_of_some _ q
 obtain ⟨T, id, hT, ht, hg⟩ := hr pins { s3 with heap := s3.heap.push { cls := .type "slice", data := .fields #[vl, vu, .none] } } σ H3 x v vl vu l u s3.heap.objs.size Q I4 r1 (Heap.IsSliceOf.new ..) pl pu q3
 show wpAny (model X.prog X.w) X.A (subscriptTail e (.Slice lo hi none p2) v (.ref s3.heap.objs.size)) (EP X pins σ Q) X.xe { s3 with heap := s3.heap.push { cls := .type "slice", data := .fields #[vl, vu, .none] } }
 exact tail_any (ops := [.ref s3.heap.objs.size, v]) ht hT hg (by with_unfolding_all rfl)
def cutV (xs : List V) (lo hi : Option Int) : List V := (xs.drop (HT.sIx xs.length 0 lo)).take (HT.sIx xs.length xs.length hi - HT.sIx xs.length 0 lo)
theorem cutV_length (xs : List V) (lo hi : Option Int) : (cutV xs lo hi).length <= xs.length := by
 unfold cutV
 rw [List.length_take, List.length_drop]
 omega
def rSlT (K : PySem.W.Frag) : V -> Option Int -> Option Int -> Hp -> VK -> Prop := fun x lo hi H Q => ∃ a xs, x = .ref a /\ SqT K H a xs ∧
 ¬ (HT.sIx xs.length 0 lo = 0 /\ HT.sIx xs.length xs.length hi = xs.length) /\ ∀ p, H p = none -> Q (.ref p) (upd H p (.tup (cutV xs lo hi)))
theorem sl_tup : SlR X (rSlT X.K) := by
 intro pins s σ H x v vl vu lo hi sl Q I rx hs pl pu h
 obtain ⟨a, xs, rfl, hx, hw, q⟩ := h
 cases rx
 obtain ⟨its, r, ht, hz⟩ := I.tuple hx
 have hlen : its.toArray.size = xs.length := by rw [List.size_toArray]; exact r.length.symm
 refine ⟨"tuple", _, PyProof.Rows.slot_tuple_getitem.lookup, ht.typeIs, ?_⟩
 refine HT.getItem_tuple_cut ht hs pl pu (by rw [hlen]; exact hw) ?_ (by rw [hlen]; exact hz)
 rw [hlen]
 refine ⟨.ref s.heap.objs.size, _, I.laid (t' := s.toks) (o := .tup (cutV xs lo hi)) (fun b ob q => Heap.get?_push_of_some _ q) (Nat.le_refl _) ?_, rfl, q _ (I.hok.fresh (Nat.le_refl _))⟩
 exact ⟨Nat.le_trans (cutV_length xs lo hi) hz, _, (r.drop (HT.sIx xs.length 0 lo)).take (HT.sIx xs.length xs.length hi - HT.sIx xs.length 0 lo), IsTup.new _ _, _, Heap.get?_push_size _ rfl, rfl⟩
def rCatT (K : PySem.W.Frag) : R2 := fun x y H Q => ∃ a b xs ys, x = .ref a /\ y = .ref b /\ SqT K H a xs /\ SqT K H b ys /\ xs ≠ [] /\ xs.length + ys.length <= sizeLine ∧
 (ys = [] -> Q (.ref a) H) /\ (ys ≠ [] -> ∀ p, H p = none -> Q (.ref p) (upd H p (.tup (xs ++ ys))))
theorem Vals.nil_iff {xs : List V} {us : List Value} (r : Vals xs us) : us = [] ↔ xs = [] := by
 cases r with
 | nil => simp
 | cons _ _ => simp
theorem op_catT : OpR X (binaryOp .Add) (rCatT X.K) := by
 intro pins s σ H x y v u Q I rx ry h
 obtain ⟨a, b, xs, ys, rfl, rfl, ha, hb, hx, hz, q1, q2⟩ := h
 cases rx
 cases ry
 obtain ⟨its, r1, p1, _⟩ := I.tuple ha
 obtain ⟨its2, r2, p2, _⟩ := I.tuple hb
 refine HT.cat_tup p1 p2 (fun z => hx (r1.nil_iff.mp z)) (fun z => ⟨.ref a, H, I, rfl, q1 (r2.nil_iff.mp z)⟩) (fun z => ?_) (by rw [<- r1.length, <- r2.length]; exact hz)
 refine ⟨.ref s.heap.objs.size, _, I.laid (t' := s.toks) (o := .tup (xs ++ ys)) (fun b ob q => Heap.get?_push_of_some _ q) (Nat.le_refl _) ?_, rfl, q2 (fun w => z (r2.nil_iff.mpr w)) _ (I.hok.fresh (Nat.le_refl _))⟩
 exact ⟨by rw [List.length_append]; exact hz, _, r1.append r2, IsTup.new _ _, _, Heap.get?_push_size _ rfl, rfl⟩
end
def ixN (n : Nat) (i : Int) : Option Nat := if 0 <= i then (if i < n then some i.toNat else none) else if -(n : Int) <= i then some (i + n).toNat else none
def atI {α : Type} (xs : List α) (i : Int) : Option α := (ixN xs.length i).bind fun j => xs[j]?
theorem ixN_seq {n : Nat} {i : Int} {j : Nat} (h : ixN n i = some j) : seqIndex? i n = some j /\ j < n /\ -(n : Int) <= i /\ i < n := by
 unfold ixN at h
 by_cases h0 : 0 <= i
 ·rw [if_pos h0] at h
  by_cases h1 : i < n
  ·rw [if_pos h1] at h
   have e : i.toNat = j := Option.some.inj h
   exact ⟨by rw [seqIndex_of h0 h1, e], by omega, by omega, h1⟩
  ·rw [if_neg h1] at h; cases h
 ·rw [if_neg h0] at h
  by_cases h1 : -(n : Int) <= i
  ·rw [if_pos h1] at h
   have e : (i + n).toNat = j := Option.some.inj h
   exact ⟨by rw [seqIndex_neg (by omega) h1, e], by omega, h1, by omega⟩
  ·rw [if_neg h1] at h; cases h
theorem atI_get {α : Type} {xs : List α} {i : Int} {v : α} (h : atI xs i = some v) : ∃ j, seqIndex? i xs.length = some j /\ xs[j]? = some v /\ j < xs.length /\ -(xs.length : Int) <= i /\ i < xs.length := by
 unfold atI at h
 cases e : ixN xs.length i with
 | none => rw [e] at h; cases h
 | some j =>
  rw [e] at h
  obtain ⟨h1, h2, h3, h4⟩ := ixN_seq e
  exact ⟨j, h1, h, h2, h3, h4⟩
def PlainIx (b : Expr) : Prop := ∀ o i, subscripted b false o i = operate [o, i] (getItem o i)
def IxR (X : Cx) (r : R2) : Prop :=
 ∀ (value slice : Expr) (pins : List (Addr × Obj)) (s : Shared) (σ : St) (H : Hp) (x y : V) (v u : Value) (Q : VK), Inv X pins σ H s -> RelV x v -> RelV y u -> r x y H Q →
  subscripted slice false v u = operate [v, u] (getItem v u) -> wpAny (model X.prog X.w) X.A (subscriptTail value slice v u) (EP X pins σ Q) X.xe s
def MtR (X : Cx) (id : String) (r : V -> List V -> Hp -> VK -> Prop) : Prop :=
 ∀ (pins : List (Addr × Obj)) (s : Shared) (σ : St) (H : Hp) (x : V) (xs : List V) (v : Value) (us : List Value) (Q : VK), Inv X pins σ H s -> RelV x v -> Vals xs us -> r x xs H Q →
  wpAny (model X.prog X.w) X.A (call (.builtin id) (v :: us)) (EP X pins σ Q) X.xe s
section
variable {X : Cx} {a b : Expr} {ta tb : TE} {pos : Pos}
theorem IxR.or {r r' : R2} (h : IxR X r) (h' : IxR X r') : IxR X (fun x y H Q => r x y H Q ∨ r' x y H Q) := by
 intro value slice pins s σ H x y v u Q I rx ry q hs
 rcases q with q | q
 ·exact h value slice pins s σ H x y v u Q I rx ry q hs
 ·exact h' value slice pins s σ H x y v u Q I rx ry q hs
theorem pe_ix {r : R2} (hr : IxR X r) (ha : PE X a ta) (hb : PE X b tb) (hs : PlainIx b) : PE X (.Subscript a b pos) (tOp r ta tb) := by
 intro pins s σ H Q I h
 exact Subscript_ (binT ha hb I h fun v u s2 x y H2 I2 rx ry q => hr a b pins s2 σ H2 x y v u Q I2 rx ry q (hs _ _))
def rIxL (K : PySem.W.Frag) : R2 := fun x y H Q => ∃ p xs i v, x = .ref p /\ y = .int i /\ SqL K H p xs /\ atI xs i = some v /\ Q v H
def rIxT (K : PySem.W.Frag) : R2 := fun x y H Q => ∃ p xs i v, x = .ref p /\ y = .int i /\ SqT K H p xs /\ atI xs i = some v /\ Q v H
def rIxS : R2 := fun x y H Q => ∃ z i c, x = .str z /\ y = .int i /\ z.length <= sizeLine /\ atI z.cps.toList i = some c /\ Q (.str ⟨#[c]⟩) H
theorem ix_list : IxR X (rIxL X.K) := by
 intro value slice pins s σ H x y v u Q I rx ry h hs
 obtain ⟨p, xs, i, z, rfl, rfl, hq, he, q⟩ := h
 cases rx
 obtain ⟨t, rfl⟩ := ry
 obtain ⟨its, r, pl, hz⟩ := I.list hq
 obtain ⟨j, h1, h2, h3, h4, h5⟩ := atI_get he
 obtain ⟨w, ew, rw'⟩ := r.get h2
 have hl := r.length
 have hn := line63
 have fin : EP X pins σ Q w s := ⟨z, H, I, rw', q⟩
 by_cases h0 : 0 <= i
 ·have hj : i.toNat = j := by
   rw [seqIndex_of h0 h5] at h1
   exact Option.some.inj h1
  exact item_listR pl.isList h0 (by omega) (by rw [hj]; simpa using ew) fin hs
 ·have hj : (i + (its.toArray.size : Int)).toNat = j := by
   rw [seqIndex_neg (by omega) h4] at h1
   rw [List.size_toArray, <- hl]
   exact Option.some.inj h1
  exact subscriptTail_builtinR (x := w) pl.isList.typeIs slot_list_getitem.lookup
   (wpAny_getItem_list_neg (Q := fun r s' => r = w /\ EP X pins σ Q r s') pl.isList (by omega) (by rw [List.size_toArray] <;> omega) (by omega) (by rw [hj]; simpa using ew) ⟨rfl, fin⟩) hs
theorem ix_tup : IxR X (rIxT X.K) := by
 intro value slice pins s σ H x y v u Q I rx ry h hs
 obtain ⟨p, xs, i, z, rfl, rfl, hq, he, q⟩ := h
 cases rx
 obtain ⟨t, rfl⟩ := ry
 obtain ⟨its, r, pl, hz⟩ := I.tuple hq
 obtain ⟨j, h1, h2, h3, h4, h5⟩ := atI_get he
 obtain ⟨w, ew, rw'⟩ := r.get h2
 have hl := r.length
 have hn := line63
 have fin : EP X pins σ Q w s := ⟨z, H, I, rw', q⟩
 exact subscriptTail_builtinR (x := w) pl.typeIs slot_tuple_getitem.lookup
  (getItem_tuple (j := j) (Q := fun r s' => r = w /\ EP X pins σ Q r s') pl (by omega) (by omega) (by rw [List.size_toArray, <- hl]; exact h1) (by simpa using ew) ⟨rfl, fin⟩) hs
theorem ix_str : IxR X rIxS := by
 intro value slice pins s σ H x y v u Q I rx ry h hs
 obtain ⟨z, i, c, rfl, rfl, hz, he, q⟩ := h
 obtain ⟨t, rfl⟩ := rx
 obtain ⟨t', rfl⟩ := ry
 obtain ⟨j, h1, h2, h3, h4, h5⟩ := atI_get he
 have hl : z.cps.toList.length = z.length := by simp [Str.length]
 rw [hl] at h1 h4 h5
 have hn := line63
 exact tail_any (typeIs_str s z t) slot_str_getitem.lookup (getItem_str (c := c) (by
  have e1 : decide (i < -(2 ^ 63 : Int)) = false := decide_eq_false (by omega)
  have e2 : decide (i ≥ 2 ^ 63) = false := decide_eq_false (by omega)
  rw [e1, e2, Bool.or_false]) (by rw [h1]; simpa using h2) ⟨.str ⟨#[c]⟩, H, I.tok _, ⟨_, rfl⟩, q⟩) hs
def rIx (K : PySem.W.Frag) : R2 := fun x y H Q => rIxL K x y H Q ∨ rIxT K x y H Q ∨ rIxS x y H Q
theorem ix_seq : IxR X (rIx X.K) := ix_list.or (ix_tup.or ix_str)
theorem mapSeq_set (its : List Value) (n j : Nat) (u : Value) : Obj.mapSeq (·.setIfInBounds j u) { cls := .type "list", data := .seq its.toArray n } = { cls := .type "list", data := .seq (its.set j u).toArray n } := by
 simp [Obj.mapSeq]
theorem Inv.lst {pins : List (Addr × Obj)} {σ : St} {H : Hp} {s : Shared} {p : Addr} {xs : List V} (I : Inv X pins σ H s) (h : H p = some (.lst xs)) :
  ∃ (its : List Value) (n : Nat), Vals xs its /\ s.heap.get? p = some { cls := .type "list", data := .seq its.toArray n } /\ xs.length <= sizeLine := by
 obtain ⟨z, its, n, r, e⟩ := I.hok p _ h
 exact ⟨its, n, r, e, z⟩
theorem Inv.lstUpd {pins : List (Addr × Obj)} {σ : St} {H : Hp} {s : Shared} {p : Addr} {xs ys : List V} {its its' : List Value} {n n' : Nat} {f : Obj -> Obj} (I : Inv X pins σ H s) (h : H p = some (.lst xs))
  (ho : s.heap.get? p = some { cls := .type "list", data := .seq its.toArray n }) (hf : f { cls := .type "list", data := .seq its.toArray n } = { cls := .type "list", data := .seq its'.toArray n' }) (r : Vals ys its') (hz : ys.length <= sizeLine) (t : Nat) :
  Inv X pins σ (upd H p (.lst ys)) { s with heap := s.heap.update p f, toks := t } := by
 have e : (s.heap.update p f).get? p = some { cls := .type "list", data := .seq its'.toArray n' } := by
  rw [Heap.get?_update_self f ho (by rw [hf] <;> rfl), hf]
 refine I.write (x := p) (e := p) (by rw [h]; trivial) (.inl rfl) (fun b u hb q => (Heap.get?_update_other _ _ (Ne.symm hb)).trans q) ⟨_, e⟩ ?_
 exact ⟨hz, its', n', r, e⟩
def rSetL : V -> V -> V -> Hp -> (Hp -> Prop) -> Prop := fun o i v H Q => ∃ p xs k j, o = .ref p /\ i = .int k /\ H p = some (.lst xs) /\ ixN xs.length k = some j /\ Q (upd H p (.lst (xs.set j v)))
theorem set_list : PSet X rSetL := by
 intro pins s σ H o i v ov iv u Q I ro ri rv h
 obtain ⟨p, xs, k, j, rfl, rfl, hp, hj, q⟩ := h
 cases ro
 obtain ⟨t, rfl⟩ := ri
 obtain ⟨its, n, r, ho, hz⟩ := I.lst hp
 obtain ⟨h1, h2, h3, h4⟩ := ixN_seq hj
 have hl := r.length
 have hn := line63
 have I' : Inv X pins σ (upd H p (.lst (xs.set j v))) { s with heap := s.heap.update p (Obj.mapSeq (·.setIfInBounds j u)) } :=
  I.lstUpd hp ho (mapSeq_set its n j u) (r.set rv j) (by rw [List.length_set]; exact hz) s.toks
 by_cases h0 : 0 <= k
 ·have hk : k.toNat = j := by
   rw [seqIndex_of h0 h4] at h1
   exact Option.some.inj h1
  exact PySem.W.ki_setAt ho h0 (by omega) (by rw [List.size_toArray, <- hl]; exact h4) (by rw [hk]; exact ⟨_, I', q⟩)
 ·have hk : (k + (its.toArray.size : Int)).toNat = j := by
   rw [seqIndex_neg (by omega) h3] at h1
   rw [List.size_toArray, <- hl]
   exact Option.some.inj h1
  exact PySem.W.ki_setBack ho (by omega) (by rw [List.size_toArray, <- hl]; exact h3) (by omega) (by rw [hk]; exact ⟨_, I', q⟩)
theorem slice_bounds (lo hi : Option Int) (n : Nat) : (sliceBounds lo hi none n).1 = ((HT.sIx n 0 lo : Nat) : Int) /\ (sliceBounds lo hi none n).2.1 = ((HT.sIx n n hi : Nat) : Int) /\ (sliceBounds lo hi none n).2.2 = 1 := by
 refine ⟨?_, ?_, rfl⟩
 ·cases lo with
  | none => simp [sliceBounds, HT.sIx]
  | some i =>
   simp only [sliceBounds, HT.sIx, Option.getD_none, show (1 : Int) > 0 by decide, if_true]
   by_cases h : i < 0
   ·simp only [h, if_true] <;> omega
   ·simp only [h, if_false] <;> omega
 ·cases hi with
  | none => simp [sliceBounds, HT.sIx]
  | some i =>
   simp only [sliceBounds, HT.sIx, Option.getD_none, show (1 : Int) > 0 by decide, if_true]
   by_cases h : i < 0
   ·simp only [h, if_true] <;> omega
   ·simp only [h, if_false] <;> omega
theorem slicePick_cut (its : List Value) (lo hi : Option Int) : slicePick its.toArray lo hi none = ((its.drop (HT.sIx its.length 0 lo)).take (HT.sIx its.length its.length hi - HT.sIx its.length 0 lo)).toArray := by
 obtain ⟨h1, h2, h3⟩ := slice_bounds lo hi its.toArray.size
 unfold slicePick
 rw [h1, h2, h3]
 simp only [sliceRange_one, pick_run, List.size_toArray] <;> rfl
def rSlL (K : PySem.W.Frag) : V -> Option Int -> Option Int -> Hp -> VK -> Prop := fun x lo hi H Q => ∃ a xs, x = .ref a /\ SqL K H a xs /\ ∀ p, H p = none -> Q (.ref p) (upd H p (.lst (cutV xs lo hi)))
theorem sl_list : SlR X (rSlL X.K) := by
 intro pins s σ H x v vl vu lo hi sl Q I rx hs pl pu h
 obtain ⟨a, xs, rfl, hx, q⟩ := h
 cases rx
 obtain ⟨its, r, ht, hz⟩ := I.list hx
 have hlen := r.length
 refine ⟨"list", _, slot_list_getitem.lookup, ht.isList.typeIs, ?_⟩
 refine wpAny_getItem_list_slice ht.isList hs pl pu .none (by simp) ?_ (by rw [List.size_toArray] <;> omega)
 rw [slicePick_cut, <- hlen]
 refine ⟨.ref s.heap.objs.size, _, I.laid (t' := s.toks) (o := .lst (cutV xs lo hi)) (fun b ob q => Heap.get?_push_of_some _ q) (Nat.le_refl _) ?_, rfl, q _ (I.hok.fresh (Nat.le_refl _))⟩
 exact ⟨Nat.le_trans (cutV_length xs lo hi) hz, _, 0, (r.drop (HT.sIx xs.length 0 lo)).take (HT.sIx xs.length xs.length hi - HT.sIx xs.length 0 lo), Heap.get?_push_size _ rfl⟩
theorem call_len_seq : CallR X (.builtin "len") (fun xs H Q => ∃ p ys, xs = [.ref p] /\ (SqL X.K H p ys ∨ SqT X.K H p ys) /\ Q (.int ys.length) H) := by
 intro pins s σ H xs us Q I r h
 obtain ⟨p, ys, rfl, hq, q⟩ := h
 obtain ⟨u, rfl, rx⟩ := vals1 r
 cases rx
 have hn := line63
 rcases hq with hq | hq
 ·obtain ⟨its, r', pl, hz⟩ := I.list hq
  have hlen := r'.length
  exact Calls.call_len_list pl.isList (by simp only [List.size_toArray] <;> omega) ⟨.int ys.length, H, I.tok _, ⟨s.toks + 1, by rw [List.size_toArray, hlen]⟩, q⟩
 ·obtain ⟨its, r', pl, hz⟩ := I.tuple hq
  have hlen := r'.length
  exact len_tuple pl (by simp only [List.size_toArray] <;> omega) ⟨.int ys.length, H, I.tok _, ⟨s.toks + 1, by rw [List.size_toArray, hlen]⟩, q⟩
theorem call_len_str : CallR X (.builtin "len") (fun xs H Q => ∃ z, xs = [.str z] /\ z.length <= sizeLine /\ Q (.int z.length) H) := by
 intro pins s σ H xs us Q I r h
 obtain ⟨z, rfl, hz, q⟩ := h
 obtain ⟨u, rfl, t, rfl⟩ := vals1 r
 have hn := line63
 exact len_str (by omega) ⟨.int z.length, H, I.tok _, ⟨_, rfl⟩, q⟩
theorem CallR.or {f : Value} {r r' : List V -> Hp -> VK -> Prop} (h : CallR X f r) (h' : CallR X f r') : CallR X f (fun xs H Q => r xs H Q ∨ r' xs H Q) := by
 intro pins s σ H xs us Q I rs q
 rcases q with q | q
 ·exact h pins s σ H xs us Q I rs q
 ·exact h' pins s σ H xs us Q I rs q
theorem call_tuple_of : CallR X (.type "tuple") (fun xs H Q => ∃ p ys, xs = [.ref p] /\ ((SqL X.K H p ys /\ ∀ l, H l = none -> Q (.ref l) (upd H l (.tup ys))) ∨ (SqT X.K H p ys /\ Q (.ref p) H))) := by
 intro pins s σ H xs us Q I r h
 obtain ⟨p, ys, rfl, h⟩ := h
 obtain ⟨u, rfl, rx⟩ := vals1 r
 cases rx
 rcases h with ⟨hq, q⟩ | ⟨hq, q⟩
 ·obtain ⟨its, r', pl, hz⟩ := I.list hq
  have hlen := r'.length
  refine call_tuple_list pl.isList (fun h' kp => ?_) (by simp only [List.size_toArray] <;> omega)
  have I1 : Inv X pins σ H { s with heap := h' } := I.kept (t' := s.toks) kp
  have I2 : Inv X pins σ (upd H h'.objs.size (.tup ys)) { s with heap := h'.push { cls := .type "tuple", data := .seq its.toArray } } :=
   I1.laid (t' := s.toks) (fun b o e => Heap.get?_push_of_some _ e) (Nat.le_refl _) (show ObjOk X.prog X.w _ _ _ (.tup ys) from ⟨hz, its, r', IsTup.new _ _, _, Heap.get?_push_size _ rfl, rfl⟩)
  exact ⟨.ref h'.objs.size, _, I2, rfl, q _ (I1.hok.fresh (Nat.le_refl _))⟩
 ·obtain ⟨its, r', pl, hz⟩ := I.tuple hq
  exact call_tuple_same pl ⟨.ref p, H, I, rfl, q⟩
def tyV (K : PySem.W.Frag) (T : String) (x : V) (H : Hp) : Prop := match x with
 | .str _ => T = "str"
 | .int _ => T = "int"
 | .ref p => (T = "list" /\ ∃ xs, SqL K H p xs) ∨ (T = "tuple" /\ ∃ o, K.lookup p = some o /\ o.cls = .type "tuple" /\ o.dict = none) ∨
   (T = "dict" /\ ((∃ kvs, H p = some (.dK kvs)) ∨ ∃ kvs, H p = some (.dT kvs))) ∨ (T = "set" /\ ∃ S n, H p = some (.set S n))
 | _ => False
theorem tyV_is {pins : List (Addr × Obj)} {σ : St} {H : Hp} {s : Shared} {T : String} {x : V} {v : Value} (I : Inv X pins σ H s) (r : RelV x v) (ty : tyV X.K T x H) :
  s.TypeIs v T /\ ∀ a, v = .ref a -> ∃ ob, s.heap.get? a = some ob /\ ob.dict = none := by
 cases x with
 | str z =>
  obtain ⟨t, rfl⟩ := r
  cases (show T = "str" from ty)
  exact ⟨typeIs_str s z t, fun _ e => nomatch e⟩
 | int i =>
  obtain ⟨t, rfl⟩ := r
  cases (show T = "int" from ty)
  exact ⟨typeIs_int s i t, fun _ e => nomatch e⟩
 | ref p =>
  cases r
  rcases ty with ⟨rfl, xs, hq⟩ | ⟨rfl, o, hk, hc, hd⟩ | ⟨rfl, hk⟩ | ⟨rfl, S, n, hk⟩
  ·obtain ⟨its, _, pl, _⟩ := I.list hq
   refine ⟨pl.isList.typeIs, fun a e => ?_⟩
   cases e
   obtain ⟨o, n, e, c, hd, _⟩ := pl
   exact ⟨o, e, hd⟩
  ·refine ⟨⟨o, I.kIn p o hk, hc⟩, fun a e => ?_⟩
   cases e
   exact ⟨o, I.kIn _ o hk, hd⟩
  ·have z : ∃ o, s.heap.get? p = some o /\ o.ExactDict := by
    rcases hk with ⟨kvs, hk⟩ | ⟨kvs, hk⟩
    ·obtain ⟨_, _, _, _, o, _, _, e, ex, _⟩ := I.hok p _ hk
     exact ⟨o, e, ex⟩
    ·obtain ⟨_, _, _, _, o, _, _, e, ex, _⟩ := I.hok p _ hk
     exact ⟨o, e, ex⟩
   obtain ⟨o, e, ex⟩ := z
   refine ⟨⟨o, e, ex.1⟩, fun a e2 => ?_⟩
   cases e2
   exact ⟨o, e, ex.2.1⟩
  ·obtain ⟨o, _, _, _, e, ex, _⟩ := I.hok p _ hk
   refine ⟨⟨o, e, ex.1⟩, fun a e2 => ?_⟩
   cases e2
   exact ⟨o, e, ex.2.1⟩
 | _ => exact False.elim ty
def tBM (K : PySem.W.Frag) (T : String) (r : V -> List V -> Hp -> VK -> Prop) (to : TE) (t : TA) : TE := fun σ H Q => to σ H fun x H1 => tyV K T x H1 /\ t σ H1 fun xs H2 => r x xs H2 Q
variable {o e : Expr} {es : List Expr} {to : TE} {t : TA} {name : Str} {apos cpos : Pos} {T id : String} {r : V -> List V -> Hp -> VK -> Prop}
theorem pe_bm (pa : PlainAttrs T) (slot : Slot T name id) (hty : typeOf (.builtin id) = pure (.type "method_descriptor")) (hm : MtR X id r) (ho : PE X o to) (ha : PA X (e :: es) t)
  (hbase : autoParam (attributeBase o name X.env (eval o X.env) = eval o X.env) AutoP.a3._auto_1)
  (hfew : autoParam (((backTo cpos (starEach (e :: es) X.env)).all (fun x => !x.1) && (backToKw cpos (keywordEach [] X.env)).all (fun x => x.1.isSome)
   && decide ((e :: es).length + ([] : List Keyword).length + (if ([] : List Keyword).isEmpty then 0 else 1) < 30)) = true) AutoP.a3._auto_1)
  (hline : autoParam ((apos.endLine == cpos.line) = true) AutoP.a3._auto_1) (hs : autoParam (starEach (e :: es) X.env = (false, eval e X.env) :: starEach es X.env) AutoP.a3._auto_1) (hplain : autoParam ((backTo cpos (starEach es X.env)).any (·.1) = false) AutoP.a3._auto_1) :
  PE X (.Call (.Attribute o name apos) (e :: es) [] cpos) (tBM X.K T r to t) := by
 intro pins s σ H Q I h
 refine wpAny_Call_method_late hbase hfew hline rfl (thn (ho pins s σ H _ I h) fun v s1 ⟨x, H1, I1, r1, ty, q1⟩ => ?_)
 obtain ⟨h1, h2⟩ := tyV_is I1 r1 ty
 refine ⟨T, id, pa, slot, hty, h1, h2, ?_⟩
 have hA := ha cpos pins s1 σ H1 _ I1 q1
 rw [hs] at hA ⊢
 refine Calls.callWith_builtin (by show (false || (backTo cpos (starEach es X.env)).any (·.1)) = false; rw [hplain] <;> rfl) (Calls.evalArgs_plain ?_)
 exact thn hA fun us s2 ⟨vs, H2, I2, r2, q2⟩ => hm pins s2 σ H2 x vs v us Q I2 r1 r2 q2
/- xs.append(e), list.index on a module's tuple .. are MtR facts of 06m -/
end
def MtM (X : Cx) (id : String) (r : V -> List V -> Hp -> VK -> Prop) : Prop :=
 ∀ (pins : List (Addr × Obj)) (s : Shared) (σ : St) (H : Hp) (x : V) (xs : List V) (v : Value) (us : List Value) (Q : VK), Inv X pins σ H s -> RelV x v -> Vals xs us -> r x xs H Q →
  wpAny (model X.prog X.w) X.A (call (.builtin id) (v :: us)) (EP X pins σ Q) X.xe s
theorem Vals.one : ∀ {x : V} {us : List Value}, Vals [x] us -> ∃ u, us = [u] /\ RelV x u
 | _, _, .cons r .nil => ⟨_, rfl, r⟩
theorem Vals.eraseIdx : ∀ {xs : List V} {us : List Value} (i : Nat), Vals xs us -> Vals (xs.eraseIdx i) (us.eraseIdx i)
 | _, _, _, .nil => .nil
 | _, _, 0, .cons _ t => t
 | _, _, i + 1, .cons r t => .cons r (Vals.eraseIdx i t)
theorem len_erase {α : Type} : ∀ (l : List α) (i : Nat), (l.eraseIdx i).length <= l.length
 | [], _ => Nat.le_refl _
 | _ :: _, 0 => Nat.le_succ _
 | _ :: r, i + 1 => Nat.succ_le_succ (len_erase r i)
section
variable {X : Cx} {pins : List (Addr × Obj)} {σ : St} {H : Hp} {s : Shared} {l b : Addr} {xs ys zs : List V}
theorem Inv.lset {its its' : List Value} {n : Nat} {f : Array Value -> Array Value} {t' : Nat} (I : Inv X pins σ H s) (hH : H l = some (.lst xs))
  (e : s.heap.get? l = some { cls := .type "list", data := .seq its.toArray n }) (hf : f its.toArray = its'.toArray) (hv : Vals ys its') (hz : ys.length <= sizeLine) :
  Inv X pins σ (upd H l (.lst ys)) { s with heap := s.heap.update l (Obj.mapSeq f), toks := t' } := by
 have q := PySem.IsL.update e f
 rw [hf] at q
 refine I.write (x := l) (e := l) (by rw [hH]; exact trivial) (.inl rfl) (fun b' u hb hu => (Heap.get?_update_other s.heap (Obj.mapSeq f) (Ne.symm hb)).trans hu) ⟨_, q⟩ ?_
 exact ⟨hz, its', _, hv, q⟩
theorem Inv.lnew {its : List Value} {t' : Nat} (I : Inv X pins σ H s) (hv : Vals ys its) (hz : ys.length <= sizeLine) :
  Inv X pins σ (upd H s.heap.objs.size (.lst ys)) { s with heap := s.heap.push { cls := .type "list", data := .seq its.toArray }, toks := t' } :=
 I.laid (fun _ _ q => Heap.get?_push_of_some _ q) (Nat.le_refl _) ⟨hz, its, 0, hv, Heap.get?_push_size _ rfl⟩
theorem Inv.fresh (I : Inv X pins σ H s) : H s.heap.objs.size = none := I.hok.fresh (Nat.le_refl _)
theorem Inv.lstM (I : Inv X pins σ H s) (hH : H l = some (.lst xs)) : xs.length <= sizeLine /\ ∃ (its : List Value) (n : Nat), Vals xs its /\ xs.length = its.length /\ s.heap.get? l = some { cls := .type "list", data := .seq its.toArray n } := by
 obtain ⟨z, its, n, r, e⟩ := I.hok l _ hH
 exact ⟨z, its, n, r, r.length, e⟩
end
section
variable {X : Cx}
def rAppend : V -> List V -> Hp -> VK -> Prop := fun x vs H Q => ∃ l xs y, x = .ref l /\ vs = [y] /\ H l = some (.lst xs) /\ xs.length < sizeLine /\ Q .non (upd H l (.lst (xs ++ [y])))
theorem mt_append : MtM X "list.append" rAppend := by
 intro pins s σ H x vs v us Q I rx rv h
 obtain ⟨l, xs, y, rfl, rfl, hH, hz, q⟩ := h
 cases rx
 obtain ⟨u, rfl, ru⟩ := rv.one
 obtain ⟨z, its, n, r, hl, e⟩ := I.lstM hH
 refine call_meets F.slot_list_append ⟨_, e, rfl⟩ F.entry_list_append (F.args_list_append_2 _ _) (PySem.list_append l its.toArray n u (by rw [List.size_toArray]; omega)) ⟨e, ?_⟩
 refine ⟨.non, _, I.lset (its' := its ++ [u]) hH e (by simp) (r.append (.cons ru .nil)) ?_, rfl, q⟩
 rw [List.length_append, List.length_singleton]
 omega
def rPopAt : V -> List V -> Hp -> VK -> Prop := fun x vs H Q => ∃ l xs i k y, x = .ref l /\ vs = [.int i] /\ H l = some (.lst xs) /\ -(2 ^ 63) <= i /\ i < 2 ^ 63 /\ seqIndex? i xs.length = some k /\ xs[k]? = some y /\ Q y (upd H l (.lst (xs.eraseIdx k)))
theorem mt_popAt : MtM X "list.pop" rPopAt := by
 intro pins s σ H x vs v us Q I rx rv h
 obtain ⟨l, xs, i, k, y, rfl, rfl, hH, h1, h2, hk, hy, q⟩ := h
 cases rx
 obtain ⟨u, rfl, ru⟩ := rv.one
 obtain ⟨t, rfl⟩ := ru
 obtain ⟨z, its, n, r, hl, e⟩ := I.lstM hH
 obtain ⟨w, hw, rw'⟩ := r.get hy
 refine call_meets F.slot_list_pop ⟨_, e, rfl⟩ F.entry_list_pop (F.args_list_pop_2 _ _)
  (MeetsSeq.list_pop_at l its.toArray n i t k w (fitsIndex_both h1 h2) (by rw [List.size_toArray, <- hl]; exact hk) (by rw [<- Array.getElem?_toList]; exact hw) (by rw [List.size_toArray]; omega)) ⟨e, ?_⟩
 refine ⟨y, _, I.lset (its' := its.eraseIdx k) hH e ?_ (r.eraseIdx k) ?_, rw', q⟩
 ·show its.toArray.eraseIdxIfInBounds k = (its.eraseIdx k).toArray
  rw [List.eraseIdxIfInBounds_toArray]
 ·have := len_erase xs k
  omega
end
end L2
namespace Att
open PySem PySem.W PySem.Calls PyProof.Rows
theorem ints_of_wellAll {P : Params} {h : Heap} : ∀ (ns : List Int) (vs : List Value), WellAll P h vs (ns.map WData.int) -> IntsAre vs ns := by
 intro ns
 induction ns with
 | nil =>
  intro vs w
  rw [List.map_nil] at w
  cases w
  exact .nil
 | cons n ns ih =>
  intro vs w
  rw [List.map_cons] at w
  cases w with
  | cons a b =>
   cases a
   exact .cons _ _ (ih _ b)
theorem script_of {l : OpenLaw} {n : Nat} (hn : l.most = some n) {P : Params} {h : Heap} {args : List WData} {vals : List Value}
  (hpre : l.row.toRowW.claim.pre args = true) (hwl : WellAll P h vals args) :
  ∃ a vs ns, vals = [Value.ref a] /\ args = [WData.list (ns.map WData.int)] /\ h.get? a = some { cls := .type "list", data := .seq vs.toArray } /\ IntsAre vs ns /\ ns.length <= n := by
 have hsh : WShape.hasAll [] args [.list .int] = true := (pre_splitW hpre).1
 have hc : l.pre.holds [] { args := args } = true := (pre_splitW hpre).2
 obtain ⟨d, r, rfl, h1, h2⟩ := hasAllW_cons hsh
 obtain rfl := hasAllW_nil h2
 obtain ⟨xs, rfl, h3⟩ := hasW_list h1
 obtain ⟨ns, rfl⟩ := items_int h3
 have hlen : ns.length <= n := by
  unfold OpenLaw.pre at hc
  have h4 : (WTm.not (.lt (.lit (.int (n : Int))) (.len (.arg 0)))).holds [] { args := [.list (ns.map .int)] } = true := by
   have h4 := (holds_andW hc).1
   rw [hn] at h4
   exact h4
  have h5 := condW_of h4 (w_not (w_lt w_lit (w_len_list (w_arg rfl))))
  rw [List.length_map] at h5
  refine Nat.le_of_not_lt fun q => ?_
  have q' : (n : Int) < ((ns.length : Nat) : Int) := by omega
  first
   | (rw [decide_eq_true q'] at h5; exact absurd h5 (by decide))
   | (simp at h5; omega)
 cases hwl with
 | cons w1 w2 =>
  cases w2
  cases w1 with
  | list ho hall => exact ⟨_, _, ns, rfl, rfl, ho, ints_of_wellAll ns _ hall, hlen⟩
theorem post_true (l : OpenLaw) (args : List WData) : l.row.toRowW.claim.post args (.bool true) args = true :=
 postW_of (r := l.row.toRowW) (X := (true == true))
  (show WShape.has [] (.bool true) .bool = true by first | rfl | decide | simp [WShape.has, WShape.arms, WShape.armsAll])
  (show (WTm.eq .res (.lit (.bool true))).value [] { args := args, res := some (.bool true), after := args } = some (.bool (true == true)) from w_eq_bool (w_res rfl) w_lit) rfl
theorem attach_call {l : OpenLaw} {n : Nat} {q : Program} {loose : List Str} {XP : (Str -> Option Value) -> Heap -> Prop} {YP : World -> Heap -> Prop} {d : DefRec}
  (hn : l.most = some n) (hdf : d.params.defaults = [])
  (call : ∀ (w : World) (s₀ s₁ : Shared) (mg mb : Str -> Option Value) (fa : Addr) (o : Obj) (pm cd doc : Value) (a : Addr) (vs : List Value) (ns : List Int),
   Ground q loose [] XP w s₀ mg mb s₁.heap -> YP w s₁.heap →
   s₁.heap.get? fa = some o -> o.data = .func (docDef d.name d.params d.body d.scope pm cd doc) -> s₁.heap.CodeRec cd d.name -> mg d.name = some (.ref fa) →
   s₁.heap.get? a = some { cls := .type "list", data := .seq vs.toArray } -> IntsAre vs ns -> ns.length <= n -> s₁.gens = #[] →
   codeAny (model l.prog w) callerA (.call (.ref fa) ⟨[.ref a], []⟩) (fun r s' => r = .ok (.ret (.bool true)) /\ OldK s₁.heap s'.heap /\ s'.os = s₁.os /\ AllBare s'.gens) s₁) :
  WalkO q loose XP YP l.row.toRowW d [] (fun f vs => PySem.call f vs) := by
 intro w s₀ s₁ mg mb G Y fa o pm cd doc dV kV ho hd hcd hD hmg hg args vals as hpre hlay hrd hwl hlo
 obtain rfl : dV = .none := Dflts.none hD hdf
 obtain rfl : kV = .none := Dflts.noKw hD
 obtain ⟨a, vs, ns, rfl, rfl, hobj, hints, hlen⟩ := script_of hn hpre hwl
 refine enter_call (codeAny_mono (call w s₀ s₁ mg mb fa o pm cd doc a vs ns G Y ho (fd_plain hd) hcd hmg hobj hints hlen hg) fun r s' hq => ?_)
 obtain ⟨rfl, h2, h3, h4⟩ := hq
 exact ⟨.inl ⟨.bool true, .bool true, [], rfl, fun _ => rfl, .bool true, post_true l _, fun _ => ⟨List.Pairwise.nil, fun _ hm => (nomatch hm)⟩⟩, h2, h3, h4⟩
section
variable {prog : Program} {w : World} {A : Around} {E : Value -> Shared -> Prop} {s : Shared} {K : Frag}
end
end Att
namespace L2
open PySem PySem.Spec PyProof.Rows
theorem vals_ints : ∀ {vs : List Value} {ns : List Int}, IntsAre vs ns -> Vals (ns.map V.int) vs
 | _, _, .nil => .nil
 | _, _, .cons n t h => .cons ⟨t, rfl⟩ (vals_ints h)
def Only (H : Hp) : Prop := ∀ b, H b = none ∨ ∃ o xs, H b = some (.frz o (.lst xs))
theorem law_call {P : Program} {w : World} {K : PySem.W.Frag} {mg mb : Str -> Option Value} {CX : CXT} {k : Nat} {fa a : Addr} {fd : FuncData} {x : Str} {sp : Sp} {s₁ : Shared} {vs : List Value} {ns : List Int}
  (KX : K.In s₁.heap) (hns : s₁.heap.Ns mainGlobals mg) (hb : s₁.heap.Ns builtinsNs mb) (hbb : ∀ x : Str, x ≠ "__name__" -> mb x = bootBuiltins x) (hlim : s₁.heap.NoLimit) (hg : s₁.gens = #[])
  (ha : s₁.heap.get? a = some { cls := .type "list", data := .seq vs.toArray }) (hi : IntsAre vs ns) (hl : ns.length <= sizeLine) (hr : Room k callerA)
  (F : ∀ base : Heap, K.In base -> base.Ns mainGlobals mg -> FnOk P w K mg base CX k fa fd [x] sp) (hbind : ∀ (s : Shared) (u : Value), BindsTo s fd ⟨[u], []⟩ [(x, u)])
  (hsp : ∀ H : Hp, Only H -> SqL K H a (ns.map V.int) -> sp [.ref a] H (fun v _ => v = .bl true) fun _ _ _ => False)
  (hCX : ∀ H e s', CX [] H s₁ (fun _ _ _ => False) e s' -> False) :
  codeAny (model P w) callerA (.call (.ref fa) ⟨[.ref a], []⟩) (fun r s' => r = .ok (.ret (.bool true)) /\ OldK s₁.heap s'.heap /\ s'.os = s₁.os /\ AllBare s'.gens) s₁ := by
 have rv := vals_ints hi
 have lenV := hi.length
 have core : ∀ H : Hp, Only H -> SqL K H a (ns.map V.int) -> HOk P w H s₁.heap -> (∀ b, H b ≠ none -> b = a) -> (H a ≠ none -> K.lookup a = none) →
   codeAny (model P w) callerA (.call (.ref fa) ⟨[.ref a], []⟩) (fun r s' => r = .ok (.ret (.bool true)) /\ OldK s₁.heap s'.heap /\ s'.os = s₁.os /\ AllBare s'.gens) s₁ := by
  intro H hO hS hok hA hK
  have base_of : ∀ {b : Addr} {o : Obj}, s₁.heap.get? b = some o -> H b = none -> (hidT s₁.heap H).get? b = some o := fun e n => hidT_get e n
  have noA : ∀ {b : Addr} {o : Obj} {es : Array DictEntry} {ep : Nat}, s₁.heap.get? b = some o -> o.data = .dict es ep -> H b = none := fun {b o es ep} e d => by
   cases q : H b with
   | none => rfl
   | some u =>
    have e' : b = a := hA b (by rw [q]; simp)
    subst e'
    rw [ha] at e; cases e
    have d' : Data.seq vs.toArray _ = Data.dict es ep := d
    cases d'
  have nsK : ∀ {b : Addr} {m : Str -> Option Value}, s₁.heap.Ns b m -> (hidT s₁.heap H).Ns b m := fun {b m} ⟨o, es, ep, e, d, r⟩ => ⟨o, es, ep, base_of e (noA e d), d, r⟩
  have hKb : K.In (hidT s₁.heap H) := fun b o e => base_of (KX b o e) (by
   cases q : H b with
   | none => rfl
   | some u =>
    have e' : b = a := hA b (by rw [q]; simp)
    subst e'
    rw [hK (by rw [q]; simp)] at e; cases e)
  have hM : Mod K mg (hidT s₁.heap H) := ⟨hKb, nsK hns, ⟨mb, nsK hb, hbb⟩, let ⟨mc, h1, h2⟩ := hlim; ⟨mc, nsK h1, h2⟩⟩
  have e0 : Env0 P w K mg (hidT s₁.heap H) callerA [] s₁ H := ⟨rfl, hM, fun b o e => of_hidT e, Nat.le_of_eq (hidT_size _ _), trivial, fun b hb => absurd (show b ∈ ([] : List Addr) from hb) (by simp), hok, .of_eq hg⟩
  refine codeAny_mono ((F _ hKb (nsK hns)).run callerA [] s₁ H ⟨[.ref a], []⟩ [.ref a] [.ref a] _ _ hr e0 (hbind s₁ (.ref a)) (.cons rfl .nil) (hsp H hO hS)) fun r s' h => ?_
  cases r with
  | error e => exact (hCX H e s' h).elim
  | ok fl =>
   cases fl with
   | next => exact False.elim h
   | brk => exact False.elim h
   | cont => exact False.elim h
   | ret u =>
    obtain ⟨v, H', os, bare, un, hok', r', q⟩ := h
    have q' : v = .bl true := q
    subst q'
    obtain rfl : u = Value.bool true := r'
    refine ⟨rfl, OldK.of_keep fun b o e => ?_, os, bare⟩
    cases q : H b with
    | none => exact un.keep b o e q (by intro z; exact absurd (show b ∈ ([] : List Addr) from z) (by simp)) (by simp)
    | some u =>
     rcases hO b with z | ⟨ob, xs, z⟩
     ·rw [q] at z; cases z
     ·have z2 := un.frzs b ob _ z
      obtain ⟨e1, _⟩ := hok b _ z
      obtain ⟨e2, _⟩ := hok' b _ z2
      rw [e] at e1; cases e1
      exact e2
 cases hk : K.lookup a with
 | some o =>
  have e := KX a o hk
  rw [ha] at e
  cases e
  refine core (fun _ => none) (fun _ => .inl rfl) (.inr ⟨_, vs.toArray, _, hk, rfl, rfl, rfl, by rw [List.size_toArray, lenV]; exact hl, by simpa using rv⟩) (fun b u z => by have z' : (none : Option HO) = some u := z; cases z') (fun b z => absurd rfl z) fun z => absurd rfl z
 | none =>
  refine core (fun b => if b = a then some (.frz { cls := .type "list", data := .seq vs.toArray } (.lst (ns.map V.int))) else none) (fun b => ?_) (.inl (.inr ⟨{ cls := .type "list", data := .seq vs.toArray }, if_pos rfl⟩)) (fun b u z => ?_) (fun b z => ?_) fun _ => hk
  ·by_cases hb : b = a
   ·exact .inr ⟨_, _, if_pos hb⟩
   ·exact .inl (if_neg hb)
  ·by_cases hb : b = a
   ·have z' := (if_pos hb).symm.trans z
    cases z'
    subst hb
    exact ⟨ha, by rw [List.length_map]; exact hl, vs, _, rv, ha⟩
   ·have z' := (if_neg hb).symm.trans z
    cases z'
  ·by_cases hb : b = a
   ·exact hb
   ·exact absurd (if_neg hb) z
theorem walk_of {l : PySem.W.OpenLaw} {n k : Nat} {q : Program} {loose : List Str} {XP : (Str -> Option Value) -> Heap -> Prop} {YP : World -> Heap -> Prop} {d : DefRec} {K : Params -> PySem.W.Frag} {CX : World -> CXT} {sp : World -> Sp} {x : Str}
  (hn : l.most = some n) (hn2 : n <= sizeLine) (hdf : d.params.defaults = []) (hr : Room k callerA)
  (hY : ∀ (w : World) (h : Heap), YP w h -> (K w.params).In h)
  (F : ∀ (w : World) (mg : Str -> Option Value) (fa : Addr) (h : Heap), (K w.params).In h -> h.Ns mainGlobals mg -> mg d.name = some (.ref fa) →
   ∃ fd : FuncData, (∀ (s : Shared) (u : Value), BindsTo s fd ⟨[u], []⟩ [(x, u)]) ∧
    ∀ base : Heap, (K w.params).In base -> base.Ns mainGlobals mg -> FnOk l.prog w (K w.params) mg base (CX w) k fa fd [x] (sp w))
  (hsp : ∀ (w : World) (H : Hp) (a : Addr) (ns : List Int), ns.length <= n -> Only H -> SqL (K w.params) H a (ns.map V.int) -> sp w [.ref a] H (fun v _ => v = .bl true) fun _ _ _ => False)
  (hCX : ∀ (w : World) (H : Hp) (s : Shared) (e : Value) (s' : Shared), CX w [] H s (fun _ _ _ => False) e s' -> False) :
  PySem.W.WalkO q loose XP YP l.row.toRowW d [] (fun f vs => PySem.call f vs) := by
 refine Att.attach_call hn hdf fun w s₀ s₁ mg mb fa o pm cd doc a vs ns G Y ho hd hcd hmg hobj hints hlen hg => ?_
 have KX := hY w _ Y
 obtain ⟨fd, hb, hF⟩ := F w mg fa _ KX G.T.g hmg
 exact law_call KX G.T.g G.T.b G.T.builtins G.T.nolimit hg hobj hints (Nat.le_trans hlen hn2) hr hF hb (fun H hO hS => hsp w H a ns hlen hO hS) fun H e s' => hCX w H s₁ e s'
theorem walk_ofK {l : PySem.W.OpenLaw} {n k : Nat} {q : Program} {loose : List Str} {XP : (Str -> Option Value) -> Heap -> Prop} {YP : World -> Heap -> Prop} {d : DefRec} {K : Params -> PySem.W.Frag} {CX : CXT} {sp : PySem.W.Frag -> Sp} {x : Str}
  (hn : l.most = some n) (hn2 : n <= sizeLine) (hdf : d.params.defaults = []) (hr : Room k callerA)
  (hY : ∀ (w : World) (h : Heap), YP w h -> (K w.params).In h)
  (F : ∀ (w : World) (mg : Str -> Option Value) (fa : Addr) (h : Heap), (K w.params).In h -> h.Ns mainGlobals mg -> mg d.name = some (.ref fa) →
   ∃ fd : FuncData, (∀ (s : Shared) (u : Value), BindsTo s fd ⟨[u], []⟩ [(x, u)]) ∧
    ∀ base : Heap, (K w.params).In base -> base.Ns mainGlobals mg -> FnOk l.prog w (K w.params) mg base CX k fa fd [x] (sp (K w.params)))
  (hsp : ∀ (K : PySem.W.Frag) (H : Hp) (a : Addr) (ns : List Int), ns.length <= n -> Only H -> SqL K H a (ns.map V.int) -> sp K [.ref a] H (fun v _ => v = .bl true) fun _ _ _ => False)
  (hCX : ∀ (H : Hp) (s : Shared) (e : Value) (s' : Shared), CX [] H s (fun _ _ _ => False) e s' -> False) :
  PySem.W.WalkO q loose XP YP l.row.toRowW d [] (fun f vs => PySem.call f vs) :=
 walk_of (K := K) (CX := fun _ => CX) (sp := fun w => sp (K w.params)) hn hn2 hdf hr hY F (fun w H a ns h1 h2 h3 => hsp (K w.params) H a ns h1 h2 h3) fun _ H s e s' => hCX H s e s'
end L2
/- THE LAST THEOREM (shape; LID, My.* are yours):
   My.Adr: a structure of the addresses that your layer names (classes, functions); My.Txt K t: a structure (Prop) of the equations over K;
   My.txt_mk : {K} {implicit addresses ..} (e1 : nsIn K mainGlobals "law" = some (some (.ref f))) (e2 : K.lookup f = some ⟨oc, od, .func (fnOf "law" "law" params body scope dV kV doc pm an cdv ct), sl⟩) (e3 : codeIn K cdv "law" = true) .. : ∃ t, My.Txt K t
(the tactic k_is has no namespace: write k_is) -/
namespace L2
open PySem PySem.Spec PyProof.Rows
def defArgs (s : Stmt) : Arguments := match s with
 | .FunctionDef _ a _ _ _ _ _ _ _ _ => a
 | _ => { posonlyargs := [], args := [], vararg := none, kwonlyargs := [], kw_defaults := [], kwarg := none, defaults := [] }
def defBody (s : Stmt) : List Stmt := match s with
 | .FunctionDef _ _ b _ _ _ _ _ _ _ => b
 | _ => []
def defScope (s : Stmt) : Scope := match s with
 | .FunctionDef _ _ _ _ _ _ sc _ _ _ => sc
 | _ => { kind := .function, names := [], isGenerator := false, isCoroutine := false }
abbrev CX0 : CXT := fun _ _ _ _ _ _ => False
abbrev E0 : XK := fun _ _ _ => False
theorem pass0 {X : Cx} : Passes CX0 X E0 := fun _ _ _ _ _ _ _ h => h.elim
structure Fun (K : PySem.W.Frag) (x qual : Str) (st : Stmt) (f : Addr) (fd : FuncData) : Prop where
 ex : ∃ (oc : Value) (od : Option Addr) (kV doc pm : Value) (an : Option Addr) (cdv ct : Value) (osl : Array (Option Value)),
  fd = PySem.W.fnOf x qual (defArgs st) (defBody st) (defScope st) .none kV doc pm an cdv ct /\ K.lookup f = some ⟨oc, od, .func fd, osl⟩ /\ PySem.W.codeIn K cdv qual = true
 kp : PySem.W.keepIn K (.ref f) = true
section
variable {P : Program} {w : World} {K : PySem.W.Frag} {mg : Str -> Option Value} {base : Heap}
theorem Fun.ok {x qual : Str} {st : Stmt} {f : Addr} {fd : FuncData} {N ps : List Str} {k : Nat} {sp : Sp} (F : Fun K x qual st f fd) (S : FnScope N ps (defScope st)) (len : ∀ vs H Q E, sp vs H Q E -> vs.length = ps.length)
  (hbody : ∀ (cdv : Value) (A : Around) (outer : List Env) (s : Shared) (H : Hp) (vs : List V) (Q : VK) (E : XK), Room k (A.deeper (envOfC qual (defScope st) s.heap.objs.size f cdv)) -> sp vs H Q E →
   ∃ t, PSs (cxOf CX0 P w K mg base N qual (defScope st) f cdv A outer s H E).nox (defBody st) t /\ t { nx := fun _ H' => Q .non H', rt := Q } (start N vs) H) : FnOk P w K mg base CX0 (k + 1) f fd ps sp := by
 obtain ⟨oc, od, kV, doc, pm, an, cdv, ct, osl, rfl, lk, hcd⟩ := F.ex
 refine fn_of lk hcd S len fun A outer s H vs Q E hr hsp => ?_
 obtain ⟨t, h, q⟩ := hbody cdv A outer s H vs Q E hr hsp
 exact ⟨t, h.nox, q⟩
theorem Fun.binds {x qual : Str} {st : Stmt} {f : Addr} {fd : FuncData} {ps : List Str} (F : Fun K x qual st f fd)
  (h : ∀ (kV doc pm : Value) (an : Option Addr) (cdv ct : Value) (us : List Value), us.length = ps.length -> bindArgs (PySem.W.fnOf x qual (defArgs st) (defBody st) (defScope st) .none kV doc pm an cdv ct) ⟨us, []⟩ = pure (ps.zip us)) : Binds K fd ps [] := by
 obtain ⟨oc, od, kV, doc, pm, an, cdv, ct, osl, rfl, lk, hcd⟩ := F.ex
 exact .all (h kV doc pm an cdv ct)
end
theorem hu_of {A : Around} {k : Nat} (hr : Room k A) : A.units + 1 < cLine := Nat.lt_of_le_of_lt (Nat.add_le_add_left (by decide : 1 <= 64) _) hr.units
def Same (H H' : Hp) : Prop := ∀ b o, H b = some o -> H' b = some o
theorem Same.refl (H : Hp) : Same H H := fun _ _ h => h
end L2
set_option autoImplicit false
namespace MD
open PySem PySem.Spec PyProof.Rows L2
def Kof (n : Nat) (h : Heap) : PySem.W.Frag := (List.range n).filterMap fun a => (h.get? a).map fun o => (a, o)
abbrev FnT := Option (Str × Str × Arguments × List Stmt × Scope)
def valNone (v : Value) : Bool := match v with
 | .none => true
 | _ => false
def fnV (K : PySem.W.Frag) (f : Addr) : FnT × Bool := match K.lookup f with
 | some ⟨_, _, .func ⟨x, q, ps, .stmts b, sc, gl, [], dv, _, _, _, _, cd, _, bl⟩, _⟩ => (some (x, q, ps, b, sc), Nat.beq gl mainGlobals && Nat.beq bl builtinsNs && valNone dv && PySem.W.codeIn K cd q)
 | _ => (none, false)
def viewOf (keep : List Nat) (p : Program) : Program := { p with main := { p.main with body := keep.filterMap fun i => p.main.body[i]? } }
def isX (c d : Str) : Bool := c == d || d == "HeadError" || d == "ValueError"
def bmV : List Value := [.type "ValueError", .type "Exception", .type "BaseException", .type "object"]
def askB (K : PySem.W.Frag) (C : Addr) : Bool := PySem.W.findIn K (.ref C) "__getattribute__" == some (some (.builtin "BaseException.__getattribute__")) && PySem.W.findIn K (.ref C) "__getattr__" == some none && PySem.W.subIn K (.ref C) (.type "BaseException") == some true && PySem.W.mroIn K C (.type "object") == some true && (PySem.W.clsIn K C).isSome && PySem.W.findIn K (.ref C) "__class__" == some (some (.builtin "object.__class__")) && PySem.W.specialIn K (.builtin "object.__class__") "__get__" == some (some (.builtin "getset_descriptor.__get__")) && PySem.W.takesIn K (.builtin "object.__class__") == some true && PySem.W.typeIn K (.ref C) == some (.type "type")
def excTab (K : PySem.W.Frag) (es : List Str) : Bool := es.all fun c => match PySem.W.nsIn K mainGlobals c with
 | some (some (.ref C)) => askB K C && PySem.W.kitOne K (.ref C) (.type "ValueError") == some true && PySem.W.kitOne K (.type "NoneType") (.ref C) == some false && es.all fun d => match PySem.W.nsIn K mainGlobals d with
  | some (some (.ref D)) => PySem.W.kitOne K (.ref C) (.ref D) == some (isX c d) && PySem.W.subIn K (.ref C) (.ref D) == some (isX c d)
  | _ => false
 | _ => false
def excRai (K : PySem.W.Frag) (rs : List Str) : Bool := rs.all fun c => match PySem.W.nsIn K mainGlobals c with
 | some (some (.ref C)) => PySem.W.excIn K C bmV "ValueError.__new__"
 | _ => false
end MD
set_option autoImplicit false
namespace K25
open PySem PyProof.Rows L2 MD
def top (i : Nat) : Stmt := PySem.Challenge.pw_shorthead_k25_what_is_no_letter.main.body.getD i (.Pass ⟨0, 0, 0, 0⟩)
abbrev sAreBits : Stmt := top 1
abbrev sNumberOf : Stmt := top 2
abbrev sWidthFor : Stmt := top 3
abbrev sBreadths : Stmt := top 11
abbrev sWidthOf : Stmt := top 13
abbrev sWidths : Stmt := top 14
abbrev sSizeOf : Stmt := top 15
abbrev sFormAt : Stmt := top 17
abbrev sSortWidth : Stmt := top 18
abbrev sCheckWidth : Stmt := top 19
abbrev sLetterSize : Stmt := top 20
abbrev sSortTold : Stmt := top 21
abbrev sParted : Stmt := top 22
abbrev sLawBox : Stmt := top 24
abbrev sLawNext : Stmt := top 25
abbrev sLawOf : Stmt := top 26
abbrev sLawValue : Stmt := top 27
abbrev sLawKind : Stmt := top 28
abbrev sLawShape : Stmt := top 29
abbrev sLawWay : Stmt := top 30
abbrev sLawForm : Stmt := top 31
abbrev sLawRoad : Stmt := top 32
abbrev sLawPact : Stmt := top 33
abbrev sLawAnyHead : Stmt := top 34
abbrev sLawBits : Stmt := top 35
abbrev sLawWidth : Stmt := top 36
abbrev sLawCheck : Stmt := top 37
abbrev sLawWidthOf : Stmt := top 38
abbrev sLawPieces : Stmt := top 39
abbrev sLawLetter : Stmt := top 40
abbrev sLawNumber : Stmt := top 41
abbrev sLawSplit : Stmt := top 42
abbrev sLawSame : Stmt := top 43
abbrev sLawRefused : Stmt := top 44
abbrev sLawBent : Stmt := top 45
abbrev sLawRight : Stmt := top 46
abbrev sLaw : Stmt := top 47
def nms : List Str := (["are_bits", "number_of", "width_for", "breadths", "width_of", "widths", "size_of", "form_at", "sort_width", "check_width", "letter_size", "sort_told", "parted", "_law_box", "_law_next", "_law_of", "_law_value", "_law_kind", "_law_shape", "_law_way", "_law_form", "_law_road", "_law_pact", "_law_any_head", "_law_bits", "_law_width", "_law_check", "_law_width_of", "_law_pieces", "_law_letter"] : List (Str)) ++ (["_law_number", "_law_split", "_law_same", "_law_refused", "_law_bent", "_law_right", "law", "HeadError", "NoHead", "NoLetter", "NoStream", "NoText", "ValueError", "sum", "range", "tuple", "enumerate", "isinstance", "str", "len", "min", "int", "all", "zip", "abs", "bool", "list"] : List (Str))
def nmsE : List (Option (Option Value)) := ([some (some (.ref 21)), some (some (.ref 28)), some (some (.ref 35)), some (some (.ref 108)), some (some (.ref 115)), some (some (.ref 120)), some (some (.ref 127)), some (some (.ref 134)), some (some (.ref 141)), some (some (.ref 148)), some (some (.ref 155)), some (some (.ref 162)), some (some (.ref 169)), some (some (.ref 176)), some (some (.ref 183)), some (some (.ref 190)), some (some (.ref 197)), some (some (.ref 202)), some (some (.ref 209)), some (some (.ref 216)), some (some (.ref 221)), some (some (.ref 228)), some (some (.ref 233)), some (some (.ref 238)), some (some (.ref 245)), some (some (.ref 252)), some (some (.ref 259)), some (some (.ref 266)), some (some (.ref 273)), some (some (.ref 280))] : List (Option (Option Value))) ++ ([some (some (.ref 287)), some (some (.ref 292)), some (some (.ref 297)), some (some (.ref 304)), some (some (.ref 311)), some (some (.ref 318)), some (some (.ref 323)), some (some (.ref 45)), some (some (.ref 58)), some (some (.ref 70)), some (some (.ref 82)), some (some (.ref 101)), some none, some none, some none, some none, some none, some none, some none, some none, some none, some none, some none, some none, some none, some none, some none] : List (Option (Option Value)))
def fnd : List (Addr × Str) := [(45, "__getattribute__")]
def fndE : List (Option (Option Value)) := [some (some (.builtin "BaseException.__getattribute__"))]
def fnsa : List Addr := [21, 28, 35, 108, 115, 120, 127]
def fnsb : List Addr := [134, 141, 148, 155, 162, 169, 176]
def fnsc : List Addr := [183, 190, 197, 202, 209, 216, 221]
def fnsd : List Addr := [228, 233, 238, 245, 252, 259, 266]
def fnse : List Addr := [273, 280, 287, 292, 297, 304, 311]
def fnsf : List Addr := [318, 323]
def fns : List Addr := fnsa ++ fnsb ++ fnsc ++ fnsd ++ fnse ++ fnsf
def fnE (x q : Str) (st : Stmt) : FnT × Bool := (some (x, q, defArgs st, defBody st, defScope st), true)
def fnsaE : List (FnT × Bool) := [fnE "are_bits" "are_bits" sAreBits, fnE "number_of" "number_of" sNumberOf, fnE "width_for" "width_for" sWidthFor, fnE "breadths" "breadths" sBreadths, fnE "width_of" "width_of" sWidthOf, fnE "widths" "widths" sWidths, fnE "size_of" "size_of" sSizeOf]
def fnsbE : List (FnT × Bool) := [fnE "form_at" "form_at" sFormAt, fnE "sort_width" "sort_width" sSortWidth, fnE "check_width" "check_width" sCheckWidth, fnE "letter_size" "letter_size" sLetterSize, fnE "sort_told" "sort_told" sSortTold, fnE "parted" "parted" sParted, fnE "_law_box" "_law_box" sLawBox]
def fnscE : List (FnT × Bool) := [fnE "_law_next" "_law_next" sLawNext, fnE "_law_of" "_law_of" sLawOf, fnE "_law_value" "_law_value" sLawValue, fnE "_law_kind" "_law_kind" sLawKind, fnE "_law_shape" "_law_shape" sLawShape, fnE "_law_way" "_law_way" sLawWay, fnE "_law_form" "_law_form" sLawForm]
def fnsdE : List (FnT × Bool) := [fnE "_law_road" "_law_road" sLawRoad, fnE "_law_pact" "_law_pact" sLawPact, fnE "_law_any_head" "_law_any_head" sLawAnyHead, fnE "_law_bits" "_law_bits" sLawBits, fnE "_law_width" "_law_width" sLawWidth, fnE "_law_check" "_law_check" sLawCheck, fnE "_law_width_of" "_law_width_of" sLawWidthOf]
def fnseE : List (FnT × Bool) := [fnE "_law_pieces" "_law_pieces" sLawPieces, fnE "_law_letter" "_law_letter" sLawLetter, fnE "_law_number" "_law_number" sLawNumber, fnE "_law_split" "_law_split" sLawSplit, fnE "_law_same" "_law_same" sLawSame, fnE "_law_refused" "_law_refused" sLawRefused, fnE "_law_bent" "_law_bent" sLawBent]
def fnsfE : List (FnT × Bool) := [fnE "_law_right" "_law_right" sLawRight, fnE "law" "law" sLaw]
def fnsE : List (FnT × Bool) := fnsaE ++ fnsbE ++ fnscE ++ fnsdE ++ fnseE ++ fnsfE
def bls (K : PySem.W.Frag) : List Bool := [excTab K ["HeadError", "NoHead", "NoLetter", "NoStream", "NoText"], excRai K ["NoLetter"]]
def blsE : List Bool := List.replicate 2 true
def obs (K : PySem.W.Frag) : List (Option (Option Value)) × List (Option (Option Value)) × List (FnT × Bool) × List Bool := (nms.map (PySem.W.nsIn K mainGlobals), fnd.map (fun p => PySem.W.findIn K (.ref p.1) p.2), fns.map (fnV K), bls K)
def expd : List (Option (Option Value)) × List (Option (Option Value)) × List (FnT × Bool) × List Bool := (nmsE, fndE, fnsE, blsE)
abbrev pw : Program := PySem.Challenge.pw_shorthead_k25_what_is_no_letter
def vw : Program := viewOf (([1, 2, 3, 5, 6, 7, 8, 9, 11, 13, 14, 15, 17, 18, 19, 20, 21, 22, 24, 25, 26, 27, 28, 29, 30, 31, 32, 33, 34, 35] : List (Nat)) ++ ([36, 37, 38, 39, 40, 41, 42, 43, 44, 45, 46, 47] : List (Nat))) pw
def xt (s : Shared) : Bool := PySem.W.xlAt vw [] s && PySem.W.recOk (PySem.W.RowW.records PySem.Challenge.rw_shorthead_k25_what_is_no_letter.row.toRowW) s
def zO (s : Shared) := PySem.W.openSeen vw [] (importedModules pw.main.body) xt true s
def zG := PySem.W.openGood vw []
def zE (w : World) := PySem.W.openEnds treeTable pw w 4628
def hl0 (w : World) := (zE w).map fun s => (zO s).1.defs.take 21
def hr0 (_ : World) := some (zG.1.defs.take 21)
def hl1 (w : World) := (zE w).map fun s => (zO s).1.defs.drop 21
def hr1 (_ : World) := some (zG.1.defs.drop 21)
def hl2 (w : World) := (zE w).map fun s => (zO s).1.ownsOk
def hr2 (_ : World) := some (zG.1.ownsOk)
def hl3 (w : World) := (zE w).map fun s => (zO s).1.names
def hr3 (_ : World) := some (zG.1.names)
def hl4 (w : World) := (zE w).map fun s => ((zO s).1.globalsOk, (zO s).1.builtinsOk, (zO s).1.noLimit, (zO s).1.gens)
def hr4 (_ : World) := some ((zG.1.globalsOk, zG.1.builtinsOk, zG.1.noLimit, zG.1.gens))
def hl5 (w : World) := (zE w).map fun s => (zO s).2.1
def hr5 (_ : World) := some (zG.2.1)
def hl6 (w : World) := (zE w).map fun s => (zO s).2.2.1
def hr6 (_ : World) := some (zG.2.2.1)
def hl7 (w : World) := (zE w).map fun s => (zO s).2.2.2
def hr7 (_ : World) := some (zG.2.2.2)
def hl8 (w : World) := (zE w).map fun s => nms.map (PySem.W.nsIn (Kof 324 s.heap) mainGlobals)
def hr8 (_ : World) := some (nmsE)
def hl9 (w : World) := (zE w).map fun s => (fnd.map (fun p => PySem.W.findIn (Kof 324 s.heap) (.ref p.1) p.2), bls (Kof 324 s.heap))
def hr9 (_ : World) := some ((fndE, blsE))
def hl10 (w : World) := (zE w).map fun s => fnsa.map (fnV (Kof 324 s.heap))
def hr10 (_ : World) := some (fnsaE)
def hl11 (w : World) := (zE w).map fun s => fnsb.map (fnV (Kof 324 s.heap))
def hr11 (_ : World) := some (fnsbE)
def hl12 (w : World) := (zE w).map fun s => fnsc.map (fnV (Kof 324 s.heap))
def hr12 (_ : World) := some (fnscE)
def hl13 (w : World) := (zE w).map fun s => fnsd.map (fnV (Kof 324 s.heap))
def hr13 (_ : World) := some (fnsdE)
def hl14 (w : World) := (zE w).map fun s => fnse.map (fnV (Kof 324 s.heap))
def hr14 (_ : World) := some (fnseE)
def hl15 (w : World) := (zE w).map fun s => fnsf.map (fnV (Kof 324 s.heap))
def hr15 (_ : World) := some (fnsfE)
end K25
namespace PySem.W.Fast
lay_quick K25.hl0 K25.hr0 K25.hl1 K25.hr1 K25.hl2 K25.hr2 K25.hl3 K25.hr3 K25.hl4 K25.hr4 K25.hl5 K25.hr5 K25.hl6 K25.hr6 K25.hl7 K25.hr7 K25.hl8 K25.hr8 K25.hl9 K25.hr9 K25.hl10 K25.hr10 K25.hl11 K25.hr11 K25.hl12 K25.hr12 K25.hl13 K25.hr13 K25.hl14 K25.hr14 K25.hl15 K25.hr15
end PySem.W.Fast
namespace K25
open PySem PyProof.Rows L2 MD PySem.W.Fast
theorem hlq0 (w : World) : tw9374140906088894777 w = tw13290439758766366632 w := by kernel_rfl
theorem hlq1 (w : World) : tw4452609877867576086 w = tw2244115527052001716 w := by kernel_rfl
theorem hlq2 (w : World) : tw9776564211115356239 w = tw9232380618827211823 w := by kernel_rfl
theorem hlq3 (w : World) : tw7364248110048096471 w = tw1339219424140788616 w := by kernel_rfl
theorem hlq4 (w : World) : tw9687795802231777670 w = tw3907122946921695695 w := by kernel_rfl
theorem hlq5 (w : World) : tw7915008042239740199 w = tw4649680030761793408 w := by kernel_rfl
theorem hlq6 (w : World) : tw17827279897097871225 w = tw9622198275134259551 w := by kernel_rfl
theorem hlq7 (w : World) : tw17098620748114302789 w = tw6549817764405269070 w := by kernel_rfl
theorem hlq8 (w : World) : tw4958890110445115510 w = tw9898295685078944418 w := by kernel_rfl
theorem hlq9 (w : World) : tw3646209460898463870 w = tw15984450447774090056 w := by kernel_rfl
theorem hlq10 (w : World) : tw1769005854800021369 w = tw7030971545831972613 w := by kernel_rfl
theorem hlq11 (w : World) : tw16233623091973807719 w = tw9993319802984908280 w := by kernel_rfl
theorem hlq12 (w : World) : tw3271628838718989630 w = tw14639475989557418690 w := by kernel_rfl
theorem hlq13 (w : World) : tw5043996643716494801 w = tw1849634542071456748 w := by kernel_rfl
theorem hlq14 (w : World) : tw16025214374055076438 w = tw14298028075829580699 w := by kernel_rfl
theorem hlq15 (w : World) : tw1111754444165912676 w = tw11934692034196978744 w := by kernel_rfl
end K25
namespace L2
open PySem PySem.Spec PyProof.Rows
section
variable {X : Cx}
theorem op_mul_str : OpR X (binaryOp .Mult) (fun x y H Q => ∃ z n, x = .str z /\ y = .int n /\ MulOk z n /\ Q (.str (Txt.mul z n)) H) := by
 intro pins s σ H x y v u Q I rx ry h
 obtain ⟨z, n, rfl, rfl, hz, q⟩ := h
 obtain ⟨t, rfl⟩ := rx
 obtain ⟨t', rfl⟩ := ry
 exact SB.mul hz fun t' tk => ⟨.str _, H, I.tok _, ⟨_, rfl⟩, q⟩
theorem call_int_txt : CallR X (.type "int") (fun xs H Q => ∃ z n, xs = [.str z] /\ PySem.intText? z = some n /\ z.length <= 640 /\ Q (.int n) H) := by
 intro pins s σ H xs us Q I r h
 obtain ⟨z, n, rfl, hn, hl, q⟩ := h
 obtain ⟨u, rfl, t, rfl⟩ := vals1 r
 exact PySem.W.KIN.call_text hn hl ⟨.int n, H, I.tok _, ⟨_, rfl⟩, q⟩
theorem op_fdivL : OpR X (binaryOp .FloorDiv) (rI (fun _ j => 0 < j /\ j < 2 ^ 64) fun i j => .int (i / j)) := opI fun i j _ _ _ _ _ hc q => by
 have h1 : (0 : Int) < j := hc.1
 have h2 : j < 2 ^ 64 := hc.2
 refine floordiv_int (by omega) (by rw [Int.fdiv_eq_ediv_of_nonneg i (by omega)]; exact q) (.inl (PyProof.noPylong_of_log2 ?_))
 have h3 : j.natAbs < 2 ^ 64 := by omega
 have h4 : j.natAbs.log2 < 64 := (Nat.log2_lt (by omega)).mpr h3
 omega
end
def clSub : List (Str × Addr) -> List (Str × Addr) -> Prop
 | [], _ => True
 | (n, a) :: r, cells => cells.lookup n = some a /\ clSub r cells
theorem clSub.at : ∀ {cl cells : List (Str × Addr)} {x : Str} {c : Addr}, clSub cl cells -> cl.lookup x = some c -> cells.lookup x = some c
 | [], _, _, _, _, e => by simp at e
 | (n, a) :: r, cells, x, c, h, e => by
  rw [List.lookup_cons] at e
  cases hx : x == n with
  | true =>
   rw [hx] at e
   cases e
   have q : x = n := by simpa using hx
   rw [q]
   exact h.1
  | false =>
   rw [hx] at e
   exact clSub.at h.2 e
structure CompOk (X : Cx) (N0 : List Str) (scope : Scope) (xs : List Str) (cl : List (Str × Addr)) : Prop where
 clos : closureFor scope X.env = pure cl
 kind : scope.kind = .function
 nocell : (scope.names.all fun y => decide (y.2 ≠ .cell)) = true
 locs : (scope.names.all fun y => decide (y.2 ≠ .local) || (decide (scope.names.lookup y.1 = some .local) && decide (y.1 ∉ N0))) = true
 sub : clSub cl X.env.cells
 has : (scope.names.all fun y => decide (y.2 ≠ .free) || ((cl.lookup y.1).isSome && (decide (X.env.kindOf y.1 = some .cell) || decide (X.env.kindOf y.1 = some .free)))) = true
 hid : N0 = X.N ∨ (N0.length = X.N.length /\ ((N0.zip X.N).all fun p => decide (p.1 = p.2) || (scope.names.lookup p.1).isNone) = true)
def Cx.comp (X : Cx) (N0 : List Str) (scope : Scope) (xs : List Str) (cl : List (Str × Addr)) (C : Addr) (s : Shared) (H : Hp) (fp : List Addr) : Cx :=
 { X with N := N0 ++ xs, s₀ := s, H₀ := H, env := compEnvC scope cl C X.env, outer := X.stack, stack := X.stack, ex := fp, fn := fun _ => false, pn := [] }
theorem relabel_at {env : Env} : ∀ {names : List (Str × NameKind)} {x : Str} {k : NameKind},
  (names.map fun (n, k) => if (k == NameKind.free && env.scope.kind == .function && env.kindOf n == some .cell) then (n, NameKind.cell) else (n, k)).lookup x = some k →
  ∃ k', names.lookup x = some k' /\ (x, k') ∈ names /\ (k' = k ∨ (k' = .free /\ k = .cell))
 | [], _, _, h => by simp at h
 | (n, q) :: r, x, k, h => by
  rw [List.map_cons] at h
  cases hx : x == n with
  | true =>
   have e : x = n := by simpa using hx
   subst e
   refine ⟨q, by simp [List.lookup_cons], List.mem_cons_self, ?_⟩
   dsimp only at h
   split at h
   ·rename_i hc
    simp [List.lookup_cons] at h
    have : q = .free := by
     simp at hc
     exact hc.1.1
    exact .inr ⟨this, h.symm⟩
   ·simp [List.lookup_cons] at h
    exact .inl h
  | false =>
   have h' : (r.map fun (n, k) => if (k == NameKind.free && env.scope.kind == .function && env.kindOf n == some .cell) then (n, NameKind.cell) else (n, k)).lookup x = some k := by
    dsimp only at h
    split at h <;> (simp only [List.lookup_cons, hx] at h; exact h)
   obtain ⟨k', e1, e2, e3⟩ := relabel_at h'
   exact ⟨k', by simp only [List.lookup_cons, hx]; exact e1, List.mem_cons_of_mem _ e2, e3⟩
section
variable {X : Cx} {N0 : List Str} {scope : Scope} {xs : List Str} {cl : List (Str × Addr)}
theorem CompOk.nc (S : CompOk X N0 scope xs cl) : ∀ y ∈ scope.names, y.2 ≠ .cell := fun y hy => of_decide_eq_true (List.all_eq_true.mp S.nocell y hy)
theorem CompOk.lo (S : CompOk X N0 scope xs cl) {y : Str × NameKind} (hy : y ∈ scope.names) (h : y.2 = .local) : scope.names.lookup y.1 = some .local /\ y.1 ∉ N0 := by
 have q := List.all_eq_true.mp S.locs y hy
 rw [Bool.or_eq_true, Bool.and_eq_true, decide_eq_true_eq, decide_eq_true_eq, decide_eq_true_eq] at q
 rcases q with q | q
 ·exact absurd h q
 ·exact q
theorem CompOk.fr (S : CompOk X N0 scope xs cl) {y : Str × NameKind} (hy : y ∈ scope.names) (h : y.2 = .free) : (∃ c, cl.lookup y.1 = some c) /\ (X.env.kindOf y.1 = some .cell ∨ X.env.kindOf y.1 = some .free) := by
 have q := List.all_eq_true.mp S.has y hy
 rw [Bool.or_eq_true, Bool.and_eq_true, Bool.or_eq_true, decide_eq_true_eq, decide_eq_true_eq, decide_eq_true_eq] at q
 rcases q with q | q
 ·exact absurd h q
 ·exact ⟨Option.isSome_iff_exists.mp q.1, q.2⟩
theorem CompOk.vis (S : CompOk X N0 scope xs cl) {x : Str} (h : Vis (relabel scope X.env) x) (hx : x ∈ N0) : ∃ c, cl.lookup x = some c /\ (X.env.kindOf x = some .cell ∨ X.env.kindOf x = some .free) := by
 have go : ∀ k, (relabel scope X.env).names.lookup x = some k -> (k = .local ∨ k = .cell ∨ k = .free) -> ∃ c, cl.lookup x = some c /\ (X.env.kindOf x = some .cell ∨ X.env.kindOf x = some .free) := fun k e hk => by
  obtain ⟨k', _, e2, e3⟩ := relabel_at e
  have hf : k' = .free := by
   rcases e3 with e3 | e3
   ·subst e3
    rcases hk with rfl | rfl | rfl
    ·exact absurd hx (S.lo e2 rfl).2
    ·exact absurd rfl (S.nc _ e2)
    ·rfl
   ·exact e3.1
  obtain ⟨⟨c, q⟩, r⟩ := S.fr e2 hf
  exact ⟨c, q, r⟩
 rcases h with h | h | h
 ·exact go _ h (.inl rfl)
 ·exact go _ h (.inr (.inl rfl))
 ·exact go _ h (.inr (.inr rfl))
theorem CompOk.len (S : CompOk X N0 scope xs cl) : N0.length = X.N.length := S.hid.elim (fun h => by rw [h]) fun h => h.1
theorem CompOk.same (S : CompOk X N0 scope xs cl) {i : Nat} {x : Str} (e : N0[i]? = some x) (h : Vis (relabel scope X.env) x) : X.N[i]? = some x := by
 rcases S.hid with q | ⟨q1, q2⟩
 ·rw [<- q]; exact e
 ·have hi : i < N0.length := (List.getElem?_eq_some_iff.mp e).1
  have hx : ∃ k', scope.names.lookup x = some k' := by
   rcases h with h | h | h <;> (obtain ⟨k', z, _⟩ := relabel_at h; exact ⟨k', z⟩)
  obtain ⟨k', hk⟩ := hx
  have ey := List.getElem?_eq_getElem (show i < X.N.length by omega)
  have hm : (x, X.N[i]'(by omega)) ∈ N0.zip X.N := List.mem_of_getElem? (i := i) (by rw [List.getElem?_zip_eq_some]; exact ⟨e, ey⟩)
  have := List.all_eq_true.mp q2 _ hm
  rw [hk] at this
  simp at this
  rw [ey, <- this]
theorem CompOk.hasC (S : CompOk X N0 scope xs cl) {x : Str} (h : (relabel scope X.env).names.lookup x = some .cell ∨ (relabel scope X.env).names.lookup x = some .free) : ∃ c, cl.lookup x = some c := by
 have go : ∀ k, (relabel scope X.env).names.lookup x = some k -> (k = .cell ∨ k = .free) -> ∃ c, cl.lookup x = some c := fun k e hk => by
  obtain ⟨k', _, e2, e3⟩ := relabel_at e
  have hf : k' = .free := by
   rcases e3 with e3 | e3
   ·subst e3
    rcases hk with rfl | rfl
    ·exact absurd rfl (S.nc _ e2)
    ·rfl
   ·exact e3.1
  exact (S.fr e2 hf).1
 rcases h with h | h
 ·exact go _ h (.inl rfl)
 ·exact go _ h (.inr rfl)
end
section
variable {X : Cx} {N0 : List Str} {scope : Scope} {xs : List Str} {cl : List (Str × Addr)} {pins : List (Addr × Obj)} {σ : St} {H2 : Hp} {s2 : Shared} {fp : List Addr} {C : Addr}
theorem comp_ok (I2 : Inv X pins σ H2 s2) (S : CompOk X N0 scope xs cl) (f2 : ∀ b ∈ fp, FpOk X pins H2 b) (hfp : ∀ b ∈ fp, b < s2.heap.objs.size) (hC : s2.heap.objs.size <= C) : (X.comp N0 scope xs cl C s2 H2 fp).Ok where
 mod := I2.ok.mod
 kind := S.kind
 glob := I2.ok.glob
 blt := I2.ok.blt
 above := hC
 inj := fun x y c h1 h2 => I2.ok.inj x y c (S.sub.at h1) (S.sub.at h2)
 has := fun x h => S.hasC h
 cab := fun _ _ h => nomatch h
 hd := I2.ok.hd
 frames := I2.ok.frames
 stk := .inl rfl
 exf := fun b hb => ⟨Nat.ne_of_lt (Nat.lt_of_lt_of_le (hfp b hb) hC), fun x c e => (f2 b hb).2.2.2.2.1 x c (S.sub.at e)⟩
 bs := I2.bs
 bsz := Nat.le_trans I2.ok.bsz I2.sz
 noex := fun b o e hb => by
  rcases (f2 b hb).2.2.2.1 with z | z
  ·exact I2.ok.noex b o e z
  ·exact absurd (Nat.lt_of_lt_of_le (Heap.lt_size e) (Nat.le_trans I2.ok.bsz z)) (Nat.lt_irrefl _)
 exfs := fun b hb z => by
  rcases List.mem_cons.mp (I2.stkSub b z) with q | q
  ·exact (f2 b hb).2.1 q
  ·exact (f2 b hb).2.2.1 q
 funs := I2.stack
 frf := I2.stkFree
theorem comp_cell {H' : Hp} {h' : Heap} (I2 : Inv X pins σ H2 s2) (f2 : ∀ b ∈ fp, FpOk X pins H2 b) (u : Un (frs X.stack) fp H2 H' s2.heap h') {x : Str} {c : Addr} {v : Option Value} (e : X.env.cells.lookup x = some c) (z : s2.heap.IsCell c v) : h'.IsCell c v := by
 obtain ⟨o, ho, hd⟩ := z
 obtain ⟨sl, q⟩ := u.any ho (I2.freeC x c e) fun hb => (f2 c hb).2.2.2.2.1 x c e rfl
 exact ⟨_, q, hd⟩
theorem comp_loc {H' : Hp} {h' : Heap} {m' : Str -> Option Value} (I2 : Inv X pins σ H2 s2) (S : CompOk X N0 scope xs cl) (f2 : ∀ b ∈ fp, FpOk X pins H2 b) (u : Un (frs X.stack) fp H2 H' s2.heap h')
  (i : Nat) (x : Str) (v : V) (e1 : (N0 ++ xs)[i]? = some x) (e2 : (σ ++ List.replicate xs.length none)[i]? = some (some v)) (e3 : Vis (relabel scope X.env) x) :
  ∃ w, RelV v w /\ Look (compEnvC scope cl C X.env) h' m' x w := by
 have hl := I2.len
 have hl0 := S.len
 by_cases hi : i < σ.length
 ·rw [List.getElem?_append_left (by omega)] at e1
  rw [List.getElem?_append_left hi] at e2
  obtain ⟨c, hc, hk⟩ := S.vis e3 (List.mem_of_getElem? e1)
  obtain ⟨m, _, hloc⟩ := I2.loc
  have hv : Vis X.env.scope x := .inr hk
  obtain ⟨w, r, l⟩ := hloc i x v (S.same e1 e3) e2 hv
  have hcx := S.sub.at hc
  refine ⟨w, r, .inr ⟨?_, c, hc, ?_⟩⟩
  ·rcases e3 with e3 | e3 | e3
   ·obtain ⟨k', _, m2, m3⟩ := relabel_at e3
    rcases m3 with m3 | m3
    ·exact absurd (List.mem_of_getElem? e1) (S.lo m2 m3).2
    ·exact nomatch m3.2
   ·exact .inl e3
   ·exact .inr e3
  ·rcases l with ⟨q, _⟩ | ⟨_, c', q, z⟩
   ·rcases hk with hk | hk
    ·rw [q] at hk; cases hk
    ·rw [q] at hk; cases hk
   ·rw [hcx] at q
    cases q
    exact comp_cell I2 f2 u hcx z
 ·rw [List.getElem?_append_right (by omega), List.getElem?_replicate] at e2
  split at e2 <;> cases e2
theorem comp_reset {pins' : List (Addr × Obj)} {σ' : St} {H' : Hp} {s' : Shared} (I2 : Inv X pins σ H2 s2) (S : CompOk X N0 scope xs cl) (f2 : ∀ b ∈ fp, FpOk X pins H2 b) (J : Inv (X.comp N0 scope xs cl C s2 H2 fp) pins' σ' H' s') :
  Inv (X.comp N0 scope xs cl C s2 H2 fp) pins' (σ ++ List.replicate xs.length none) H' s' :=
 ⟨J.ok, J.os, J.bare, J.base, let ⟨m, hn, _⟩ := J.loc; ⟨m, hn, fun i x v e1 e2 e3 => comp_loc I2 S f2 J.base i x v e1 e2 e3⟩, J.cell, J.free, J.freeC, J.pin, J.hok, by
  rw [List.length_append, List.length_replicate]
  show σ.length + xs.length = (N0 ++ xs).length
  rw [List.length_append, I2.len, S.len]⟩
theorem comp_start {D : Addr} {oD : Obj} {s3 : Shared} {m' : Str -> Option Value} (I2 : Inv X pins σ H2 s2) (S : CompOk X N0 scope xs cl) (f2 : ∀ b ∈ fp, FpOk X pins H2 b) (hfp : ∀ b ∈ fp, b < s2.heap.objs.size) (hC : s2.heap.objs.size <= C) (hD : s2.heap.objs.size <= D) (hDC : D ≠ C)
  (k : ∀ b o, s2.heap.get? b = some o -> s3.heap.get? b = some o) (ho : s3.os = s2.os) (hb : AllBare s3.gens) (hn : s3.heap.Ns C m') (hd : s3.heap.get? D = some oD) (hcell : ∀ v, oD.data ≠ .cell v) :
  Inv (X.comp N0 scope xs cl C s2 H2 fp) [(D, oD)] (σ ++ List.replicate xs.length none) H2 s3 :=
 have u : Un (frs X.stack) fp H2 H2 s2.heap s3.heap := Un.kept k
 ⟨comp_ok I2 S f2 hfp hC, ho, hb, u, ⟨m', hn, fun i x v e1 e2 e3 => comp_loc I2 S f2 u i x v e1 e2 e3⟩,
  fun x c e => by
   obtain ⟨v, z⟩ := I2.cell x c (S.sub.at e)
   exact ⟨v, comp_cell I2 f2 u (S.sub.at e) z⟩,
  I2.hok.fresh hC, fun x c e => I2.freeC x c (S.sub.at e),
  fun p hp => by
   have e : p = (D, oD) := List.mem_singleton.mp (show p ∈ [(D, oD)] from hp)
   subst e
   refine ⟨hd, I2.hok.fresh hD, hDC, fun z => ?_, hcell⟩
   obtain ⟨_, o, q, _⟩ := I2.stack.mem z
   exact absurd (Nat.lt_of_lt_of_le (Heap.lt_size q) hD) (Nat.lt_irrefl _),
  I2.hok.kept k, by
   rw [List.length_append, List.length_replicate]
   show σ.length + xs.length = (N0 ++ xs).length
   rw [List.length_append, I2.len, S.len]⟩
theorem hok_track {P : Program} {w : World} {H : Hp} {h : Heap} {a : Addr} {o : HO} (x : HOk P w H h) (hn : H a = none) (new : ObjOk P w (upd H a o) h a o) : HOk P w (upd H a o) h := fun b u e => by
 by_cases hb : b = a
 ·subst hb
  rw [upd_same] at e
  cases e
  exact new
 ·rw [upd_ne hb] at e
  exact (x b u e).stay (fun _ _ _ q => q) (fun c q => by rw [upd_ne (ne_of_none q hn)]; exact q) fun c ys q => by rw [upd_ne (ne_of_none q hn)]; exact q
theorem comp_end {pins' : List (Addr × Obj)} {σ' : St} {H' : Hp} {s' : Shared} {D : Addr} {ys : List V} {its : List Value} {n : Nat} (I2 : Inv X pins σ H2 s2) (f2 : ∀ b ∈ fp, FpOk X pins H2 b) (hD : s2.heap.objs.size <= D)
  (J : Inv (X.comp N0 scope xs cl C s2 H2 fp) pins' σ' H' s') (hn : H' D = none) (e : s'.heap.get? D = some { cls := .type "list", data := .seq its.toArray n }) (r : Vals ys its) (hz : ys.length <= sizeLine) :
  Inv X pins σ (upd H' D (.lst ys)) s' := by
 have u : Un (frs X.stack) fp H2 H' s2.heap s'.heap := J.base
 have neD : ∀ b o, s2.heap.get? b = some o -> b ≠ D := fun b o q => Nat.ne_of_lt (Nat.lt_of_lt_of_le (Heap.lt_size q) hD)
 have neT : ∀ b o, H2 b = some o -> b ≠ D := fun b o q => Nat.ne_of_lt (Nat.lt_of_lt_of_le (I2.hok.lt q) hD)
 refine I2.call' (ch := fp) J.os ⟨u.keep, u.slot, fun b o q m hx => ?_, u.there, fun b zs q => ?_, fun b o zs q => ?_, fun b ps q => ?_⟩ (hok_track J.hok hn ⟨hz, its, n, r, e⟩) J.bare fun b hb => ?_
 ·rw [upd_ne (neD b o q)]
  exact u.free b o q m hx
 ·rw [upd_ne (neT b _ q)]
  exact u.tups b zs q
 ·rw [upd_ne (neT b _ q)]
  exact u.frzs b o zs q
 ·rw [upd_ne (neT b _ q)]
  exact u.tbls b ps q
 ·obtain ⟨_, z1, _, z2, z3, z4⟩ := f2 b hb
  exact ⟨z2, z1, z3, z4⟩
end
def PIf (X : Cx) (ifs : List Expr) (t : TT) : Prop :=
 ∀ (pins : List (Addr × Obj)) (s : Shared) (σ : St) (H : Hp) (Q : Bool -> Hp -> Prop), Inv X pins σ H s -> t σ H Q →
  wpAny (model X.prog X.w) X.A (forIn ifs true fun c r => if r = true then do let ok <- isTrue c X.env (eval c X.env); pure (ForInStep.yield ok) else pure (ForInStep.yield r)) (TP X pins σ Q) X.xe s
def tYes : TT := fun _ H Q => Q true H
theorem pif_nil {X : Cx} : PIf X [] tYes := fun _ _ _ H _ I h => wpAny_tests_nil ⟨H, I, h⟩
def tComp (n : Nat) (wi : TI) (g : TG) (tf : TT) (te : TE) (fin : List V -> Hp -> Prop) : St -> Hp -> Prop := fun σ H => wi σ H fun J H1 => ∃ W : Nat -> Nat -> List V -> Hp -> Prop, (∃ m, W 0 m [] H1) /\ ∀ i m ys H, W i m ys H →
 ys.length <= sizeLine /\ ((J.stop i H /\ fin ys H) ∨ (J.go i H /\ ∃ (Y : V -> Hp -> Prop) (Z : Hp -> Prop), (∀ y H4, Y y H4 -> ys.length < sizeLine /\ ∃ m', m' < m /\ W (i + 1) m' (ys ++ [y]) H4) /\ (∀ H3, Z H3 -> ∃ m', m' < m /\ W (i + 1) m' ys H3) ∧
  ∀ x H', J.yld i H x H' -> g x (σ ++ List.replicate n none) H' fun σ2 H2 => tf σ2 H2 fun b H3 => if b = true then te σ2 H3 Y else Z H3))
theorem comp_turns {prog : Program} {w : World} {A : Around} {R : Result -> Shared -> Prop} {s : Shared} {elt target iter : Expr} {ifs : List Expr} {scope : Scope} {pos : Pos} {it acc : Value} {env : Env} (I : Nat -> Shared -> Prop)
  (turn : ∀ n s, I n s -> wpAny (model prog w) A (pyNext it) (fun r s₁ => match r with
   | none => R (.ok .next) s₁
   | some v => wpAny (model prog w) A (letOwnedTupleGo target it v) (fun _ t₁ => wpAny (model prog w) A (assign target env v) (fun _ s₂ =>
     wpAny (model prog w) A (forIn ifs true fun c r => if r = true then do let ok <- isTrue c env (eval c env); pure (ForInStep.yield ok) else pure (ForInStep.yield r)) (fun ok s₃ =>
      if ok = true then wpAny (model prog w) A (eval elt env) (fun x s₄ => wpAny (model prog w) A (call (.builtin "list.append") [acc, x]) (fun _ s₅ => ∃ m, m < n /\ I m s₅) (fun _ _ => False) s₄) (fun _ _ => False) s₃
      else ∃ m, m < n /\ I m s₃) (fun _ _ => False) s₂) (fun _ _ => False) t₁) (fun _ _ => False) s₁) (fun _ _ => False) s)
  (n : Nat) (h : I n s) : codeAny (model prog w) A (.compLoop (.ListComp elt [⟨target, iter, ifs, 0⟩] scope pos) 0 it acc env) R s := by
 refine codeAny_loop rfl I (fun n s hI => ?_) n h
 show wpAny _ A (Sem.onRaise (compTurn _ 0 it acc env) fun x => do noteFrame x env; theTreesLotGoes x) _ _ s
 refine wpAny_noted ?_
 rw [compTurn_list]
 refine wpAny_bind (wpAny_standAt (wpAny_bind (wpAny_mono (turn n s hI) (fun r s₁ h₁ => ?_) fun _ _ z => z.elim)))
 cases r with
 | none => exact wpAny_pure h₁
 | some v =>
  refine wpAny_bind (wpAny_mono h₁ (fun _ t₁ k₁ => ?_) fun _ _ z => z.elim)
  refine wpAny_bind (wpAny_mono k₁ (fun _ s₂ h₂ => wpAny_bind (wpAny_mono h₂ (fun ok s₃ h₃ => ?_) fun _ _ z => z.elim)) fun _ _ z => z.elim)
  cases ok with
  | false => exact wpAny_pure ⟨rfl, h₃⟩
  | true =>
   refine wpAny_bind (wpAny_bind (wpAny_mono h₃ (fun x s₄ h₄ => ?_) fun _ _ z => z.elim))
   exact wpAny_bind (wpAny_mono h₄ (fun _ s₅ h₅ => wpAny_pure (wpAny_pure ⟨rfl, h₅⟩)) fun _ _ z => z.elim)
section
variable {X : Cx} {N0 : List Str} {tg elt iter : Expr} {ifs : List Expr} {scope : Scope} {xs : List Str} {cl : List (Str × Addr)} {pos : Pos} {wi : TI} {g : TG} {tf : TT} {te : TE}
theorem comp_block {pins : List (Addr × Obj)} {σ : St} {H2 : Hp} {s2 : Shared} {it : Addr} {fp : List Addr} {tn : Nat -> Heap -> Prop} {J : It} {W : Nat -> Nat -> List V -> Hp -> Prop} {m0 : Nat} {fin : List V -> Hp -> Prop} {RR : Value -> Addr -> Result -> Shared -> Prop}
  (hc : X.calm = true) (hx : X.xe = fun _ _ => False) (S : CompOk X N0 scope xs cl)
  (hg : ∀ C s H fp, PG (X.comp N0 scope xs cl C s H fp) tg g) (hf : ∀ C s H fp, PIf (X.comp N0 scope xs cl C s H fp) ifs tf) (he : ∀ C s H fp, PE (X.comp N0 scope xs cl C s H fp) elt te)
  (I2 : Inv X pins σ H2 s2) (T : Turn X.prog X.w X.K tg J fp it tn) (st2 : tn 0 s2.heap) (f2 : ∀ b ∈ fp, FpOk X pins H2 b) (w0 : W 0 m0 [] H2)
  (turn : ∀ i m ys H, W i m ys H -> ys.length <= sizeLine /\ ((J.stop i H /\ fin ys H) ∨ (J.go i H /\ ∃ (Y : V -> Hp -> Prop) (Z : Hp -> Prop), (∀ y H4, Y y H4 -> ys.length < sizeLine /\ ∃ m', m' < m /\ W (i + 1) m' (ys ++ [y]) H4) /\ (∀ H3, Z H3 -> ∃ m', m' < m /\ W (i + 1) m' ys H3) ∧
   ∀ x H', J.yld i H x H' -> g x (σ ++ List.replicate xs.length none) H' fun σ2 H2 => tf σ2 H2 fun b H3 => if b = true then te σ2 H3 Y else Z H3)))
  (hRR : ∀ (D C : Addr) (s' : Shared) (ys : List V) (H' : Hp) (m' : Str -> Option Value), Inv X pins σ (upd H' D (.lst ys)) s' -> H' D = none -> s'.heap.Ns C m' -> FpOk X pins (upd H' D (.lst ys)) C -> fin ys H' -> RR (.ref D) C (.ok .next) s') :
  wpAny (model X.prog X.w) X.A (newList []) (fun acc s₃ => wpAny (model X.prog X.w) X.A (newFunctionEnv scope X.env.globals cl [] X.env.qual none .none (some X.env)) (fun cenv s₄ =>
   codeAny (model X.prog X.w) X.A (.compStart (.ListComp elt [⟨tg, iter, ifs, 0⟩] scope pos) 0 (.ref it) acc { cenv with scope := relabel scope X.env }) (RR acc cenv.locals) s₄) X.xe s₃) X.xe s2 := by
 refine wpAny_newObj_type (wpAny_newFunctionEnv S.nc (by intro y hy; simp at hy) (fun h₁ hns₁ hsb₁ => ?_) S.kind)
 dsimp only at hns₁ hsb₁ ⊢
 generalize hG : s2.heap.push { cls := .type "list", dict := none, data := .seq ([] : List Value).toArray } = G at hns₁ hsb₁ ⊢
 have szG : G.objs.size = s2.heap.objs.size + 1 := by rw [<- hG, Heap.size_push]
 have hDC : s2.heap.objs.size ≠ G.objs.size := by rw [szG]; exact Nat.ne_of_lt (Nat.lt_succ_self _)
 have hC : s2.heap.objs.size <= G.objs.size := by rw [szG]; exact Nat.le_succ _
 have hfp : ∀ b ∈ fp, b < s2.heap.objs.size := fun b hb => let ⟨_, e, _⟩ := T.obj 0 _ st2 b hb; Heap.lt_size e
 have old : ∀ b o, s2.heap.get? b = some o -> h₁.get? b = some o := fun b o e =>
  hsb₁.extBut b o (Nat.ne_of_lt (Nat.lt_of_lt_of_le (Heap.lt_size e) hC)) (Heap.get?_push_of_some _ (hG ▸ Heap.get?_push_of_some _ e))
 have hacc : h₁.get? s2.heap.objs.size = some { cls := .type "list", data := .seq ([] : List Value).toArray 0 } := hsb₁.extBut _ _ hDC (Heap.get?_push_of_some _ (hG ▸ Heap.get?_push_size _ rfl))
 have hst₁ : tn 0 h₁ := T.keep 0 _ _ st2 fun b _ o e => old b o e
 have I3 : ∀ tk, Inv (X.comp N0 scope xs cl G.objs.size s2 H2 fp) [(s2.heap.objs.size, { cls := .type "list", data := .seq ([] : List Value).toArray 0 })] (σ ++ List.replicate xs.length none) H2 { s2 with heap := h₁, toks := tk } := fun tk =>
  comp_start I2 S f2 hfp hC (Nat.le_refl _) hDC old rfl I2.bare hns₁ hacc fun _ z => nomatch z
 have stat : ∀ {H' : Hp} {o : Obj}, (∀ b ∈ fp, H' b = none) -> ∀ b ∈ fp, FpOk (X.comp N0 scope xs cl G.objs.size s2 H2 fp) [(s2.heap.objs.size, o)] H' b := fun {H' o} hn b hb => by
  refine ⟨hn b hb, Nat.ne_of_lt (Nat.lt_of_lt_of_le (hfp b hb) hC), fun z => ?_, .inl hb, fun x c e => (f2 b hb).2.2.2.2.1 x c (S.sub.at e), fun p hp => ?_⟩
  ·rcases List.mem_cons.mp (I2.stkSub b z) with q | q
   ·exact (f2 b hb).2.1 q
   ·exact (f2 b hb).2.2.1 q
  ·have e : p = (s2.heap.objs.size, o) := List.mem_singleton.mp (show p ∈ [(s2.heap.objs.size, o)] from hp)
   subst e
   exact Nat.ne_of_gt (hfp b hb)
 have loop : ∀ tk, codeAny (model X.prog X.w) X.A (.compLoop (.ListComp elt [⟨tg, iter, ifs, 0⟩] scope pos) 0 (.ref it) (.ref s2.heap.objs.size) (compEnvC scope cl G.objs.size X.env)) (RR (.ref s2.heap.objs.size) G.objs.size) { s2 with heap := h₁, toks := tk } := by
  intro tk
  refine comp_turns (fun n s' => ∃ i ys its k H', Inv (X.comp N0 scope xs cl G.objs.size s2 H2 fp) [(s2.heap.objs.size, { cls := .type "list", data := .seq (its : List Value).toArray k })] (σ ++ List.replicate xs.length none) H' s' /\ tn i s'.heap /\ (∀ b ∈ fp, H' b = none) /\ Vals ys its /\ W i n ys H')
   ?_ m0 ⟨0, [], [], 0, H2, I3 tk, hst₁, fun b hb => (f2 b hb).1, .nil, w0⟩
  rintro n s' ⟨i, ys, its, k, H', I', st', fr', rv, w'⟩
  obtain ⟨hlen, way⟩ := turn i n ys H' w'
  rcases way with ⟨stop, qf⟩ | ⟨go, Y, Z, hY, hZ, step⟩
  ·refine thn (T.done (X.comp N0 scope xs cl G.objs.size s2 H2 fp) rfl rfl rfl hc i _ s' _ H' (fun _ _ => False) I' (stat fr') st' stop) fun r s1 ⟨hr, I1⟩ => ?_
   subst hr
   obtain ⟨e, n1, _⟩ := I1.pin _ (List.mem_singleton.mpr rfl)
   obtain ⟨m1, hn1, _⟩ := I1.loc
   refine hRR _ _ s1 ys H' m1 (comp_end I2 f2 (Nat.le_refl _) I1 n1 e rv hlen) n1 hn1 ?_ qf
   refine I2.fpOk hC ?_
   rw [upd_ne hDC.symm]
   exact I1.free
  ·refine thn (T.item (X.comp N0 scope xs cl G.objs.size s2 H2 fp) rfl rfl rfl hc i _ s' _ H' (fun _ _ => False) I' (stat fr') st' go) fun r s1 ⟨u, hr, h1⟩ => ?_
   subst hr
   refine thn h1 fun _ s5 ⟨x, H5, I5, r5, y5, st5, fr5⟩ => ?_
   have I5' := I5.pinned (stat fr5) (T.obj _ _ st5)
   have hxe : (X.comp N0 scope xs cl G.objs.size s2 H2 fp).xe = fun _ _ => False := hx
   have q6 := hg _ s2 H2 fp _ s5 _ H5 x u _ I5' r5 (step x H5 y5)
   rw [hxe] at q6
   refine thn q6 fun _ s6 ⟨σ6, H6, I6, q6⟩ => ?_
   have q7 := hf _ s2 H2 fp _ s6 σ6 H6 _ I6 q6
   rw [hxe] at q7
   refine thn q7 fun b s7 ⟨H7, I7, q7⟩ => ?_
   have kept : ∀ {σ' : St} {H' : Hp} {s' : Shared}, Inv (X.comp N0 scope xs cl G.objs.size s2 H2 fp) ([(s2.heap.objs.size, { cls := .type "list", data := .seq its.toArray k })] ++ pinsAt fp s5.heap) σ' H' s' -> tn (i + 1) s'.heap /\ ∀ b ∈ fp, H' b = none := fun {σ' H' s'} Z => by
    refine ⟨T.keep _ _ _ st5 fun b hb o e => (Z.pin (b, o) (List.mem_append_right _ (List.mem_append_right _ (mem_pinsAt hb e)))).1, fun b hb => ?_⟩
    obtain ⟨o, e, d⟩ := T.obj _ _ st5 b hb
    exact (Z.pin (b, o) (List.mem_append_right _ (List.mem_append_right _ (mem_pinsAt hb e)))).2.1
   cases b with
   | false =>
    rw [if_neg Bool.false_ne_true]
    rw [if_neg Bool.false_ne_true] at q7
    obtain ⟨m', hm, w7⟩ := hZ _ q7
    exact ⟨m', hm, i + 1, ys, its, k, H7, comp_reset I2 S f2 I7.unpinned, (kept I7).1, (kept I7).2, rv, w7⟩
   | true =>
    rw [if_pos rfl]
    rw [if_pos rfl] at q7
    have q8 := he _ s2 H2 fp _ s7 σ6 H7 _ I7 q7
    rw [hxe] at q8
    refine thn q8 fun y s8 ⟨yv, H8, I8, r8, qY⟩ => ?_
    obtain ⟨hz, m', hm, w8⟩ := hY _ _ qY
    obtain ⟨eD, nD, neC, nfD, _⟩ := I8.pin (s2.heap.objs.size, { cls := .type "list", data := .seq its.toArray k }) (List.mem_append_right _ (List.mem_append_left _ (List.mem_singleton.mpr rfl)))
    have hl := rv.length
    refine call_meets F.slot_list_append ⟨_, eD, rfl⟩ F.entry_list_append (F.args_list_append_2 _ _) (PySem.list_append s2.heap.objs.size its.toArray k y (by rw [List.size_toArray]; omega)) ⟨eD, ?_⟩
    have eN := PySem.IsL.update eD (fun (a : Array Value) => a.push y)
    have eA : its.toArray.push y = (its ++ [y]).toArray := by simp
    rw [eA] at eN
    have drop : Inv (X.comp N0 scope xs cl G.objs.size s2 H2 fp) (pinsAt fp s5.heap) σ6 H8 s8 := I8.pins_of fun p hp => I8.pin p (List.mem_append_right _ (List.mem_append_right _ hp))
    have I9 : Inv (X.comp N0 scope xs cl G.objs.size s2 H2 fp) (pinsAt fp s5.heap) σ6 H8 { s8 with heap := s8.heap.update s2.heap.objs.size (Obj.mapSeq fun (a : Array Value) => a.push y) } := by
     refine drop.turned (it := s2.heap.objs.size) (t' := s8.toks) (fun b o hb q => (Heap.get?_update_other s8.heap _ (Ne.symm hb)).trans q) nD neC (.inr (Nat.le_refl _)) (fun x c e z => ?_) fun p hp z => ?_
     ·obtain ⟨v, q⟩ := I2.cell x c (S.sub.at e)
      exact absurd (q.lt) (by rw [z]; exact Nat.lt_irrefl _)
     ·have hp' : p ∈ pinsAt fp s5.heap := hp
      exact absurd (hfp _ (of_pinsAt hp').1) (by rw [z]; exact Nat.lt_irrefl _)
    have I10 : Inv (X.comp N0 scope xs cl G.objs.size s2 H2 fp) ([(s2.heap.objs.size, { cls := .type "list", data := .seq (its ++ [y]).toArray _ })] ++ pinsAt fp s5.heap) σ6 H8 { s8 with heap := s8.heap.update s2.heap.objs.size (Obj.mapSeq fun (a : Array Value) => a.push y) } := I9.pins_of fun p hp => by
     rcases List.mem_append.mp hp with z | z
     ·have e := List.mem_singleton.mp z
      subst e
      exact ⟨eN, nD, neC, nfD, fun _ z => nomatch z⟩
     ·exact I9.pin p (List.mem_append_right _ z)
    have kp : tn (i + 1) (s8.heap.update s2.heap.objs.size (Obj.mapSeq fun (a : Array Value) => a.push y)) /\ ∀ b ∈ fp, H8 b = none := by
     refine ⟨T.keep _ _ _ (kept I8).1 fun b hb o e => (Heap.get?_update_other s8.heap _ (Nat.ne_of_gt (hfp b hb))).trans e, (kept I8).2⟩
    exact ⟨m', hm, i + 1, ys ++ [yv], its ++ [y], _, H8, comp_reset I2 S f2 I10.unpinned, kp.1, kp.2, rv.append (.cons r8 .nil), w8⟩
 exact codeAny_compStart_list (loop _) (T.self _ 0 _ _ _ hst₁ (loop _))
theorem comp_gone {pins : List (Addr × Obj)} {σ : St} {H : Hp} {s : Shared} {h' : Heap} {C : Addr} (I : Inv X pins σ H s) (f : FpOk X pins H C) (k : Heap.SameBut C s.heap h') : Inv X pins σ H { s with heap := h' } := by
 obtain ⟨n, nl, nf, ab, nc, np⟩ := f
 exact I.turned (it := C) (t' := s.toks) (fun b o hb e => k.extBut b o hb e) n nl ab nc np
theorem pe_comp (hc : X.calm = true) (hx : X.xe = fun _ _ => False) (S : CompOk X N0 scope xs cl) (hi : PI X tg iter wi)
  (hg : ∀ C s H fp, PG (X.comp N0 scope xs cl C s H fp) tg g) (hf : ∀ C s H fp, PIf (X.comp N0 scope xs cl C s H fp) ifs tf) (he : ∀ C s H fp, PE (X.comp N0 scope xs cl C s H fp) elt te)
  (hs : autoParam (∀ x, foldedSetIterable iter X.env x = pure x) AutoP.a2._auto_1) :
  PE X (.ListComp elt [⟨tg, iter, ifs, 0⟩] scope pos) (fun σ H Q => tComp xs.length wi g tf te (fun ys H' => ∀ p, H' p = none -> Q (.ref p) (upd H' p (.lst ys))) σ H) := by
 intro pins s σ H Q I h
 rw [eval_ListComp]
 refine wpAny_comprehension_free (use := none) rfl hs S.clos S.kind (fun y hy hl => (S.lo hy hl).1) ?_
 refine thn (hi pins s σ H _ I h) fun xv s1 h1 => thn h1 fun itv s2 h2 => ?_
 obtain ⟨it, fp, tn, J, H2, rfl, I2, T, st2, f2, W, ⟨m0, w0⟩, turn⟩ := h2
 refine comp_block (RR := fun acc C => compPost (model X.prog X.w) X.A X.xe none (EP X pins σ Q) acc C) hc hx S hg hf he I2 T st2 f2 w0 turn ?_
 intro D C s' ys H' m' I' nD hn fC fin
 exact ⟨m', hn, fun h' k => ⟨.ref D, _, comp_gone I' fC k, rfl, fin D nD⟩⟩
theorem ps_setC {i : Nat} {y : Str} {py spos : Pos} (hc : X.calm = true) (hx : X.xe = fun _ _ => False) (hN : X.N.Nodup) (hy : X.N[i]? = some y) (hl : X.env.scope.names.lookup y = some .local) (S : CompOk X N0 scope xs cl) (hi : PI X tg iter wi)
  (hg : ∀ C s H fp, PG (X.comp N0 scope xs cl C s H fp) tg g) (hf : ∀ C s H fp, PIf (X.comp N0 scope xs cl C s H fp) ifs tf) (he : ∀ C s H fp, PE (X.comp N0 scope xs cl C s H fp) elt te)
  (hsw : autoParam (swapsWith (.ListComp elt [⟨tg, iter, ifs, 0⟩] scope pos) (some (.Name y py)) spos.line X.env = pure true) AutoP.a4._auto_1)
  (hs : autoParam (∀ x, foldedSetIterable iter X.env x = pure x) AutoP.a2._auto_1) :
  PS X (.Assign [.Name y py] (.ListComp elt [⟨tg, iter, ifs, 0⟩] scope pos) spos) (fun D σ H => tComp xs.length wi g tf te (fun ys H' => ∀ p, H' p = none -> D.nx (σ.set i (some (.ref p))) (upd H' p (.lst ys))) σ H) := by
 intro pins s σ H D I h
 rw [exec_Assign_Name_used _ _ _ _ hsw]
 refine wpAny_bind (wpAny_standAt (wpAny_bind ?_))
 show wpAny _ X.A (comprehension (.ListComp elt [⟨tg, iter, ifs, 0⟩] scope pos) scope X.env _ (newList []) false (eval iter X.env) (some (assign (.Name y py) X.env)) >>= fun _ => _) _ _ s
 refine wpAny_bind (wpAny_mono (wpAny_comprehension_free (use := some (assign (.Name y py) X.env)) (Q := fun _ s' => SP X pins D .next s') rfl hs S.clos S.kind (fun y hy hl => (S.lo hy hl).1) ?_) (fun _ s' hq => wpAny_pure (wpAny_pure hq)) fun _ _ e => e)
 refine thn (hi pins s σ H _ I h) fun xv s1 h1 => thn h1 fun itv s2 h2 => ?_
 obtain ⟨it, fp, tn, J, H2, rfl, I2, T, st2, f2, W, ⟨m0, w0⟩, turn⟩ := h2
 refine comp_block (RR := fun acc C => compPost (model X.prog X.w) X.A X.xe (some (assign (.Name y py) X.env)) (fun _ s' => SP X pins D .next s') acc C) hc hx S hg hf he I2 T st2 f2 w0 turn ?_
 intro d C s' ys H' m' I' nD hn fC fin
 obtain ⟨oC, es, ep, ho, hd, hr⟩ := hn
 have IC : Inv X (pins ++ [(C, oC)]) σ (upd H' d (.lst ys)) s' := I'.pins_of fun p hp => by
  rcases List.mem_append.mp hp with z | z
  ·exact I'.pin p (List.mem_append_right _ z)
  ·have e := List.mem_singleton.mp z
   subst e
   exact ⟨ho, fC.1, fC.2.1, fC.2.2.1, fun v z => by rw [hd] at z; cases z⟩
 show wpAny (model X.prog X.w) X.A (assign (.Name y py) X.env (.ref d)) _ _ s'
 refine thn (pg_name (pos := py) hN hy (.inl hl) (.inr hl) _ s' σ _ (.ref d) (.ref d) _ IC rfl (fin d nD)) fun _ s'' ⟨σ'', H'', I'', q''⟩ => ?_
 have pC := I''.pin (C, oC) (List.mem_append_right _ (List.mem_append_right _ (List.mem_singleton.mpr rfl)))
 refine ⟨_, ⟨oC, es, ep, pC.1, hd, hr⟩, fun h' k => ⟨σ'', H'', comp_gone I''.unpinned ⟨pC.2.1, fC.2⟩ k, q''⟩⟩
end
section
variable {g : TG} {tf : TT} {te : TE} {fin : List V -> Hp -> Prop} {n : Nat} {σ : St} {H : Hp}
theorem comp_by {J : It} {k : Nat} (Pv : Nat -> List V -> Hp -> Prop) (hk : k <= 1000000) (h0 : Pv 0 [] H) (hz : ∀ i ys H, Pv i ys H -> ys.length <= i)
  (hgo : ∀ i ys H, i < k -> Pv i ys H -> J.go i H /\ ∀ x H', J.yld i H x H' -> g x (σ ++ List.replicate n none) H' fun σ2 H2 => tf σ2 H2 fun b H3 => if b = true then te σ2 H3 (fun y H4 => Pv (i + 1) (ys ++ [y]) H4) else Pv (i + 1) ys H3)
  (hst : ∀ ys H, Pv k ys H -> J.stop k H /\ fin ys H) :
  ∃ W : Nat -> Nat -> List V -> Hp -> Prop, (∃ m, W 0 m [] H) /\ ∀ i m ys H, W i m ys H -> ys.length <= sizeLine /\ ((J.stop i H /\ fin ys H) ∨ (J.go i H /\ ∃ (Y : V -> Hp -> Prop) (Z : Hp -> Prop), (∀ y H4, Y y H4 -> ys.length < sizeLine /\ ∃ m', m' < m /\ W (i + 1) m' (ys ++ [y]) H4) ∧
   (∀ H3, Z H3 -> ∃ m', m' < m /\ W (i + 1) m' ys H3) /\ ∀ x H', J.yld i H x H' -> g x (σ ++ List.replicate n none) H' fun σ2 H2 => tf σ2 H2 fun b H3 => if b = true then te σ2 H3 Y else Z H3)) := by
 have hl : sizeLine = 16777216 := sizeLine_eq
 refine ⟨fun i m ys H => m = k - i /\ i <= k /\ Pv i ys H, ⟨k, by simp, Nat.zero_le _, h0⟩, ?_⟩
 rintro i m ys H ⟨rfl, hi, p⟩
 have z := hz i ys H p
 refine ⟨by omega, ?_⟩
 by_cases hlt : i < k
 ·obtain ⟨g1, g2⟩ := hgo i ys H hlt p
  exact .inr ⟨g1, fun y H4 => Pv (i + 1) (ys ++ [y]) H4, fun H3 => Pv (i + 1) ys H3, fun y H4 q => ⟨by omega, k - (i + 1), by omega, rfl, hlt, q⟩, fun H3 q => ⟨k - (i + 1), by omega, rfl, hlt, q⟩, g2⟩
 ·have e : i = k := by omega
  subst e
  exact .inl (hst ys H p)
end
theorem vals_at {ns : List Int} {its : List Value} (r : Vals (ns.map V.int) its) {i : Nat} {v : Value} (e : its.toArray[i]? = some v) : ∃ t, v = .int (ns.getD i 0) t := by
 have e' : its[i]? = some v := by simpa using e
 have hi : i < ns.length := by
  have h1 := r.length
  have h2 := (List.getElem?_eq_some_iff.mp e').1
  rw [List.length_map] at h1
  omega
 obtain ⟨u, q, t, z⟩ := r.get (i := i) (x := .int (ns[i])) (by simp [hi])
 rw [e'] at q
 cases q
 exact ⟨t, by rw [z]; simp [hi]⟩
theorem getD_lt {ns : List Int} {i : Nat} (h : i < ns.length) : ns.getD i 0 = ns[i] := by simp [h]
theorem bools_at {bs : List Bool} {its : List Value} (r : Vals (bs.map V.bl) its) {i : Nat} {v : Value} (e : its.toArray[i]? = some v) : v = .bool (bs.getD i true) := by
 have e' : its[i]? = some v := by simpa using e
 have hi : i < bs.length := by
  have h1 := r.length
  have h2 := (List.getElem?_eq_some_iff.mp e').1
  rw [List.length_map] at h1
  omega
 obtain ⟨u, q, z⟩ := r.get (i := i) (x := .bl (bs[i])) (by simp [hi])
 rw [e'] at q
 cases q
 rw [show v = Value.bool bs[i] from z]
 simp [hi]
theorem range_allB : ∀ (bs : List Bool), ((List.range bs.length).all fun i => bs.getD i true) = bs.all id
 | [] => rfl
 | b :: r => by
  rw [List.length_cons, List.range_succ_eq_map, List.all_cons, List.all_map, List.all_cons]
  have e : ((fun i => (b :: r).getD i true) ∘ Nat.succ) = fun i => r.getD i true := by
   funext i
   simp
  rw [e, range_allB r]
  simp
section
variable {X : Cx}
theorem call_allB (hc : X.calm = true) : CallR X (.builtin "all") (fun xs H Q => ∃ (l : Addr) (bs : List Bool), xs = [.ref l] /\ SqL X.K H l (bs.map V.bl) /\ Q (.bl (bs.all id)) H) := by
 intro pins s σ H xs us Q I r h
 obtain ⟨l, bs, rfl, hq, q⟩ := h
 obtain ⟨u, rfl, rx⟩ := vals1 r
 cases rx
 obtain ⟨its, r', pl, hz⟩ := I.list hq
 have hl := pl.isList
 have hlt : l < s.heap.objs.size := by obtain ⟨_, e, _⟩ := hl; exact Heap.lt_size e
 have hlen : bs.length = its.length := by rw [<- r'.length, List.length_map]
 refine call_all_walk (wpAny_pyIter_list hl ?_)
 refine ⟨s.heap.objs.size, _, _, its.toArray.size, _, _, fun i => bs.getD i true, rfl, Walks.list (A := X.A.in1) (I.ok.hd hc) _ l (Nat.ne_of_lt hlt) its.toArray, ⟨⟨_, Heap.get?_push_size _ rfl, rfl, rfl⟩, hl.push _⟩, fun i v s' Q' E' hP hQ => ?_, fun h' tk hk => ?_⟩
 ·rw [bools_at r' hP]
  exact wpAny_truthy_bool hQ
 ·rw [List.size_toArray, <- hlen, range_allB]
  exact ⟨.bl (bs.all id), H, I.kept fun b o e => hk b o (fun z => Nat.ne_of_lt (Heap.lt_size e) (List.mem_singleton.mp z)) (Heap.get?_push_of_some _ e), rfl, q⟩
end
def Itf (f : Nat -> V) (n : Nat) : It := ⟨fun i _ => i < n, fun i H x H' => H' = H /\ x = f i, fun i _ => i = n⟩
theorem turn_walk {P : Program} {w : World} {K : PySem.W.Frag} {tg : Expr} {it : Addr} {n : Nat} {Pq : Nat -> Value -> Prop} {St : Nat -> Heap -> Prop} {f : Nat -> V} {nm : String}
  (W : ∀ A : Around, A.handled = none -> Walks P w A it [it] [it] n Pq St) (ho : ∀ i h, St i h -> ∃ o vs, h.get? it = some o /\ o.cls = .type nm /\ o.data = .fields vs)
  (hfr : ∀ i h h', St i h -> (∀ b ∈ [it], ∀ o, h.get? b = some o -> h'.get? b = some o) -> St i h') (hn : ["enumerate", "zip", "dict_itemiterator", "dict_reverseitemiterator", "odict_iterator", "itertools.zip_longest", "itertools.pairwise"].contains nm = false)
  (hP : ∀ i v, i < n -> Pq i v -> RelV (f i) v) (hself : ∀ (A : Around) (i : Nat) (s : Shared) (Q : Value -> Shared -> Prop) (E : Value -> Shared -> Prop), St i s.heap -> Q (.ref it) s -> wpAny (model P w) A (pyIter (.ref it)) Q E s) : Turn P w K tg (Itf f n) [it] it St where
 mem := by simp
 obj := fun i h st b hb => by
  have e : b = it := by simpa using hb
  subst e
  obtain ⟨o, vs, e, c, d⟩ := ho i h st
  exact ⟨o, e, fun v z => by rw [d] at z; cases z⟩
 keep := fun i h h' st k => hfr i h h' st k
 item := by
  intro X hP' hw hK hc i pins s σ H E I hf st hg
  subst hP' hw hK
  obtain ⟨f0, f1, f2, f3, f4, f5⟩ := hf it (by simp)
  refine (W X.A (I.ok.hd hc)).item i s _ _ hg st fun v h' tk hv st' kk => ?_
  have I1 : Inv X pins σ H { s with heap := h', toks := tk } := I.turned (fun b o hb e => kk b o (by simpa using hb) e) f0 f1 f3 f4 f5
  obtain ⟨o, vs, e, c, d⟩ := ho _ _ st'
  exact ⟨v, rfl, go_of (s := { s with heap := h', toks := tk }) e c d hn ⟨f i, H, I1, hP i v hg hv, ⟨rfl, rfl⟩, st', fun b hb => (hf b hb).1⟩⟩
 done := by
  intro X hP' hw hK hc i pins s σ H E I hf st hg
  subst hP' hw hK
  obtain ⟨f0, f1, f2, f3, f4, f5⟩ := hf it (by simp)
  have e : i = n := hg
  subst e
  exact (W X.A (I.ok.hd hc)).done s _ _ st fun h' tk kk => ⟨rfl, I.turned (fun b o hb e => kk b o (by simpa using hb) e) f0 f1 f3 f4 f5⟩
 self := hself
def sgn (z : Str) (i : Nat) : V := .str ⟨#[z.cps.getD i 0]⟩
def iTxt (tl : TE) : TI := fun σ H R => tl σ H fun x H1 => ∃ z, x = .str z /\ R (Itf (sgn z) z.cps.size) H1
theorem striter_fields {h : Heap} {it : Addr} {nm : String} {x : Str} {t : Tok} {i : Nat} (st : h.IsStrIter it nm x t i) : ∃ o vs, h.get? it = some o /\ o.cls = .type nm /\ o.data = .fields vs := by
 obtain ⟨o, e, c, d⟩ := st
 exact ⟨o, _, e, c, d⟩
theorem striter_keep {h h' : Heap} {it : Addr} {nm : String} {x : Str} {t : Tok} {i : Nat} (st : h.IsStrIter it nm x t i) (k : ∀ b ∈ [it], ∀ o, h.get? b = some o -> h'.get? b = some o) : h'.IsStrIter it nm x t i := let ⟨o, ho, r⟩ := st; ⟨o, k it (by simp) o ho, r⟩
theorem sgn_rel {z : Str} {i : Nat} {v : Value} (h : SignAt z i v) : RelV (sgn z i) v := by
 obtain ⟨c, u, e, rfl⟩ := h
 refine ⟨u, ?_⟩
 have : z.cps.getD i 0 = c := by simp [Array.getD_eq_getD_getElem?, e]
 rw [this]
theorem pi_txt {X : Cx} {tg : Expr} {l : Expr} {tl : TE} (hl : PE X l tl) : PI X tg l (iTxt tl) := by
 intro pins s σ H R I h
 refine thn (hl pins s σ H _ I h) fun v s1 ⟨x, H1, I1, r1, q1⟩ => ?_
 obtain ⟨z, e, q⟩ := q1
 subst e
 obtain ⟨t, rfl⟩ := r1
 have fp : ∀ b ∈ [s1.heap.objs.size], FpOk X pins H1 b := fun b hb => by
  have e : b = s1.heap.objs.size := by simpa using hb
  subst e
  exact I1.fpOk (Nat.le_refl _) (I1.hok.fresh (Nat.le_refl _))
 cases ha : z.cps.all (· < 128)
 ·refine wpAny_pyIter_wide ha ?_
  exact ⟨s1.heap.objs.size, [s1.heap.objs.size], _, _, H1, rfl, I1.kept (t' := s1.toks) fun b o e => Heap.get?_push_of_some _ e, turn_walk (nm := "str_iterator") (St := fun i h => h.IsStrIter s1.heap.objs.size "str_iterator" z t i) (fun A hA => Walks.strWide hA _ z t) (fun i h st => striter_fields st) (fun i h h' st k => striter_keep st k) (by decide) (fun i v _ hv => sgn_rel hv) (fun A i s Q E st q => wpAny_pyIter_striter_wide st q), ⟨_, Heap.get?_push_size _ rfl, rfl, rfl⟩, fp, q⟩
 ·refine wpAny_pyIter_ascii ha ?_
  exact ⟨s1.heap.objs.size, [s1.heap.objs.size], _, _, H1, rfl, I1.kept (t' := s1.toks) fun b o e => Heap.get?_push_of_some _ e, turn_walk (nm := "str_ascii_iterator") (St := fun i h => h.IsStrIter s1.heap.objs.size "str_ascii_iterator" z t i) (fun A hA => Walks.strAscii hA _ z t) (fun i h st => striter_fields st) (fun i h h' st k => striter_keep st k) (by decide) (fun i v _ hv => sgn_rel hv) (fun A i s Q E st q => wpAny_pyIter_striter_ascii st q), ⟨_, Heap.get?_push_size _ rfl, rfl, rfl⟩, fp, q⟩
variable {X : Cx}
theorem sl_txt : SlR X (fun x lo hi H Q => ∃ z, x = .str z /\ z.length <= sizeLine /\ Q (.str (Txt.slice z lo hi)) H) := by
 intro pins s σ H x v vl vu lo hi sl Q I rx hs pl pu q
 obtain ⟨z, rfl, hz, q⟩ := q
 obtain ⟨t, rfl⟩ := rx
 obtain ⟨o, e, c, d⟩ := hs
 have hp : ∀ {v : Value} {o : Option Int}, IsPart v o -> ∃ p : Option (Int × Tok), v = partValue p /\ p.map (·.1) = o := by
  intro v o h
  cases h with
  | none => exact ⟨none, rfl, rfl⟩
  | int i t => exact ⟨some (i, t), rfl, rfl⟩
 obtain ⟨l, rfl, hl⟩ := hp pl
 obtain ⟨u, rfl, hu⟩ := hp pu
 subst hl hu
 refine ⟨"str", _, F.slot_str_getitem.lookup, typeIs_str _ _ _, wpAny_getItem_str_slice (l := l) (u := u) (st := none) ⟨o, e, c, d⟩ rfl ?_⟩
 exact post_val_or_str ⟨Nat.le_trans (Txt.slice_le z _ _) hz, fun t' k => ⟨.str (Txt.slice z (l.map (·.1)) (u.map (·.1))), H, I.tok _, ⟨t', rfl⟩, q⟩⟩
theorem signs_vals {z : Str} {acc : Array Value} (h : ItemsOf (SignAt z) acc z.cps.size) : Vals ((List.range z.cps.size).map (sgn z)) acc.toList := by
 obtain ⟨h1, h2⟩ := h
 have gen : ∀ (n k : Nat) (ls : List Value), ls.length = n -> (∀ j v, ls[j]? = some v -> SignAt z (k + j) v) -> Vals ((List.range' k n).map (sgn z)) ls := by
  intro n
  induction n with
  | zero => intro k ls hl _; have : ls = [] := List.length_eq_zero_iff.mp hl; subst this; exact .nil
  | succ n ih =>
   intro k ls hl hh
   cases ls with
   | nil => cases hl
   | cons v ls =>
    rw [List.range'_succ, List.map_cons]
    refine .cons (sgn_rel (by simpa using hh 0 v rfl)) (ih (k + 1) ls (by simpa using hl) fun j v e => ?_)
    have := hh (j + 1) v (by simpa using e)
    rwa [show k + (j + 1) = k + 1 + j by omega] at this
 rw [List.range_eq_range']
 refine gen _ 0 _ (by simpa using h1) fun j v e => ?_
 rw [Nat.zero_add]
 exact h2 j v (by simpa using e)
theorem call_tuple_txt (hc : X.calm = true) : CallR X (.type "tuple") (fun xs H Q => ∃ z, xs = [.str z] /\ z.cps.size <= sizeLine /\ ∀ l, H l = none -> Q (.ref l) (upd H l (.tup ((List.range z.cps.size).map (sgn z))))) := by
 intro pins s σ H xs us Q I r h
 obtain ⟨z, rfl, hz, q⟩ := h
 obtain ⟨u, rfl, t, rfl⟩ := vals1 r
 refine call_tuple_str (I.ok.hd hc) z t (fun h' tk acc kp it => ?_) hz
 have hv := signs_vals it
 have I1 : Inv X pins σ H { s with heap := h', toks := tk } := I.kept kp
 have I2 : Inv X pins σ (upd H h'.objs.size (.tup ((List.range z.cps.size).map (sgn z)))) { s with heap := h'.push { cls := .type "tuple", data := .seq acc }, toks := tk } :=
  I1.laid (t' := tk) (fun b o e => Heap.get?_push_of_some _ e) (Nat.le_refl _) (show ObjOk X.prog X.w _ _ _ (.tup _) from ⟨by simpa using hz, acc.toList, hv, by simpa using IsTup.new h' acc, _, Heap.get?_push_size _ rfl, rfl⟩)
 exact ⟨.ref h'.objs.size, _, I2, rfl, q _ (I1.hok.fresh (Nat.le_refl _))⟩
variable {X : Cx}
variable {X : Cx} {K : PySem.W.Frag}
end L2
namespace PySem
open Sem (wp)
open Builtin
namespace F
end F
end PySem
namespace L2
open PySem PySem.Spec PyProof.Rows
section
variable {X : Cx} {tg : Expr}
theorem call_rng : CallR X (.type "range") (fun xs H Q => ∃ n : Int, xs = [.int n] /\ 0 <= n /\ n < 2 ^ 62 /\ ∀ p, H p = none -> Q (.ref p) (upd H p (.rng 0 n))) := by
 intro pins s σ H xs us Q I r h
 obtain ⟨n, rfl, h0, h1, q⟩ := h
 obtain ⟨u, rfl, t, rfl⟩ := vals1 r
 refine call_range_1 ?_
 exact ⟨.ref s.heap.objs.size, _, I.laid (o := .rng 0 n) (fun b o e => Heap.get?_push_of_some _ e) (Nat.le_refl _) ⟨_, _, _, Heap.get?_push_size _ rfl⟩, rfl, q _ (I.hok.fresh (Nat.le_refl _))⟩
end
end L2
namespace PySem
open Sem (wp)
open Builtin Builtin.Str
namespace F
end F
end PySem
namespace PySem
open Sem (wp)
open Builtin Builtin.Str
end PySem
namespace L2
open PySem PySem.Spec PyProof.Rows
theorem Inv.turn2 {X : Cx} {pins : List (Addr × Obj)} {σ : St} {H : Hp} {s : Shared} {h' : Heap} {t' : Nat} {a b : Addr} (I : Inv X pins σ H s) (fa : FpOk X pins H a) (fb : FpOk X pins H b)
  (k : ∀ c o, c ≠ a -> c ≠ b -> s.heap.get? c = some o -> h'.get? c = some o) : Inv X pins σ H { s with heap := h', toks := t' } := by
 obtain ⟨a0, a1, a2, a3, a4, a5⟩ := fa
 obtain ⟨b0, b1, b2, b3, b4, b5⟩ := fb
 have na : ∀ c u, H c = some u -> c ≠ a := fun c u e z => by rw [z, a0] at e; cases e
 have nb : ∀ c u, H c = some u -> c ≠ b := fun c u e z => by rw [z, b0] at e; cases e
 refine I.step (g' := s.gens) (d' := s.drawn) (ch := [a, b]) (fun c hc => ?_) (fun c o _ _ hc e _ => k c o (fun z => hc (by simp [z])) (fun z => hc (by simp [z])) e) (fun c o _ _ hc e _ => ⟨o.slots, k c o (fun z => hc (by simp [z])) (fun z => hc (by simp [z])) e⟩)
  (fun _ _ _ _ n => n) (fun c o hc e => ⟨o, k c o (fun z => hc (by simp [z])) (fun z => hc (by simp [z])) e⟩) (fun _ _ e => e) (fun _ _ _ e => e) (fun c ps e => ⟨#[], by rw [e]; simp⟩) (fun m hm => ?_) (fun c u e => ?_) I.bare
 ·have e : c = a ∨ c = b := by simpa using hc
  rcases e with rfl | rfl
  ·exact ⟨a3, a1, a4, a5⟩
  ·exact ⟨b3, b1, b4, b5⟩
 ·obtain ⟨o, es, ep, ho, r⟩ := hm
  exact ⟨o, es, ep, k _ o (Ne.symm a1) (Ne.symm b1) ho, r⟩
 ·refine (I.hok c u e).stay (fun d v hd q => ?_) (fun _ q => q) fun _ _ q => q
  rcases hd with z | z
  ·rw [z] at q ⊢
   exact k c v (na c u e) (nb c u e) q
  ·exact k d v (na d _ z) (nb d _ z) q
theorem Inv.turn2l {X : Cx} {pins : List (Addr × Obj)} {σ : St} {H : Hp} {s : Shared} {h' : Heap} {t' : Nat} {a b T : Addr} {o' : HO} (I : Inv X pins σ H s) (fa : FpOk X pins H a) (fb : FpOk X pins H b)
  (k : ∀ c o, c ≠ a -> c ≠ b -> s.heap.get? c = some o -> h'.get? c = some o) (hT : s.heap.objs.size <= T) (new : ObjOk X.prog X.w (upd H T o') h' T o') : Inv X pins σ (upd H T o') { s with heap := h', toks := t' } := by
 have J : Inv X pins σ H { s with heap := h', toks := t' } := I.turn2 fa fb k
 have hn : H T = none := I.hok.fresh hT
 obtain ⟨a0, a1, a2, a3, a4, a5⟩ := fa
 obtain ⟨b0, b1, b2, b3, b4, b5⟩ := fb
 have nT : ∀ c o, s.heap.get? c = some o -> c ≠ T := fun c o q => Nat.ne_of_lt (Nat.lt_of_lt_of_le (Heap.lt_size q) hT)
 refine I.step (g' := s.gens) (d' := s.drawn) (ch := [a, b]) (fun c hc => ?_) (fun c o _ _ hc e _ => k c o (fun z => hc (by simp [z])) (fun z => hc (by simp [z])) e) (fun c o _ _ hc e _ => ⟨o.slots, k c o (fun z => hc (by simp [z])) (fun z => hc (by simp [z])) e⟩)
  (fun c o _ q n => by rw [upd_ne (nT c o q)]; exact n) (fun c o hc e => ⟨o, k c o (fun z => hc (by simp [z])) (fun z => hc (by simp [z])) e⟩) (fun c xs e => by rw [upd_ne (ne_of_none e hn)]; exact e) (fun c u xs e => by rw [upd_ne (ne_of_none e hn)]; exact e)
  (fun c ps e => ⟨#[], by rw [upd_ne (ne_of_none e hn), e]; simp⟩) (fun m hm => ?_) (hok_track J.hok hn new) I.bare
 ·have e : c = a ∨ c = b := by simpa using hc
  rcases e with rfl | rfl
  ·exact ⟨a3, a1, a4, a5⟩
  ·exact ⟨b3, b1, b4, b5⟩
 ·obtain ⟨o, es, ep, ho, r⟩ := hm
  exact ⟨o, es, ep, k _ o (Ne.symm a1) (Ne.symm b1) ho, r⟩
end L2
namespace PySem
open Sem (wp)
open Builtin
section
variable {prog : Program} {w : World} {A : Around} {E : Value -> Shared -> Prop} {s : Shared}
theorem nextOf_tup_item {it l : Addr} {i : Nat} {items : Array Value} {x : Value} {Q : Value -> Shared -> Prop} (hit : s.heap.IsTupleIter it l i) (hl : s.heap.IsTuple l items) (hx : items[i]? = some x)
  (hQ : ∀ h', h'.IsTupleIter it l (i + 1) -> Heap.SameBut it s.heap h' -> Q x { s with heap := h' }) : wpAny (model prog w) A (SmallTypes.nextOf (.ref it)) Q E s := by
 obtain ⟨o, ho, hc, hd⟩ := id hit
 obtain ⟨ol, hol, _, nl, hdl⟩ := hl
 have e0 : ¬ ((Value.ref l == Value.none) = true) := Bool.false_ne_true
 unfold SmallTypes.nextOf
 refine wpAny_bind (wpAny_callSpecial?_slot (name := Str.ofString "__next__") hit.typeIs F.slot_tuple_iterator_next (wpAny_call_entry F.slot_tuple_iterator_next hit.typeIs F.entry_tuple_iterator_next ?_ (F.args_tuple_iterator_next_1 _)))
 refine wpAny_bind (m := field (.ref it) 0) (wpAny_field ho hd (x := .ref l) rfl ?_)
 show wpAny _ _ (if (Value.ref l == Value.none) = true then _ else _) _ _ s
 rw [if_neg e0]
 refine wpAny_bind (m := field (.ref it) 1) (wpAny_field ho hd (x := .int i 0) rfl ?_)
 refine wpAny_bind (m := seqItems? (.ref l)) (wpAny_seqItems hol hdl ?_)
 simp only [Int.toNat_natCast, hx]
 refine wpAny_bind (wpAny_setField ho hd (by simp) (wpAny_pure ⟨x, rfl, wpAny_pure (hQ _ ⟨_, Heap.get?_update_self _ ho (Obj.isFreed_of_fields (Obj.data_mapFields hd _)), (Obj.cls_mapFields ..).trans hc, ?_⟩ (Heap.SameBut.update ..))⟩))
 rw [Obj.data_mapFields hd]
 simp [rawInt]
theorem nextOf_tup_end {it l : Addr} {i : Nat} {items : Array Value} {Q : Value -> Shared -> Prop} (hh : A.handled = none) (hit : s.heap.IsTupleIter it l i) (hl : s.heap.IsTuple l items) (hx : items[i]? = none)
  (hE : ∀ h' e, Heap.ExtBut it s.heap h' -> (∃ o, h'.get? e = some o /\ o.cls = .type "StopIteration") -> E (.ref e) { s with heap := h' }) : wpAny (model prog w) A (SmallTypes.nextOf (.ref it)) Q E s := by
 obtain ⟨o, ho, hc, hd⟩ := id hit
 obtain ⟨ol, hol, _, nl, hdl⟩ := hl
 have e0 : ¬ ((Value.ref l == Value.none) = true) := Bool.false_ne_true
 unfold SmallTypes.nextOf
 refine wpAny_bind (wpAny_callSpecial?_slot (name := Str.ofString "__next__") hit.typeIs F.slot_tuple_iterator_next (wpAny_call_entry F.slot_tuple_iterator_next hit.typeIs F.entry_tuple_iterator_next ?_ (F.args_tuple_iterator_next_1 _)))
 refine wpAny_bind (m := field (.ref it) 0) (wpAny_field ho hd (x := .ref l) rfl ?_)
 show wpAny _ _ (if (Value.ref l == Value.none) = true then _ else _) _ _ s
 rw [if_neg e0]
 refine wpAny_bind (m := field (.ref it) 1) (wpAny_field ho hd (x := .int i 0) rfl ?_)
 refine wpAny_bind (m := seqItems? (.ref l)) (wpAny_seqItems hol hdl ?_)
 simp only [Int.toNat_natCast, hx]
 refine wpAny_bind (wpAny_rule (wpAny_bind (wpAny_setField ho hd (by simp) ?_)))
 show wpAny _ _ (newExc (.type "StopIteration") [] >>= _) _ _ _
 refine wpAny_bind ?_
 simp only [newExc, newTuple]
 refine wpAny_bind (wpAny_newObj_type ?_ (by size_fits))
 refine wpAny_bind (m := firstArgMember _ _) (wpAny_of_eq (a := Value.none) (by first | rfl | (simp only [firstArgMember]; rfl)) (wpAny_newObj_type ?_ (by size_fits)))
 simp only [raiseNew]
 have hh1 : A.in1.handled = none := hh
 refine wpAny_bind (wpAny_handled ?_)
 rw [hh1]
 exact wpAny_bind (wpAny_pure (wpAny_throw (hE _ _ (((Heap.SameBut.update ..).extBut.push _).push _) ⟨_, Heap.get?_push_size _ rfl, rfl⟩)))
end
theorem Draws.tup {prog : Program} {w : World} {A : Around} (hh : A.handled = none) (it l : Addr) (hne : l ≠ it) (items : Array Value) :
  Draws prog w A it [it, l] items.size (fun i v => items[i]? = some v) (fun i h => h.IsTupleIter it l i /\ h.IsTuple l items) where
 live := fun _ _ st => let ⟨o, ho, _⟩ := st.1; ⟨o, ho⟩
 frame := fun _ _ _ st hk => ⟨let ⟨o, ho, r⟩ := st.1; ⟨o, hk it (by simp) o ho, r⟩, let ⟨o, ho, r⟩ := st.2; ⟨o, hk l (by simp) o ho, r⟩⟩
 item := fun i s Q E hi st hQ => nextOf_tup_item st.1 st.2 (x := items[i]) (by simp [hi]) fun h' hit' hs' => hQ _ h' s.toks (by simp [hi]) ⟨hit', st.2.extBut hs'.extBut hne⟩ hs'
 done := fun s Q E st hE => nextOf_tup_end hh st.1 st.2 (by simp) hE
theorem meets_enumerate_tup (l : Addr) (items : Array Value) :
  Meets (Builtin.«enumerate.__new__» ⟨[.type "enumerate", .ref l], []⟩) (fun _ R s => s.heap.IsTuple l items ∧
   R (.ok (.ret (.ref (s.heap.push { cls := .type "tuple_iterator", data := .fields #[.ref l, .int 0 0] }).objs.size)))
    { s with heap := (s.heap.push { cls := .type "tuple_iterator", data := .fields #[.ref l, .int 0 0] }).push { cls := .type "enumerate", data := .fields #[.none, .bool false, .ref s.heap.objs.size, rawInt 0, .none, .none] } }) :=
 .of_wp fun prog w A R s h => by
  obtain ⟨hp, g, d, tk, os⟩ := s
  obtain ⟨hL, h⟩ := h
  have hsub := sub_enumerate
  wp_walk
  refine wpAny_stack_any fun st => wpAny_pure ?_
  split
  ·rename_i c _ _ _ _ _
   cases (c == Value.type "enumerate") <;> (wp_walk using wpAny_pyIter_tuple hL; exact ⟨_, rfl, h⟩)
  ·wp_walk using wpAny_pyIter_tuple hL
   exact ⟨_, rfl, h⟩
theorem call_enumerate_tup {prog : Program} {w : World} {A : Around} {E : Value -> Shared -> Prop} {s : Shared} {l : Addr} {items : Array Value} {Q : Value -> Shared -> Prop} (hL : s.heap.IsTuple l items)
  (h : ∀ h', IsEnum h' (s.heap.objs.size + 1) s.heap.objs.size 0 .none -> h'.IsTupleIter s.heap.objs.size l 0 -> (∀ b o, s.heap.get? b = some o -> h'.get? b = some o) -> Q (.ref (s.heap.objs.size + 1)) { s with heap := h' }) :
  wpAny (model prog w) A (call (.type "enumerate") [.ref l]) Q E s := by
 refine callType_new F.called_enumerate (by decide) (F.typeCall_enumerate_1 _) (F.newCall_enumerate_1 _) (fun obj => F.args_object_init_2 obj _) F.entry_enumerate_new (meets_enumerate_tup l items) ⟨hL, ?_⟩
 have hz : (s.heap.push { cls := .type "tuple_iterator", data := .fields #[.ref l, .int 0 0] }).objs.size = s.heap.objs.size + 1 := Heap.size_push ..
 show _ /\ _
 rw [hz]
 have he : IsEnum ((s.heap.push { cls := .type "tuple_iterator", data := .fields #[.ref l, .int 0 0] }).push { cls := .type "enumerate", data := .fields #[.none, .bool false, .ref s.heap.objs.size, rawInt 0, .none, .none] }) (s.heap.objs.size + 1) s.heap.objs.size 0 .none := by
  rw [<- hz]; exact Heap.get?_push_size _ rfl
 exact ⟨⟨_, he, rfl⟩, h _ he ⟨_, Heap.get?_push_of_some _ (Heap.get?_push_size _ rfl), rfl, rfl⟩ fun b o e => Heap.get?_push_of_some _ (Heap.get?_push_of_some _ e)⟩
end PySem
namespace L2
open PySem PySem.Spec PyProof.Rows
structure SeqKind (c : List V -> HO) (IsS : Heap -> Addr -> Array Value -> Prop) (IsI : Heap -> Addr -> Addr -> Nat -> Prop) : Prop where
 obj : ∀ h it l i, IsI h it l i -> ∃ o, h.get? it = some o /\ ∀ v, o.data ≠ .cell v
 kp : ∀ (h h' : Heap) it l i, IsI h it l i -> (∀ o, h.get? it = some o -> h'.get? it = some o) -> IsI h' it l i
 seq : ∀ (X : Cx) (pins : List (Addr × Obj)) (σ : St) (H : Hp) (s : Shared) (l : Addr) (xs : List V), Inv X pins σ H s -> H l = some (c xs) -> ∃ its : List Value, Vals xs its /\ IsS s.heap l its.toArray
 dr : ∀ (P : Program) (w : World) (A : Around), A.handled = none -> ∀ (it l : Addr), l ≠ it -> ∀ items : Array Value, Draws P w A it [it, l] items.size (fun i v => items[i]? = some v) (fun i h => IsI h it l i /\ IsS h l items)
 inj : ∀ a b, c a = c b -> a = b
theorem seq_lst : SeqKind HO.lst Heap.IsList Heap.IsListIter where
 obj := fun h it l i st => by obtain ⟨o, e, _, d⟩ := st; exact ⟨o, e, fun v z => by rw [d] at z; cases z⟩
 kp := fun h h' it l i st k => let ⟨o, e, r⟩ := st; ⟨o, k o e, r⟩
 seq := fun X pins σ H s l xs I e => by
  obtain ⟨its, r, p, _⟩ := I.list (SqL.of e)
  exact ⟨its, r, p.isList⟩
 dr := fun P w A hh it l hne items => Draws.list hh it l hne items
 inj := fun a b e => by cases e; rfl
theorem seq_tup : SeqKind HO.tup Heap.IsTuple Heap.IsTupleIter where
 obj := fun h it l i st => by obtain ⟨o, e, _, d⟩ := st; exact ⟨o, e, fun v z => by rw [d] at z; cases z⟩
 kp := fun h h' it l i st k => let ⟨o, e, r⟩ := st; ⟨o, k o e, r⟩
 seq := fun X pins σ H s l xs I e => by
  obtain ⟨its, r, p, _⟩ := I.tuple (SqT.of e)
  exact ⟨its, r, p⟩
 dr := fun P w A hh it l hne items => Draws.tup hh it l hne items
 inj := fun a b e => by cases e; rfl
theorem presum_take (ns : List Int) : ∀ j, j <= ns.length -> preSum (fun i => ns.getD i 0) j = (ns.take j).sum
 | 0, _ => by simp [preSum]
 | j + 1, h => by
  have h2 := presum_take ns j (by omega)
  rw [preSum, h2, List.take_add_one, List.getElem?_eq_getElem (by omega), List.sum_append]
  have hj : j < ns.length := by omega
  simp [hj]
theorem sum_bound (B : Int) (hB : 0 <= B) : ∀ ns : List Int, (∀ a, a ∈ ns -> 0 <= a /\ a <= B) -> 0 <= ns.sum /\ ns.sum <= ns.length * B
 | [], _ => by simp
 | a :: r, h => by
  have h1 := sum_bound B hB r fun b hb => h b (List.mem_cons_of_mem _ hb)
  have h2 := h a (by simp)
  rw [List.sum_cons, List.length_cons]
  push_cast
  rw [Int.add_mul]
  omega
theorem call_sumL {X : Cx} (hc : X.calm = true) : CallR X (.builtin "sum") (fun xs H Q => ∃ (l : Addr) (ns : List Int), xs = [.ref l] /\ SqL X.K H l (ns.map V.int) /\ (∀ a, a ∈ ns -> 0 <= a /\ a <= 2 ^ 50) /\ ns.length <= 1000 /\ Q (.int ns.sum) H) := by
 intro pins s σ H xs us Q I r h
 obtain ⟨l, ns, rfl, hq, hb, hn, q⟩ := h
 obtain ⟨u, rfl, rx⟩ := vals1 r
 cases rx
 obtain ⟨its, r', pl, hz⟩ := I.list hq
 have hl := pl.isList
 have hlt : l < s.heap.objs.size := by obtain ⟨_, e, _⟩ := hl; exact Heap.lt_size e
 have hlen : ns.length = its.length := by rw [<- r'.length, List.length_map]
 have hsum : ∀ j, j <= ns.length -> 0 <= preSum (fun i => ns.getD i 0) j /\ preSum (fun i => ns.getD i 0) j <= 1000 * 2 ^ 50 := fun j hj => by
  rw [presum_take ns j hj]
  have h1 := sum_bound (2 ^ 50) (by decide) (ns.take j) fun a ha => hb a (List.mem_of_mem_take ha)
  have h2 : ((ns.take j).length : Int) <= 1000 := by rw [List.length_take]; omega
  have h3 : ((ns.take j).length : Int) * 2 ^ 50 <= 1000 * 2 ^ 50 := Int.mul_le_mul_of_nonneg_right h2 (by decide)
  omega
 refine call_sum_walk (wpAny_pyIter_list hl ?_)
 refine ⟨s.heap.objs.size, _, _, its.toArray.size, _, _, fun i => ns.getD i 0, rfl, Walks.list (A := X.A.in1) (I.ok.hd hc) _ l (Nat.ne_of_lt hlt) its.toArray, ⟨⟨_, Heap.get?_push_size _ rfl, rfl, rfl⟩, hl.push _⟩, fun b hbm => ?_, fun i v e => vals_at r' e, fun j hj => ?_, fun h' tk t' hk => ?_⟩
 ·have e : b = s.heap.objs.size ∨ b = l := by simpa using hbm
  have z : (s.heap.push { cls := .type "list_iterator", data := .fields #[.ref l, .int 0 0] }).objs.size = s.heap.objs.size + 1 := Heap.size_push ..
  show b < (s.heap.push { cls := .type "list_iterator", data := .fields #[.ref l, .int 0 0] }).objs.size
  rw [z]
  rcases e with rfl | rfl
  ·exact Nat.lt_succ_self _
  ·exact Nat.lt_succ_of_lt hlt
 ·rw [List.size_toArray, <- hlen] at hj
  have h1 := hsum (j + 1) hj
  have h2 := hb (ns.getD j 0) (by rw [getD_lt hj]; exact List.getElem_mem hj)
  refine ⟨⟨?_, ?_⟩, ⟨by omega, by omega⟩⟩
  ·show -(2 ^ 63) <= ns.getD j 0
   omega
  ·show ns.getD j 0 < 2 ^ 63
   omega
 ·rw [List.size_toArray, <- hlen, presum_take ns _ (Nat.le_refl _), List.take_length]
  exact ⟨.int ns.sum, H, I.kept fun b o e => hk b o (fun z => Nat.ne_of_lt (Heap.lt_size e) (List.mem_singleton.mp z)) (Heap.get?_push_of_some _ e), ⟨t', rfl⟩, q⟩
end L2
namespace PySem
open Sem (wp)
open Builtin
open AutoSeq1 (wpAny_loadPart')
end PySem
namespace L2
open PySem PySem.Spec PyProof.Rows
section
variable {κ : Type} [DecidableEq κ]
def valV (kvs : List (κ × V)) (k : κ) : Option V := (kvs.find? fun kv => decide (kv.1 = k)).map (·.2)
def putK (kvs : List (κ × V)) (k : κ) (v : V) : List (κ × V) :=
 if (kvs.any fun kv => decide (kv.1 = k)) = true then kvs.map (fun kv => if kv.1 = k then (kv.1, v) else kv) else kvs ++ [(k, v)]
theorem valV_pos {p : κ × V} {r : List (κ × V)} {k : κ} (e : p.1 = k) : valV (p :: r) k = some p.2 := by simp [valV, List.find?_cons, e]
theorem valV_neg {p : κ × V} {r : List (κ × V)} {k : κ} (e : ¬ p.1 = k) : valV (p :: r) k = valV r k := by simp [valV, List.find?_cons, e]
theorem valV_any (k : κ) : ∀ kvs : List (κ × V), (kvs.any fun kv => decide (kv.1 = k)) = (valV kvs k).isSome
 | [] => rfl
 | p :: r => by
  rw [List.any_cons]
  by_cases e : p.1 = k
  ·simp only [valV_pos e, decide_eq_true e, Bool.true_or, Option.isSome_some]
  ·rw [valV_neg e, decide_eq_false e, Bool.false_or]; exact valV_any k r
theorem length_putK (kvs : List (κ × V)) (k : κ) (v : V) : (putK kvs k v).length <= kvs.length + 1 := by
 unfold putK
 split
 ·rw [List.length_map]; omega
 ·rw [List.length_append, List.length_cons, List.length_nil]; omega
theorem RelO.isSome_eq {o : Option V} {u : Option Value} (r : RelO o u) : o.isSome = u.isSome := by
 cases o with
 | none => cases u with
  | none => rfl
  | some _ => exact (show False from r).elim
 | some _ => cases u with
  | none => exact (show False from r).elim
  | some _ => rfl
theorem KV.val {kvs : List (κ × V)} {vs : List (κ × Value)} (r : KV kvs vs) (k : κ) : RelO (valV kvs k) (valueAt vs k) := by
 unfold KV at r
 induction r with
 | nil => exact True.intro
 | @cons p q ps qs h t ih =>
  obtain ⟨h1, h2⟩ := h
  by_cases e : p.1 = k
  ·have e' : q.1 = k := h1.symm.trans e
   have b : valueAt (q :: qs) k = some q.2 := by simp [valueAt, List.find?_cons, e']
   rw [valV_pos e, b]; exact h2
  ·have e' : ¬ q.1 = k := fun z => e (h1.trans z)
   have b : valueAt (q :: qs) k = valueAt qs k := by simp [valueAt, List.find?_cons, e']
   rw [valV_neg e, b]; exact ih
theorem KV.any {kvs : List (κ × V)} {vs : List (κ × Value)} (r : KV kvs vs) (k : κ) : (kvs.any fun kv => decide (kv.1 = k)) = vs.any fun kv => decide (kv.1 = k) := by
 unfold KV at r
 induction r with
 | nil => rfl
 | cons h t ih => rw [List.any_cons, List.any_cons, ih, h.1]
theorem KV.repl {kvs : List (κ × V)} {vs : List (κ × Value)} (r : KV kvs vs) (k : κ) {y : V} {u : Value} (ry : RelV y u) :
  KV (kvs.map fun kv => if kv.1 = k then (kv.1, y) else kv) (vs.map fun kv => if kv.1 = k then (kv.1, u) else kv) := by
 unfold KV at r ⊢
 induction r with
 | nil => exact .nil
 | @cons p q ps qs h t ih =>
  rw [List.map_cons, List.map_cons]
  refine .cons ?_ ih
  obtain ⟨h1, h2⟩ := h
  by_cases e : p.1 = k
  ·rw [if_pos e, if_pos (h1.symm.trans e)]; exact ⟨h1, ry⟩
  ·rw [if_neg e, if_neg (fun z => e (h1.trans z))]; exact ⟨h1, h2⟩
theorem KV.put {kvs : List (κ × V)} {vs : List (κ × Value)} (r : KV kvs vs) (k : κ) {y : V} {u : Value} (ry : RelV y u) : KV (putK kvs k y) (stored vs k u) := by
 unfold putK stored
 rw [r.any k]
 by_cases e : (vs.any fun kv => decide (kv.1 = k)) = true
 ·rw [if_pos e, if_pos e]; exact r.repl k ry
 ·rw [if_neg e, if_neg e]; exact Paired.snoc r ⟨rfl, ry⟩
theorem KV.length {kvs : List (κ × V)} {vs : List (κ × Value)} (r : KV kvs vs) : kvs.length = vs.length := Paired.length r
end
theorem kV_is {P : Program} {w : World} {k : Key} {u : Value} (r : RelV (kV k) u) : (mixKind P w).is k u = true := by
 cases k with
 | inl i => obtain ⟨t, e⟩ := (show ∃ t, u = Value.int i t from r); subst e; exact mixKind_int P w i t
 | inr x => obtain ⟨t, e⟩ := (show ∃ t, u = Value.str x t from r); subst e; exact mixKind_str P w x t
theorem items_are {P : Program} {w : World} : ∀ {ks : List Key} {us : List Value}, Vals (ks.map kV) us -> ItemsAre (mixKind P w) ks us
 | [], _, r => by rw [List.map_nil] at r; cases r; exact .nil
 | k :: ks, _, r => by
  rw [List.map_cons] at r
  cases r with
  | cons h t => exact .cons (kV_is h) (items_are t)
abbrev KT (H : Hp) : List (List Key × V) -> List (List Key × Addr × Value) -> Prop := Paired fun p q => p.1 = q.1 /\ H q.2.1 = some (.tup (p.1.map kV)) /\ RelV p.2 q.2.2
theorem KT.val {H : Hp} {kvs : List (List Key × V)} {xs : List (List Key × Addr × Value)} (r : KT H kvs xs) (k : List Key) : RelO (valV kvs k) ((atKey xs k).map (·.2)) := by
 induction r with
 | nil => exact True.intro
 | @cons p q ps qs h t ih =>
  obtain ⟨h1, _, h2⟩ := h
  by_cases e : p.1 = k
  ·have e' : q.1 = k := h1.symm.trans e
   have b : atKey (q :: qs) k = some q.2 := by simp [atKey, List.find?_cons, e']
   rw [valV_pos e, b]; exact h2
  ·have e' : ¬ q.1 = k := fun z => e (h1.trans z)
   have b : atKey (q :: qs) k = atKey qs k := by simp [atKey, List.find?_cons, e']
   rw [valV_neg e, b]; exact ih
theorem KT.repl {H : Hp} {kvs : List (List Key × V)} {xs : List (List Key × Addr × Value)} (r : KT H kvs xs) (k : List Key) {y : V} {u : Value} (ry : RelV y u) :
  KT H (kvs.map fun kv => if kv.1 = k then (kv.1, y) else kv) (xs.map (putAt k u)) := by
 induction r with
 | nil => exact .nil
 | @cons p q ps qs h t ih =>
  rw [List.map_cons, List.map_cons]
  refine .cons ?_ ih
  obtain ⟨h1, h2, h3⟩ := h
  unfold putAt
  by_cases e : p.1 = k
  ·rw [if_pos e, if_pos (h1.symm.trans e)]; exact ⟨h1, h2, ry⟩
  ·rw [if_neg e, if_neg (fun z => e (h1.trans z))]; exact ⟨h1, h2, h3⟩
theorem KT.put {H : Hp} {kvs : List (List Key × V)} {xs : List (List Key × Addr × Value)} (r : KT H kvs xs) (k : List Key) {b : Addr} {y : V} {u : Value} (hb : H b = some (.tup (k.map kV))) (ry : RelV y u) :
  KT H (putK kvs k y) (storedH xs k b u) := by
 have e : (kvs.any fun kv => decide (kv.1 = k)) = (atKey xs k).isSome := by
  rw [valV_any, (r.val k).isSome_eq, Option.isSome_map]
 unfold putK storedH
 rw [e]
 by_cases q : (atKey xs k).isSome = true
 ·rw [if_pos q, if_pos q]; exact r.repl k ry
 ·rw [if_neg q, if_neg q]; exact Paired.snoc r ⟨rfl, hb, ry⟩
theorem KT.keeps {H H' : Hp} {kvs : List (List Key × V)} {xs : List (List Key × Addr × Value)} (r : KT H kvs xs) (ht : ∀ b ys, H b = some (.tup ys) -> H' b = some (.tup ys)) : KT H' kvs xs :=
 Paired.mapP r fun _ _ z => ⟨z.1, ht _ _ z.2.1, z.2.2⟩
section
variable {P : Program} {w : World} {H : Hp} {h : Heap} {a : Addr}
theorem rd_of {u : HO} (ok : HOk P w H h) (e : Rd H a u) : ObjOk P w H h a u := e.ok ok
theorem dk_rd {kvs : List (Key × V)} (ok : HOk P w H h) (e : Rd H a (.dK kvs)) : kvs.length <= sizeLine /\ (a == sysModules) = false /\ ∃ vs, KV kvs vs /\ h.DictOf (mixKind P w) a vs :=
 show ObjOk P w H h a (.dK kvs) from rd_of ok e
theorem dk_of {kvs : List (Key × V)} (ok : HOk P w H h) (e : H a = some (.dK kvs)) : kvs.length <= sizeLine /\ (a == sysModules) = false /\ ∃ vs, KV kvs vs /\ h.DictOf (mixKind P w) a vs := dk_rd ok (.inl e)
theorem key_of {ks : List Key} (ok : HOk P w H h) (e : H a = some (.tup (ks.map kV))) : (tupleKind (mixKind P w)).is h ks a := by
 obtain ⟨_, its, r, ⟨o, h1, h2, n, h3⟩, _⟩ := (show ObjOk P w H h a (.tup (ks.map kV)) from ok a _ e)
 exact ⟨o, its.toArray, n, h1, h2, h3, by simpa using items_are r⟩
theorem dt_rd {kvs : List (List Key × V)} (ok : HOk P w H h) (e : Rd H a (.dT kvs)) : kvs.length <= sizeLine /\ (a == sysModules) = false ∧
  ∃ xs, KT H kvs xs /\ h.DictOfH (tupleKind (mixKind P w)) a xs := by
 obtain ⟨z, y, xs, r, o, es, ep, h1, h2, h3, h4, h5⟩ := (show ObjOk P w H h a (.dT kvs) from rd_of ok e)
 refine ⟨z, y, xs, r, o, es, ep, h1, h2, h3, h4, fun x hx => ?_, h5⟩
 have all : ∀ {l : List (List Key × V)} {m : List (List Key × Addr × Value)}, KT H l m -> ∀ x ∈ m, (tupleKind (mixKind P w)).is h x.1 x.2.1 := by
  intro l m q
  induction q with
  | nil => intro x hx; exact nomatch hx
  | @cons p q ps qs hq t ih =>
   intro x hx
   rcases List.mem_cons.mp hx with e | hx
   ·subst e
    exact key_of ok (by rw [<- hq.1]; exact hq.2.1)
   ·exact ih x hx
 exact all r x hx
theorem dt_of {kvs : List (List Key × V)} (ok : HOk P w H h) (e : H a = some (.dT kvs)) : kvs.length <= sizeLine /\ (a == sysModules) = false ∧
  ∃ xs, KT H kvs xs /\ h.DictOfH (tupleKind (mixKind P w)) a xs := dt_rd ok (.inl e)
end
def DGet (H : Hp) (a : Addr) (y : V) (r : Option V) : Prop :=
 (∃ kvs k, Rd H a (.dK kvs) /\ y = kV k /\ r = valV kvs k) ∨ ∃ kvs k b, Rd H a (.dT kvs) /\ y = .ref b /\ H b = some (.tup (k.map kV)) /\ r = valV kvs k
def DPut (H : Hp) (a : Addr) (y v : V) (H' : Hp) : Prop :=
 (∃ kvs k, H a = some (.dK kvs) /\ y = kV k /\ kvs.length < sizeLine /\ H' = upd H a (.dK (putK kvs k v))) ∨
 ∃ kvs k b, H a = some (.dT kvs) /\ y = .ref b /\ H b = some (.tup (k.map kV)) /\ kvs.length < sizeLine /\ H' = upd H a (.dT (putK kvs k v))
theorem DGet.k {H : Hp} {a : Addr} {kvs : List (Key × V)} {k : Key} (e : H a = some (.dK kvs)) : DGet H a (kV k) (valV kvs k) := .inl ⟨kvs, k, .inl e, rfl, rfl⟩
theorem DPut.k {H : Hp} {a : Addr} {kvs : List (Key × V)} {k : Key} {v : V} (e : H a = some (.dK kvs)) (hl : kvs.length < sizeLine) : DPut H a (kV k) v (upd H a (.dK (putK kvs k v))) := .inl ⟨kvs, k, e, rfl, hl, rfl⟩
section
variable {X : Cx} {pins : List (Addr × Obj)} {σ : St} {H : Hp} {s : Shared} {a : Addr} {y v : V} {u r : Value} {o : Option V} {A : Around} {E : Value -> Shared -> Prop}
theorem Inv.big (I : Inv X pins σ H s) : sysModules < s.heap.objs.size := by
 have h : mainGlobals < s.heap.objs.size := (I.mod.glob.keeps I.bk).lt
 exact Nat.lt_trans (by decide) h
theorem d_getItem {Q : Value -> Shared -> Prop} (hu : A.units + 1 < cLine) (I : Inv X pins σ H s) (g : DGet H a y (some v)) (ry : RelV y u) (h : ∀ w' s', Inv X pins σ H s' -> RelV v w' -> Q w' s') :
  wpAny (model X.prog X.w) A (getItem (.ref a) u) Q E s := by
 rcases g with ⟨kvs, k, e, ey, l⟩ | ⟨kvs, k, b, e, ey, eb, l⟩
 ·subst ey
  obtain ⟨z, hd, vs, rel, dd⟩ := dk_rd I.hok e
  obtain ⟨w', hw, rw'⟩ := RelO.some_of (v := v) (o := valueAt vs k) (by rw [l]; exact rel.val k)
  exact wpAny_getItem_of (kV_is ry) dd.mapOf hw (h w' _ (I.tok _) rw')
 ·subst ey
  cases (show u = Value.ref b from ry)
  obtain ⟨z, hd, xs, rel, dd⟩ := dt_rd I.hok e
  obtain ⟨w', hw, rw'⟩ := RelO.some_of (v := v) (o := (atKey xs k).map (·.2)) (by rw [l]; exact rel.val k)
  obtain ⟨p, hp, hp2⟩ := Option.map_eq_some_iff.mp hw
  refine wpAny_getItem_heap (tupleKind_room_in1 hu) (key_of I.hok eb) dd hp ?_
  rw [hp2]
  exact h w' _ (I.tok _) rw'
theorem d_write {h' : Heap} {t' : Nat} {ob : HO} (I : Inv X pins σ H s) (mu : Mut (H a)) (hs : Heap.SameBut a s.heap h') (he : ∃ q, h'.get? a = some q) (new : ObjOk X.prog X.w (upd H a ob) h' a ob) :
  Inv X pins σ (upd H a ob) { s with heap := h', toks := t' } :=
 I.write (x := a) (e := a) mu (.inl rfl) (fun b q hb z => (hs.2 b hb).trans z) he new
theorem dk_new {P : Program} {w : World} {H' : Hp} {h' : Heap} {kvs : List (Key × V)} {vs : List (Key × Value)} (z : kvs.length <= sizeLine) (hd : (a == sysModules) = false) (rel : KV kvs vs) (dd : h'.DictOf (mixKind P w) a vs) :
  ObjOk P w H' h' a (.dK kvs) := ⟨z, hd, vs, rel, dd⟩
theorem d_setItem {H' : Hp} {Q : Unit -> Shared -> Prop} (hu : A.units + 1 < cLine) (I : Inv X pins σ H s) (g : DPut H a y v H') (ry : RelV y u) (rv : RelV v r) (h : ∀ s', Inv X pins σ H' s' -> Q () s') :
  wpAny (model X.prog X.w) A (setItem (.ref a) u r) Q E s := by
 rcases g with ⟨kvs, k, e, ey, l, eH⟩ | ⟨kvs, k, b, e, ey, eb, l, eH⟩
 ·subst ey eH
  obtain ⟨z, hd, vs, rel, dd⟩ := dk_of I.hok e
  have hz : vs.length <= sizeLine := by rw [<- rel.length]; exact z
  have hl : (putK kvs k v).length <= sizeLine := by have := length_putK kvs k v; omega
  refine wpAny_setItem_pairs (hsz := hz) (kV_is ry) dd fun h' dd' hs => h _ ?_
  have he : ∃ q, h'.get? a = some q := let ⟨q, _, _, hq, _⟩ := dd'; ⟨q, hq⟩
  exact d_write I (by rw [e]; exact True.intro) hs he (dk_new hl hd (rel.put k rv) dd')
 ·subst ey eH
  cases (show u = Value.ref b from ry)
  obtain ⟨z, hd, xs, rel, dd⟩ := dt_of I.hok e
  have hz : xs.length <= sizeLine := by rw [<- Paired.length rel]; exact z
  have hl : (putK kvs k v).length <= sizeLine := by have := length_putK kvs k v; omega
  refine wpAny_setItem_heap (hsz := hz) (tupleKind_room_in1 hu) (key_of I.hok eb) dd fun h' dd' hs => h _ ?_
  obtain ⟨q, es, ep, hq, h2, h3, h4, _, h5⟩ := dd'
  refine d_write I (by rw [e]; exact True.intro) hs ⟨q, hq⟩ ⟨hl, hd, _, (rel.put k eb rv).keeps fun c ys ec => ?_, q, es, ep, hq, h2, h3, h4, h5⟩
  rw [upd_ne (ne_of ec e (fun z => nomatch z))]
  exact ec
end
section
variable {X : Cx} {pins : List (Addr × Obj)} {σ : St} {H : Hp} {s : Shared} {a : Addr} {kvs : List (Key × V)} {k : Key} {u : Value} {A : Around} {E : Value -> Shared -> Prop}
theorem d_len {Q : Value -> Shared -> Prop} (I : Inv X pins σ H s) (e : Rd H a (.dK kvs)) (h : ∀ t s', Inv X pins σ H s' -> Q (.int kvs.length t) s') : wpAny (model X.prog X.w) A (call (.builtin "len") [.ref a]) Q E s := by
 obtain ⟨z, hd, vs, rel, dd⟩ := dk_rd I.hok e
 refine call_len_dict hd dd (by rw [<- rel.length]; rw [sizeLine_eq] at z; omega) ?_
 rw [<- rel.length]
 exact h _ _ (I.tok _)
end
theorem dict_typeIs {X : Cx} {pins : List (Addr × Obj)} {σ : St} {H : Hp} {s : Shared} {a : Addr} {y : V} {o : Option V} (I : Inv X pins σ H s) (g : DGet H a y o) : s.TypeIs (.ref a) "dict" := by
 rcases g with ⟨kvs, k, e, _, _⟩ | ⟨kvs, k, b, e, _, _, _⟩
 ·obtain ⟨_, _, vs, _, dd⟩ := dk_rd I.hok e
  exact dd.typeIs
 ·obtain ⟨_, _, xs, _, dd⟩ := dt_rd I.hok e
  exact dd.typeIs
def sDPut (td ty tv : TE) : TS := fun D σ H => tv σ H fun v H1 => td σ H1 fun x H2 => ty σ H2 fun y H3 => ∃ a H4, x = .ref a /\ DPut H3 a y v H4 /\ D.nx σ H4
section
variable {X : Cx} {o i e value : Expr} {pos pos' tpos : Pos} {td ty tv : TE}
theorem ps_dput (hu : X.A.units + 1 < cLine) (ho : PE X o td) (hi : PE X i ty) (hv : PE X value tv) (hs : swapsWith value (some (.Subscript o i pos')) pos.line X.env = pure false) :
  PS X (.Assign [.Subscript o i pos'] value pos) (sDPut td ty tv) := by
 intro pins s σ H D I h
 refine wpAny_Assign_Subscript (thn (hv pins s σ H _ I h) fun r s1 ⟨v, H1, I1, rv, q1⟩ => thn (ho pins s1 σ H1 _ I1 q1) fun u s2 ⟨x, H2, I2, rx, q2⟩ => thn (hi pins s2 σ H2 _ I2 q2) fun iv s3 ⟨y, H3, I3, ry, a, H4, ex, g, q3⟩ => ?_) hs
 subst ex
 obtain rfl : u = Value.ref a := rx
 exact d_setItem hu I3 g ry rv fun s4 I4 => ⟨σ, H4, I4, q3⟩
end
theorem dk_empty {P : Program} {w : World} {H : Hp} (h : Heap) (hb : sysModules < h.objs.size) : ObjOk P w H (h.push { cls := .type "dict", data := .dict #[] }) h.objs.size (.dK []) :=
 ⟨Nat.zero_le _, beq_eq_false_iff_ne.mpr (Ne.symm (Nat.ne_of_lt hb)), [], .nil, Heap.DictOf.new h⟩
def tDNewK : TE := fun _ H Q => ∀ p, H p = none -> Q (.ref p) (upd H p (.dK []))
section
variable {X : Cx} {pos : Pos}
theorem pe_dnewK : PE X (.Dict [] [] pos) tDNewK := fun pins s σ H Q I h =>
 wpAny_Dict_empty ⟨.ref s.heap.objs.size, _, I.laid (a := s.heap.objs.size) (o := .dK []) (t' := s.toks) (fun _ _ q => Heap.get?_push_of_some _ q) (Nat.le_refl _) (dk_empty s.heap I.big), rfl, h _ (I.hok.fresh (Nat.le_refl _))⟩
end
def tPairs : List (TE × TE) -> St -> Hp -> (List (V × V) -> Hp -> Prop) -> Prop
 | [], _, H, Q => Q [] H
 | (tk, tv) :: r, σ, H, Q => tk σ H fun x H1 => tv σ H1 fun y H2 => tPairs r σ H2 fun ps H3 => Q ((x, y) :: ps) H3
abbrev VV : List (V × V) -> List (Value × Value) -> Prop := Paired fun p q => RelV p.1 q.1 /\ RelV p.2 q.2
def PPs (X : Cx) (pos : Pos) (keys : List (Option Expr)) (values : List Expr) (trs : List (TE × TE)) : Prop :=
 ∀ (pins : List (Addr × Obj)) (s : Shared) (σ : St) (H : Hp) (Q : List (V × V) -> Hp -> Prop), Inv X pins σ H s -> tPairs trs σ H Q →
  wpAny (model X.prog X.w) X.A (evalPairs (pairTrees keys values X.env pos)) (fun vs s' => ∃ ps H', Inv X pins σ H' s' /\ VV ps vs /\ Q ps H') X.xe s
theorem pps_nil {X : Cx} {pos : Pos} : PPs X pos [] [] [] := fun pins s σ H Q I h => pairTrees_nil_walk ⟨[], H, I, .nil, h⟩
theorem pps_cons {X : Cx} {pos : Pos} {k v : Expr} {ks : List (Option Expr)} {vs : List Expr} {tk tv : TE} {trs : List (TE × TE)} (hk : PE X k tk) (hv : PE X v tv) (hr : PPs X pos ks vs trs) :
  PPs X pos (some k :: ks) (v :: vs) ((tk, tv) :: trs) := fun pins s σ H Q I h =>
 pairTrees_cons_walk (thn (hk pins s σ H _ I h) fun u s1 ⟨x, H1, I1, rx, q1⟩ => thn (hv pins s1 σ H1 _ I1 q1) fun w2 s2 ⟨y, H2, I2, ry, q2⟩ =>
  thn (hr pins s2 σ H2 _ I2 q2) fun ws s3 ⟨ps, H3, I3, rel, q3⟩ => ⟨(x, y) :: ps, H3, I3, .cons ⟨rx, ry⟩ rel, q3⟩)
def mergeK (kvs more : List (Key × V)) : List (Key × V) := more.foldl (fun acc kv => putK acc kv.1 kv.2) kvs
theorem KV.merge : ∀ {more : List (Key × V)} {rs : List (Key × Value)} {kvs : List (Key × V)} {vs : List (Key × Value)}, KV more rs -> KV kvs vs -> KV (mergeK kvs more) (merged vs rs) := by
 intro more rs kvs vs r
 unfold KV at r
 induction r generalizing kvs vs with
 | nil => intro q; exact q
 | @cons p q ps qs h t ih =>
  intro r0
  have e : KV (putK kvs p.1 p.2) (stored vs q.1 q.2) := by
   have := r0.put p.1 h.2
   rw [<- h.1]; exact this
  exact ih e
theorem length_mergeK : ∀ (more kvs : List (Key × V)), (mergeK kvs more).length <= kvs.length + more.length
 | [], kvs => by show kvs.length <= kvs.length + 0; omega
 | p :: r, kvs => by
  have h1 := length_mergeK r (putK kvs p.1 p.2)
  have h2 := length_putK kvs p.1 p.2
  show (mergeK (putK kvs p.1 p.2) r).length <= _
  rw [List.length_cons]; omega
theorem carries_of {P : Program} {w : World} : ∀ {kvs : List (Key × V)} {ws : List (Value × Value)}, VV (kvs.map fun kv => (kV kv.1, kv.2)) ws -> ∃ rs, Carries (mixKind P w) ws rs /\ KV kvs rs
 | [], _, r => by rw [List.map_nil] at r; cases r; exact ⟨[], True.intro, .nil⟩
 | p :: kvs, _, r => by
  rw [List.map_cons] at r
  cases r with
  | @cons a b as bs h t =>
   obtain ⟨rs, c, q⟩ := carries_of (P := P) (w := w) t
   obtain ⟨b1, b2⟩ := b
   exact ⟨(p.1, b2) :: rs, ⟨kV_is h.1, rfl, c⟩, .cons ⟨rfl, h.2⟩ q⟩
def tDisp (trs : List (TE × TE)) : TE := fun σ H Q => ∀ p, H p = none -> tPairs trs σ (upd H p (.dK [])) fun ps H2 => H2 p = some (.dK []) /\ ∃ kvs : List (Key × V), ps = kvs.map (fun kv => (kV kv.1, kv.2)) /\ kvs.length <= 15 /\ Q (.ref p) (upd H2 p (.dK (mergeK [] kvs)))
theorem pe_disp {X : Cx} {pos : Pos} {keys : List (Option Expr)} {values : List Expr} {trs : List (TE × TE)} (h : PPs X pos keys values trs) (hall : keys.all (·.isSome) = true) (hl : keys.length = values.length) (h0 : keys ≠ [])
  (h15 : keys.length <= 15) : PE X (.Dict keys values pos) (tDisp trs) := by
 intro pins s σ H Q I q
 have hn := I.hok.fresh (Nat.le_refl s.heap.objs.size)
 have I1 := I.laid (a := s.heap.objs.size) (o := .dK []) (h' := s.heap.push { cls := .type "dict", data := .dict #[] }) (t' := s.toks) (fun _ _ q => Heap.get?_push_of_some _ q) (Nat.le_refl _) (dk_empty s.heap I.big)
 refine wpAny_Dict_walk (knd := mixKind X.prog X.w) hall hl h0 h15 (thn (h pins _ σ _ _ I1 (q _ hn)) fun ws s2 ⟨ps, H2, I2, rel, e, kvs, ep, lk, q2⟩ => ?_)
 subst ep
 obtain ⟨rs, c, rk⟩ := carries_of (P := X.prog) (w := X.w) rel
 obtain ⟨z, hd, vs0, r0, dd⟩ := dk_of I2.hok e
 cases r0
 refine ⟨rs, c, dd, fun h' dd' hs => ⟨.ref s.heap.objs.size, _, ?_, rfl, q2⟩⟩
 have hz : (mergeK [] kvs).length <= sizeLine := by
  have h1 := length_mergeK kvs []
  rw [List.length_nil] at h1
  rw [sizeLine_eq]; omega
 have he : ∃ q, h'.get? s.heap.objs.size = some q := let ⟨q, _, _, hq, _⟩ := dd'; ⟨q, hq⟩
 exact d_write I2 (by rw [e]; exact True.intro) hs he (dk_new hz hd (rk.merge .nil) dd')
section
variable {X : Cx}
theorem op_isT : OpR X (compareOp .Is) (fun x y H Q => ∃ b c, x = .bl b /\ y = .bl c /\ Q (.bl (b == c)) H) := by
 intro pins s σ H x y v u Q I rx ry h
 obtain ⟨b, c, rfl, rfl, q⟩ := h
 cases rx
 cases ry
 exact is_bool ⟨.bl (b == c), H, I, rfl, q⟩
theorem op_isntT : OpR X (compareOp .IsNot) (fun x y H Q => ∃ b c, x = .bl b /\ y = .bl c /\ Q (.bl (b != c)) H) := by
 intro pins s σ H x y v u Q I rx ry h
 obtain ⟨b, c, rfl, rfl, q⟩ := h
 cases rx
 cases ry
 exact isnot_bool ⟨.bl (b != c), H, I, rfl, q⟩
end
end L2
namespace PySem
open Sem (wp)
open Builtin
section
variable {prog : Program} {w : World} {A : Around} {E : Value -> Shared -> Prop} {s : Shared}
theorem same_pair {h h' : Heap} {c T : Addr} {a b : Value} (hs : Heap.SameBut c h h') (n : T ≠ c) (e : IsPair h T a b) : IsPair h' T a b := (hs.2 T n).trans e
theorem zip_next_itemD {z TI TO i1 i2 : Addr} {fp1 fp2 : List Addr} {n1 n2 k : Nat} {P1 P2 : Nat -> Value -> Prop} {S1 S2 : Nat -> Heap -> Prop} {a b : Value} {Q : Value -> Shared -> Prop}
  (D1 : Draws prog w A i1 fp1 n1 P1 S1) (D2 : Draws prog w A i2 fp2 n2 P2 S2) (hz : IsZip s.heap z TI TO .none) (hTI : IsPair s.heap TI (.ref i1) (.ref i2)) (hTO : IsPair s.heap TO a b)
  (h1 : S1 k s.heap) (h2 : S2 k s.heap) (k1 : k < n1) (k2 : k < n2) (nTO : TO ≠ z) (nTI : TI ≠ z) (n1z : i1 ≠ z) (n2z : i2 ≠ z) (n1T : i1 ≠ TO) (n2T : i2 ≠ TO)
  (f1z : z ∉ fp1) (f1T : TO ∉ fp1) (f12 : i2 ∉ fp1) (f2z : z ∉ fp2) (f2T : TO ∉ fp2) (f21 : i1 ∉ fp2)
  (hQ : ∀ x y h' tk, P1 k x -> P2 k y -> IsZip h' z TI TO (rawInt s.heap.objs.size) -> IsPair h' TO x y -> S1 (k + 1) h' -> S2 (k + 1) h' -> IsPair h' s.heap.objs.size x y -> h'.objs.size = s.heap.objs.size + 1 →
   (∀ c o, c ≠ z -> c ≠ TO -> c ≠ i1 -> c ≠ i2 -> s.heap.get? c = some o -> h'.get? c = some o) -> Q (.ref s.heap.objs.size) { s with heap := h', toks := tk }) :
  wpAny (model prog w) A (Builtin.«zip.__next__» ⟨[.ref z], []⟩) (fun fin s' => ∃ v, fin = .done (.ret v) /\ Q v s') E s := by
 show wpAny _ _ (field (.ref z) 2 >>= _) _ _ s
 refine wpAny_bind (wpAny_field hz rfl (x := .bool false) rfl ?_)
 refine wpAny_bind (wpAny_field hz rfl (x := .ref TI) rfl ?_)
 refine wpAny_bind (wpAny_seqItems hTI rfl ?_)
 refine wpAny_bind (m := SmallTypes.ownedTupleIsFree (.ref z)) (wpAny_bind (wpAny_field hz rfl (x := .none) rfl (wpAny_pure ?_)))
 show wpAny _ _ (if true = true then _ else _) _ _ s
 rw [if_pos rfl]
 refine wpAny_bind (wpAny_rule ?_)
 refine wpAny_bind (wpAny_field hz rfl (x := .ref TO) rfl ?_)
 refine wpAny_bind (wpAny_setField_rec hz (by simp) fun g1 hz1 hs1 => ?_)
 have st1 : S1 k g1 := D1.frame k _ _ h1 fun c hc o e => (hs1.2 c fun q => f1z (q ▸ hc)).trans e
 have st2 : S2 k g1 := D2.frame k _ _ h2 fun c hc o e => (hs1.2 c fun q => f2z (q ▸ hc)).trans e
 have hTO1 := same_pair hs1 nTO hTO
 refine wpAny_bind ?_
 show wpAny _ _ (forIn [(Value.ref i1, 0), (Value.ref i2, 1)] _ _) _ _ _
 rw [List.forIn_cons]
 refine wpAny_bind (wpAny_bind (wpAny_onRaise ?_))
 refine wpAny_bind (m := SmallTypes.nextOf (.ref i1)) (D1.item k { s with heap := g1 } _ _ k1 st1 fun x g2 tk2 px st1' hs2 => wpAny_pure ?_)
 have hTO2 := same_pair hs2 (Ne.symm n1T) hTO1
 refine wpAny_bind (wpAny_seqItems hTO2 rfl ?_)
 refine wpAny_bind (wpAny_updateSeq_pair hTO2 fun g3 hTO3 hs3 => ?_)
 refine wpAny_bind (wpAny_letGo (wpAny_pure ?_))
 have hTO3 : IsPair g3 TO x b := hTO3
 have st2' : S2 k g3 := D2.frame k _ _ st2 fun c hc o e => (hs3.2 c fun q => f2T (q ▸ hc)).trans ((hs2.2 c fun q => f21 (q ▸ hc)).trans e)
 show wpAny _ _ (forIn [(Value.ref i2, 1)] _ _) _ _ _
 rw [List.forIn_cons]
 refine wpAny_bind (wpAny_bind (wpAny_onRaise ?_))
 refine wpAny_bind (m := SmallTypes.nextOf (.ref i2)) (D2.item k { s with heap := g3, toks := tk2 } _ _ k2 st2' fun y g4 tk4 py st2'' hs4 => wpAny_pure ?_)
 have hTO4 := same_pair hs4 (Ne.symm n2T) hTO3
 refine wpAny_bind (wpAny_seqItems hTO4 rfl ?_)
 refine wpAny_bind (wpAny_updateSeq_pair hTO4 fun g5 hTO5 hs5 => ?_)
 refine wpAny_bind (wpAny_letGo (wpAny_pure ?_))
 have hTO5 : IsPair g5 TO x y := hTO5
 show wpAny _ _ (forIn [] _ _) _ _ _
 rw [List.forIn_nil]
 refine wpAny_pure ?_
 refine wpAny_bind (wpAny_seqItems hTO5 rfl ?_)
 refine wpAny_bind (wpAny_newTuple ?_)
 have hz5 : IsZip g5 z TI TO .ellipsis := (hs5.2 z (Ne.symm nTO)).trans ((hs4.2 z (Ne.symm n2z)).trans ((hs3.2 z (Ne.symm nTO)).trans ((hs2.2 z (Ne.symm n1z)).trans hz1)))
 have sz5 : g5.objs.size = s.heap.objs.size := by rw [hs5.1, hs4.1, hs3.1, hs2.1, hs1.1]
 have hz6 := Heap.get?_push_of_some { cls := Value.type "tuple", data := Data.seq #[x, y] } hz5
 refine wpAny_bind (m := SmallTypes.ownedTupleHandOut _ _) ?_
 refine wpAny_bind (m := setField _ 0 _) (wpAny_setField_rec hz6 (by simp) fun g7 hz7 hs7 => ?_)
 refine wpAny_setField_rec hz7 (by simp) fun g8 hz8 hs8 => ?_
 have lt : ∀ {c : Addr} {o : Obj}, s.heap.get? c = some o -> c < g5.objs.size := fun e => by rw [sz5]; exact Heap.lt_size e
 have nw : g5.objs.size ≠ z := Nat.ne_of_gt (Heap.lt_size hz5)
 have fr : ∀ c o, c ≠ z -> g5.get? c = some o -> g8.get? c = some o := fun c o n e => (hs8.2 c n).trans ((hs7.2 c n).trans (Heap.get?_push_of_some _ e))
 have up : ∀ c o, c ≠ z -> c ≠ TO -> c ≠ i2 -> g2.get? c = some o -> g8.get? c = some o := fun c o c1 c2 c3 e => fr c o c1 ((hs5.2 c c2).trans ((hs4.2 c c3).trans ((hs3.2 c c2).trans e)))
 have hnew : g8.get? g5.objs.size = some { cls := Value.type "tuple", data := Data.seq #[x, y] } := (hs8.2 _ nw).trans ((hs7.2 _ nw).trans (Heap.get?_push_size _ rfl))
 have sz8 : g8.objs.size = s.heap.objs.size + 1 := by
  rw [hs8.1]
  show g7.objs.size = _
  rw [hs7.1]
  show (g5.push _).objs.size = _
  rw [Heap.size_push, sz5]
 have hz8' : IsZip g8 z TI TO (rawInt s.heap.objs.size) := by
  rw [<- sz5]
  exact hz8
 refine wpAny_pure ⟨_, rfl, ?_⟩
 show Q (Value.ref g5.objs.size) { s with heap := g8, toks := tk4 }
 rw [sz5] at hnew ⊢
 refine hQ x y g8 tk4 px py hz8' (fr _ _ nTO hTO5) (D1.frame _ _ _ st1' fun c hc o e => up c o (fun q => f1z (q ▸ hc)) (fun q => f1T (q ▸ hc)) (fun q => f12 (q ▸ hc)) e) (D2.frame _ _ _ st2'' fun c hc o e => fr c o (fun q => f2z (q ▸ hc)) ((hs5.2 c fun q => f2T (q ▸ hc)).trans e)) hnew sz8 fun c o c1 c2 c3 c4 e => up c o c1 c2 c4 ((hs2.2 c c3).trans ((hs1.2 c c1).trans e))
theorem zip_next_endD {z TI TO i1 i2 : Addr} {fp1 : List Addr} {n1 : Nat} {P1 : Nat -> Value -> Prop} {S1 : Nat -> Heap -> Prop} {a b : Value} {Q : Value -> Shared -> Prop}
  (D1 : Draws prog w A i1 fp1 n1 P1 S1) (hz : IsZip s.heap z TI TO .none) (hTI : IsPair s.heap TI (.ref i1) (.ref i2)) (hTO : IsPair s.heap TO a b)
  (h1 : S1 n1 s.heap) (nTO : TO ≠ z) (n1z : i1 ≠ z) (f1z : z ∉ fp1)
  (hE : ∀ h' e, (∃ o, h'.get? e = some o /\ o.cls = .type "StopIteration") -> (∀ c o, c ≠ z -> c ≠ TO -> c ≠ i1 -> c ≠ i2 -> s.heap.get? c = some o -> h'.get? c = some o) -> E (.ref e) { s with heap := h' }) :
  wpAny (model prog w) A (Builtin.«zip.__next__» ⟨[.ref z], []⟩) (fun fin s' => ∃ v, fin = .done (.ret v) /\ Q v s') E s := by
 show wpAny _ _ (field (.ref z) 2 >>= _) _ _ s
 refine wpAny_bind (wpAny_field hz rfl (x := .bool false) rfl ?_)
 refine wpAny_bind (wpAny_field hz rfl (x := .ref TI) rfl ?_)
 refine wpAny_bind (wpAny_seqItems hTI rfl ?_)
 refine wpAny_bind (m := SmallTypes.ownedTupleIsFree (.ref z)) (wpAny_bind (wpAny_field hz rfl (x := .none) rfl (wpAny_pure ?_)))
 show wpAny _ _ (if true = true then _ else _) _ _ s
 rw [if_pos rfl]
 refine wpAny_bind (wpAny_rule ?_)
 refine wpAny_bind (wpAny_field hz rfl (x := .ref TO) rfl ?_)
 refine wpAny_bind (wpAny_setField_rec hz (by simp) fun g1 hz1 hs1 => ?_)
 have st1 : S1 n1 g1 := D1.frame n1 _ _ h1 fun c hc o e => (hs1.2 c fun q => f1z (q ▸ hc)).trans e
 refine wpAny_bind ?_
 show wpAny _ _ (forIn [(Value.ref i1, 0), (Value.ref i2, 1)] _ _) _ _ _
 rw [List.forIn_cons]
 refine wpAny_bind (wpAny_bind (wpAny_onRaise ?_))
 refine wpAny_bind (m := SmallTypes.nextOf (.ref i1)) (D1.done { s with heap := g1 } _ _ st1 fun g2 e hs2 he => ?_)
 have hz2 : g2.get? z = some _ := hs2 z _ (Ne.symm n1z) hz1
 refine wpAny_setField_rec hz2 (by simp) fun g3 hz3 hs3 => ?_
 obtain ⟨oe, e1, e2⟩ := he
 have ez : e ≠ z := fun q => by
  rw [q, hz2] at e1
  cases e1
  exact absurd (Value.type.inj e2) (by decide)
 exact hE g3 e ⟨oe, (hs3.2 e ez).trans e1, e2⟩ fun c o c1 c2 c3 c4 q => (hs3.2 c c1).trans (hs2 c o c3 ((hs1.2 c c1).trans q))
theorem wpAny_pyNext_zip_itemD {z TI TO i1 i2 : Addr} {fp1 fp2 : List Addr} {n1 n2 k : Nat} {P1 P2 : Nat -> Value -> Prop} {S1 S2 : Nat -> Heap -> Prop} {a b : Value} {Q : Option Value -> Shared -> Prop}
  (D1 : Draws prog w A.in1 i1 fp1 n1 P1 S1) (D2 : Draws prog w A.in1 i2 fp2 n2 P2 S2) (hz : IsZip s.heap z TI TO .none) (hTI : IsPair s.heap TI (.ref i1) (.ref i2)) (hTO : IsPair s.heap TO a b)
  (h1 : S1 k s.heap) (h2 : S2 k s.heap) (k1 : k < n1) (k2 : k < n2) (nTO : TO ≠ z) (nTI : TI ≠ z) (n1z : i1 ≠ z) (n2z : i2 ≠ z) (n1T : i1 ≠ TO) (n2T : i2 ≠ TO)
  (f1z : z ∉ fp1) (f1T : TO ∉ fp1) (f12 : i2 ∉ fp1) (f2z : z ∉ fp2) (f2T : TO ∉ fp2) (f21 : i1 ∉ fp2)
  (hQ : ∀ x y h' tk, P1 k x -> P2 k y -> IsZip h' z TI TO (rawInt s.heap.objs.size) -> IsPair h' TO x y -> S1 (k + 1) h' -> S2 (k + 1) h' -> IsPair h' s.heap.objs.size x y -> h'.objs.size = s.heap.objs.size + 1 →
   (∀ c o, c ≠ z -> c ≠ TO -> c ≠ i1 -> c ≠ i2 -> s.heap.get? c = some o -> h'.get? c = some o) -> Q (some (.ref s.heap.objs.size)) { s with heap := h', toks := tk }) :
  wpAny (model prog w) A (pyNext (.ref z)) Q E s := by
 have hT : s.TypeIs (.ref z) "zip" := ⟨_, hz, rfl⟩
 exact wpAny_bind (wpAny_attempt (wpAny_callSpecial?_slot hT F.slot_zip_next (wpAny_call_entry F.slot_zip_next hT F.entry_zip_next
  (zip_next_itemD D1 D2 hz hTI hTO h1 h2 k1 k2 nTO nTI n1z n2z n1T n2T f1z f1T f12 f2z f2T f21 fun x y h' tk a0 b0 a1 a2 a3 a4 a5 a6 a7 => wpAny_pure (hQ x y h' tk a0 b0 a1 a2 a3 a4 a5 a6 a7)) (F.args_zip_next_1 (Value.ref z)))))
theorem wpAny_pyNext_zip_endD {z TI TO i1 i2 : Addr} {fp1 : List Addr} {n1 : Nat} {P1 : Nat -> Value -> Prop} {S1 : Nat -> Heap -> Prop} {a b : Value} {Q : Option Value -> Shared -> Prop}
  (D1 : Draws prog w A.in1 i1 fp1 n1 P1 S1) (hz : IsZip s.heap z TI TO .none) (hTI : IsPair s.heap TI (.ref i1) (.ref i2)) (hTO : IsPair s.heap TO a b)
  (h1 : S1 n1 s.heap) (nTO : TO ≠ z) (n1z : i1 ≠ z) (f1z : z ∉ fp1)
  (hQ : ∀ h', (∀ c o, c ≠ z -> c ≠ TO -> c ≠ i1 -> c ≠ i2 -> s.heap.get? c = some o -> h'.get? c = some o) -> Q none { s with heap := h' }) :
  wpAny (model prog w) A (pyNext (.ref z)) Q E s := by
 have hT : s.TypeIs (.ref z) "zip" := ⟨_, hz, rfl⟩
 exact wpAny_bind (wpAny_attempt (wpAny_callSpecial?_slot hT F.slot_zip_next (wpAny_call_entry F.slot_zip_next hT F.entry_zip_next
  (zip_next_endD D1 hz hTI hTO h1 nTO n1z f1z fun h' e he k => let ⟨o, ho, hc⟩ := he; wpAny_bind (wpAny_isInstance ⟨o, ho, hc⟩ isSubtype_stop (wpAny_pure (hQ h' k)))) (F.args_zip_next_1 (Value.ref z)))))
end
def zpH (h : Heap) (o1 o2 : Obj) : Heap :=
 ((((h.push o1).push o2).push { cls := .type "tuple", data := .seq #[.ref h.objs.size, .ref (h.push o1).objs.size] }).push { cls := .type "tuple", data := .seq #[.none, .none] }).push
  { cls := .type "zip", data := .fields #[.none, .bool false, .bool false, .ref ((h.push o1).push o2).objs.size, .ref (((h.push o1).push o2).push { cls := .type "tuple", data := .seq #[.ref h.objs.size, .ref (h.push o1).objs.size] }).objs.size] }
abbrev tIt (l : Addr) : Obj := { cls := .type "tuple_iterator", data := .fields #[.ref l, .int 0 0] }
abbrev lIt (l : Addr) : Obj := { cls := .type "list_iterator", data := .fields #[.ref l, .int 0 0] }
theorem meets_zip_TL (l1 l2 : Addr) (xs ys : Array Value) :
  Meets (Builtin.«zip.__new__» ⟨[.type "zip", .ref l1, .ref l2], []⟩) (fun _ R s => s.heap.IsTuple l1 xs /\ s.heap.IsList l2 ys ∧
   R (.ok (.ret (.ref ((((s.heap.push (tIt l1)).push (lIt l2)).push { cls := .type "tuple", data := .seq #[.ref s.heap.objs.size, .ref (s.heap.push (tIt l1)).objs.size] }).push { cls := .type "tuple", data := .seq #[.none, .none] }).objs.size)))
    { s with heap := zpH s.heap (tIt l1) (lIt l2) }) :=
 .of_wp fun prog w A R s h => by
  obtain ⟨hp, g, d, tk, os⟩ := s
  obtain ⟨hl1, hl2, h⟩ := h
  have hsub := sub_zip
  have hL1 := hl1
  have hL2 := Heap.IsList.push hl2 (tIt l1)
  wp_walk using wpAny_pyIter_tuple hL1, wpAny_pyIter_list hL2
  exact ⟨_, rfl, h⟩
theorem call_zip_TL {prog : Program} {w : World} {A : Around} {E : Value -> Shared -> Prop} {s : Shared} {l1 l2 : Addr} {xs ys : Array Value} {Q : Value -> Shared -> Prop} (h1 : s.heap.IsTuple l1 xs) (h2 : s.heap.IsList l2 ys)
  (h : ∀ h', IsZip h' (s.heap.objs.size + 4) (s.heap.objs.size + 2) (s.heap.objs.size + 3) .none -> IsPair h' (s.heap.objs.size + 2) (.ref s.heap.objs.size) (.ref (s.heap.objs.size + 1)) -> IsPair h' (s.heap.objs.size + 3) .none .none →
   h'.IsTupleIter s.heap.objs.size l1 0 -> h'.IsListIter (s.heap.objs.size + 1) l2 0 -> (∀ b o, s.heap.get? b = some o -> h'.get? b = some o) -> Q (.ref (s.heap.objs.size + 4)) { s with heap := h' }) :
  wpAny (model prog w) A (call (.type "zip") [.ref l1, .ref l2]) Q E s := by
 refine callType_new F.called_zip (by decide) (F.typeCall_zip_2 _ _) (F.newCall_zip_2 _ _) (fun obj => F.args_object_init_3 obj _ _) F.entry_zip_new (meets_zip_TL l1 l2 xs ys) ⟨h1, h2, ?_⟩
 have z1 : (s.heap.push (tIt l1)).objs.size = s.heap.objs.size + 1 := Heap.size_push ..
 have z2 : ((s.heap.push (tIt l1)).push (lIt l2)).objs.size = s.heap.objs.size + 2 := by rw [Heap.size_push, z1]
 have z3 : (((s.heap.push (tIt l1)).push (lIt l2)).push { cls := .type "tuple", data := .seq #[.ref s.heap.objs.size, .ref (s.heap.push (tIt l1)).objs.size] }).objs.size = s.heap.objs.size + 3 := by rw [Heap.size_push, z2]
 have z4 : ((((s.heap.push (tIt l1)).push (lIt l2)).push { cls := .type "tuple", data := .seq #[.ref s.heap.objs.size, .ref (s.heap.push (tIt l1)).objs.size] }).push { cls := .type "tuple", data := .seq #[.none, .none] }).objs.size = s.heap.objs.size + 4 := by rw [Heap.size_push, z3]
 have g5 : IsZip (zpH s.heap (tIt l1) (lIt l2)) (s.heap.objs.size + 4) (s.heap.objs.size + 2) (s.heap.objs.size + 3) .none := by
  rw [<- z4, <- z3, <- z2]
  exact Heap.get?_push_size _ rfl
 have g4 : IsPair (zpH s.heap (tIt l1) (lIt l2)) (s.heap.objs.size + 3) .none .none := by
  rw [<- z3]
  exact Heap.get?_push_of_some _ (Heap.get?_push_size _ rfl)
 have g3 : IsPair (zpH s.heap (tIt l1) (lIt l2)) (s.heap.objs.size + 2) (.ref s.heap.objs.size) (.ref (s.heap.objs.size + 1)) := by
  rw [<- z2, <- z1]
  exact Heap.get?_push_of_some _ (Heap.get?_push_of_some _ (Heap.get?_push_size _ rfl))
 have g2 : (zpH s.heap (tIt l1) (lIt l2)).get? (s.heap.objs.size + 1) = some (lIt l2) := by
  rw [<- z1]
  exact Heap.get?_push_of_some _ (Heap.get?_push_of_some _ (Heap.get?_push_of_some _ (Heap.get?_push_size _ rfl)))
 have g1 : (zpH s.heap (tIt l1) (lIt l2)).get? s.heap.objs.size = some (tIt l1) := Heap.get?_push_of_some _ (Heap.get?_push_of_some _ (Heap.get?_push_of_some _ (Heap.get?_push_of_some _ (Heap.get?_push_size _ rfl))))
 show _ /\ _
 rw [z4]
 exact ⟨⟨_, g5, rfl⟩, h _ g5 g3 g4 ⟨_, g1, rfl, rfl⟩ ⟨_, g2, rfl, rfl⟩ fun b o e => Heap.get?_push_of_some _ (Heap.get?_push_of_some _ (Heap.get?_push_of_some _ (Heap.get?_push_of_some _ (Heap.get?_push_of_some _ e))))⟩
theorem meets_zip_TT (l1 l2 : Addr) (xs ys : Array Value) :
  Meets (Builtin.«zip.__new__» ⟨[.type "zip", .ref l1, .ref l2], []⟩) (fun _ R s => s.heap.IsTuple l1 xs /\ s.heap.IsTuple l2 ys ∧
   R (.ok (.ret (.ref ((((s.heap.push (tIt l1)).push (tIt l2)).push { cls := .type "tuple", data := .seq #[.ref s.heap.objs.size, .ref (s.heap.push (tIt l1)).objs.size] }).push { cls := .type "tuple", data := .seq #[.none, .none] }).objs.size)))
    { s with heap := zpH s.heap (tIt l1) (tIt l2) }) :=
 .of_wp fun prog w A R s h => by
  obtain ⟨hp, g, d, tk, os⟩ := s
  obtain ⟨hl1, hl2, h⟩ := h
  have hsub := sub_zip
  have hL1 := hl1
  have hL2 := Heap.IsTuple.push hl2 (tIt l1)
  wp_walk using wpAny_pyIter_tuple hL1, wpAny_pyIter_tuple hL2
  exact ⟨_, rfl, h⟩
theorem call_zip_TT {prog : Program} {w : World} {A : Around} {E : Value -> Shared -> Prop} {s : Shared} {l1 l2 : Addr} {xs ys : Array Value} {Q : Value -> Shared -> Prop} (h1 : s.heap.IsTuple l1 xs) (h2 : s.heap.IsTuple l2 ys)
  (h : ∀ h', IsZip h' (s.heap.objs.size + 4) (s.heap.objs.size + 2) (s.heap.objs.size + 3) .none -> IsPair h' (s.heap.objs.size + 2) (.ref s.heap.objs.size) (.ref (s.heap.objs.size + 1)) -> IsPair h' (s.heap.objs.size + 3) .none .none →
   h'.IsTupleIter s.heap.objs.size l1 0 -> h'.IsTupleIter (s.heap.objs.size + 1) l2 0 -> (∀ b o, s.heap.get? b = some o -> h'.get? b = some o) -> Q (.ref (s.heap.objs.size + 4)) { s with heap := h' }) :
  wpAny (model prog w) A (call (.type "zip") [.ref l1, .ref l2]) Q E s := by
 refine callType_new F.called_zip (by decide) (F.typeCall_zip_2 _ _) (F.newCall_zip_2 _ _) (fun obj => F.args_object_init_3 obj _ _) F.entry_zip_new (meets_zip_TT l1 l2 xs ys) ⟨h1, h2, ?_⟩
 have z1 : (s.heap.push (tIt l1)).objs.size = s.heap.objs.size + 1 := Heap.size_push ..
 have z2 : ((s.heap.push (tIt l1)).push (tIt l2)).objs.size = s.heap.objs.size + 2 := by rw [Heap.size_push, z1]
 have z3 : (((s.heap.push (tIt l1)).push (tIt l2)).push { cls := .type "tuple", data := .seq #[.ref s.heap.objs.size, .ref (s.heap.push (tIt l1)).objs.size] }).objs.size = s.heap.objs.size + 3 := by rw [Heap.size_push, z2]
 have z4 : ((((s.heap.push (tIt l1)).push (tIt l2)).push { cls := .type "tuple", data := .seq #[.ref s.heap.objs.size, .ref (s.heap.push (tIt l1)).objs.size] }).push { cls := .type "tuple", data := .seq #[.none, .none] }).objs.size = s.heap.objs.size + 4 := by rw [Heap.size_push, z3]
 have g5 : IsZip (zpH s.heap (tIt l1) (tIt l2)) (s.heap.objs.size + 4) (s.heap.objs.size + 2) (s.heap.objs.size + 3) .none := by
  rw [<- z4, <- z3, <- z2]
  exact Heap.get?_push_size _ rfl
 have g4 : IsPair (zpH s.heap (tIt l1) (tIt l2)) (s.heap.objs.size + 3) .none .none := by
  rw [<- z3]
  exact Heap.get?_push_of_some _ (Heap.get?_push_size _ rfl)
 have g3 : IsPair (zpH s.heap (tIt l1) (tIt l2)) (s.heap.objs.size + 2) (.ref s.heap.objs.size) (.ref (s.heap.objs.size + 1)) := by
  rw [<- z2, <- z1]
  exact Heap.get?_push_of_some _ (Heap.get?_push_of_some _ (Heap.get?_push_size _ rfl))
 have g2 : (zpH s.heap (tIt l1) (tIt l2)).get? (s.heap.objs.size + 1) = some (tIt l2) := by
  rw [<- z1]
  exact Heap.get?_push_of_some _ (Heap.get?_push_of_some _ (Heap.get?_push_of_some _ (Heap.get?_push_size _ rfl)))
 have g1 : (zpH s.heap (tIt l1) (tIt l2)).get? s.heap.objs.size = some (tIt l1) := Heap.get?_push_of_some _ (Heap.get?_push_of_some _ (Heap.get?_push_of_some _ (Heap.get?_push_of_some _ (Heap.get?_push_size _ rfl))))
 show _ /\ _
 rw [z4]
 exact ⟨⟨_, g5, rfl⟩, h _ g5 g3 g4 ⟨_, g1, rfl, rfl⟩ ⟨_, g2, rfl, rfl⟩ fun b o e => Heap.get?_push_of_some _ (Heap.get?_push_of_some _ (Heap.get?_push_of_some _ (Heap.get?_push_of_some _ (Heap.get?_push_of_some _ e))))⟩
end PySem
namespace L2
open PySem PySem.Spec PyProof.Rows
theorem Inv.turnN {X : Cx} {pins : List (Addr × Obj)} {σ : St} {H : Hp} {s : Shared} {h' : Heap} {t' : Nat} {ch : List Addr} (I : Inv X pins σ H s) (fa : ∀ b ∈ ch, FpOk X pins H b)
  (k : ∀ c o, c ∉ ch -> s.heap.get? c = some o -> h'.get? c = some o) : Inv X pins σ H { s with heap := h', toks := t' } := by
 have na : ∀ c u, H c = some u -> c ∉ ch := fun c u e z => by have := (fa c z).1; rw [e] at this; cases this
 refine I.step (g' := s.gens) (d' := s.drawn) (ch := ch) (fun c hc => ?_) (fun c o _ _ hc e _ => k c o hc e) (fun c o _ _ hc e _ => ⟨o.slots, k c o hc e⟩)
  (fun _ _ _ _ n => n) (fun c o hc e => ⟨o, k c o hc e⟩) (fun _ _ e => e) (fun _ _ _ e => e) (fun c ps e => ⟨#[], by rw [e]; simp⟩) (fun m hm => ?_) (fun c u e => ?_) I.bare
 ·obtain ⟨a0, a1, a2, a3, a4, a5⟩ := fa c hc
  exact ⟨a3, a1, a4, a5⟩
 ·obtain ⟨o, es, ep, ho, r⟩ := hm
  exact ⟨o, es, ep, k _ o (fun z => (fa _ z).2.1 rfl) ho, r⟩
 ·refine (I.hok c u e).stay (fun d v hd q => ?_) (fun _ q => q) fun _ _ q => q
  rcases hd with z | z
  ·rw [z] at q ⊢
   exact k c v (na c u e) q
  ·exact k d v (na d _ z) q
theorem Inv.turnNl {X : Cx} {pins : List (Addr × Obj)} {σ : St} {H : Hp} {s : Shared} {h' : Heap} {t' : Nat} {ch : List Addr} {T : Addr} {o' : HO} (I : Inv X pins σ H s) (fa : ∀ b ∈ ch, FpOk X pins H b)
  (k : ∀ c o, c ∉ ch -> s.heap.get? c = some o -> h'.get? c = some o) (hT : s.heap.objs.size <= T) (new : ObjOk X.prog X.w (upd H T o') h' T o') : Inv X pins σ (upd H T o') { s with heap := h', toks := t' } := by
 have J : Inv X pins σ H { s with heap := h', toks := t' } := I.turnN fa k
 have hn : H T = none := I.hok.fresh hT
 have nT : ∀ c o, s.heap.get? c = some o -> c ≠ T := fun c o q => Nat.ne_of_lt (Nat.lt_of_lt_of_le (Heap.lt_size q) hT)
 refine I.step (g' := s.gens) (d' := s.drawn) (ch := ch) (fun c hc => ?_) (fun c o _ _ hc e _ => k c o hc e) (fun c o _ _ hc e _ => ⟨o.slots, k c o hc e⟩)
  (fun c o _ q n => by rw [upd_ne (nT c o q)]; exact n) (fun c o hc e => ⟨o, k c o hc e⟩) (fun c xs e => by rw [upd_ne (ne_of_none e hn)]; exact e) (fun c u xs e => by rw [upd_ne (ne_of_none e hn)]; exact e)
  (fun c ps e => ⟨#[], by rw [upd_ne (ne_of_none e hn), e]; simp⟩) (fun m hm => ?_) (hok_track J.hok hn new) I.bare
 ·obtain ⟨a0, a1, a2, a3, a4, a5⟩ := fa c hc
  exact ⟨a3, a1, a4, a5⟩
 ·obtain ⟨o, es, ep, ho, r⟩ := hm
  exact ⟨o, es, ep, k _ o (fun z => (fa _ z).2.1 rfl) ho, r⟩
end L2
namespace PySem
open Sem (wp)
open Builtin
theorem int_rmul_tup (a : Int) (t : Tok) (l : Addr) (items : Array Value) (n : Nat) (dd : Option Addr) (sl : Array (Option Value)) :
  Meets (Builtin.«int.__rmul__» ⟨[.int a t, .ref l], []⟩) (fun _ R s => s.heap.get? l = some ⟨.type "tuple", dd, .seq items n, sl⟩ /\ R (.ok (.ret .notImplemented)) s) :=
 .of_wp fun prog w A R s h => by
  obtain ⟨hp, g, d, tk, os⟩ := s
  obtain ⟨hl, h⟩ := h
  wp_walk
  exact ⟨_, rfl, h⟩
theorem noFill_tuple_mul : fillsNumberSlot (Value.type "tuple") "mul" = pure false := PySem.fillsNumberSlot_seq F.slot_tuple_mul.lookup (by first | rfl | decide) F.slot_tuple_rmul.lookup (by first | rfl | decide)
theorem repeat_tuple : seqRepeat? (Value.type "tuple") = pure (some (Value.builtin "tuple.__mul__")) := by
 unfold seqRepeat?
 have h1 : seqSlot? (Value.type "tuple") (Str.ofString "__mul__") = _ := PySem.seqSlot_of F.slot_tuple_mul.lookup (by first | rfl | decide)
 have h2 : seqSlot? (Value.type "tuple") (Str.ofString "__rmul__") = _ := PySem.seqSlot_of F.slot_tuple_rmul.lookup (by first | rfl | decide)
 rw [h1, h2]
 rfl
theorem tup_mul1 (l : Addr) (v : Value) (t : Tok) (n : Nat) (dd : Option Addr) (sl : Array (Option Value)) :
  Meets (Builtin.«tuple.__mul__» ⟨[.ref l, .int 1 t], []⟩) (fun _ R s => s.heap.get? l = some ⟨.type "tuple", dd, .seq #[v] n, sl⟩ /\ R (.ok (.ret (.ref l))) s) :=
 .of_wp fun prog w A R s h => by
  obtain ⟨hp, g, d, tk, os⟩ := s
  obtain ⟨hl, h⟩ := h
  unfold Builtin.«tuple.__mul__»
  wp_walk
  exact ⟨_, rfl, h⟩
theorem fold_rep_aux (v : Value) : ∀ (n : Nat) (a : Array Value), List.foldl (fun x1 x2 => x1 ++ x2) a (List.replicate n #[v]) = a ++ (List.replicate n v).toArray
 | 0, a => by simp
 | n + 1, a => by
  rw [List.replicate_succ, List.foldl_cons, fold_rep_aux v n, List.replicate_succ]
  apply Array.ext'
  simp
theorem fold_rep (v : Value) (n : Nat) : List.foldl (fun x1 x2 => x1 ++ x2) #[] (List.replicate n #[v]) = (List.replicate n v).toArray := by rw [fold_rep_aux]; simp
theorem tup_mulN (l : Addr) (v : Value) (x : Int) (t : Tok) (n : Nat) (dd : Option Addr) (sl : Array (Option Value)) (h2 : 2 <= x) (h3 : x <= 1000) :
  Meets (Builtin.«tuple.__mul__» ⟨[.ref l, .int x t], []⟩) (fun _ R s => s.heap.get? l = some ⟨.type "tuple", dd, .seq #[v] n, sl⟩ ∧
   R (.ok (.ret (.ref s.heap.objs.size))) { s with heap := s.heap.push { cls := .type "tuple", data := .seq (List.foldl (fun x1 x2 => x1 ++ x2) #[] (List.replicate x.toNat #[v])) } }) :=
 .of_wp fun prog w A R s h => by
  obtain ⟨hp, g, d, tk, os⟩ := s
  obtain ⟨hl, h⟩ := h
  have e1 : (decide (x < -2 ^ 63) || decide (x ≥ 2 ^ 63)) = false := by simp; omega
  have e2 : ((#[v] : Array Value).isEmpty || x == 1) = false := by simp; omega
  have e3 : (decide (x <= 0) || (#[v] : Array Value).isEmpty) = false := by simp; omega
  have e4 : ¬ (((#[v] : Array Value).size : Int) * x > (2 ^ 63 - 1) / 8) := by simp; omega
  have e5 : Builtin.Tuple.tupleTooMany (((#[v] : Array Value).size : Int) * x) = false := by
   unfold Builtin.Tuple.tupleTooMany
   have : (sizeLine : Int) = 16777216 := by decide
   rw [this]
   simp
   omega
  unfold Builtin.«tuple.__mul__»
  wp_walk
  rw [e1, if_neg Bool.false_ne_true]
  refine wpAny_bind (m := Builtin.Tuple.tupleItemsOf _) (wpAny_bind (wpAny_seqItems hl rfl (wpAny_pure ?_)))
  show wpAny _ _ (if ((#[v] : Array Value).isEmpty || x == 1) = true then _ else _) _ _ _
  rw [e2, if_neg Bool.false_ne_true]
  show wpAny _ _ (if (decide (x <= 0) || (#[v] : Array Value).isEmpty) = true then _ else _) _ _ _
  rw [e3, if_neg Bool.false_ne_true]
  show wpAny _ _ (if (((#[v] : Array Value).size : Int) * x > (2 ^ 63 - 1) / 8) then _ else _) _ _ _
  rw [if_neg e4]
  show wpAny _ _ (if Builtin.Tuple.tupleTooMany (((#[v] : Array Value).size : Int) * x) = true then _ else _) _ _ _
  rw [e5, if_neg Bool.false_ne_true]
  refine wpAny_bind (m := Builtin.Tuple.tupleExact _) (wpAny_newObj_type (wpAny_pure ⟨_, rfl, h⟩) ?_)
  rw [fold_rep]
  show (List.replicate x.toNat v).toArray.size <= sizeLine
  rw [List.size_toArray, List.length_replicate]
  have : sizeLine = 16777216 := by decide
  omega
end PySem
namespace L2
open PySem PySem.Spec PyProof.Rows
section
variable {X : Cx}
theorem vals_rep {v : V} {u : Value} (r : RelV v u) : ∀ n : Nat, Vals (List.replicate n v) (List.replicate n u)
 | 0 => .nil
 | n + 1 => .cons r (vals_rep r n)
def tPar3 (i j k : Nat) (ta : TA) : TS := fun D σ H => ta σ H fun vs H1 => ∃ u v w, vs = [u, v, w] /\ D.nx (((σ.set i (some u)).set j (some v)).set k (some w)) H1
theorem ps_par3 {i j k : Nat} {x y z : Str} {a b c : Expr} {ta : TA} {px py pz pt pos : Pos} {kt k2 pt2} (hc : X.calm = true) (hN : X.N.Nodup) (hi : X.N[i]? = some x) (hj : X.N[j]? = some y) (hk : X.N[k]? = some z) (hij : i ≠ j) (hik : i ≠ k) (hjk : j ≠ k)
  (hx : X.env.scope.names.lookup x = some .local) (hy : X.env.scope.names.lookup y = some .local) (hz : X.env.scope.names.lookup z = some .local) (ha : PA X [a, b, c] ta)
  (hw : swappedStores [.Tuple [.Name x px, .Name y py, .Name z pz] kt pt] (.Tuple [a, b, c] k2 pt2) X.env = pure (some [x, y, z]))
  (hs : autoParam (swapsWithSole [.Tuple [.Name x px, .Name y py, .Name z pz] kt pt] (.Tuple [a, b, c] k2 pt2) pos.line X.env = pure false) AutoP.a3._auto_1) :
  PS X (.Assign [.Tuple [.Name x px, .Name y py, .Name z pz] kt pt] (.Tuple [a, b, c] k2 pt2) pos) (tPar3 i j k ta) := by
 intro pins s σ H D I h
 rw [exec_Assign_arm]
 refine wpAny_bind (wpAny_standAt ?_)
 rw [hs]
 refine wpAny_bind (wpAny_pure ?_)
 rw [if_neg (by decide)]
 refine wpAny_bind (Tuple_ (thn (ha _ pins s σ H _ I h) fun us s1 ⟨vs, H1, I1, r1, q1⟩ => ?_))
 obtain ⟨v0, v, w, e1, q1⟩ := q1
 subst e1
 obtain ⟨u0, u1, u2, rfl, ru, rv, rw'⟩ : ∃ u0 u1 u2, us = [u0, u1, u2] /\ RelV v0 u0 /\ RelV v u1 /\ RelV w u2 := by
  cases r1 with
  | cons p0 q0 =>
   cases q0 with
   | cons p q =>
    cases q with
    | cons p' q' =>
     cases q'
     exact ⟨_, _, _, rfl, p0, p, p'⟩
 refine wpAny_newObj_type ?_ (by show 3 <= sizeLine; decide)
 have I2 : Inv X pins σ H1 { s1 with heap := s1.heap.push { cls := .type "tuple", data := .seq [u0, u1, u2].toArray } } := I1.kept (t' := s1.toks) fun b o e => Heap.get?_push_of_some _ e
 rw [hw]
 refine wpAny_bind (wpAny_pure ?_)
 show wpAny (model X.prog X.w) X.A (do rule "assign.swapped-stores"; let items <- unpackItems (.ref s1.heap.objs.size) 3 none; assignInOrder [fun v => bindName X.env z v, fun v => bindName X.env y v, fun v => bindName X.env x v] items.reverse; pure Flow.next) _ _ _
 refine wpAny_bind (wpAny_rule (wpAny_bind (unpackItems_tuple (items := #[u0, u1, u2]) (I.ok.hd hc) (IsTup.new s1.heap _) fun h' hx' => ?_)))
 have I3 := I2.kept (h' := h') (t' := s1.toks) fun b o e => hx' b o (Nat.ne_of_lt (Heap.lt_size e)) e
 show wpAny _ _ (assignInOrder [fun v => bindName X.env z v, fun v => bindName X.env y v, fun v => bindName X.env x v] [u2, u1, u0] >>= fun _ => pure Flow.next) _ _ _
 refine wpAny_bind (assignInOrder_cons (wpAny_bindName (store_ok I3 hN hk (.inl hz) rw' (fun s2 I4 => ?_) (.inr hz))))
 refine assignInOrder_cons (wpAny_bindName (store_ok I4 hN hj (.inl hy) rv (fun s3 I5 => ?_) (.inr hy)))
 refine assignInOrder_cons (wpAny_bindName (store_ok I5 hN hi (.inl hx) ru (fun s4 I6 => assignInOrder_nil (wpAny_pure ?_)) (.inr hx)))
 rw [List.set_comm _ _ (Ne.symm hij), List.set_comm _ _ (Ne.symm hik), List.set_comm _ _ (Ne.symm hjk)] at I6
 exact ⟨_, H1, I6, q1⟩
end
end L2
namespace Mth
open PySem PyProof.Rows
theorem fm_range (xs : Array Nat) (a n : Nat) (h : a + n <= xs.size) : List.filterMap (fun i => xs[i]?) ((List.range n).map fun k => a + k) = (xs.toList.drop a).take n := by
 induction n with
 | zero => simp
 | succ n ih =>
  rw [List.range_succ, List.map_append, List.filterMap_append, ih (by omega), List.take_add_one]
  have h1 : a + n < xs.size := by omega
  simp [h1]
theorem idx_none_lo (u : Option Int) (n : Nat) : Builtin.Str.strSliceIndices none u 1 n = Builtin.Str.strSliceIndices (some ((0 : Nat) : Int)) u 1 n := by
 unfold Builtin.Str.strSliceIndices
 simp
 rw [show min 0 (n : Int) = 0 by omega, Int.max_self]
theorem idx_none_hi (l : Option Int) (n : Nat) : Builtin.Str.strSliceIndices l none 1 n = Builtin.Str.strSliceIndices l (some (n : Int)) 1 n := by
 unfold Builtin.Str.strSliceIndices
 simp
 rw [if_neg (by omega), Int.min_self, show max 0 (n : Int) = n by omega]
theorem slice_mid (z : Str) (a b : Nat) (h1 : a <= b) (h2 : b <= z.cps.size) : (Txt.slice z (some (a : Int)) (some (b : Int))).cps.toList = (z.cps.toList.drop a).take (b - a) := by
 unfold Txt.slice
 have hl : z.length = z.cps.size := rfl
 rw [hl, StrLaws.strSliceIndices_plain h1 h2, List.length_map, List.length_range]
 split
 ·rename_i h
  have h3 : b - a = z.cps.size := by simpa using h
  have ha : a = 0 := by omega
  subst ha
  rw [List.drop_zero, List.take_of_length_le (by simp; omega)]
 ·exact fm_range z.cps a (b - a) (by omega)
theorem slice_lo (z : Str) (b : Nat) (h2 : b <= z.cps.size) : (Txt.slice z none (some (b : Int))).cps.toList = z.cps.toList.take b := by
 have e : Txt.slice z none (some (b : Int)) = Txt.slice z (some ((0 : Nat) : Int)) (some (b : Int)) := by
  unfold Txt.slice
  rw [idx_none_lo]
 rw [e, slice_mid z 0 b (Nat.zero_le _) h2]
 simp
theorem slice_hi (z : Str) (a : Nat) (h2 : a <= z.cps.size) : (Txt.slice z (some (a : Int)) none).cps.toList = z.cps.toList.drop a := by
 have e : Txt.slice z (some (a : Int)) none = Txt.slice z (some (a : Int)) (some (z.cps.size : Int)) := by
  unfold Txt.slice
  rw [idx_none_hi]
  rfl
 rw [e, slice_mid z a z.cps.size h2 (Nat.le_refl _), List.take_of_length_le (by simp)]
end Mth
namespace L2
open PySem PySem.Spec PyProof.Rows
variable {X : Cx}
theorem rng_vals {acc : Array Value} {n : Nat} (h : ItemsOf (fun i v => ∃ t, v = Value.int (0 + (i : Int) * 1) t) acc n) : Vals ((List.range n).map fun i : Nat => V.int (i : Int)) acc.toList := by
 obtain ⟨h1, h2⟩ := h
 have gen : ∀ (n k : Nat) (ls : List Value), ls.length = n -> (∀ j v, ls[j]? = some v -> ∃ t, v = Value.int (0 + ((k + j : Nat) : Int) * 1) t) -> Vals ((List.range' k n).map fun i : Nat => V.int (i : Int)) ls := by
  intro n
  induction n with
  | zero => intro k ls hl _; have : ls = [] := List.length_eq_zero_iff.mp hl; subst this; exact .nil
  | succ n ih =>
   intro k ls hl hh
   cases ls with
   | nil => cases hl
   | cons v ls =>
    rw [List.range'_succ, List.map_cons]
    refine .cons ?_ (ih (k + 1) ls (by simpa using hl) fun j v e => ?_)
    ·obtain ⟨t, rfl⟩ := hh 0 v rfl
     refine ⟨t, ?_⟩
     simp
    ·have := hh (j + 1) v (by simpa using e)
     rwa [show k + (j + 1) = k + 1 + j by omega] at this
 have := gen n 0 acc.toList (by simpa using h1) fun j v e => by simpa using h2 j v (by simpa using e)
 rwa [← List.range_eq_range'] at this
theorem call_list_rng (hc : X.calm = true) : CallR X (.type "list") (fun xs H Q => ∃ (p : Addr) (n : Nat), xs = [.ref p] /\ H p = some (.rng 0 (n : Int)) /\ n <= 1000 /\ ∀ l, H l = none -> Q (.ref l) (upd H l (.lst ((List.range n).map fun i : Nat => V.int (i : Int))))) := by
 intro pins s σ H xs us Q I r h
 obtain ⟨p, n, rfl, hp, hn, q⟩ := h
 obtain ⟨u, rfl, rx⟩ := vals1 r
 cases rx
 obtain ⟨t, u, v, e⟩ := (show ObjOk X.prog X.w H s.heap p (.rng 0 (n : Int)) from I.hok p _ hp)
 have hs : Builtin.Range.rangeSize 0 (n : Int) 1 = n := by rw [rangeSize_nat]; omega
 have fit : ∀ i : Int, 0 <= i -> i <= 1000 -> Builtin.Range.rangeFitsLong i = true := by
  intro i h0 h1
  unfold Builtin.Range.rangeFitsLong
  simp
  omega
 refine call_list_range (I.ok.hd hc) e ?_ hs (by omega) fun h' tk acc c' kp e' it => ?_
 ·unfold Builtin.Range.small
  rw [hs, fit 0 (by decide) (by decide), fit n (by omega) (by omega), fit 1 (by decide) (by decide), if_pos (by decide), fit ((n : Int) + (1 - 1)) (by omega) (by omega)]
  simp
 ·exact ⟨.ref s.heap.objs.size, _, I.laid (t' := tk) kp (Nat.le_refl _) (show ObjOk X.prog X.w _ h' _ (.lst _) from ⟨by simp; have := sizeLine_eq; omega, acc.toList, c', rng_vals it, by simpa using e'⟩), rfl, q _ (I.hok.fresh (Nat.le_refl _))⟩
end L2
namespace PySem
open Sem (wp)
open Builtin
end PySem
namespace L2
open PySem PySem.Spec PyProof.Rows
end L2
set_option autoImplicit false
namespace MD
open PySem PySem.Spec PyProof.Rows L2
inductive D where
 | non | bl (b : Bool) | int (i : Int) | str (x : Str) | flt (b : UInt64) | byt (b : Array UInt8) | ob (k : Nat) | tup (xs : List D) | lst (xs : List D) | scr (xs : List D)
 | exn (c : Str) (ds : List D)
inductive MO where
 | lst (xs : List D) | dct (kvs : List (L2.Key × D)) | ins (c : Str) (fs : List (Str × D))
 | hid
abbrev Sto := List MO
abbrev En := List (Option D)
structure Exc where
 cls : Str
 args : List D
inductive Res (α : Type) where
 | ok (a : α) (m : Sto) | exc (c : Exc) (m : Sto) | bad
def Res.bind {α β : Type} (r : Res α) (k : α -> Sto -> Res β) : Res β := match r with
 | .ok a m => k a m
 | .exc c m => .exc c m
 | .bad => .bad
def Post {α : Type} (r : Res α) (Q : α -> Sto -> Prop) (E : Exc -> Sto -> Prop) : Prop := match r with
 | .ok a m => Q a m
 | .exc c m => E c m
 | .bad => False
def TupAt (K : PySem.W.Frag) (H : Hp) (a : Addr) (xs : List V) : Prop :=
 H a = some (.tup xs) ∨ ∃ (o : Obj) (its : Array Value) (n : Nat), K.lookup a = some o /\ o.cls = .type "tuple" /\ o.dict = none /\ o.data = .seq its n /\ its.size <= sizeLine /\ Vals xs its.toList
theorem TupAt.sq {K : PySem.W.Frag} {H : Hp} {a : Addr} {xs : List V} (h : TupAt K H a xs) : SqT K H a xs := by
 rcases h with h | ⟨o, its, n, h1, h2, _, h3, h4, h5⟩
 ·exact .inl (.inl h)
 ·exact .inr ⟨o, its, n, h1, h2, h3, h4, h5⟩
def KL (K : PySem.W.Frag) (a : Addr) (xs : List V) : Prop := ∃ (o : Obj) (its : Array Value) (n : Nat), K.lookup a = some o /\ o.cls = .type "list" /\ o.dict = none /\ o.data = .seq its n /\ its.size <= sizeLine /\ Vals xs its.toList
def LstAt (K : PySem.W.Frag) (α : List Addr) (H : Hp) (a : Addr) (xs : List V) : Prop := (a ∉ α /\ Rd H a (.lst xs)) ∨ KL K a xs
theorem LstAt.sq {K : PySem.W.Frag} {α : List Addr} {H : Hp} {a : Addr} {xs : List V} (h : LstAt K α H a xs) : SqL K H a xs := by
 rcases h with h | h
 ·exact .inl h.2
 ·exact .inr h
def ExcO (C : Value) (dd : Option Addr) (e : Addr) : Heap -> Prop := fun h => ∃ o vs, h.get? e = some o /\ o.cls = C /\ o.dict = dd /\ o.data = .fields vs
def XdAt (H : Hp) (dd : Option Addr) (xs : List V) : Prop := (dd = none /\ xs = []) ∨ ∃ dx x, dd = some dx /\ xs = [x] /\ H dx = some (.xd [("row", x)])
mutual
def Rep (K : PySem.W.Frag) (α : List Addr) (H : Hp) : D -> V -> Prop
 | .non, v => v = .non
 | .bl b, v => v = .bl b
 | .int i, v => v = .int i
 | .str x, v => v = .str x
 | .flt x, v => v = .flt x
 | .byt x, v => v = .byt x
 | .ob k, v => ∃ a, α[k]? = some a /\ v = .ref a
 | .tup ds, v => ∃ a xs, v = .ref a /\ TupAt K H a xs /\ RepL K α H ds xs
 | .lst ds, v => ∃ a xs, v = .ref a /\ a ∉ α /\ Rd H a (.lst xs) /\ RepL K α H ds xs
 | .scr ds, v => ∃ a xs, v = .ref a /\ LstAt K α H a xs /\ RepL K α H ds xs
 | .exn c ds, v => ∃ a C dd xs, v = .ref a /\ PySem.W.nsIn K mainGlobals c = some (some (.ref C)) /\ H a = some (.ext (ExcO (.ref C) dd a)) /\ XdAt H dd xs /\ RepL K α H ds xs
def RepL (K : PySem.W.Frag) (α : List Addr) (H : Hp) : List D -> List V -> Prop
 | [], vs => vs = []
 | d :: ds, vs => ∃ v r, vs = v :: r /\ Rep K α H d v /\ RepL K α H ds r
end
def RepKV (K : PySem.W.Frag) (α : List Addr) (H : Hp) : List (L2.Key × D) -> List (L2.Key × V) -> Prop
 | [], vs => vs = []
 | d :: ds, vs => ∃ v r, vs = (d.1, v) :: r /\ Rep K α H d.2 v /\ RepKV K α H ds r
def RepF (K : PySem.W.Frag) (α : List Addr) (H : Hp) : List (Str × D) -> List (Str × V) -> Prop
 | [], vs => vs = []
 | d :: ds, vs => ∃ v r, vs = (d.1, v) :: r /\ Rep K α H d.2 v /\ RepF K α H ds r
def MoRep (K : PySem.W.Frag) (cl : Str -> Addr) (α : List Addr) (H : Hp) (a : Addr) : MO -> Prop
 | .lst ds => ∃ xs, H a = some (.lst xs) /\ RepL K α H ds xs
 | .dct ds => ∃ xs, H a = some (.dK xs) /\ RepKV K α H ds xs
 | .ins c ds => ∃ dx xs, H a = some (.ins (cl c) dx xs) /\ RepF K α H ds xs
 | .hid => ∃ o xs, H a = some (.frz o (.dK xs))
structure Wd (K : PySem.W.Frag) (cl : Str -> Addr) (α : List Addr) (m : Sto) (H : Hp) : Prop where
 len : α.length = m.length
 nd : α.Nodup
 at' : ∀ (k : Nat) (a : Addr) (o : MO), α[k]? = some a -> m[k]? = some o -> MoRep K cl α H a o
structure Ext (α : List Addr) (H : Hp) (α' : List Addr) (H' : Hp) : Prop where
 pre : ∃ β, α' = α ++ β /\ ∀ b ∈ β, H b = none
 keep : ∀ a o, H a = some o -> a ∉ α -> H' a = some o
 there : ∀ a ∈ α, H' a ≠ none
 frzs : ∀ a o u, H a = some (.frz o u) -> H' a = some (.frz o u)
section
variable {K : PySem.W.Frag} {cl : Str -> Addr} {α α' α2 : List Addr} {m m' : Sto} {H H' H2 : Hp}
theorem Wd.is (W : Wd K cl α m H) {a : Addr} (ha : a ∈ α) : (∃ xs, H a = some (.lst xs)) ∨ (∃ xs, H a = some (.dK xs)) ∨ (∃ c dx xs, H a = some (.ins c dx xs)) ∨ ∃ o xs, H a = some (.frz o (.dK xs)) := by
 obtain ⟨k, hk, rfl⟩ := List.mem_iff_getElem.mp ha
 have hm : k < m.length := by rw [<- W.len]; exact hk
 have h := W.at' k α[k] m[k] (by simp [hk]) (by simp [hm])
 cases e : m[k] with
 | lst ds => rw [e] at h; obtain ⟨xs, h, _⟩ := h; exact .inl ⟨xs, h⟩
 | dct ds => rw [e] at h; obtain ⟨xs, h, _⟩ := h; exact .inr (.inl ⟨xs, h⟩)
 | ins c ds => rw [e] at h; obtain ⟨dx, xs, h, _⟩ := h; exact .inr (.inr (.inl ⟨_, dx, xs, h⟩))
 | hid => rw [e] at h; obtain ⟨o, xs, h⟩ := h; exact .inr (.inr (.inr ⟨o, xs, h⟩))
theorem Wd.has (W : Wd K cl α m H) {a : Addr} (ha : a ∈ α) : H a ≠ none := by
 rcases W.is ha with ⟨_, h⟩ | ⟨_, h⟩ | ⟨_, _, _, h⟩ | ⟨_, _, h⟩ <;> rw [h] <;> exact fun z => nomatch z
theorem Wd.notup (W : Wd K cl α m H) {a : Addr} {xs : List V} (h : Rd H a (.tup xs)) : a ∉ α := fun ha => by
 rcases h with h | ⟨o, h⟩ <;> rcases W.is ha with ⟨_, e⟩ | ⟨_, e⟩ | ⟨_, _, _, e⟩ | ⟨_, _, e⟩ <;> rw [h] at e <;> cases e
theorem Wd.noext (W : Wd K cl α m H) {a : Addr} {φ : Heap -> Prop} (h : H a = some (.ext φ)) : a ∉ α := fun ha => by
 rcases W.is ha with ⟨_, e⟩ | ⟨_, e⟩ | ⟨_, _, _, e⟩ | ⟨_, _, e⟩ <;> rw [h] at e <;> cases e
theorem Wd.noxd (W : Wd K cl α m H) {a : Addr} {fs : List (Str × V)} (h : H a = some (.xd fs)) : a ∉ α := fun ha => by
 rcases W.is ha with ⟨_, e⟩ | ⟨_, e⟩ | ⟨_, _, _, e⟩ | ⟨_, _, e⟩ <;> rw [h] at e <;> cases e
theorem Ext.rd (E : Ext α H α' H') {a : Addr} {u : HO} (h : Rd H a u) (n : a ∉ α) : Rd H' a u := by
 rcases h with h | ⟨o, h⟩
 ·exact .inl (E.keep a _ h n)
 ·exact .inr ⟨o, E.keep a _ h n⟩
theorem Rd.ne {a : Addr} {u : HO} (h : Rd H a u) : H a ≠ none := by
 rcases h with h | ⟨o, h⟩ <;> rw [h] <;> exact fun z => nomatch z
theorem Ext.sqt (E : Ext α H α' H') (W : Wd K cl α m H) {a : Addr} {xs : List V} (h : SqT K H a xs) : SqT K H' a xs := by
 rcases h with h | h
 ·exact .inl (E.rd h (W.notup h))
 ·exact .inr h
structure Kp (α : List Addr) (H : Hp) (α' : List Addr) (H' : Hp) : Prop where
 pre : ∃ β, α' = α ++ β
 tup : ∀ a xs, H a = some (.tup xs) -> H' a = some (.tup xs)
 lst : ∀ a xs, a ∉ α -> Rd H a (.lst xs) -> a ∉ α' /\ Rd H' a (.lst xs)
 ext : ∀ a φ, H a = some (.ext φ) -> H' a = some (.ext φ)
 xd : ∀ a fs, H a = some (.xd fs) -> H' a = some (.xd fs)
theorem Ext.kp (E : Ext α H α' H') (W : Wd K cl α m H) : Kp α H α' H' := ⟨let ⟨β, e, _⟩ := E.pre; ⟨β, e⟩, fun a xs h => E.keep a _ h (W.notup (.inl h)), fun a xs n h => ⟨fun z => by
  obtain ⟨β, rfl, hb⟩ := E.pre
  rcases List.mem_append.mp z with z | z
  ·exact n z
  ·exact Rd.ne h (hb a z), E.rd h n⟩, (fun a φ h => E.keep a _ h (W.noext h)), (fun a fs h => E.keep a _ h (W.noxd h))⟩
theorem Kp.xdAt (E : Kp α H α' H') {dd : Option Addr} {xs : List V} (h : XdAt H dd xs) : XdAt H' dd xs := by
 rcases h with h | ⟨dx, x, h1, h2, h3⟩
 ·exact .inl h
 ·exact .inr ⟨dx, x, h1, h2, E.xd _ _ h3⟩
theorem Kp.lstAt (E : Kp α H α' H') {a : Addr} {xs : List V} (h : LstAt K α H a xs) : LstAt K α' H' a xs := by
 rcases h with h | h
 ·exact .inl (E.lst a xs h.1 h.2)
 ·exact .inr h
mutual
theorem Rep.kp (E : Kp α H α' H') : ∀ {d : D} {v : V}, Rep K α H d v -> Rep K α' H' d v
 | .non, _, h => by simpa [Rep] using h
 | .bl _, _, h => by simpa [Rep] using h
 | .int _, _, h => by simpa [Rep] using h
 | .str _, _, h => by simpa [Rep] using h
 | .flt _, _, h => by simpa [Rep] using h
 | .byt _, _, h => by simpa [Rep] using h
 | .ob k, _, h => by
  rw [Rep] at h ⊢
  obtain ⟨a, h1, h2⟩ := h
  obtain ⟨β, rfl⟩ := E.pre
  exact ⟨a, by rw [List.getElem?_append_left (List.getElem?_eq_some_iff.mp h1).1]; exact h1, h2⟩
 | .tup ds, _, h => by
  rw [Rep] at h ⊢
  obtain ⟨a, xs, e, h1, h2⟩ := h
  refine ⟨a, xs, e, ?_, RepL.kp E h2⟩
  rcases h1 with h1 | h1
  ·exact .inl (E.tup a xs h1)
  ·exact .inr h1
 | .lst ds, _, h => by
  rw [Rep] at h ⊢
  obtain ⟨a, xs, e, n, h1, h2⟩ := h
  exact ⟨a, xs, e, (E.lst a xs n h1).1, (E.lst a xs n h1).2, RepL.kp E h2⟩
 | .scr ds, _, h => by
  rw [Rep] at h ⊢
  obtain ⟨a, xs, e, h1, h2⟩ := h
  exact ⟨a, xs, e, E.lstAt h1, RepL.kp E h2⟩
 | .exn c ds, _, h => by
  rw [Rep] at h ⊢
  obtain ⟨a, C, dd, xs, e, n, h1, h2, h3⟩ := h
  exact ⟨a, C, dd, xs, e, n, E.ext _ _ h1, E.xdAt h2, RepL.kp E h3⟩
theorem RepL.kp (E : Kp α H α' H') : ∀ {ds : List D} {vs : List V}, RepL K α H ds vs -> RepL K α' H' ds vs
 | [], _, h => by rw [RepL] at h ⊢; exact h
 | _ :: _, _, h => by
  rw [RepL] at h ⊢
  obtain ⟨v, r, e, h1, h2⟩ := h
  exact ⟨v, r, e, Rep.kp E h1, RepL.kp E h2⟩
end
theorem Rep.mono (W : Wd K cl α m H) (E : Ext α H α' H') {d : D} {v : V} (h : Rep K α H d v) : Rep K α' H' d v := h.kp (E.kp W)
theorem RepL.mono (W : Wd K cl α m H) (E : Ext α H α' H') {ds : List D} {vs : List V} (h : RepL K α H ds vs) : RepL K α' H' ds vs := h.kp (E.kp W)
theorem Ext.refl (W : Wd K cl α m H) : Ext α H α H := ⟨⟨[], by simp, fun _ h => nomatch h⟩, fun _ _ h _ => h, fun _ h => W.has h, fun _ _ _ h => h⟩
theorem Ext.trans (a : Ext α H α' H') (b : Ext α' H' α2 H2) : Ext α H α2 H2 := by
 obtain ⟨β, rfl, hb⟩ := a.pre
 obtain ⟨γ, rfl, hc⟩ := b.pre
 refine ⟨⟨β ++ γ, by simp, fun c h => ?_⟩, fun x o h n => b.keep x o (a.keep x o h n) fun z => ?_, fun x h => b.there x (List.mem_append_left _ h), fun x o u h => b.frzs x o u (a.frzs x o u h)⟩
 ·rcases List.mem_append.mp h with h | h
  ·exact hb c h
  ·cases e : H c with
   | none => rfl
   | some o =>
    by_cases hm : c ∈ α
    ·exact absurd (hc c h) (a.there c hm)
    ·have := a.keep c o e hm
     rw [hc c h] at this
     cases this
 ·rcases List.mem_append.mp z with z | z
  ·exact n z
  ·rw [hb x z] at h
   cases h
theorem Ext.of_same (W : Wd K cl α m H) (s : Same H H') : Ext α H α H' := by
 refine ⟨⟨[], by simp, fun _ h => nomatch h⟩, fun a o h _ => s a o h, fun a ha z => ?_, fun a o u h => s a _ h⟩
 cases e : H a with
 | none => exact W.has ha e
 | some o => rw [s a o e] at z; cases z
theorem RepKV.kp (E : Kp α H α' H') : ∀ {ds : List (L2.Key × D)} {vs : List (L2.Key × V)}, RepKV K α H ds vs -> RepKV K α' H' ds vs
 | [], _, h => h
 | _ :: _, _, ⟨v, r, e, h1, h2⟩ => ⟨v, r, e, Rep.kp E h1, RepKV.kp E h2⟩
theorem RepF.kp (E : Kp α H α' H') : ∀ {ds : List (Str × D)} {vs : List (Str × V)}, RepF K α H ds vs -> RepF K α' H' ds vs
 | [], _, h => h
 | _ :: _, _, ⟨v, r, e, h1, h2⟩ => ⟨v, r, e, Rep.kp E h1, RepF.kp E h2⟩
theorem RepKV.mono (W : Wd K cl α m H) (E : Ext α H α' H') {ds : List (L2.Key × D)} {vs : List (L2.Key × V)} (h : RepKV K α H ds vs) : RepKV K α' H' ds vs := h.kp (E.kp W)
theorem MoRep.kp (E : Kp α H α' H') {a : Addr} (s : ∀ o, H a = some o -> H' a = some o) : ∀ {o : MO}, MoRep K cl α H a o -> MoRep K cl α' H' a o
 | .lst _, ⟨xs, h1, h2⟩ => ⟨xs, s _ h1, h2.kp E⟩
 | .dct _, ⟨xs, h1, h2⟩ => ⟨xs, s _ h1, h2.kp E⟩
 | .ins _ _, ⟨dx, xs, h1, h2⟩ => ⟨dx, xs, s _ h1, h2.kp E⟩
 | .hid, ⟨o, xs, h1⟩ => ⟨o, xs, s _ h1⟩
theorem MoRep.mono (W : Wd K cl α m H) (E : Ext α H α' H') {a : Addr} (s : ∀ o, H a = some o -> H' a = some o) {o : MO} (h : MoRep K cl α H a o) : MoRep K cl α' H' a o := h.kp (E.kp W) s
theorem Wd.same (W : Wd K cl α m H) (s : Same H H') : Wd K cl α m H' := ⟨W.len, W.nd, fun k a o h1 h2 => (W.at' k a o h1 h2).mono W (Ext.of_same W s) fun o h => s a o h⟩
theorem Wd.join (W : Wd K cl α m H) {p : Addr} {u : HO} {o : MO} (hn : p ∉ α) (kp : Kp α H (α ++ [p]) (upd H p u)) (h : MoRep K cl (α ++ [p]) (upd H p u) p o) : Wd K cl (α ++ [p]) (m ++ [o]) (upd H p u) := by
 refine ⟨by rw [List.length_append, List.length_append, W.len]; rfl, ?_, fun k a o' h1 h2 => ?_⟩
 ·rw [List.nodup_append]
  exact ⟨W.nd, by simp, fun a ha b hb e => hn (by rw [<- List.mem_singleton.mp hb, <- e]; exact ha)⟩
 ·by_cases hk : k < α.length
  ·rw [List.getElem?_append_left hk] at h1
   rw [List.getElem?_append_left (by rw [<- W.len]; exact hk)] at h2
   exact (W.at' k a o' h1 h2).kp kp fun o h => by rw [upd_ne (fun z => hn (by rw [<- z]; exact List.mem_of_getElem? h1))]; exact h
  ·have hk2 : k = α.length := by
    have := (List.getElem?_eq_some_iff.mp h1).1
    rw [List.length_append] at this
    have : [p].length = 1 := rfl
    omega
   subst hk2
   rw [List.getElem?_append_right (Nat.le_refl _)] at h1
   rw [W.len, List.getElem?_append_right (Nat.le_refl _)] at h2
   simp at h1 h2
   subst h1 h2
   exact h
theorem Wd.new (W : Wd K cl α m H) {p : Addr} {u : HO} {o : MO} (hp : H p = none) (h : MoRep K cl (α ++ [p]) (upd H p u) p o) : Wd K cl (α ++ [p]) (m ++ [o]) (upd H p u) /\ Ext α H (α ++ [p]) (upd H p u) := by
 have s : Same H (upd H p u) := fun b o e => by rw [upd_ne (ne_of_none e hp)]; exact e
 have E : Ext α H (α ++ [p]) (upd H p u) := ⟨⟨[p], rfl, fun b hb => by rw [List.mem_singleton.mp hb]; exact hp⟩, fun a o h _ => s a o h, (Ext.of_same W s).there, fun a o u h => s a _ h⟩
 exact ⟨W.join (fun z => W.has z hp) (E.kp W) h, E⟩
end
theorem ex3 {A B C : Type} {P Q R : A -> B -> C -> Prop} {G : Prop} (h : ∃ a b c, P a b c /\ Q a b c /\ R a b c) (k : ∀ a b c, P a b c -> Q a b c -> R a b c -> G) : G := h.elim fun a h => h.elim fun b h => h.elim fun c h => k a b c h.1 h.2.1 h.2.2
abbrev XD := Exc -> List Addr -> Sto -> Hp -> Prop
abbrev RD (τ : Type) := τ -> List Addr -> Sto -> Hp -> Prop
def PQ (K : PySem.W.Frag) (cl : Str -> Addr) (ex : XD) {τ : Type} (r : Res τ) (α : List Addr) (H : Hp) (R : RD τ) : Prop :=
 Post r (fun d m' => ∀ α' H', Ext α H α' H' -> Wd K cl α' m' H' -> R d α' m' H') fun c m' => ∀ α' H', Ext α H α' H' -> Wd K cl α' m' H' -> ex c α' m' H'
structure RepE (K : PySem.W.Frag) (α : List Addr) (H : Hp) (ρ : En) (σ : L2.St) : Prop where
 len : ρ.length = σ.length
 at' : ∀ (i : Nat) (d : D), ρ[i]? = some (some d) -> ∃ v, σ[i]? = some (some v) /\ Rep K α H d v
section
variable {K : PySem.W.Frag} {cl : Str -> Addr} {ex : XD} {α α' α2 : List Addr} {m m' : Sto} {H H' H2 : Hp} {ρ ρ' : En} {σ σ' : L2.St} {τ υ : Type}
theorem RepE.mono (W : Wd K cl α m H) (E : Ext α H α' H') (h : RepE K α H ρ σ) : RepE K α' H' ρ σ := ⟨h.len, fun i d e => let ⟨v, a, b⟩ := h.at' i d e; ⟨v, a, b.mono W E⟩⟩
theorem RepE.set {i : Nat} {d : D} {v : V} (h : RepE K α H ρ σ) (r : Rep K α H d v) : RepE K α H (ρ.set i (some d)) (σ.set i (some v)) := by
 refine ⟨by rw [List.length_set, List.length_set, h.len], fun j e hj => ?_⟩
 by_cases hij : i = j
 ·subst hij
  have hl : i < ρ.length := by
   have := (List.getElem?_eq_some_iff.mp hj).1
   rwa [List.length_set] at this
  rw [List.getElem?_set_self hl] at hj
  cases hj
  exact ⟨v, List.getElem?_set_self (by rw [<- h.len]; exact hl), r⟩
 ·rw [List.getElem?_set_ne hij] at hj ⊢
  exact h.at' j e hj
theorem RepE.more (h : RepE K α H ρ σ) (n : Nat) : RepE K α H (ρ ++ List.replicate n none) (σ ++ List.replicate n none) := by
 refine ⟨by simp [h.len], fun j e hj => ?_⟩
 by_cases hl : j < ρ.length
 ·rw [List.getElem?_append_left hl] at hj
  rw [List.getElem?_append_left (by rw [<- h.len]; exact hl)]
  exact h.at' j e hj
 ·rw [List.getElem?_append_right (by omega), List.getElem?_replicate] at hj
  split at hj <;> cases hj
theorem PQ.mono {r : Res τ} {R R' : RD τ} (E : Ext α H α' H') (h : PQ K cl ex r α H R) (hR : ∀ d α2 m2 H2, Ext α' H' α2 H2 -> Wd K cl α2 m2 H2 -> R d α2 m2 H2 -> R' d α2 m2 H2) : PQ K cl ex r α' H' R' := by
 cases r with
 | ok d m2 => exact fun α2 H2 E2 W2 => hR d α2 m2 H2 E2 W2 (h α2 H2 (E.trans E2) W2)
 | exc c m2 => exact fun α2 H2 E2 W2 => h α2 H2 (E.trans E2) W2
 | bad => exact h
theorem PQ.bind {r : Res τ} {k : τ -> Sto -> Res υ} {R : RD υ} (h : PQ K cl ex (r.bind k) α H R) : PQ K cl ex r α H fun d α1 m1 H1 => PQ K cl ex (k d m1) α1 H1 R := by
 cases r with
 | ok d m1 => exact fun α1 H1 E1 _ => PQ.mono E1 h fun _ _ _ _ _ _ q => q
 | exc c m1 => exact h
 | bad => exact h
theorem PQ.ok {d : τ} {R : RD τ} (W : Wd K cl α m H) (h : PQ K cl ex (.ok d m) α H R) : R d α m H := h α H (Ext.refl W) W
theorem PQ.okS {d : τ} {R : RD τ} (W : Wd K cl α m H) (s : Same H H') (h : PQ K cl ex (.ok d m) α H R) : R d α m H' := h α H' (Ext.of_same W s) (W.same s)
def tD (K : PySem.W.Frag) (cl : Str -> Addr) (ex : XD) (f : En -> Sto -> Res D) : TE := fun σ H Q => ∃ α ρ m, Wd K cl α m H /\ RepE K α H ρ σ /\ PQ K cl ex (f ρ m) α H fun d α' _ H' => ∀ v, Rep K α' H' d v -> Q v H'
def tDT (K : PySem.W.Frag) (cl : Str -> Addr) (ex : XD) (f : En -> Sto -> Res Bool) : TT := fun σ H Q => ∃ α ρ m, Wd K cl α m H /\ RepE K α H ρ σ /\ PQ K cl ex (f ρ m) α H fun d _ _ H' => Q d H'
def tDA (K : PySem.W.Frag) (cl : Str -> Addr) (ex : XD) (f : En -> Sto -> Res (List D)) : TA := fun σ H Q => ∃ α ρ m, Wd K cl α m H /\ RepE K α H ρ σ /\ PQ K cl ex (f ρ m) α H fun d α' _ H' => ∀ v, RepL K α' H' d v -> Q v H'
theorem tD.use {f : En -> Sto -> Res D} {k : D -> Sto -> Res τ} {R : RD τ} {Q : VK} (W : Wd K cl α m H) (hr : RepE K α H ρ σ) (h : PQ K cl ex ((f ρ m).bind k) α H R)
  (hQ : ∀ α1 m1 H1 d v, Ext α H α1 H1 -> Wd K cl α1 m1 H1 -> RepE K α1 H1 ρ σ -> Rep K α1 H1 d v -> PQ K cl ex (k d m1) α1 H1 R -> Q v H1) : tD K cl ex f σ H Q :=
 ⟨α, ρ, m, W, hr, PQ.mono (Ext.refl W) h.bind fun d α1 m1 H1 E1 W1 q v rv => hQ α1 m1 H1 d v E1 W1 (hr.mono W E1) rv q⟩
theorem tDT.use {f : En -> Sto -> Res Bool} {k : Bool -> Sto -> Res τ} {R : RD τ} {Q : Bool -> Hp -> Prop} (W : Wd K cl α m H) (hr : RepE K α H ρ σ) (h : PQ K cl ex ((f ρ m).bind k) α H R)
  (hQ : ∀ α1 m1 H1 d, Ext α H α1 H1 -> Wd K cl α1 m1 H1 -> RepE K α1 H1 ρ σ -> PQ K cl ex (k d m1) α1 H1 R -> Q d H1) : tDT K cl ex f σ H Q :=
 ⟨α, ρ, m, W, hr, PQ.mono (Ext.refl W) h.bind fun d α1 m1 H1 E1 W1 q => hQ α1 m1 H1 d E1 W1 (hr.mono W E1) q⟩
theorem tDA.use {f : En -> Sto -> Res (List D)} {k : List D -> Sto -> Res τ} {R : RD τ} {Q : List V -> Hp -> Prop} (W : Wd K cl α m H) (hr : RepE K α H ρ σ) (h : PQ K cl ex ((f ρ m).bind k) α H R)
  (hQ : ∀ α1 m1 H1 d v, Ext α H α1 H1 -> Wd K cl α1 m1 H1 -> RepE K α1 H1 ρ σ -> RepL K α1 H1 d v -> PQ K cl ex (k d m1) α1 H1 R -> Q v H1) : tDA K cl ex f σ H Q :=
 ⟨α, ρ, m, W, hr, PQ.mono (Ext.refl W) h.bind fun d α1 m1 H1 E1 W1 q v rv => hQ α1 m1 H1 d v E1 W1 (hr.mono W E1) rv q⟩
end
section
variable (X : Cx) (cl : Str -> Addr) (ex : XD)
abbrev EV := En -> Sto -> Res D
abbrev TV := En -> Sto -> Res Bool
abbrev AV := En -> Sto -> Res (List D)
structure QE (e : Expr) (f : EV) : Prop where
 out : PE X e (tD X.K cl ex f)
structure QT (e : Expr) (f : TV) : Prop where
 out : PT X e (tDT X.K cl ex f)
structure QW (e : Expr) (f : TV) : Prop where
 out : PW X e (tDT X.K cl ex f)
structure QA (es : List Expr) (f : AV) : Prop where
 out : PA X es (tDA X.K cl ex f)
end
theorem PE.weak {X : Cx} {e : Expr} {t t' : TE} (h : PE X e t) (w : ∀ σ H Q, t' σ H Q -> t σ H Q) : PE X e t' := fun pins s σ H Q I q => h pins s σ H Q I (w σ H Q q)
theorem PT.weak {X : Cx} {e : Expr} {t t' : TT} (h : PT X e t) (w : ∀ σ H Q, t' σ H Q -> t σ H Q) : PT X e t' := fun pins s σ H Q I q => h pins s σ H Q I (w σ H Q q)
theorem PW.weak {X : Cx} {e : Expr} {t t' : TT} (h : PW X e t) (w : ∀ σ H Q, t' σ H Q -> t σ H Q) : PW X e t' := fun wh pins s σ H Q I q => h wh pins s σ H Q I (w σ H Q q)
theorem PA.weak {X : Cx} {e : List Expr} {t t' : TA} (h : PA X e t) (w : ∀ σ H Q, t' σ H Q -> t σ H Q) : PA X e t' := fun p pins s σ H Q I q => h p pins s σ H Q I (w σ H Q q)
theorem PS.weak {X : Cx} {e : Stmt} {t t' : TS} (h : PS X e t) (w : ∀ D σ H, t' D σ H -> t D σ H) : PS X e t' := fun pins s σ H D I q => h pins s σ H D I (w D σ H q)
theorem PSs.weak {X : Cx} {e : List Stmt} {t t' : TS} (h : PSs X e t) (w : ∀ D σ H, t' D σ H -> t D σ H) : PSs X e t' := fun pins s σ H D I q => h pins s σ H D I (w D σ H q)
def eVar (i : Nat) : EV := fun ρ m => match ρ[i]? with
 | some (some d) => .ok d m
 | _ => .bad
def eC (d : D) : EV := fun _ m => .ok d m
def eOp (g : D -> D -> Sto -> Res D) (fa fb : EV) : EV := fun ρ m => (fa ρ m).bind fun x m1 => (fb ρ m1).bind fun y m2 => g x y m2
def eUn (g : D -> Sto -> Res D) (fa : EV) : EV := fun ρ m => (fa ρ m).bind g
def eIf (c : TV) (fa fb : EV) : EV := fun ρ m => (c ρ m).bind fun b m1 => if b = true then fa ρ m1 else fb ρ m1
def aNil : AV := fun _ m => .ok [] m
def aCons (fa : EV) (fr : AV) : AV := fun ρ m => (fa ρ m).bind fun x m1 => (fr ρ m1).bind fun xs m2 => .ok (x :: xs) m2
def eFn (g : List D -> Sto -> Res D) (fa : AV) : EV := fun ρ m => (fa ρ m).bind g
def asB (d : D) (m : Sto) : Res Bool := match d with
 | .bl b => .ok b m
 | _ => .bad
def tV (fa : EV) : TV := fun ρ m => (fa ρ m).bind asB
def tAndM (a b : TV) : TV := fun ρ m => (a ρ m).bind fun c m1 => if c = true then b ρ m1 else .ok false m1
def tOrM (a b : TV) : TV := fun ρ m => (a ρ m).bind fun c m1 => if c = true then .ok true m1 else b ρ m1
def tNotM (a : TV) : TV := fun ρ m => (a ρ m).bind fun c m1 => .ok (!c) m1
def eAnd (a b : EV) : EV := fun ρ m => (a ρ m).bind fun c m1 => (asB c m1).bind fun c m1 => if c = true then b ρ m1 else .ok (.bl false) m1
def eOr (a b : EV) : EV := fun ρ m => (a ρ m).bind fun c m1 => (asB c m1).bind fun c m1 => if c = true then .ok (.bl true) m1 else b ρ m1
def eNot (a : EV) : EV := fun ρ m => (a ρ m).bind fun c m1 => (asB c m1).bind fun c m1 => .ok (.bl (!c)) m1
def OpD (K : PySem.W.Frag) (cl : Str -> Addr) (ex : XD) (r : R2) (g : D -> D -> Sto -> Res D) : Prop :=
 ∀ (α : List Addr) (m : Sto) (H : Hp) (x y : D) (vx vy : V) (Q : VK), Wd K cl α m H -> Rep K α H x vx -> Rep K α H y vy -> PQ K cl ex (g x y m) α H (fun d α' _ H' => ∀ v, Rep K α' H' d v -> Q v H') -> r vx vy H Q
def UnD (K : PySem.W.Frag) (cl : Str -> Addr) (ex : XD) (r : V -> Hp -> VK -> Prop) (g : D -> Sto -> Res D) : Prop :=
 ∀ (α : List Addr) (m : Sto) (H : Hp) (x : D) (vx : V) (Q : VK), Wd K cl α m H -> Rep K α H x vx -> PQ K cl ex (g x m) α H (fun d α' _ H' => ∀ v, Rep K α' H' d v -> Q v H') -> r vx H Q
def FnD (K : PySem.W.Frag) (cl : Str -> Addr) (ex : XD) (r : List V -> Hp -> VK -> Prop) (g : List D -> Sto -> Res D) : Prop :=
 ∀ (α : List Addr) (m : Sto) (H : Hp) (x : List D) (vx : List V) (Q : VK), Wd K cl α m H -> RepL K α H x vx -> PQ K cl ex (g x m) α H (fun d α' _ H' => ∀ v, Rep K α' H' d v -> Q v H') -> r vx H Q
section
variable {X : Cx} {cl : Str -> Addr} {ex : XD} {a b c e : Expr} {es rest : List Expr} {fa fb : EV} {ta tb : TV} {fr : AV} {pos : Pos}
theorem qe_var (i : Nat) {x : Str} (hN : autoParam (X.N[i]? = some x) AutoP.a3._auto_1) (hv : Vis X.env.scope x := by first | exact Or.inl rfl | exact Or.inr (Or.inl rfl) | exact Or.inr (Or.inr rfl)) (hd : autoParam ((x == ("__debug__" : Str)) = false) AutoP.a1._auto_1) (hcd : autoParam ((x == ("__classdict__" : Str)) = false) AutoP.a1._auto_1) : QE X cl ex (.Name x pos) (eVar i) :=
 ⟨PE.weak (pe_var hN hv hd hcd) fun σ H Q hh => ex3 hh fun α ρ m W hr h => by
  unfold eVar at h
  split at h
  ·rename_i d e
   obtain ⟨v, e1, r⟩ := hr.at' i d e
   exact ⟨v, e1, PQ.ok W h v r⟩
  ·exact h.elim⟩
theorem qe_c {d : D} {v : V} (h : PE X e (tC v)) (r : ∀ α H, Rep X.K α H d v) : QE X cl ex e (eC d) :=
 ⟨PE.weak h fun σ H Q hh => ex3 hh fun α ρ m W hr h => PQ.ok W h v (r α H)⟩
theorem qe_int {i : Int} {j} : QE X cl ex (.Constant (.int i) j pos) (eC (.int i)) := qe_c pe_int fun α H => by rw [Rep]
theorem qe_bl {i : Bool} {j} : QE X cl ex (.Constant (.bool i) j pos) (eC (.bl i)) := qe_c pe_bl fun α H => by rw [Rep]
theorem qe_non {j} : QE X cl ex (.Constant .none j pos) (eC .non) := qe_c pe_non fun α H => by rw [Rep]
theorem qe_str {i : Str} {j} : QE X cl ex (.Constant (.str i) j pos) (eC (.str i)) := qe_c pe_str fun α H => by rw [Rep]
theorem tOp_of {r : R2} {g : D -> D -> Sto -> Res D} (hd : OpD X.K cl ex r g) : ∀ σ H Q, tD X.K cl ex (eOp g fa fb) σ H Q -> tOp r (tD X.K cl ex fa) (tD X.K cl ex fb) σ H Q := fun σ H Q hh => ex3 hh fun α ρ m W hr h =>
 tD.use W hr h fun α1 m1 H1 d v E1 W1 hr1 rv h1 => tD.use W1 hr1 h1 fun α2 m2 H2 d2 v2 E2 W2 hr2 rv2 h2 => hd α2 m2 H2 d d2 v v2 Q W2 (rv.mono W1 E2) rv2 h2
theorem qe_op {op : Operator} {r : R2} {g : D -> D -> Sto -> Res D} (ho : OpR X (binaryOp op) r) (hd : OpD X.K cl ex r g) (ha : QE X cl ex a fa) (hb : QE X cl ex b fb) : QE X cl ex (.BinOp a op b pos) (eOp g fa fb) :=
 ⟨PE.weak (pe_op ho ha.out hb.out) (tOp_of hd)⟩
theorem qe_un {op : UnaryOp} {r : V -> Hp -> VK -> Prop} {g : D -> Sto -> Res D} (ho : UnR X (unaryOp op) r) (hd : UnD X.K cl ex r g) (ha : QE X cl ex a fa) : QE X cl ex (.UnaryOp op a pos) (eUn g fa) :=
 ⟨PE.weak (pe_un ho ha.out) fun σ H Q hh => ex3 hh fun α ρ m W hr h => tD.use W hr h fun α1 m1 H1 d v E1 W1 hr1 rv h1 => hd α1 m1 H1 d v Q W1 rv h1⟩
theorem qe_ix {r : R2} {g : D -> D -> Sto -> Res D} (ho : IxR X r) (hd : OpD X.K cl ex r g) (ha : QE X cl ex a fa) (hb : QE X cl ex b fb) (hs : PlainIx b) : QE X cl ex (.Subscript a b pos) (eOp g fa fb) :=
 ⟨PE.weak (pe_ix ho ha.out hb.out hs) (tOp_of hd)⟩
theorem qe_cmp {op : CmpOp} {r : R2} {g : D -> D -> Sto -> Res D} (ho : OpR X (compareOp op) r) (hd : OpD X.K cl ex r g) (ha : QE X cl ex a fa) (hb : QE X cl ex b fb) (hm : behindInMarks op b = false) : QE X cl ex (.Compare a [op] [b] pos) (eOp g fa fb) :=
 ⟨PE.weak (pe_cmpR ho ha.out hb.out hm) (tOp_of hd)⟩
theorem tTest_of {t : TE} (h : ∀ σ H Q, tD X.K cl ex fa σ H Q -> t σ H Q) : ∀ σ H Q, tDT X.K cl ex (tV fa) σ H Q -> tTest t σ H Q := fun σ H Q hh => ex3 hh fun α ρ m W hr q =>
 h σ H _ (tD.use W hr q fun α1 m1 H1 d v E1 W1 hr1 rv h1 => by
  cases d with
  | bl b => rw [Rep] at rv; exact ⟨b, rv, PQ.ok W1 h1⟩
  | _ => exact h1.elim)
theorem qt_cmp {op : CmpOp} {r : R2} {g : D -> D -> Sto -> Res D} (ho : OpR X (compareOp op) r) (hd : OpD X.K cl ex r g) (ha : QE X cl ex a fa) (hb : QE X cl ex b fb) (hm : behindInMarks op b = false) : QT X cl ex (.Compare a [op] [b] pos) (tV (eOp g fa fb)) :=
 ⟨PT.weak (pt_cmpR ho ha.out hb.out hm) (tTest_of (tOp_of hd))⟩
theorem qt_val (hq : QE X cl ex e fa) (he : autoParam (∀ whole, isTrue e X.env whole = (do let v <- whole; standAt e.pos; holding [v] (truthy v))) AutoP.a2._auto_1) : QT X cl ex e (tV fa) :=
 ⟨PT.weak (pt_val hq.out he) (tTest_of fun _ _ _ h => h)⟩
def eChain (g g' : D -> D -> Sto -> Res D) (fa fb fc : EV) : EV := fun ρ m => (fa ρ m).bind fun x m1 => (fb ρ m1).bind fun y m2 => (g x y m2).bind fun z m3 => (asB z m3).bind fun k m3 => if k = true then (fc ρ m3).bind fun w m4 => g' y w m4 else .ok (.bl false) m3
theorem qw_and1 (ha : QT X cl ex a ta) : QW X cl ex (.BoolOp .And [a] pos) ta := ⟨pw_and1 ha.out⟩
theorem qw_or1 (ha : QT X cl ex a ta) : QW X cl ex (.BoolOp .Or [a] pos) ta := ⟨pw_or1 ha.out⟩
theorem qw_and (ha : QT X cl ex a ta) (hb : QW X cl ex (.BoolOp .And (b :: rest) pos) tb) : QW X cl ex (.BoolOp .And (a :: b :: rest) pos) (tAndM ta tb) :=
 ⟨PW.weak (pw_and ha.out hb.out) fun σ H Q hh => ex3 hh fun α ρ m W hr h => tDT.use W hr h fun α1 m1 H1 d E1 W1 hr1 h1 => by
  cases d with
  | true => exact ⟨α1, ρ, m1, W1, hr1, h1⟩
  | false => exact PQ.ok W1 h1⟩
theorem qw_or (ha : QT X cl ex a ta) (hb : QW X cl ex (.BoolOp .Or (b :: rest) pos) tb) : QW X cl ex (.BoolOp .Or (a :: b :: rest) pos) (tOrM ta tb) :=
 ⟨PW.weak (pw_or ha.out hb.out) fun σ H Q hh => ex3 hh fun α ρ m W hr h => tDT.use W hr h fun α1 m1 H1 d E1 W1 hr1 h1 => by
  cases d with
  | false => exact ⟨α1, ρ, m1, W1, hr1, h1⟩
  | true => exact PQ.ok W1 h1⟩
theorem qt_bool (hq : QW X cl ex a ta) : QT X cl ex a ta := ⟨PW.pt hq.out⟩
theorem qt_not (ha : QT X cl ex a ta) : QT X cl ex (.UnaryOp .Not a pos) (tNotM ta) :=
 ⟨PT.weak (pt_not ha.out) fun σ H Q hh => ex3 hh fun α ρ m W hr h => tDT.use W hr h fun α1 m1 H1 d E1 W1 hr1 h1 => PQ.ok W1 h1⟩
theorem qe_one {op} (ha : QE X cl ex a fa) : QE X cl ex (.BoolOp op [a] pos) fa := ⟨pe_one ha.out⟩
theorem asB.use {d : D} {v : V} {τ : Type} {k : Bool -> Sto -> Res τ} {R : RD τ} {α : List Addr} {m : Sto} {H : Hp} (W : Wd X.K cl α m H) (rv : Rep X.K α H d v) (h : PQ X.K cl ex ((asB d m).bind k) α H R) : ∃ b, v = .bl b /\ PQ X.K cl ex (k b m) α H R := by
 cases d with
 | bl b => rw [Rep] at rv; exact ⟨b, rv, h⟩
 | _ => exact h.elim
theorem qe_and (ha : QE X cl ex a fa) (hb : QE X cl ex (.BoolOp .And (b :: rest) pos) fb) : QE X cl ex (.BoolOp .And (a :: b :: rest) pos) (eAnd fa fb) :=
 ⟨PE.weak (pe_and ha.out hb.out) fun σ H Q hh => ex3 hh fun α ρ m W hr h => tD.use W hr h fun α1 m1 H1 d v E1 W1 hr1 rv h1 => by
  obtain ⟨c, e, h2⟩ := asB.use W1 rv h1
  refine ⟨c, e, ?_⟩
  cases c with
  | true => exact ⟨α1, ρ, m1, W1, hr1, h2⟩
  | false => exact PQ.ok W1 h2 _ (by rw [Rep])⟩
theorem qe_not (ha : QE X cl ex a fa) : QE X cl ex (.UnaryOp .Not a pos) (eNot fa) :=
 ⟨PE.weak (pe_not ha.out) fun σ H Q hh => ex3 hh fun α ρ m W hr h => tD.use W hr h fun α1 m1 H1 d v E1 W1 hr1 rv h1 => by
  obtain ⟨c, e, h2⟩ := asB.use W1 rv h1
  exact ⟨c, e, PQ.ok W1 h2 _ (by rw [Rep])⟩⟩
theorem qe_if (hc : QT X cl ex c ta) (ha : QE X cl ex a fa) (hb : QE X cl ex b fb) : QE X cl ex (.IfExp c a b pos) (eIf ta fa fb) :=
 ⟨PE.weak (pe_ifExp hc.out ha.out hb.out) fun σ H Q hh => ex3 hh fun α ρ m W hr h => tDT.use W hr h fun α1 m1 H1 d E1 W1 hr1 h1 => by
  cases d with
  | true => exact ⟨α1, ρ, m1, W1, hr1, h1⟩
  | false => exact ⟨α1, ρ, m1, W1, hr1, h1⟩⟩
theorem qa_nil : QA X cl ex [] aNil := ⟨PA.weak pa_nil fun σ H Q hh => ex3 hh fun α ρ m W hr h => PQ.ok W h _ (by rw [RepL])⟩
theorem qa_cons (ha : QE X cl ex e fa) (hrq : QA X cl ex es fr) (hs : autoParam (starEach (e :: es) X.env = (false, eval e X.env) :: starEach es X.env) AutoP.a3._auto_1) : QA X cl ex (e :: es) (aCons fa fr) :=
 ⟨PA.weak (pa_cons ha.out hrq.out hs) fun σ H Q hh => ex3 hh fun α ρ m W hr h => tD.use W hr h fun α1 m1 H1 d v E1 W1 hr1 rv h1 => tDA.use W1 hr1 h1 fun α2 m2 H2 d2 v2 E2 W2 hr2 rv2 h2 => PQ.ok W2 h2 _ (by rw [RepL]; exact ⟨v, v2, rfl, rv.mono W1 E2, rv2⟩)⟩
theorem RepL.length {K : PySem.W.Frag} {α : List Addr} {H : Hp} : ∀ {ds : List D} {vs : List V}, RepL K α H ds vs -> ds.length = vs.length
 | [], _, h => by rw [RepL] at h; rw [h]; rfl
 | _ :: _, _, h => by
  rw [RepL] at h
  obtain ⟨v, r, rfl, _, h2⟩ := h
  rw [List.length_cons, List.length_cons, RepL.length h2]
def gTup : List D -> Sto -> Res D := fun ds m => if ds.length <= sizeLine then .ok (.tup ds) m else .bad
def gLst : List D -> Sto -> Res D := fun ds m => if ds.length <= sizeLine then .ok (.lst ds) m else .bad
def gNewL : List D -> Sto -> Res D := fun ds m => if ds.length <= sizeLine then .ok (.ob m.length) (m ++ [.lst ds]) else .bad
theorem PQ.if {K : PySem.W.Frag} {τ : Type} {c : Prop} [Decidable c] {r : Res τ} {α : List Addr} {H : Hp} {R : RD τ} (h : PQ K cl ex (if c then r else .bad) α H R) : c /\ PQ K cl ex r α H R := by
 by_cases hc : c
 ·rw [if_pos hc] at h; exact ⟨hc, h⟩
 ·rw [if_neg hc] at h; exact h.elim
theorem Same.new {H : Hp} {p : Addr} {o : HO} (hp : H p = none) : Same H (upd H p o) := fun b u e => by rw [upd_ne (ne_of_none e hp)]; exact e
theorem qe_tup {x1} (hq : QA X cl ex es fr) : QE X cl ex (.Tuple es x1 pos) (eFn gTup fr) :=
 ⟨PE.weak (pe_tup hq.out) fun σ H Q hh => ex3 hh fun α ρ m W hr h => tDA.use W hr h fun α1 m1 H1 d v E1 W1 hr1 rv h1 => by
  obtain ⟨hl, h2⟩ := h1.if
  refine ⟨by rw [<- rv.length]; exact hl, fun p hp => ?_⟩
  have s := Same.new (o := .tup v) hp
  exact PQ.okS W1 s h2 _ (by rw [Rep]; exact ⟨p, v, rfl, .inl upd_same, rv.mono W1 (Ext.of_same W1 s)⟩)⟩
theorem Wd.nin {K : PySem.W.Frag} {α : List Addr} {m : Sto} {H : Hp} (W : Wd K cl α m H) {p : Addr} (hp : H p = none) : p ∉ α := fun z => W.has z hp
theorem rep_lst {K : PySem.W.Frag} {α : List Addr} {m : Sto} {H : Hp} {p : Addr} {ds : List D} {vs : List V} (W : Wd K cl α m H) (hp : H p = none) (r : RepL K α H ds vs) : Rep K α (upd H p (.lst vs)) (.lst ds) (.ref p) := by
 rw [Rep]
 exact ⟨p, vs, rfl, W.nin hp, .inl upd_same, r.mono W (Ext.of_same W (Same.new hp))⟩
theorem qe_lst (hq : QA X cl ex es fr) : QE X cl ex (.List es pos) (eFn gLst fr) :=
 ⟨PE.weak (pe_lst hq.out) fun σ H Q hh => ex3 hh fun α ρ m W hr h => tDA.use W hr h fun α1 m1 H1 d v E1 W1 hr1 rv h1 => by
  obtain ⟨hl, h2⟩ := h1.if
  exact ⟨by rw [<- rv.length]; exact hl, fun p hp => PQ.okS W1 (Same.new hp) h2 _ (rep_lst W1 hp rv)⟩⟩
theorem new_lst {K : PySem.W.Frag} {α : List Addr} {m : Sto} {H : Hp} {p : Addr} {ds : List D} {vs : List V} {R : RD D} (W : Wd K cl α m H) (hp : H p = none) (r : RepL K α H ds vs) (h : PQ K cl ex (.ok (.ob m.length) (m ++ [.lst ds])) α H R) : ∃ α' m', R (.ob m.length) α' m' (upd H p (.lst vs)) /\ Rep K α' (upd H p (.lst vs)) (.ob m.length) (.ref p) := by
 have E0 : Ext α H (α ++ [p]) (upd H p (.lst vs)) := ⟨⟨[p], rfl, fun b hb => by rw [List.mem_singleton.mp hb]; exact hp⟩, fun a o h _ => Same.new hp a o h, (Ext.of_same W (Same.new hp)).there, fun a o u h => Same.new hp a _ h⟩
 obtain ⟨W2, E2⟩ := W.new (u := .lst vs) (o := .lst ds) hp ⟨vs, upd_same, r.mono W E0⟩
 refine ⟨_, _, h _ _ E2 W2, ?_⟩
 rw [Rep]
 refine ⟨p, ?_, rfl⟩
 rw [<- W.len, List.getElem?_append_right (Nat.le_refl _)]
 simp
theorem qe_newl (hq : QA X cl ex es fr) : QE X cl ex (.List es pos) (eFn gNewL fr) :=
 ⟨PE.weak (pe_lst hq.out) fun σ H Q hh => ex3 hh fun α ρ m W hr h => tDA.use W hr h fun α1 m1 H1 d v E1 W1 hr1 rv h1 => by
  obtain ⟨hl, h2⟩ := h1.if
  refine ⟨by rw [<- rv.length]; exact hl, fun p hp => ?_⟩
  obtain ⟨_, _, q, r⟩ := new_lst W1 hp rv h2
  exact q _ r⟩
theorem tCB_of {r : List V -> Hp -> VK -> Prop} {g : List D -> Sto -> Res D} (hd : FnD X.K cl ex r g) : ∀ σ H Q, tD X.K cl ex (eFn g fr) σ H Q -> tCB r (tDA X.K cl ex fr) σ H Q := fun σ H Q hh => ex3 hh fun α ρ m W hr h =>
 tDA.use W hr h fun α1 m1 H1 d v E1 W1 hr1 rv h1 => hd α1 m1 H1 d v Q W1 rv h1
theorem qe_callB {x : Str} {id : String} {p : Pos} {r : List V -> Hp -> VK -> Prop} {g : List D -> Sto -> Res D} (hc : CallR X (.builtin id) r) (hd : FnD X.K cl ex r g) (hg : Gl X x) (hm : X.mg x = none) (hv : bootBuiltins x = some (.builtin id)) (ha : QA X cl ex (e :: es) fr) (hn : autoParam (x ≠ "__name__") AutoP.a1._auto_1) (hdb : autoParam ((x == ("__debug__" : Str)) = false) AutoP.a1._auto_1)
  (he : autoParam (starEach (e :: es) X.env = (false, eval e X.env) :: starEach es X.env) AutoP.a3._auto_1) (hpl : autoParam ((backTo pos (starEach es X.env)).any (·.1) = false) AutoP.a3._auto_1) : QE X cl ex (.Call (.Name x p) (e :: es) [] pos) (eFn g fr) :=
 ⟨PE.weak (pe_callB hc hg hm hv ha.out hn hdb he hpl) (tCB_of hd)⟩
theorem qe_callTy {x : Str} {T : String} {p : Pos} {r : List V -> Hp -> VK -> Prop} {g : List D -> Sto -> Res D} (hc : CallR X (.type T) r) (hd : FnD X.K cl ex r g) (hg : Gl X x) (hm : X.mg x = none) (hv : bootBuiltins x = some (.type T)) (ha : QA X cl ex (e :: es) fr) (hn : autoParam (x ≠ "__name__") AutoP.a1._auto_1) (hdb : autoParam ((x == ("__debug__" : Str)) = false) AutoP.a1._auto_1)
  (he : autoParam (starEach (e :: es) X.env = (false, eval e X.env) :: starEach es X.env) AutoP.a3._auto_1) (hpl : autoParam ((backTo pos (starEach es X.env)).any (·.1) = false) AutoP.a3._auto_1) : QE X cl ex (.Call (.Name x p) (e :: es) [] pos) (eFn g fr) :=
 ⟨PE.weak (pe_callTy hc hg hm hv ha.out hn hdb he hpl) (tCB_of hd)⟩
end
inductive Fl where
 | nx (ρ : En) | rt (d : D) | bk (ρ : En) | ct (ρ : En)
abbrev SV := En -> Sto -> Res Fl
def EndsOk (K : PySem.W.Frag) (D : Ends) (fl : Fl) (α : List Addr) (H : Hp) : Prop := match fl with
 | .nx ρ => ∀ σ, RepE K α H ρ σ -> D.nx σ H
 | .rt d => ∀ v, Rep K α H d v -> D.rt v H
 | .bk ρ => ∀ σ, RepE K α H ρ σ -> D.bk σ H
 | .ct ρ => ∀ σ, RepE K α H ρ σ -> D.ct σ H
def tDS (K : PySem.W.Frag) (cl : Str -> Addr) (ex : XD) (f : SV) : TS := fun D σ H => ∃ α ρ m, Wd K cl α m H /\ RepE K α H ρ σ /\ PQ K cl ex (f ρ m) α H fun fl α' _ H' => EndsOk K D fl α' H'
abbrev GV := D -> En -> Sto -> Res En
def tDG (K : PySem.W.Frag) (cl : Str -> Addr) (ex : XD) (f : GV) : TG := fun v σ H Q => ∃ α ρ m d, Wd K cl α m H /\ RepE K α H ρ σ /\ Rep K α H d v /\ PQ K cl ex (f d ρ m) α H fun ρ' α' _ H' => ∀ σ', RepE K α' H' ρ' σ' -> Q σ' H'
def tDGs (K : PySem.W.Frag) (cl : Str -> Addr) (ex : XD) (f : List D -> En -> Sto -> Res En) : TGs := fun v σ H Q => ∃ α ρ m d, Wd K cl α m H /\ RepE K α H ρ σ /\ RepL K α H d v /\ PQ K cl ex (f d ρ m) α H fun ρ' α' _ H' => ∀ σ', RepE K α' H' ρ' σ' -> Q σ' H'
def ItD (K : PySem.W.Frag) (cl : Str -> Addr) (α : List Addr) (H : Hp) (J : It) (ds : List D) : Prop :=
 ∀ (i : Nat) (α1 : List Addr) (m1 : Sto) (H1 : Hp), Ext α H α1 H1 -> Wd K cl α1 m1 H1 -> (∀ d, ds[i]? = some d -> J.go i H1 /\ ∀ x H2, J.yld i H1 x H2 -> Same H1 H2 /\ Rep K α1 H2 d x) /\ (i = ds.length -> J.stop i H1)
def tDI (K : PySem.W.Frag) (cl : Str -> Addr) (ex : XD) (f : AV) : TI := fun σ H R => ∃ α ρ m, Wd K cl α m H /\ RepE K α H ρ σ /\ PQ K cl ex (f ρ m) α H fun ds α' _ H' => ∀ J, ItD K cl α' H' J ds -> R J H'
section
variable (X : Cx) (cl : Str -> Addr) (ex : XD)
structure QS (st : Stmt) (f : SV) : Prop where
 out : PS X st (tDS X.K cl ex f)
structure QSs (st : List Stmt) (f : SV) : Prop where
 out : PSs X st (tDS X.K cl ex f)
structure QG (tg : Expr) (f : GV) : Prop where
 out : PG X tg (tDG X.K cl ex f)
structure QGs (tg : List Expr) (f : List D -> En -> Sto -> Res En) : Prop where
 out : PGs X tg (tDGs X.K cl ex f)
structure QI (tg it : Expr) (f : AV) : Prop where
 out : PI X tg it (tDI X.K cl ex f)
end
theorem PG.weak {X : Cx} {e : Expr} {t t' : TG} (h : PG X e t) (w : ∀ v σ H Q, t' v σ H Q -> t v σ H Q) : PG X e t' := fun pins s σ H v u Q I r q => h pins s σ H v u Q I r (w v σ H Q q)
theorem PGs.weak {X : Cx} {e : List Expr} {t t' : TGs} (h : PGs X e t) (w : ∀ v σ H Q, t' v σ H Q -> t v σ H Q) : PGs X e t' := fun pins s σ H v u Q I r q => h pins s σ H v u Q I r (w v σ H Q q)
theorem PI.weak {X : Cx} {tg e : Expr} {t t' : TI} (h : PI X tg e t) (w : ∀ σ H Q, t' σ H Q -> t σ H Q) : PI X tg e t' := fun pins s σ H Q I q => h pins s σ H Q I (w σ H Q q)
def sSeq (f g : SV) : SV := fun ρ m => (f ρ m).bind fun fl m1 => match fl with
 | .nx ρ1 => g ρ1 m1
 | fl => .ok fl m1
def sNil : SV := fun ρ m => .ok (.nx ρ) m
def sRet (f : EV) : SV := fun ρ m => (f ρ m).bind fun d m1 => .ok (.rt d) m1
def sRetN : SV := fun _ m => .ok (.rt .non) m
def sDrop (f : EV) : SV := fun ρ m => (f ρ m).bind fun _ m1 => .ok (.nx ρ) m1
def sIf (c : TV) (f g : SV) : SV := fun ρ m => (c ρ m).bind fun b m1 => if b = true then f ρ m1 else g ρ m1
def sAsg (f : EV) (g : GV) : SV := fun ρ m => (f ρ m).bind fun d m1 => (g d ρ m1).bind fun ρ1 m2 => .ok (.nx ρ1) m2
def gN (i : Nat) : GV := fun d ρ m => .ok (ρ.set i (some d)) m
def gsNil : List D -> En -> Sto -> Res En := fun ds ρ m => match ds with
 | [] => .ok ρ m
 | _ :: _ => .bad
def gsCons (g : GV) (gs : List D -> En -> Sto -> Res En) : List D -> En -> Sto -> Res En := fun ds ρ m => match ds with
 | [] => .bad
 | d :: r => (g d ρ m).bind fun ρ1 m1 => gs r ρ1 m1
def gT (n : Nat) (gs : List D -> En -> Sto -> Res En) : GV := fun d ρ m => match d with
 | .tup ds => if ds.length = n then gs ds ρ m else .bad
 | _ => .bad
def sPar (i j : Nat) (fa : AV) : SV := fun ρ m => (fa ρ m).bind fun ds m1 => match ds with
 | [x, y] => .ok (.nx ((ρ.set i (some x)).set j (some y))) m1
 | _ => .bad
def sPar3 (i j k : Nat) (fa : AV) : SV := fun ρ m => (fa ρ m).bind fun ds m1 => match ds with
 | [x, y, z] => .ok (.nx (((ρ.set i (some x)).set j (some y)).set k (some z))) m1
 | _ => .bad
def loopF (g : GV) (body : SV) : List D -> En -> Sto -> Res Fl
 | [], ρ, m => .ok (.nx ρ) m
 | d :: r, ρ, m => (g d ρ m).bind fun ρ1 m1 => (body ρ1 m1).bind fun fl m2 => match fl with
  | .nx ρ2 => loopF g body r ρ2 m2
  | .ct ρ2 => loopF g body r ρ2 m2
  | .bk ρ2 => .ok (.nx ρ2) m2
  | .rt d => .ok (.rt d) m2
def sFor (it : AV) (g : GV) (body : SV) : SV := fun ρ m => (it ρ m).bind fun ds m1 => loopF g body ds ρ m1
def loopW (c : TV) (body : SV) : Nat -> En -> Sto -> Res Fl
 | 0, _, _ => .bad
 | n + 1, ρ, m => (c ρ m).bind fun b m1 => if b = true then (body ρ m1).bind fun fl m2 => match fl with
  | .nx ρ2 => loopW c body n ρ2 m2
  | .ct ρ2 => loopW c body n ρ2 m2
  | .bk ρ2 => .ok (.nx ρ2) m2
  | .rt d => .ok (.rt d) m2 else .ok (.nx ρ) m1
def sWhile (n : Nat) (c : TV) (body : SV) : SV := fun ρ m => loopW c body n ρ m
def compM (g : GV) (c : TV) (el : EV) (ρ : En) : List D -> Sto -> Res (List D)
 | [], m => .ok [] m
 | d :: r, m => (g d ρ m).bind fun ρ1 m1 => (c ρ1 m1).bind fun b m2 => if b = true then (el ρ1 m2).bind fun x m3 => (compM g c el ρ r m3).bind fun xs m4 => .ok (x :: xs) m4 else compM g c el ρ r m2
def aComp (n : Nat) (it : AV) (g : GV) (c : TV) (el : EV) : AV := fun ρ m => (it ρ m).bind fun ds m1 => if ds.length <= 1000000 then compM g c el (ρ ++ List.replicate n none) ds m1 else .bad
def tYesM : TV := fun _ m => .ok true m
section
variable {X : Cx} {cl : Str -> Addr} {ex : XD} {a b c e tg it : Expr} {es : List Expr} {fa fb : EV} {ta tb : TV} {fr : AV} {pos : Pos} {st : Stmt} {sts sts' : List Stmt} {f g : SV} {gt : GV}
theorem qss_nil : QSs X cl ex [] sNil := ⟨PSs.weak pss_nil fun D σ H hh => ex3 hh fun α ρ m W hr h => PQ.ok W h σ hr⟩
theorem qss_one (hq : QS X cl ex st f) : QSs X cl ex [st] f := ⟨pss_one hq.out⟩
theorem qss_cons (h1 : QS X cl ex st f) (h2 : QSs X cl ex sts g) : QSs X cl ex (st :: sts) (sSeq f g) :=
 ⟨PSs.weak (pss_cons h1.out h2.out) fun D σ H hh => ex3 hh fun α ρ m W hr h => ⟨α, ρ, m, W, hr, PQ.mono (Ext.refl W) h.bind fun fl α1 m1 H1 E1 W1 q => by
  cases fl with
  | nx ρ1 => exact fun σ1 hr1 => ⟨α1, ρ1, m1, W1, hr1, q⟩
  | rt d => exact PQ.ok W1 q
  | bk ρ1 => exact PQ.ok W1 q
  | ct ρ1 => exact PQ.ok W1 q⟩⟩
theorem qs_ret (he : QE X cl ex e fa) : QS X cl ex (.Return (some e) pos) (sRet fa) :=
 ⟨PS.weak (ps_ret he.out) fun D σ H hh => ex3 hh fun α ρ m W hr h => tD.use W hr h fun α1 m1 H1 d v E1 W1 hr1 rv h1 => PQ.ok W1 h1 v rv⟩
theorem qs_drop (he : QE X cl ex e fa) (hs : autoParam (swapsWith e none pos.line X.env = pure false) AutoP.a3._auto_1) : QS X cl ex (.Expr e pos) (sDrop fa) :=
 ⟨PS.weak (ps_expr he.out hs) fun D σ H hh => ex3 hh fun α ρ m W hr h => tD.use W hr h fun α1 m1 H1 d v E1 W1 hr1 rv h1 => PQ.ok W1 h1 _ hr1⟩
theorem qs_if (hc : QT X cl ex c ta) (ha : QSs X cl ex sts f) (hb : QSs X cl ex sts' g) : QS X cl ex (.If c sts sts' pos) (sIf ta f g) :=
 ⟨PS.weak (ps_if hc.out ha.out hb.out) fun D σ H hh => ex3 hh fun α ρ m W hr h => tDT.use W hr h fun α1 m1 H1 d E1 W1 hr1 h1 => by
  cases d with
  | true => exact ⟨α1, ρ, m1, W1, hr1, h1⟩
  | false => exact ⟨α1, ρ, m1, W1, hr1, h1⟩⟩
theorem qg_name {i : Nat} {x : Str} (hN : X.N.Nodup) (hi : X.N[i]? = some x) (hx : Loc X.env.scope x) (hf : autoParam (X.fn x = true ∨ X.env.scope.names.lookup x = some .local) AutoP.a0._auto_1) : QG X cl ex (.Name x pos) (gN i) :=
 ⟨PG.weak (pg_name hN hi hx hf) fun v σ H Q ⟨α, ρ, m, d, W, hr, rv, h⟩ => PQ.ok W h _ (hr.set rv)⟩
theorem qgs_nil : QGs X cl ex [] gsNil := ⟨PGs.weak pgs_nil fun v σ H Q ⟨α, ρ, m, d, W, hr, rv, h⟩ => by
 cases d with
 | nil => rw [RepL] at rv; exact ⟨rv, PQ.ok W h _ hr⟩
 | cons d r => exact h.elim⟩
theorem qgs_cons {gs : List D -> En -> Sto -> Res En} (h1 : QG X cl ex e gt) (h2 : QGs X cl ex es gs) (hs : autoParam ((assignEach (e :: es) X.env).map (·.2) = assign e X.env :: (assignEach es X.env).map (·.2)) AutoP.a3._auto_1) : QGs X cl ex (e :: es) (gsCons gt gs) :=
 ⟨PGs.weak (pgs_cons h1.out h2.out hs) fun v σ H Q ⟨α, ρ, m, d, W, hr, rv, h⟩ => by
  cases d with
  | nil => exact h.elim
  | cons d r =>
   rw [RepL] at rv
   obtain ⟨v0, vr, rfl, r0, rr⟩ := rv
   refine ⟨v0, vr, rfl, α, ρ, m, d, W, hr, r0, PQ.mono (Ext.refl W) (show PQ X.K cl ex ((gt d ρ m).bind fun ρ1 m1 => gs r ρ1 m1) α H _ from h).bind fun ρ1 α1 m1 H1 E1 W1 q σ1 hr1 => ?_⟩
   exact ⟨α1, ρ1, m1, r, W1, hr1, rr.mono W E1, q⟩⟩
theorem qg_tup {k n : Nat} {gs : List D -> En -> Sto -> Res En} (hc : X.calm = true) (hq : QGs X cl ex es gs) (hn : autoParam ((assignEach es X.env).length = n) AutoP.a3._auto_1) (hst : autoParam ((assignEach es X.env).findIdx? (·.1) = none) AutoP.a3._auto_1) : QG X cl ex (.Tuple es k pos) (gT n gs) :=
 ⟨PG.weak (pg_tup hc hq.out hn hst) fun v σ H Q ⟨α, ρ, m, d, W, hr, rv, h⟩ => by
  cases d with
  | tup ds =>
   rw [Rep] at rv
   obtain ⟨a, xs, e, h1, h2⟩ := rv
   obtain ⟨hl, h3⟩ := PQ.if h
   exact ⟨a, xs, e, h1.sq, by rw [<- h2.length]; exact hl, α, ρ, m, ds, W, hr, h2, h3⟩
  | _ => exact h.elim⟩
theorem tAsg_of {t : TE} {u : TG} (h1 : ∀ σ H Q, tD X.K cl ex fa σ H Q -> t σ H Q) (h2 : ∀ v σ H Q, tDG X.K cl ex gt v σ H Q -> u v σ H Q) : ∀ D σ H, tDS X.K cl ex (sAsg fa gt) D σ H -> tAsg t u D σ H := fun D σ H hh => ex3 hh fun α ρ m W hr h =>
 h1 σ H _ (tD.use W hr h fun α1 m1 H1 d v E1 W1 hr1 rv q => h2 v σ H1 _ ⟨α1, ρ, m1, d, W1, hr1, rv, PQ.mono (Ext.refl W1) q.bind fun ρ2 α2 m2 H2 E2 W2 q2 => PQ.ok W2 q2⟩)
theorem qs_set {i : Nat} {x : Str} {pos' : Pos} (hN : X.N.Nodup) (hi : X.N[i]? = some x) (hx : Loc X.env.scope x) (he : QE X cl ex e fa) (hs : autoParam (swapsWith e (some (.Name x pos')) pos.line X.env = pure false) AutoP.a3._auto_1) (hf : autoParam (X.fn x = true ∨ X.env.scope.names.lookup x = some .local) AutoP.a0._auto_1) :
  QS X cl ex (.Assign [.Name x pos'] e pos) (sAsg fa (gN i)) :=
 ⟨PS.weak (ps_set hN hi hx he.out hs hf) (tAsg_of (fun _ _ _ h => h) fun v σ H Q ⟨α, ρ, m, d, W, hr, rv, h⟩ => PQ.ok W h _ (hr.set rv))⟩
theorem qs_asg (he : QE X cl ex e fa) (hg : QG X cl ex tg gt) (hs : autoParam (swapsWithSole [tg] e pos.line X.env = pure false) AutoP.a3._auto_1) (hw : autoParam (swappedStores [tg] e X.env = pure none) AutoP.a3._auto_1)
  (h1 : autoParam ((assignEach [tg] X.env).map (·.2) = [assign tg X.env]) AutoP.a3._auto_1) : QS X cl ex (.Assign [tg] e pos) (sAsg fa gt) :=
 ⟨PS.weak (ps_asg he.out hg.out hs hw h1) (tAsg_of (fun _ _ _ h => h) fun _ _ _ _ h => h)⟩
theorem qs_par {i j : Nat} {x y : Str} {px py pt : Pos} {kt k2 pt2} (hc : X.calm = true) (hN : X.N.Nodup) (hi : X.N[i]? = some x) (hj : X.N[j]? = some y) (hij : i ≠ j)
  (hx : X.env.scope.names.lookup x = some .local) (hy : X.env.scope.names.lookup y = some .local) (ha : QA X cl ex [a, b] fr)
  (hw : swappedStores [.Tuple [.Name x px, .Name y py] kt pt] (.Tuple [a, b] k2 pt2) X.env = pure (some [x, y]))
  (hs : autoParam (swapsWithSole [.Tuple [.Name x px, .Name y py] kt pt] (.Tuple [a, b] k2 pt2) pos.line X.env = pure false) AutoP.a3._auto_1) :
  QS X cl ex (.Assign [.Tuple [.Name x px, .Name y py] kt pt] (.Tuple [a, b] k2 pt2) pos) (sPar i j fr) :=
 ⟨PS.weak (ps_par hc hN hi hj hij hx hy ha.out hw hs) fun D σ H hh => ex3 hh fun α ρ m W hr h => tDA.use W hr h fun α1 m1 H1 d v E1 W1 hr1 rv h1 => by
  match d, rv, h1 with
  | [p, q], rv, h1 =>
   rw [RepL] at rv
   obtain ⟨v1, r1, rfl, a1, rv⟩ := rv
   rw [RepL] at rv
   obtain ⟨v2, r2, rfl, a2, rv⟩ := rv
   rw [RepL] at rv
   subst rv
   exact ⟨v1, v2, rfl, PQ.ok W1 h1 _ ((hr1.set a1).set a2)⟩
  | [], _, h1 => exact h1.elim
  | [_], _, h1 => exact h1.elim
  | _ :: _ :: _ :: _, _, h1 => exact h1.elim⟩
theorem qs_par3 {i j k : Nat} {x y z : Str} {px py pz pt : Pos} {kt k2 pt2} (hc : X.calm = true) (hN : X.N.Nodup) (hi : X.N[i]? = some x) (hj : X.N[j]? = some y) (hk : X.N[k]? = some z) (hij : i ≠ j) (hik : i ≠ k) (hjk : j ≠ k)
  (hx : X.env.scope.names.lookup x = some .local) (hy : X.env.scope.names.lookup y = some .local) (hz : X.env.scope.names.lookup z = some .local) (ha : QA X cl ex [a, b, c] fr)
  (hw : swappedStores [.Tuple [.Name x px, .Name y py, .Name z pz] kt pt] (.Tuple [a, b, c] k2 pt2) X.env = pure (some [x, y, z]))
  (hs : autoParam (swapsWithSole [.Tuple [.Name x px, .Name y py, .Name z pz] kt pt] (.Tuple [a, b, c] k2 pt2) pos.line X.env = pure false) AutoP.a3._auto_1) :
  QS X cl ex (.Assign [.Tuple [.Name x px, .Name y py, .Name z pz] kt pt] (.Tuple [a, b, c] k2 pt2) pos) (sPar3 i j k fr) :=
 ⟨PS.weak (ps_par3 hc hN hi hj hk hij hik hjk hx hy hz ha.out hw hs) fun D σ H hh => ex3 hh fun α ρ m W hr h => tDA.use W hr h fun α1 m1 H1 d v E1 W1 hr1 rv h1 => by
  match d, rv, h1 with
  | [p, q, o], rv, h1 =>
   rw [RepL] at rv
   obtain ⟨v1, r1, rfl, a1, rv⟩ := rv
   rw [RepL] at rv
   obtain ⟨v2, r2, rfl, a2, rv⟩ := rv
   rw [RepL] at rv
   obtain ⟨v3, r3, rfl, a3, rv⟩ := rv
   rw [RepL] at rv
   subst rv
   exact ⟨v1, v2, v3, rfl, PQ.ok W1 h1 _ (((hr1.set a1).set a2).set a3)⟩
  | [], _, h1 => exact h1.elim
  | [_], _, h1 => exact h1.elim
  | [_, _], _, h1 => exact h1.elim
  | _ :: _ :: _ :: _ :: _, _, h1 => exact h1.elim⟩
theorem qs_for (hp : PassesOwn (model X.prog X.w) X.A X.env X.xe) (hc : X.calm = true) (hi : QI X cl ex tg it fr) (hg : QG X cl ex tg gt) (hb : QSs X cl ex sts f)
  (hs : autoParam (∀ x, foldedSetIterable it X.env x = pure x) AutoP.a2._auto_1) : QS X cl ex (.For tg it sts [] pos) (sFor fr gt f) :=
 ⟨PS.weak (ps_for hp hc hi.out hg.out hb.out hs) fun D σ H hh => ex3 hh fun α ρ m W hr h => ⟨α, ρ, m, W, hr, PQ.mono (Ext.refl W) h.bind fun ds α1 m1 H1 E1 W1 q J hJ => by
  refine ⟨fun i n σ2 H2 => n = ds.length - i /\ i <= ds.length /\ ∃ α2 m2 ρ2, Ext α1 H1 α2 H2 /\ Wd X.K cl α2 m2 H2 /\ RepE X.K α2 H2 ρ2 σ2 /\ PQ X.K cl ex (loopF gt f (ds.drop i) ρ2 m2) α2 H2 fun fl α' _ H' => EndsOk X.K D fl α' H',
   ⟨ds.length, by simp, Nat.zero_le _, α1, m1, ρ, Ext.refl W1, W1, hr.mono W E1, q⟩, ?_⟩
  rintro i n σ2 H2 ⟨rfl, hi, α2, m2, ρ2, E2, W2, hr2, q2⟩
  obtain ⟨go, stop⟩ := hJ i α2 m2 H2 E2 W2
  by_cases hlt : i < ds.length
  ·have hd : ds[i]? = some ds[i] := by simp [hlt]
   obtain ⟨g1, g2⟩ := go _ hd
   rw [List.drop_eq_getElem_cons hlt, loopF] at q2
   refine .inr ⟨g1, fun σ3 H3 => ∃ α3 m3 ρ3, Ext α1 H1 α3 H3 /\ Wd X.K cl α3 m3 H3 /\ RepE X.K α3 H3 ρ3 σ3 /\ PQ X.K cl ex (loopF gt f (ds.drop (i + 1)) ρ3 m3) α3 H3 fun fl α' _ H' => EndsOk X.K D fl α' H',
    fun σ3 H3 ⟨α3, m3, ρ3, E3, W3, hr3, q3⟩ => ⟨ds.length - (i + 1), by omega, rfl, hlt, α3, m3, ρ3, E3, W3, hr3, q3⟩, fun x H3 y => ?_⟩
   obtain ⟨sm, rx⟩ := g2 x H3 y
   have Es := Ext.of_same W2 sm
   have W3 := W2.same sm
   refine ⟨α2, ρ2, m2, ds[i], W3, hr2.mono W2 Es, rx, PQ.mono Es q2.bind fun ρ4 α4 m4 H4 E4 W4 q4 σ4 hr4 => ?_⟩
   have E04 := E2.trans (Es.trans E4)
   refine ⟨α4, ρ4, m4, W4, hr4, PQ.mono (Ext.refl W4) q4.bind fun fl α5 m5 H5 E5 W5 q5 => ?_⟩
   cases fl with
   | nx ρ5 => exact fun σ5 hr5 => ⟨α5, m5, ρ5, E04.trans E5, W5, hr5, q5⟩
   | ct ρ5 => exact fun σ5 hr5 => ⟨α5, m5, ρ5, E04.trans E5, W5, hr5, q5⟩
   | bk ρ5 => exact PQ.ok W5 q5
   | rt d => exact PQ.ok W5 q5
  ·have e : i = ds.length := by omega
   subst e
   rw [List.drop_of_length_le (Nat.le_refl _), loopF] at q2
   exact .inl ⟨stop rfl, PQ.ok W2 q2 σ2 hr2⟩⟩⟩
theorem qs_while {n : Nat} (hp : PassesOwn (model X.prog X.w) X.A X.env X.xe) (hc : QT X cl ex c ta) (hb : QSs X cl ex sts f) : QS X cl ex (.While c sts [] pos) (sWhile n ta f) :=
 ⟨PS.weak (ps_while hp hc.out hb.out) fun D σ H hh => ex3 hh fun α ρ m W hr h => by
  refine ⟨fun k σ2 H2 => ∃ α2 m2 ρ2, Wd X.K cl α2 m2 H2 /\ RepE X.K α2 H2 ρ2 σ2 /\ PQ X.K cl ex (loopW ta f k ρ2 m2) α2 H2 fun fl α' _ H' => EndsOk X.K D fl α' H', ⟨n, α, m, ρ, W, hr, h⟩, ?_⟩
  rintro k σ2 H2 ⟨α2, m2, ρ2, W2, hr2, q2⟩
  cases k with
  | zero => exact q2.elim
  | succ k =>
   rw [loopW] at q2
   refine tDT.use W2 hr2 q2 fun α3 m3 H3 b E3 W3 hr3 q3 => ?_
   cases b with
   | false => exact PQ.ok W3 q3 σ2 hr3
   | true =>
    refine ⟨fun σ4 H4 => ∃ α4 m4 ρ4, Wd X.K cl α4 m4 H4 /\ RepE X.K α4 H4 ρ4 σ4 /\ PQ X.K cl ex (loopW ta f k ρ4 m4) α4 H4 fun fl α' _ H' => EndsOk X.K D fl α' H', fun σ4 H4 q4 => ⟨k, Nat.lt_succ_self _, q4⟩, ?_⟩
    refine ⟨α3, ρ2, m3, W3, hr3, PQ.mono (Ext.refl W3) q3.bind fun fl α5 m5 H5 E5 W5 q5 => ?_⟩
    cases fl with
    | nx ρ5 => exact fun σ5 hr5 => ⟨α5, m5, ρ5, W5, hr5, q5⟩
    | ct ρ5 => exact fun σ5 hr5 => ⟨α5, m5, ρ5, W5, hr5, q5⟩
    | bk ρ5 => exact PQ.ok W5 q5
    | rt d => exact PQ.ok W5 q5⟩
end
end MD
namespace L2
open PySem PySem.Spec PyProof.Rows
abbrev CQ := PySem.W.Frag -> Hp -> Addr -> List V -> Prop
structure SeqKd (c : CQ) (IsS : Heap -> Addr -> Array Value -> Prop) (IsI : Heap -> Addr -> Addr -> Nat -> Prop) : Prop where
 obj : ∀ h it l i, IsI h it l i -> ∃ o, h.get? it = some o /\ ∀ v, o.data ≠ .cell v
 kp : ∀ (h h' : Heap) it l i, IsI h it l i -> (∀ o, h.get? it = some o -> h'.get? it = some o) -> IsI h' it l i
 seq : ∀ (X : Cx) (pins : List (Addr × Obj)) (σ : St) (H : Hp) (s : Shared) (l : Addr) (xs : List V), Inv X pins σ H s -> c X.K H l xs -> ∃ its : List Value, Vals xs its /\ IsS s.heap l its.toArray
 dr : ∀ (P : Program) (w : World) (A : Around), A.handled = none -> ∀ (it l : Addr), l ≠ it -> ∀ items : Array Value, Draws P w A it [it, l] items.size (fun i v => items[i]? = some v) (fun i h => IsI h it l i /\ IsS h l items)
 ne : ∀ (X : Cx) (pins : List (Addr × Obj)) (σ : St) (H : Hp) (s : Shared) (l : Addr) (xs : List V) (b : Addr), Inv X pins σ H s -> c X.K H l xs -> FpOk X pins H b -> l ≠ b
 inj : ∀ (X : Cx) (pins : List (Addr × Obj)) (σ : St) (H : Hp) (s : Shared) (l : Addr) (xs ys : List V), Inv X pins σ H s -> c X.K H l xs -> c X.K H l ys -> xs = ys
theorem base_ne {X : Cx} {pins : List (Addr × Obj)} {σ : St} {H : Hp} {s : Shared} {l b : Addr} {o : Obj} (I : Inv X pins σ H s) (e : X.K.lookup l = some o) (f : FpOk X pins H b) : l ≠ b := fun z => by
 subst z
 have hb : X.base.get? l = some o := I.mod.kin l o e
 rcases f.2.2.2.1 with h | h
 ·exact I.ok.noex l o hb h
 ·have h1 := Heap.lt_size hb
  have h2 := I.ok.bsz
  exact absurd (Nat.lt_of_lt_of_le h1 (Nat.le_trans h2 h)) (Nat.lt_irrefl _)
theorem rd_ne {H : Hp} {l b : Addr} {u : HO} (h : Rd H l u) (n : H b = none) : l ≠ b := by
 rcases h with h | ⟨o, h⟩
 ·exact ne_of_none h n
 ·exact ne_of_none h n
theorem sq_lst : SeqKd SqL Heap.IsList Heap.IsListIter where
 obj := seq_lst.obj
 kp := seq_lst.kp
 seq := fun X pins σ H s l xs I e => by
  obtain ⟨its, r, p, _⟩ := I.list e
  exact ⟨its, r, p.isList⟩
 dr := seq_lst.dr
 ne := fun X pins σ H s l xs b I e f => by
  rcases e with e | ⟨o, _, _, e, _⟩
  ·exact rd_ne e f.1
  ·exact base_ne I e f
 inj := fun X pins σ H s l xs ys I => I.list_inj
theorem sq_tup : SeqKd SqT Heap.IsTuple Heap.IsTupleIter where
 obj := seq_tup.obj
 kp := seq_tup.kp
 seq := fun X pins σ H s l xs I e => by
  obtain ⟨its, r, p, _⟩ := I.tuple e
  exact ⟨its, r, p⟩
 dr := seq_tup.dr
 ne := fun X pins σ H s l xs b I e f => by
  rcases e with e | ⟨o, _, _, e, _⟩
  ·exact rd_ne e f.1
  ·exact base_ne I e f
 inj := fun X pins σ H s l xs ys I => I.tuple_inj
def IteQ (c : CQ) (K : PySem.W.Frag) (l : Addr) : It :=
 ⟨fun i H => ∃ xs x, c K H l xs /\ xs[i]? = some x, fun i H x H' => ∃ T y, H T = none /\ x = .ref T /\ (∀ xs, c K H l xs -> xs[i]? = some y) /\ H' = upd H T (.tup [.int (i : Int), y]), fun i H => ∃ xs, c K H l xs /\ xs.length = i⟩
theorem turn_enumQ {c : CQ} {IsS : Heap -> Addr -> Array Value -> Prop} {IsI : Heap -> Addr -> Addr -> Nat -> Prop} (S : SeqKd c IsS IsI) {P : Program} {w : World} {K : PySem.W.Frag} {elts : List Expr} {kt : Nat} {pt : Pos} {e it l : Addr} (hei : e ≠ it) :
  Turn P w K (.Tuple elts kt pt) (IteQ c K l) [e, it] e (fun i h => (∃ old, IsEnum h e it i old) /\ IsI h it l i) where
 mem := by simp
 obj := fun i h st b hb => by
  obtain ⟨⟨old, he⟩, st⟩ := st
  have q : b = e ∨ b = it := by simpa using hb
  rcases q with rfl | rfl
  ·exact ⟨_, he, fun v z => by cases z⟩
  ·exact S.obj _ _ _ _ st
 keep := fun i h h' st k => ⟨let ⟨old, he⟩ := st.1; ⟨old, k e (by simp) _ he⟩, S.kp _ _ _ _ _ st.2 fun o q => k it (by simp) o q⟩
 item := by
  intro X hP' hw hK hc i pins s σ H E I hf st hg
  subst hP' hw hK
  obtain ⟨xs, y, hl, hy⟩ := hg
  obtain ⟨its, rv, p⟩ := S.seq X pins σ H s l xs I hl
  obtain ⟨u, hu, ru⟩ := rv.get hy
  have fe := hf e (by simp)
  have fi := hf it (by simp)
  have hle : l ≠ e := S.ne X pins σ H s l xs e I hl fe
  have hli : l ≠ it := S.ne X pins σ H s l xs it I hl fi
  have hlt : i < its.toArray.size := by
   have := List.getElem?_eq_some_iff.mp hu
   simpa using this.1
  obtain ⟨⟨old, he⟩, hs⟩ := st
  have het : e < s.heap.objs.size := Heap.lt_size he
  have hit : it < s.heap.objs.size := by obtain ⟨o, q, _⟩ := S.obj _ _ _ _ hs; exact Heap.lt_size q
  refine wpAny_pyNext_enum_itemD (S.dr X.prog X.w X.A.in1 (I.ok.hd hc) it l hli its.toArray) he ⟨hs, p⟩ hlt hei (by simp [hei, Ne.symm hle]) fun x h' tk hx ho' hs' hT hsz hk => ?_
  refine ⟨.ref s.heap.objs.size, rfl, wpAny_letOwnedTupleGo_enum (s := { s with heap := h', toks := tk + 1 }) ho' fun h2 he2 hs2 => ?_⟩
  have hxu : x = u := by
   have h1 : its[i]? = some x := by simpa using hx
   rw [hu] at h1
   exact (Option.some.inj h1).symm
  subst hxu
  have hT2 : h2.get? s.heap.objs.size = some { cls := .type "tuple", data := .seq #[.int i tk, x] } := (hs2.2 _ (Nat.ne_of_gt het)).trans hT
  have new : ObjOk X.prog X.w (upd H s.heap.objs.size (.tup [.int (i : Int), y])) h2 s.heap.objs.size (.tup [.int (i : Int), y]) := ⟨(by show 2 <= sizeLine; decide), [.int i tk, x], .cons ⟨tk, rfl⟩ (.cons ru .nil), ⟨_, hT2, rfl, _, rfl⟩, _, hT2, rfl⟩
  refine ⟨.ref s.heap.objs.size, _, I.turn2l fe fi (fun c o c1 c2 q => (hs2.2 c c1).trans (hk c o c1 c2 q)) (Nat.le_refl _) new, rfl, ⟨s.heap.objs.size, y, I.hok.fresh (Nat.le_refl _), rfl, fun us h => by rw [S.inj X pins σ H s l us xs I h hl]; exact hy, rfl⟩, ⟨⟨x, by simpa using he2⟩, S.kp _ _ _ _ _ hs'.1 fun o q => (hs2.2 it (Ne.symm hei)).trans q⟩, fun b hb => ?_⟩
  have q : b = e ∨ b = it := by simpa using hb
  rcases q with rfl | rfl
  ·rw [upd_ne (Nat.ne_of_lt het)]; exact fe.1
  ·rw [upd_ne (Nat.ne_of_lt hit)]; exact fi.1
 done := by
  intro X hP' hw hK hc i pins s σ H E I hf st hg
  subst hP' hw hK
  obtain ⟨xs, hl, hn⟩ := hg
  obtain ⟨its, rv, p⟩ := S.seq X pins σ H s l xs I hl
  have fe := hf e (by simp)
  have fi := hf it (by simp)
  have hle : l ≠ e := S.ne X pins σ H s l xs e I hl fe
  have hli : l ≠ it := S.ne X pins σ H s l xs it I hl fi
  have hi : i = its.toArray.size := by rw [<- hn, rv.length]; simp
  subst hi
  have W := WalksT.enumerateD (S.dr X.prog X.w X.A.in1 (I.ok.hd hc) it l hli its.toArray) e hei (by simp [hei, Ne.symm hle]) (by simp)
  exact W.done s _ _ ⟨st.1, st.2, p⟩ fun h' tk kk => ⟨rfl, I.turn2 fe fi fun c o c1 c2 q => kk c o (by simp [c1, c2]) q⟩
 self := fun A i s Q E st q => by
  obtain ⟨⟨old, he⟩, _⟩ := st
  exact wpAny_pyIter_enum he q
def iEnumQ (c : CQ) (K : PySem.W.Frag) (te : TE) : TI := fun σ H R => te σ H fun x H1 => ∃ l xs, [x] = [V.ref l] /\ c K H1 l xs /\ R (IteQ c K l) H1
section
variable {X : Cx} {elts : List Expr} {kt : Nat} {pt : Pos} {e : Expr} {te : TE} {p pos : Pos}
theorem enum_pieQ {c : CQ} {IsS : Heap -> Addr -> Array Value -> Prop} {IsI : Heap -> Addr -> Addr -> Nat -> Prop} (S : SeqKd c IsS IsI) {pins : List (Addr × Obj)} {σ : St} {H : Hp} {s : Shared} {R : It -> Hp -> Prop} {l : Addr} {h' : Heap} (I : Inv X pins σ H s)
  (he : IsEnum h' (s.heap.objs.size + 1) s.heap.objs.size 0 .none) (hi : IsI h' s.heap.objs.size l 0) (k : ∀ b o, s.heap.get? b = some o -> h'.get? b = some o) (q : R (IteQ c X.K l) H) :
  PIE X pins σ (.Tuple elts kt pt) R (.ref (s.heap.objs.size + 1)) { s with heap := h' } := by
 refine ⟨s.heap.objs.size + 1, [s.heap.objs.size + 1, s.heap.objs.size], _, _, H, rfl, I.kept (t' := s.toks) k, turn_enumQ S (Nat.ne_of_gt (Nat.lt_succ_self _)), ⟨⟨.none, he⟩, hi⟩, fun b hb => ?_, q⟩
 have e : b = s.heap.objs.size + 1 ∨ b = s.heap.objs.size := by simpa using hb
 rcases e with rfl | rfl
 ·exact I.fpOk (Nat.le_succ _) (I.hok.fresh (Nat.le_succ _))
 ·exact I.fpOk (Nat.le_refl _) (I.hok.fresh (Nat.le_refl _))
theorem pi_enumQL (hg : Gl X "enumerate") (hm : X.mg "enumerate" = none) (he : PE X e te) (hs : autoParam (starEach [e] X.env = [(false, eval e X.env)]) AutoP.a3._auto_1) : PI X (.Tuple elts kt pt) (.Call (.Name "enumerate" p) [e] [] pos) (iEnumQ SqL X.K te) := by
 intro pins s σ H R I h
 refine Call_ (ld_blt I hg hm boot_enumerate (PyProof.Rows.callWith_type1 (thn (pa_cons he pa_nil hs pos pins s σ H (fun zs H1 => ∃ l xs, zs = [V.ref l] /\ SqL X.K H1 l xs /\ R (IteQ SqL X.K l) H1) I h) fun us s1 ⟨vs, H1, I1, r1, q1⟩ => ?_) hs rfl))
 obtain ⟨l, xs, rfl, hl, q⟩ := q1
 obtain ⟨u, rfl, ru⟩ := vals1 r1
 cases ru
 obtain ⟨its, rv, pl⟩ := sq_lst.seq X pins σ H1 s1 l xs I1 hl
 exact call_enumerate_list pl fun h' hen hit _ k => wpAny_pyIter_enum hen (enum_pieQ sq_lst I1 hen hit k q)
theorem pi_enumQT (hg : Gl X "enumerate") (hm : X.mg "enumerate" = none) (he : PE X e te) (hs : autoParam (starEach [e] X.env = [(false, eval e X.env)]) AutoP.a3._auto_1) : PI X (.Tuple elts kt pt) (.Call (.Name "enumerate" p) [e] [] pos) (iEnumQ SqT X.K te) := by
 intro pins s σ H R I h
 refine Call_ (ld_blt I hg hm boot_enumerate (PyProof.Rows.callWith_type1 (thn (pa_cons he pa_nil hs pos pins s σ H (fun zs H1 => ∃ l xs, zs = [V.ref l] /\ SqT X.K H1 l xs /\ R (IteQ SqT X.K l) H1) I h) fun us s1 ⟨vs, H1, I1, r1, q1⟩ => ?_) hs rfl))
 obtain ⟨l, xs, rfl, hl, q⟩ := q1
 obtain ⟨u, rfl, ru⟩ := vals1 r1
 cases ru
 obtain ⟨its, rv, pl⟩ := sq_tup.seq X pins σ H1 s1 l xs I1 hl
 exact call_enumerate_tup pl fun h' hen hit k => wpAny_pyIter_enum hen (enum_pieQ sq_tup I1 hen hit k q)
end
def IteZQ (c1 c2 : CQ) (K : PySem.W.Frag) (l1 l2 : Addr) : It :=
 ⟨fun i H => ∃ xs ys x y, c1 K H l1 xs /\ c2 K H l2 ys /\ xs[i]? = some x /\ ys[i]? = some y, fun i H v H' => ∃ T x y, H T = none /\ v = .ref T /\ (∀ xs, c1 K H l1 xs -> xs[i]? = some x) /\ (∀ ys, c2 K H l2 ys -> ys[i]? = some y) /\ H' = upd H T (.tup [x, y]), fun i H => ∃ xs, c1 K H l1 xs /\ xs.length = i⟩
theorem turn_zipQ {c1 c2 : CQ} {IsS1 IsS2 : Heap -> Addr -> Array Value -> Prop} {IsI1 IsI2 : Heap -> Addr -> Addr -> Nat -> Prop} (S1 : SeqKd c1 IsS1 IsI1) (S2 : SeqKd c2 IsS2 IsI2) {P : Program} {w : World} {K : PySem.W.Frag} {elts : List Expr} {kt : Nat} {pt : Pos} {z TI TO i1 i2 l1 l2 : Addr} (nTO : TO ≠ z) (nTI : TI ≠ z) (n1z : i1 ≠ z) (n2z : i2 ≠ z) (nTT : TI ≠ TO) (n1I : TI ≠ i1) (n2I : TI ≠ i2) (n1T : i1 ≠ TO) (n2T : i2 ≠ TO) (n12 : i1 ≠ i2) :
  Turn P w K (.Tuple elts kt pt) (IteZQ c1 c2 K l1 l2) [z, TI, TO, i1, i2] z (fun i h => IsZip h z TI TO .none /\ IsPair h TI (.ref i1) (.ref i2) /\ (∃ a b, IsPair h TO a b) /\ IsI1 h i1 l1 i /\ IsI2 h i2 l2 i) where
 mem := by simp
 obj := fun i h st b hb => by
  obtain ⟨h1, h2, ⟨a, c, h3⟩, h4, h5⟩ := st
  simp only [List.mem_cons, List.not_mem_nil, or_false] at hb
  rcases hb with rfl | rfl | rfl | rfl | rfl
  ·exact ⟨_, h1, fun v z => by cases z⟩
  ·exact ⟨_, h2, fun v z => by cases z⟩
  ·exact ⟨_, h3, fun v z => by cases z⟩
  ·exact S1.obj _ _ _ _ h4
  ·exact S2.obj _ _ _ _ h5
 keep := fun i h h' st k => by
  obtain ⟨h1, h2, ⟨a, c, h3⟩, h4, h5⟩ := st
  exact ⟨k _ (by simp) _ h1, k _ (by simp) _ h2, ⟨a, c, k _ (by simp) _ h3⟩, S1.kp _ _ _ _ _ h4 fun o q => k _ (by simp) o q, S2.kp _ _ _ _ _ h5 fun o q => k _ (by simp) o q⟩
 item := by
  intro X hP' hw hK hc i pins s σ H E I hf st hg
  subst hP' hw hK
  obtain ⟨xs, ys, x, y, hl1, hl2, hx, hy⟩ := hg
  obtain ⟨its1, rv1, p1⟩ := S1.seq X pins σ H s l1 xs I hl1
  obtain ⟨its2, rv2, p2⟩ := S2.seq X pins σ H s l2 ys I hl2
  obtain ⟨u1, hu1, ru1⟩ := rv1.get hx
  obtain ⟨u2, hu2, ru2⟩ := rv2.get hy
  have fz := hf z (by simp)
  have fT := hf TO (by simp)
  have f1 := hf i1 (by simp)
  have f2 := hf i2 (by simp)
  have hlt1 : i < its1.toArray.size := by
   have := List.getElem?_eq_some_iff.mp hu1
   simpa using this.1
  have hlt2 : i < its2.toArray.size := by
   have := List.getElem?_eq_some_iff.mp hu2
   simpa using this.1
  obtain ⟨h1, h2, ⟨a, c, h3⟩, h4, h5⟩ := st
  have a1 := S1.ne X pins σ H s l1 xs z I hl1 fz
  have a2 := S1.ne X pins σ H s l1 xs TO I hl1 fT
  have a3 := S1.ne X pins σ H s l1 xs i1 I hl1 f1
  have a4 := S1.ne X pins σ H s l1 xs i2 I hl1 f2
  have b1 := S2.ne X pins σ H s l2 ys z I hl2 fz
  have b2 := S2.ne X pins σ H s l2 ys TO I hl2 fT
  have b3 := S2.ne X pins σ H s l2 ys i1 I hl2 f1
  have b4 := S2.ne X pins σ H s l2 ys i2 I hl2 f2
  refine wpAny_pyNext_zip_itemD (S1.dr X.prog X.w X.A.in1 (I.ok.hd hc) i1 l1 a3 its1.toArray) (S2.dr X.prog X.w X.A.in1 (I.ok.hd hc) i2 l2 b4 its2.toArray) h1 h2 h3 ⟨h4, p1⟩ ⟨h5, p2⟩ hlt1 hlt2 nTO nTI n1z n2z n1T n2T
   (by simp [Ne.symm n1z, Ne.symm a1]) (by simp [Ne.symm n1T, Ne.symm a2]) (by simp [Ne.symm n12, Ne.symm a4]) (by simp [Ne.symm n2z, Ne.symm b1]) (by simp [Ne.symm n2T, Ne.symm b2]) (by simp [n12, Ne.symm b3]) fun v1 v2 h' tk e1 e2 q1 q2 q3 q4 q5 q6 q7 => ?_
  refine ⟨.ref s.heap.objs.size, rfl, wpAny_letOwnedTupleGo_zip (s := { s with heap := h', toks := tk }) q1 fun g r1 r2 => ?_⟩
  have hv1 : v1 = u1 := by
   have h1 : its1[i]? = some v1 := by simpa using e1
   rw [hu1] at h1
   exact (Option.some.inj h1).symm
  have hv2 : v2 = u2 := by
   have h1 : its2[i]? = some v2 := by simpa using e2
   rw [hu2] at h1
   exact (Option.some.inj h1).symm
  subst hv1 hv2
  have hzt : z < s.heap.objs.size := Heap.lt_size h1
  have hT2 : g.get? s.heap.objs.size = some { cls := .type "tuple", data := .seq #[v1, v2] } := (r2.2 _ (Nat.ne_of_gt hzt)).trans q5
  have new : ObjOk X.prog X.w (upd H s.heap.objs.size (.tup [x, y])) g s.heap.objs.size (.tup [x, y]) := ⟨(by show 2 <= sizeLine; decide), [v1, v2], .cons ru1 (.cons ru2 .nil), ⟨_, hT2, rfl, _, rfl⟩, _, hT2, rfl⟩
  refine ⟨.ref s.heap.objs.size, _, I.turnNl (ch := [z, TO, i1, i2]) (fun b hb => hf b ?_) (fun c o hc q => (r2.2 c ?_).trans (q7 c o ?_ ?_ ?_ ?_ q)) (Nat.le_refl _) new, rfl, ⟨s.heap.objs.size, x, y, I.hok.fresh (Nat.le_refl _), rfl, (fun us h => by rw [S1.inj X pins σ H s l1 us xs I h hl1]; exact hx), (fun us h => by rw [S2.inj X pins σ H s l2 us ys I h hl2]; exact hy), rfl⟩, ⟨r1, (r2.2 _ nTI).trans (q7 _ _ nTI nTT n1I n2I h2), ⟨_, _, (r2.2 _ nTO).trans q2⟩, S1.kp _ _ _ _ _ q3.1 fun o q => (r2.2 _ n1z).trans q, S2.kp _ _ _ _ _ q4.1 fun o q => (r2.2 _ n2z).trans q⟩, fun b hb => ?_⟩
  ·simp only [List.mem_cons, List.not_mem_nil, or_false] at hb ⊢
   rcases hb with h | h | h | h <;> simp [h]
  ·exact fun z => hc (by simp [z])
  ·exact fun z => hc (by simp [z])
  ·exact fun z => hc (by simp [z])
  ·exact fun z => hc (by simp [z])
  ·exact fun z => hc (by simp [z])
  ·have fb := hf b hb
   have lt : b < s.heap.objs.size := by
    simp only [List.mem_cons, List.not_mem_nil, or_false] at hb
    rcases hb with rfl | rfl | rfl | rfl | rfl
    ·exact hzt
    ·exact Heap.lt_size h2
    ·exact Heap.lt_size h3
    ·obtain ⟨o, q, _⟩ := S1.obj _ _ _ _ h4; exact Heap.lt_size q
    ·obtain ⟨o, q, _⟩ := S2.obj _ _ _ _ h5; exact Heap.lt_size q
   rw [upd_ne (Nat.ne_of_lt lt)]
   exact fb.1
 done := by
  intro X hP' hw hK hc i pins s σ H E I hf st hg
  subst hP' hw hK
  obtain ⟨xs, hl1, hn⟩ := hg
  obtain ⟨its1, rv1, p1⟩ := S1.seq X pins σ H s l1 xs I hl1
  have fz := hf z (by simp)
  have f1 := hf i1 (by simp)
  obtain ⟨h1, h2, ⟨a, c, h3⟩, h4, h5⟩ := st
  have a1 := S1.ne X pins σ H s l1 xs z I hl1 fz
  have a3 := S1.ne X pins σ H s l1 xs i1 I hl1 f1
  have hi : i = its1.toArray.size := by rw [<- hn, rv1.length]; simp
  subst hi
  refine wpAny_pyNext_zip_endD (S1.dr X.prog X.w X.A.in1 (I.ok.hd hc) i1 l1 a3 its1.toArray) h1 h2 h3 ⟨h4, p1⟩ nTO n1z (by simp [Ne.symm n1z, Ne.symm a1]) fun h' k => ⟨rfl, I.turnN (t' := s.toks) (ch := [z, TO, i1, i2]) (fun b hb => hf b ?_) fun c o hc q => k c o (fun z => hc (by simp [z])) (fun z => hc (by simp [z])) (fun z => hc (by simp [z])) (fun z => hc (by simp [z])) q⟩
  simp only [List.mem_cons, List.not_mem_nil, or_false] at hb ⊢
  rcases hb with h | h | h | h <;> simp [h]
 self := fun A i s Q E st q => wpAny_pyIter_zip st.1 q
def iZipQ (c1 c2 : CQ) (K : PySem.W.Frag) (te1 te2 : TE) : TI := fun σ H R => te1 σ H fun x H1 => te2 σ H1 fun y H2 => ∃ l1 l2 xs ys, [x, y] = [V.ref l1, V.ref l2] /\ c1 K H2 l1 xs /\ c2 K H2 l2 ys /\ R (IteZQ c1 c2 K l1 l2) H2
section
variable {X : Cx} {elts : List Expr} {kt : Nat} {pt : Pos} {e1 e2 : Expr} {te1 te2 : TE} {p pos : Pos}
theorem zip_pieQ {c1 c2 : CQ} {IsS1 IsS2 : Heap -> Addr -> Array Value -> Prop} {IsI1 IsI2 : Heap -> Addr -> Addr -> Nat -> Prop} (S1 : SeqKd c1 IsS1 IsI1) (S2 : SeqKd c2 IsS2 IsI2) {pins : List (Addr × Obj)} {σ : St} {H1 : Hp} {s1 : Shared} {R : It -> Hp -> Prop} {l1 l2 : Addr} {h' : Heap} (I1 : Inv X pins σ H1 s1)
  (a1 : IsZip h' (s1.heap.objs.size + 4) (s1.heap.objs.size + 2) (s1.heap.objs.size + 3) .none) (a2 : IsPair h' (s1.heap.objs.size + 2) (.ref s1.heap.objs.size) (.ref (s1.heap.objs.size + 1))) (a3 : IsPair h' (s1.heap.objs.size + 3) .none .none)
  (a4 : IsI1 h' s1.heap.objs.size l1 0) (a5 : IsI2 h' (s1.heap.objs.size + 1) l2 0) (k : ∀ b o, s1.heap.get? b = some o -> h'.get? b = some o) (q : R (IteZQ c1 c2 X.K l1 l2) H1) :
  PIE X pins σ (.Tuple elts kt pt) R (.ref (s1.heap.objs.size + 4)) { s1 with heap := h' } := by
 have nn : ∀ i j : Nat, i ≠ j -> s1.heap.objs.size + i ≠ s1.heap.objs.size + j := fun i j h e => h (by exact Nat.add_left_cancel e)
 refine ⟨s1.heap.objs.size + 4, [s1.heap.objs.size + 4, s1.heap.objs.size + 2, s1.heap.objs.size + 3, s1.heap.objs.size, s1.heap.objs.size + 1], _, _, H1, rfl, I1.kept (t' := s1.toks) k, turn_zipQ S1 S2 (nn 3 4 (by decide)) (nn 2 4 (by decide)) (nn 0 4 (by decide)) (nn 1 4 (by decide)) (nn 2 3 (by decide)) (nn 2 0 (by decide)) (nn 2 1 (by decide)) (nn 0 3 (by decide)) (nn 1 3 (by decide)) (nn 0 1 (by decide)), ⟨a1, a2, ⟨_, _, a3⟩, a4, a5⟩, fun b hb => ?_, q⟩
 have le : s1.heap.objs.size <= b := by
  simp only [List.mem_cons, List.not_mem_nil, or_false] at hb
  rcases hb with h | h | h | h | h
  ·rw [h]; exact Nat.le_add_right _ _
  ·rw [h]; exact Nat.le_add_right _ _
  ·rw [h]; exact Nat.le_add_right _ _
  ·rw [h]; exact Nat.le_refl _
  ·rw [h]; exact Nat.le_add_right _ _
 exact I1.fpOk le (I1.hok.fresh le)
theorem pi_zipQTL (hg : Gl X "zip") (hm : X.mg "zip" = none) (he1 : PE X e1 te1) (he2 : PE X e2 te2) (hs : autoParam (starEach [e1, e2] X.env = (false, eval e1 X.env) :: starEach [e2] X.env) AutoP.a3._auto_1) (hs2 : autoParam (starEach [e2] X.env = [(false, eval e2 X.env)]) AutoP.a3._auto_1) : PI X (.Tuple elts kt pt) (.Call (.Name "zip" p) [e1, e2] [] pos) (iZipQ SqT SqL X.K te1 te2) := by
 intro pins s σ H R I h
 refine Call_ (ld_blt I hg hm boot_zip (PyProof.Rows.callWith_type1 (thn (pa_cons he1 (pa_cons he2 pa_nil hs2) hs pos pins s σ H (fun zs H1 => ∃ l1 l2 xs ys, zs = [V.ref l1, V.ref l2] /\ SqT X.K H1 l1 xs /\ SqL X.K H1 l2 ys /\ R (IteZQ SqT SqL X.K l1 l2) H1) I h) fun us s1 ⟨vs, H1, I1, r1, q1⟩ => ?_) hs (by rw [hs2]; rfl)))
 obtain ⟨l1, l2, xs, ys, rfl, hl1, hl2, q⟩ := q1
 obtain ⟨u, v, rfl, ru, rv⟩ := vals2 r1
 cases ru
 cases rv
 obtain ⟨its1, rv1, p1⟩ := sq_tup.seq X pins σ H1 s1 l1 xs I1 hl1
 obtain ⟨its2, rv2, p2⟩ := sq_lst.seq X pins σ H1 s1 l2 ys I1 hl2
 exact call_zip_TL p1 p2 fun h' a1 a2 a3 a4 a5 k => wpAny_pyIter_zip a1 (zip_pieQ sq_tup sq_lst I1 a1 a2 a3 a4 a5 k q)
theorem pi_zipQTT (hg : Gl X "zip") (hm : X.mg "zip" = none) (he1 : PE X e1 te1) (he2 : PE X e2 te2) (hs : autoParam (starEach [e1, e2] X.env = (false, eval e1 X.env) :: starEach [e2] X.env) AutoP.a3._auto_1) (hs2 : autoParam (starEach [e2] X.env = [(false, eval e2 X.env)]) AutoP.a3._auto_1) : PI X (.Tuple elts kt pt) (.Call (.Name "zip" p) [e1, e2] [] pos) (iZipQ SqT SqT X.K te1 te2) := by
 intro pins s σ H R I h
 refine Call_ (ld_blt I hg hm boot_zip (PyProof.Rows.callWith_type1 (thn (pa_cons he1 (pa_cons he2 pa_nil hs2) hs pos pins s σ H (fun zs H1 => ∃ l1 l2 xs ys, zs = [V.ref l1, V.ref l2] /\ SqT X.K H1 l1 xs /\ SqT X.K H1 l2 ys /\ R (IteZQ SqT SqT X.K l1 l2) H1) I h) fun us s1 ⟨vs, H1, I1, r1, q1⟩ => ?_) hs (by rw [hs2]; rfl)))
 obtain ⟨l1, l2, xs, ys, rfl, hl1, hl2, q⟩ := q1
 obtain ⟨u, v, rfl, ru, rv⟩ := vals2 r1
 cases ru
 cases rv
 obtain ⟨its1, rv1, p1⟩ := sq_tup.seq X pins σ H1 s1 l1 xs I1 hl1
 obtain ⟨its2, rv2, p2⟩ := sq_tup.seq X pins σ H1 s1 l2 ys I1 hl2
 exact call_zip_TT p1 p2 fun h' a1 a2 a3 a4 a5 k => wpAny_pyIter_zip a1 (zip_pieQ sq_tup sq_tup I1 a1 a2 a3 a4 a5 k q)
end
end L2
set_option autoImplicit false
namespace MD
open PySem PySem.Spec PyProof.Rows L2
theorem Res.bind_assoc {α β γ : Type} (r : Res α) (k : α -> Sto -> Res β) (l : β -> Sto -> Res γ) : (r.bind k).bind l = r.bind fun a m => (k a m).bind l := by
 cases r <;> rfl
theorem Res.bind_ok' {α : Type} (r : Res α) : (r.bind fun a m => .ok a m) = r := by cases r <;> rfl
theorem RepL.append {K : PySem.W.Frag} {α : List Addr} {H : Hp} : ∀ {ds es : List D} {vs ws : List V}, RepL K α H ds vs -> RepL K α H es ws -> RepL K α H (ds ++ es) (vs ++ ws)
 | [], _, _, _, h1, h2 => by rw [RepL] at h1; subst h1; exact h2
 | _ :: _, _, _, _, h1, h2 => by
  rw [RepL] at h1
  obtain ⟨v, r, rfl, a, b⟩ := h1
  rw [List.cons_append, RepL]
  exact ⟨v, r ++ _, rfl, a, RepL.append b h2⟩
theorem RepL.one {K : PySem.W.Frag} {α : List Addr} {H : Hp} {d : D} {v : V} (h : Rep K α H d v) : RepL K α H [d] [v] := by
 rw [RepL]
 exact ⟨v, [], rfl, h, by rw [RepL]⟩
theorem RepL.get {K : PySem.W.Frag} {α : List Addr} {H : Hp} : ∀ {ds : List D} {vs : List V} {i : Nat} {d : D}, RepL K α H ds vs -> ds[i]? = some d -> ∃ v, vs[i]? = some v /\ Rep K α H d v
 | [], _, _, _, _, e => by simp at e
 | _ :: _, _, 0, _, h, e => by
  rw [RepL] at h
  obtain ⟨v, r, rfl, a, b⟩ := h
  simp at e
  subst e
  exact ⟨v, rfl, a⟩
 | _ :: _, _, i + 1, d, h, e => by
  rw [RepL] at h
  obtain ⟨v, r, rfl, a, b⟩ := h
  obtain ⟨w, h1, h2⟩ := RepL.get (i := i) (d := d) b (by simpa using e)
  exact ⟨w, by simpa using h1, h2⟩
section
variable {K : PySem.W.Frag} {cl : Str -> Addr} {ex : XD} {gt : GV} {ta : TV} {fa : EV} {fr : AV}
theorem tComp_of {n : Nat} {fin : List V -> Hp -> Prop} {σ : L2.St} {H : Hp} (h : ∃ α ρ m, Wd K cl α m H /\ RepE K α H ρ σ /\ PQ K cl ex (aComp n fr gt ta fa ρ m) α H fun ds α' _ H' => ∀ vs, RepL K α' H' ds vs -> fin vs H') :
  tComp n (tDI K cl ex fr) (tDG K cl ex gt) (tDT K cl ex ta) (tD K cl ex fa) fin σ H := by
 obtain ⟨α, ρ, m, W, hr, h⟩ := h
 refine ⟨α, ρ, m, W, hr, PQ.mono (Ext.refl W) h.bind fun ds α1 m1 H1 E1 W1 q J hJ => ?_⟩
 obtain ⟨hk, q⟩ := PQ.if q
 have hr1 := hr.mono W E1
 refine comp_by (k := ds.length) (fun i ys H2 => ∃ α2 m2 done, Ext α1 H1 α2 H2 /\ Wd K cl α2 m2 H2 /\ RepL K α2 H2 done ys /\ done.length <= i /\ PQ K cl ex ((compM gt ta fa (ρ ++ List.replicate n none) (ds.drop i) m2).bind fun xs m4 => .ok (done ++ xs) m4) α2 H2 fun ds α' _ H' => ∀ vs, RepL K α' H' ds vs -> fin vs H') hk ?_ ?_ ?_ ?_
 ·refine ⟨α1, m1, [], Ext.refl W1, W1, by rw [RepL], Nat.le_refl _, ?_⟩
  simp only [List.nil_append, List.drop_zero, Res.bind_ok']
  exact q
 ·rintro i ys H2 ⟨_, _, done, _, _, r, l, _⟩
  rw [<- r.length]
  exact l
 ·rintro i ys H2 hi ⟨α2, m2, done, E2, W2, r2, l2, q2⟩
  have hd : ds[i]? = some ds[i] := by simp [hi]
  obtain ⟨g1, g2⟩ := (hJ i α2 m2 H2 E2 W2).1 _ hd
  refine ⟨g1, fun x H3 y => ?_⟩
  obtain ⟨sm, rx⟩ := g2 x H3 y
  have Es := Ext.of_same W2 sm
  have W3 := W2.same sm
  rw [List.drop_eq_getElem_cons hi, compM, Res.bind_assoc] at q2
  have E23 := E2.trans Es
  refine ⟨α2, ρ ++ List.replicate n none, m2, ds[i], W3, (hr1.mono W1 E23).more n, rx, PQ.mono Es q2.bind fun ρ4 α4 m4 H4 E4 W4 q4 σ4 hr4 => ?_⟩
  rw [Res.bind_assoc] at q4
  refine tDT.use W4 hr4 q4 fun α5 m5 H5 b E5 W5 hr5 q5 => ?_
  have E45 := E4.trans E5
  cases b with
  | false => exact ⟨α5, m5, done, E23.trans E45, W5, (r2.mono W2 Es).mono W3 E45, Nat.le_succ_of_le l2, q5⟩
  | true =>
   have q5' : PQ K cl ex (((fa ρ4 m5).bind fun x m3 => (compM gt ta fa (ρ ++ List.replicate n none) (ds.drop (i + 1)) m3).bind fun xs m4 => .ok (x :: xs) m4).bind fun xs m4 => .ok (done ++ xs) m4) α5 H5 fun ds α' _ H' => ∀ vs, RepL K α' H' ds vs -> fin vs H' := q5
   rw [Res.bind_assoc] at q5'
   refine tD.use W5 hr5 q5' fun α6 m6 H6 d v E6 W6 hr6 rv q6 => ?_
   rw [Res.bind_assoc] at q6
   refine ⟨α6, m6, done ++ [d], E23.trans (E45.trans E6), W6, RepL.append (((r2.mono W2 Es).mono W3 E45).mono W5 E6) (RepL.one rv), by rw [List.length_append]; show done.length + 1 <= i + 1; omega, ?_⟩
   simp only [List.append_assoc, List.singleton_append]
   exact q6
 ·rintro ys H2 ⟨α2, m2, done, E2, W2, r2, l2, q2⟩
  rw [List.drop_of_length_le (Nat.le_refl _), compM] at q2
  refine ⟨(hJ ds.length α2 m2 H2 E2 W2).2 rfl, ?_⟩
  have q3 : PQ K cl ex (.ok (done ++ []) m2) α2 H2 fun ds α' _ H' => ∀ vs, RepL K α' H' ds vs -> fin vs H' := q2
  rw [List.append_nil] at q3
  exact PQ.ok W2 q3 ys r2
end
def gL1 (ds : List D) (m : Sto) : Res D := .ok (.lst ds) m
def signs (z : Str) : List D := (List.range z.cps.size).map fun i => .str ⟨#[z.cps.getD i 0]⟩
def asSeq (d : D) (m : Sto) : Res (List D) := match d with
 | .tup ds => .ok ds m
 | .lst ds => .ok ds m
 | .str z => .ok (signs z) m
 | .scr ds => .ok ds m
 | _ => .bad
def aIt (fa : EV) : AV := fun ρ m => (fa ρ m).bind asSeq
def intsD (lo : Int) (n : Nat) : List D := (List.range n).map fun i => .int (lo + (i : Nat))
def rng1R (ds : List D) (m : Sto) : Res (List D) := match ds with
 | [.int j] => if -(2 ^ 62) <= j /\ j < 2 ^ 62 then .ok (intsD 0 j.toNat) m else .bad
 | _ => .bad
theorem rng1_ex : ∃ f : List D -> Sto -> Res (List D), f = rng1R := ⟨_, rfl⟩
def rng1 : List D -> Sto -> Res (List D) := Classical.choose rng1_ex
theorem rng1_eq : rng1 = rng1R := Classical.choose_spec rng1_ex
def aRng (g : List D -> Sto -> Res (List D)) (fr : AV) : AV := fun ρ m => (fr ρ m).bind g
def enumD (i : Nat) : List D -> List D
 | [] => []
 | d :: r => .tup [.int i, d] :: enumD (i + 1) r
def asSq2 (d : D) (m : Sto) : Res (List D) := match d with
 | .tup ds => .ok ds m
 | .lst ds => .ok ds m
 | _ => .bad
def aEnum (fa : EV) : AV := fun ρ m => (fa ρ m).bind fun d m1 => (asSq2 d m1).bind fun ds m2 => .ok (enumD 0 ds) m2
def zipD : List D -> List D -> List D
 | x :: xs, y :: ys => .tup [x, y] :: zipD xs ys
 | _, _ => []
def zipD3 : List D -> List D -> List D -> List D
 | x :: xs, y :: ys, z :: zs => .tup [x, y, z] :: zipD3 xs ys zs
 | _, _, _ => []
def zip2 (x y : D) (m : Sto) : Res (List D) := match x, y with
 | .tup xs, .tup ys => if xs.length <= ys.length then .ok (zipD xs ys) m else .bad
 | .tup xs, .lst ys => if xs.length <= ys.length then .ok (zipD xs ys) m else .bad
 | _, _ => .bad
def aZip (fa fb : EV) : AV := fun ρ m => (fa ρ m).bind fun x m1 => (fb ρ m1).bind fun y m2 => zip2 x y m2
def zip3 (x y z : D) (m : Sto) : Res (List D) := match x, y, z with
 | .tup xs, .tup ys, .tup zs => if xs.length <= ys.length /\ xs.length <= zs.length then .ok (zipD3 xs ys zs) m else .bad
 | _, _, _ => .bad
def aZip3 (fa fb fc : EV) : AV := fun ρ m => (fa ρ m).bind fun x m1 => (fb ρ m1).bind fun y m2 => (fc ρ m2).bind fun z m3 => zip3 x y z m3
theorem enumD_get : ∀ (ds : List D) (k i : Nat) (d : D), (enumD k ds)[i]? = some d -> ∃ e, ds[i]? = some e /\ d = .tup [.int ((k + i : Nat) : Int), e]
 | [], k, i, d, h => by simp [enumD] at h
 | e :: r, k, 0, d, h => by
  simp [enumD] at h
  exact ⟨e, rfl, h.symm⟩
 | e :: r, k, i + 1, d, h => by
  obtain ⟨f, h1, h2⟩ := enumD_get r (k + 1) i d (by simpa [enumD] using h)
  refine ⟨f, by simpa using h1, ?_⟩
  rw [h2, show k + 1 + i = k + (i + 1) by omega]
theorem enumD_len : ∀ (ds : List D) (k : Nat), (enumD k ds).length = ds.length
 | [], _ => rfl
 | _ :: r, k => by rw [enumD, List.length_cons, List.length_cons, enumD_len r]
theorem zipD_get : ∀ (xs ys : List D) (i : Nat) (d : D), (zipD xs ys)[i]? = some d -> ∃ a b, xs[i]? = some a /\ ys[i]? = some b /\ d = .tup [a, b]
 | [], _, i, d, h => by simp [zipD] at h
 | _ :: _, [], i, d, h => by simp [zipD] at h
 | a :: r, b :: s, 0, d, h => by
  simp [zipD] at h
  exact ⟨a, b, rfl, rfl, h.symm⟩
 | a :: r, b :: s, i + 1, d, h => by
  obtain ⟨x, y, h1, h2, h3⟩ := zipD_get r s i d (by simpa [zipD] using h)
  exact ⟨x, y, by simpa using h1, by simpa using h2, h3⟩
theorem zipD_len : ∀ (xs ys : List D), xs.length <= ys.length -> (zipD xs ys).length = xs.length
 | [], _, _ => by simp [zipD]
 | _ :: _, [], h => by simp at h
 | _ :: r, _ :: s, h => by rw [zipD, List.length_cons, List.length_cons, zipD_len r s (by simpa using h)]
section
variable {X : Cx} {N0 : List Str} {cl : Str -> Addr} {ex : XD} {a b c e tg it : Expr} {es ifs : List Expr} {fa fb fc : EV} {ta tb : TV} {fr : AV} {pos p : Pos} {gt : GV} {scope : Scope} {xs : List Str} {clo : List (Str × Addr)}
theorem qe_comp (hc : X.calm = true) (hx : X.xe = fun _ _ => False) (S : CompOk X N0 scope xs clo) (hi : QI X cl ex tg it fr)
  (hg : ∀ C s H fp, QG (X.comp N0 scope xs clo C s H fp) cl ex tg gt) (hf : ∀ C s H fp, PIf (X.comp N0 scope xs clo C s H fp) ifs (tDT X.K cl ex ta)) (he : ∀ C s H fp, QE (X.comp N0 scope xs clo C s H fp) cl ex e fa)
  (hs : autoParam (∀ x, foldedSetIterable it X.env x = pure x) AutoP.a2._auto_1) : QE X cl ex (.ListComp e [⟨tg, it, ifs, 0⟩] scope pos) (eFn gL1 (aComp xs.length fr gt ta fa)) :=
 ⟨PE.weak (pe_comp (g := tDG X.K cl ex gt) (tf := tDT X.K cl ex ta) (te := tD X.K cl ex fa) hc hx S hi.out (fun C s H fp => (hg C s H fp).out) hf (fun C s H fp => (he C s H fp).out) hs) fun σ H Q hh => ex3 hh fun α ρ m W hr h => tComp_of ⟨α, ρ, m, W, hr, PQ.mono (Ext.refl W) h.bind fun ds α1 m1 H1 E1 W1 q vs rv p hp => PQ.okS W1 (Same.new hp) q _ (rep_lst W1 hp rv)⟩⟩
theorem qs_setC {i : Nat} {y : Str} {py spos : Pos} (hc : X.calm = true) (hx : X.xe = fun _ _ => False) (hN : X.N.Nodup) (hy : X.N[i]? = some y) (hl : X.env.scope.names.lookup y = some .local) (S : CompOk X N0 scope xs clo) (hi : QI X cl ex tg it fr)
  (hg : ∀ C s H fp, QG (X.comp N0 scope xs clo C s H fp) cl ex tg gt) (hf : ∀ C s H fp, PIf (X.comp N0 scope xs clo C s H fp) ifs (tDT X.K cl ex ta)) (he : ∀ C s H fp, QE (X.comp N0 scope xs clo C s H fp) cl ex e fa)
  (hsw : autoParam (swapsWith (.ListComp e [⟨tg, it, ifs, 0⟩] scope pos) (some (.Name y py)) spos.line X.env = pure true) AutoP.a4._auto_1)
  (hs : autoParam (∀ x, foldedSetIterable it X.env x = pure x) AutoP.a2._auto_1) : QS X cl ex (.Assign [.Name y py] (.ListComp e [⟨tg, it, ifs, 0⟩] scope pos) spos) (sAsg (eFn gL1 (aComp xs.length fr gt ta fa)) (gN i)) :=
 ⟨PS.weak (ps_setC (g := tDG X.K cl ex gt) (tf := tDT X.K cl ex ta) (te := tD X.K cl ex fa) hc hx hN hy hl S hi.out (fun C s H fp => (hg C s H fp).out) hf (fun C s H fp => (he C s H fp).out) hsw hs) fun D σ H hh => ex3 hh fun α ρ m W hr h => tComp_of ⟨α, ρ, m, W, hr, by
  have h2 : PQ X.K cl ex (((aComp xs.length fr gt ta fa ρ m).bind gL1).bind fun d m1 => (gN i d ρ m1).bind fun ρ1 m2 => .ok (.nx ρ1) m2) α H fun fl α' _ H' => EndsOk X.K D fl α' H' := h
  rw [Res.bind_assoc] at h2
  exact PQ.mono (Ext.refl W) h2.bind fun ds α1 m1 H1 E1 W1 q vs rv p hp => PQ.okS W1 (Same.new hp) (show PQ X.K cl ex (.ok (.nx (ρ.set i (some (.lst ds)))) m1) α1 H1 fun fl α' _ H' => EndsOk X.K D fl α' H' from q) _ (((hr.mono W E1).mono W1 (Ext.of_same W1 (Same.new hp))).set (rep_lst W1 hp rv))⟩⟩
theorem qif_nil : PIf X [] (tDT X.K cl ex tYesM) := fun pins s σ H Q I hh => ex3 hh fun α ρ m W hr h => pif_nil pins s σ H Q I (PQ.ok W h)
theorem PI.or {t t' : TI} (h : PI X tg it t) (h' : PI X tg it t') : PI X tg it fun σ H R => t σ H R ∨ t' σ H R := fun pins s σ H R I q => q.elim (h pins s σ H R I) (h' pins s σ H R I)
end
section
variable {K : PySem.W.Frag} {cl : Str -> Addr} {ex : XD} {α α' : List Addr} {m m1 : Sto} {H H' : Hp} {ρ : En} {σ : L2.St}
theorem tD.at {f : EV} {d : D} {Q : VK} (W : Wd K cl α m H) (hr : RepE K α H ρ σ) (hf : f ρ m = .ok d m1) (hQ : ∀ α1 H1 v, Ext α H α1 H1 -> Wd K cl α1 m1 H1 -> RepE K α1 H1 ρ σ -> Rep K α1 H1 d v -> Q v H1) : tD K cl ex f σ H Q :=
 ⟨α, ρ, m, W, hr, by rw [hf]; exact fun α1 H1 E1 W1 v rv => hQ α1 H1 v E1 W1 (hr.mono W E1) rv⟩
theorem tDA.at {f : AV} {d : List D} {Q : List V -> Hp -> Prop} (W : Wd K cl α m H) (hr : RepE K α H ρ σ) (hf : f ρ m = .ok d m1) (hQ : ∀ α1 H1 v, Ext α H α1 H1 -> Wd K cl α1 m1 H1 -> RepE K α1 H1 ρ σ -> RepL K α1 H1 d v -> Q v H1) : tDA K cl ex f σ H Q :=
 ⟨α, ρ, m, W, hr, by rw [hf]; exact fun α1 H1 E1 W1 v rv => hQ α1 H1 v E1 W1 (hr.mono W E1) rv⟩
theorem tD.exc {f : EV} {τ : Type} {c : Exc} {k : D -> Sto -> Res τ} {R : RD τ} {Q : VK} (W : Wd K cl α m H) (hr : RepE K α H ρ σ) (hf : f ρ m = .exc c m1) (q : PQ K cl ex ((f ρ m).bind k) α H R) : tD K cl ex f σ H Q :=
 ⟨α, ρ, m, W, hr, by rw [hf] at q ⊢; exact q⟩
theorem tDA.exc {f : AV} {τ : Type} {c : Exc} {k : List D -> Sto -> Res τ} {R : RD τ} {Q : List V -> Hp -> Prop} (W : Wd K cl α m H) (hr : RepE K α H ρ σ) (hf : f ρ m = .exc c m1) (q : PQ K cl ex ((f ρ m).bind k) α H R) : tDA K cl ex f σ H Q :=
 ⟨α, ρ, m, W, hr, by rw [hf] at q ⊢; exact q⟩
theorem itd_l {l : Addr} {ds : List D} {vs : List V} (W : Wd K cl α m H) (n : l ∉ α) (h : Rd H l (.lst vs)) (r : RepL K α H ds vs) : ItD K cl α H (Itl K l) ds := fun i α1 m1 H1 E1 W1 => by
 have sq : SqL K H1 l vs := .inl (E1.rd h n)
 refine ⟨fun d e => ?_, fun e => ⟨vs, sq, by rw [e, r.length]; exact Nat.le_refl _⟩⟩
 obtain ⟨v, h1, h2⟩ := (r.mono W E1).get e
 refine ⟨⟨vs, v, sq, h1⟩, fun x H2 y => ?_⟩
 obtain ⟨rfl, y⟩ := y
 have := y vs sq
 rw [h1] at this
 cases this
 exact ⟨Same.refl _, h2⟩
theorem itd_s {l : Addr} {ds : List D} {vs : List V} (W : Wd K cl α m H) (h : LstAt K α H l vs) (r : RepL K α H ds vs) : ItD K cl α H (Itl K l) ds := fun i α1 m1 H1 E1 W1 => by
 have sq : SqL K H1 l vs := ((E1.kp W).lstAt h).sq
 refine ⟨fun d e => ?_, fun e => ⟨vs, sq, by rw [e, r.length]; exact Nat.le_refl _⟩⟩
 obtain ⟨v, h1, h2⟩ := (r.mono W E1).get e
 refine ⟨⟨vs, v, sq, h1⟩, fun x H2 y => ?_⟩
 obtain ⟨rfl, y⟩ := y
 have := y vs sq
 rw [h1] at this
 cases this
 exact ⟨Same.refl _, h2⟩
theorem itd_t {l : Addr} {ds : List D} {vs : List V} (W : Wd K cl α m H) (h : SqT K H l vs) (r : RepL K α H ds vs) : ItD K cl α H (Itt K l) ds := fun i α1 m1 H1 E1 W1 => by
 have sq : SqT K H1 l vs := E1.sqt W h
 refine ⟨fun d e => ?_, fun e => ⟨vs, sq, by rw [e, r.length]; exact Nat.le_refl _⟩⟩
 obtain ⟨v, h1, h2⟩ := (r.mono W E1).get e
 refine ⟨⟨vs, v, sq, h1⟩, fun x H2 y => ?_⟩
 obtain ⟨rfl, y⟩ := y
 have := y vs sq
 rw [h1] at this
 cases this
 exact ⟨Same.refl _, h2⟩
theorem itd_f {f : Nat -> V} {g : Nat -> D} {n : Nat} (hg : ∀ i α H, Rep K α H (g i) (f i)) : ItD K cl α H (Itf f n) ((List.range n).map g) := fun i α1 m1 H1 E1 W1 => by
 refine ⟨fun d e => ?_, fun e => by rw [List.length_map, List.length_range] at e; exact e⟩
 obtain ⟨hi, e⟩ := List.getElem?_eq_some_iff.mp e
 rw [List.length_map, List.length_range] at hi
 simp only [List.getElem_map, List.getElem_range] at e
 subst e
 refine ⟨hi, fun x H2 y => ?_⟩
 obtain ⟨rfl, rfl⟩ := y
 exact ⟨Same.refl _, hg _ _ _⟩
theorem itd_r {lo : Int} {n : Nat} : ItD K cl α H (Itr lo n) (intsD lo n) := fun i α1 m1 H1 E1 W1 => by
 unfold intsD
 refine ⟨fun d e => ?_, fun e => by rw [List.length_map, List.length_range] at e; exact Nat.le_of_eq e.symm⟩
 obtain ⟨hi, e⟩ := List.getElem?_eq_some_iff.mp e
 rw [List.length_map, List.length_range] at hi
 simp only [List.getElem_map, List.getElem_range] at e
 subst e
 refine ⟨hi, fun x H2 y => ?_⟩
 obtain ⟨rfl, rfl⟩ := y
 exact ⟨Same.refl _, by rw [Rep]⟩
theorem rep_new_tup {T : Addr} {ds : List D} {vs : List V} (W : Wd K cl α m H) (hT : H T = none) (r : RepL K α H ds vs) : Rep K α (upd H T (.tup vs)) (.tup ds) (.ref T) := by
 rw [Rep]
 exact ⟨T, vs, rfl, .inl upd_same, r.mono W (Ext.of_same W (Same.new hT))⟩
theorem RepL.two {d e : D} {v w : V} (h : Rep K α H d v) (h' : Rep K α H e w) : RepL K α H [d, e] [v, w] := RepL.append (RepL.one h) (RepL.one h')
def Stays (K : PySem.W.Frag) (cl : Str -> Addr) (c : CQ) (α : List Addr) (H : Hp) (l : Addr) (vs : List V) : Prop := ∀ α1 m1 H1, Ext α H α1 H1 -> Wd K cl α1 m1 H1 -> c K H1 l vs
theorem itd_e {c : CQ} {l : Addr} {ds : List D} {vs : List V} (W : Wd K cl α m H) (h : Stays K cl c α H l vs) (r : RepL K α H ds vs) : ItD K cl α H (IteQ c K l) (enumD 0 ds) := fun i α1 m1 H1 E1 W1 => by
 have sq := h α1 m1 H1 E1 W1
 refine ⟨fun d e => ?_, fun e => ⟨vs, sq, by rw [e, enumD_len, r.length]⟩⟩
 obtain ⟨f, h1, rfl⟩ := enumD_get ds 0 i d e
 obtain ⟨v, h2, h3⟩ := (r.mono W E1).get h1
 refine ⟨⟨vs, v, sq, h2⟩, fun x H2 y => ?_⟩
 obtain ⟨T, y, hT, rfl, hy, rfl⟩ := y
 have := hy vs sq
 rw [h2] at this
 cases this
 refine ⟨Same.new hT, rep_new_tup W1 hT (RepL.two (by rw [Rep, Nat.zero_add]) h3)⟩
theorem itd_z {c1 c2 : CQ} {l1 l2 : Addr} {xs ys : List D} {vs us : List V} (W : Wd K cl α m H) (h : Stays K cl c1 α H l1 vs) (h' : Stays K cl c2 α H l2 us) (r : RepL K α H xs vs) (r' : RepL K α H ys us) (hl : xs.length <= ys.length) : ItD K cl α H (IteZQ c1 c2 K l1 l2) (zipD xs ys) := fun i α1 m1 H1 E1 W1 => by
 have sq := h α1 m1 H1 E1 W1
 have sq' := h' α1 m1 H1 E1 W1
 refine ⟨fun d e => ?_, fun e => ⟨vs, sq, by rw [e, zipD_len _ _ hl, r.length]⟩⟩
 obtain ⟨x, y, h1, h2, rfl⟩ := zipD_get xs ys i d e
 obtain ⟨v, h3, h4⟩ := (r.mono W E1).get h1
 obtain ⟨u, h5, h6⟩ := (r'.mono W E1).get h2
 refine ⟨⟨vs, us, v, u, sq, sq', h3, h5⟩, fun x H2 y => ?_⟩
 obtain ⟨T, x, y, hT, rfl, hx, hy, rfl⟩ := y
 have e1 := hx vs sq
 have e2 := hy us sq'
 rw [h3] at e1
 rw [h5] at e2
 cases e1
 cases e2
 exact ⟨Same.new hT, rep_new_tup W1 hT (RepL.two h4 h6)⟩
theorem stays_t {l : Addr} {vs : List V} (W : Wd K cl α m H) (h : SqT K H l vs) : Stays K cl SqT α H l vs := fun α1 m1 H1 E1 W1 => E1.sqt W h
theorem stays_l {l : Addr} {vs : List V} (n : l ∉ α) (h : Rd H l (.lst vs)) : Stays K cl SqL α H l vs := fun α1 m1 H1 E1 W1 => .inl (E1.rd h n)
end
section
variable {X : Cx} {cl : Str -> Addr} {ex : XD} {a b c e tg it : Expr} {es ifs : List Expr} {fa fb fc : EV} {ta tb : TV} {fr : AV} {pos p : Pos} {gt : GV}
theorem qi_seq (hq : QE X cl ex e fa) : QI X cl ex tg e (aIt fa) :=
 ⟨PI.weak (PI.or (pi_list hq.out) (PI.or (pi_tup hq.out) (pi_txt hq.out))) fun σ H R hh => ex3 hh fun α ρ m W hr q => by
  unfold aIt at q
  cases hf : fa ρ m with
  | bad => rw [hf] at q; exact q.elim
  | exc c m1 => exact .inl (tD.exc W hr hf q)
  | ok d m1 =>
   rw [hf] at q
   cases d with
   | lst ds =>
    refine .inl (tD.at W hr hf fun α1 H1 v E1 W1 hr1 rv => ?_)
    rw [Rep] at rv
    obtain ⟨l, vs, rfl, n, h1, h2⟩ := rv
    exact ⟨l, rfl, ⟨vs, .inl h1⟩, q α1 H1 E1 W1 _ (itd_l W1 n h1 h2)⟩
   | tup ds =>
    refine .inr (.inl (tD.at W hr hf fun α1 H1 v E1 W1 hr1 rv => ?_))
    rw [Rep] at rv
    obtain ⟨l, vs, rfl, h1, h2⟩ := rv
    exact ⟨l, rfl, ⟨vs, h1.sq⟩, q α1 H1 E1 W1 _ (itd_t W1 h1.sq h2)⟩
   | str z =>
    refine .inr (.inr (tD.at W hr hf fun α1 H1 v E1 W1 hr1 rv => ?_))
    rw [Rep] at rv
    exact ⟨z, rv, q α1 H1 E1 W1 _ (itd_f fun i α H => by rw [Rep]; rfl)⟩
   | scr ds =>
    refine .inl (tD.at W hr hf fun α1 H1 v E1 W1 hr1 rv => ?_)
    rw [Rep] at rv
    obtain ⟨l, vs, rfl, h1, h2⟩ := rv
    exact ⟨l, rfl, ⟨vs, h1.sq⟩, q α1 H1 E1 W1 _ (itd_s W1 h1 h2)⟩
   | _ => exact q.elim⟩
theorem qi_rng1 (hg : Gl X "range") (hm : X.mg "range" = none) (ha : QA X cl ex [a] fr) (hs : autoParam (starEach [a] X.env = [(false, eval a X.env)]) AutoP.a3._auto_1) : QI X cl ex tg (.Call (.Name "range" p) [a] [] pos) (aRng rng1 fr) :=
 ⟨PI.weak (pi_range1 hg hm ha.out hs) fun σ H R hh => ex3 hh fun α ρ m W hr q => tDA.use W hr q fun α1 m1 H1 d v E1 W1 hr1 rv q1 => by
  rw [rng1_eq] at q1; unfold rng1R at q1
  split at q1
  ·obtain ⟨h1, h2⟩ := PQ.if q1
   rw [RepL] at rv
   obtain ⟨v, r, rfl, a1, a2⟩ := rv
   rw [Rep] at a1
   rw [RepL] at a2
   subst a1 a2
   exact ⟨_, rfl, h1.1, h1.2, PQ.ok W1 h2 _ itd_r⟩
  ·exact q1.elim⟩
variable {elts : List Expr} {kt : Nat} {pt : Pos}
theorem qi_enum (hg : Gl X "enumerate") (hm : X.mg "enumerate" = none) (hq : QE X cl ex e fa) (hs : autoParam (starEach [e] X.env = [(false, eval e X.env)]) AutoP.a3._auto_1) : QI X cl ex (.Tuple elts kt pt) (.Call (.Name "enumerate" p) [e] [] pos) (aEnum fa) :=
 ⟨PI.weak (PI.or (pi_enumQL hg hm hq.out hs) (pi_enumQT hg hm hq.out hs)) fun σ H R hh => ex3 hh fun α ρ m W hr q => by
  unfold aEnum at q
  cases hf : fa ρ m with
  | bad => rw [hf] at q; exact q.elim
  | exc c m1 => exact .inl (tD.exc W hr hf q)
  | ok d m1 =>
   rw [hf] at q
   cases d with
   | lst ds =>
    refine .inl (tD.at W hr hf fun α1 H1 v E1 W1 hr1 rv => ?_)
    rw [Rep] at rv
    obtain ⟨l, vs, rfl, n, h1, h2⟩ := rv
    exact ⟨l, vs, rfl, .inl h1, q α1 H1 E1 W1 _ (itd_e W1 (stays_l n h1) h2)⟩
   | tup ds =>
    refine .inr (tD.at W hr hf fun α1 H1 v E1 W1 hr1 rv => ?_)
    rw [Rep] at rv
    obtain ⟨l, vs, rfl, h1, h2⟩ := rv
    exact ⟨l, vs, rfl, h1.sq, q α1 H1 E1 W1 _ (itd_e W1 (stays_t W1 h1.sq) h2)⟩
   | _ => exact q.elim⟩
theorem qi_zip (hg : Gl X "zip") (hm : X.mg "zip" = none) (h1 : QE X cl ex a fa) (h2 : QE X cl ex b fb) (hs : autoParam (starEach [a, b] X.env = (false, eval a X.env) :: starEach [b] X.env) AutoP.a3._auto_1) (hs2 : autoParam (starEach [b] X.env = [(false, eval b X.env)]) AutoP.a3._auto_1) : QI X cl ex (.Tuple elts kt pt) (.Call (.Name "zip" p) [a, b] [] pos) (aZip fa fb) :=
 ⟨PI.weak (PI.or (pi_zipQTL hg hm h1.out h2.out hs hs2) (pi_zipQTT hg hm h1.out h2.out hs hs2)) fun σ H R hh => ex3 hh fun α ρ m W hr q => by
  unfold aZip at q
  cases hf : fa ρ m with
  | bad => rw [hf] at q; exact q.elim
  | exc c m1 => exact .inl (tD.exc W hr hf q)
  | ok d m1 =>
   cases hf2 : fb ρ m1 with
   | bad => rw [hf] at q; exact absurd q (by show ¬ PQ X.K cl ex ((fb ρ m1).bind _) _ _ _; rw [hf2]; exact fun z => z)
   | exc c m2 =>
    refine .inl (tD.at W hr hf fun α1 H1 v E1 W1 hr1 rv => ?_)
    rw [hf] at q
    exact tD.exc (k := fun y m2 => zip2 d y m2) W1 hr1 hf2 (PQ.mono E1 q fun _ _ _ _ _ _ z => z)
   | ok d2 m2 =>
    rw [hf] at q
    have q' : PQ X.K cl ex ((fb ρ m1).bind fun y m2 => zip2 d y m2) α H fun ds α' _ H' => ∀ J, ItD X.K cl α' H' J ds -> R J H' := q
    rw [hf2] at q'
    have q2 : PQ X.K cl ex (zip2 d d2 m2) α H fun ds α' _ H' => ∀ J, ItD X.K cl α' H' J ds -> R J H' := q'
    unfold zip2 at q2
    split at q2
    ·obtain ⟨hl, q3⟩ := PQ.if q2
     refine .inr (tD.at W hr hf fun α1 H1 v E1 W1 hr1 rv => tD.at W1 hr1 hf2 fun α2 H2 v2 E2 W2 hr2 rv2 => ?_)
     have rv := rv.mono W1 E2
     rw [Rep] at rv rv2
     obtain ⟨l1, vs, rfl, h1, r1⟩ := rv
     obtain ⟨l2, us, rfl, h2, r2⟩ := rv2
     exact ⟨l1, l2, vs, us, rfl, h1.sq, h2.sq, q3 α2 H2 (E1.trans E2) W2 _ (itd_z W2 (stays_t W2 h1.sq) (stays_t W2 h2.sq) r1 r2 hl)⟩
    ·obtain ⟨hl, q3⟩ := PQ.if q2
     refine .inl (tD.at W hr hf fun α1 H1 v E1 W1 hr1 rv => tD.at W1 hr1 hf2 fun α2 H2 v2 E2 W2 hr2 rv2 => ?_)
     have rv := rv.mono W1 E2
     rw [Rep] at rv; rw [Rep] at rv2
     obtain ⟨l1, vs, rfl, h1, r1⟩ := rv
     obtain ⟨l2, us, rfl, n, h2, r2⟩ := rv2
     exact ⟨l1, l2, vs, us, rfl, h1.sq, .inl h2, q3 α2 H2 (E1.trans E2) W2 _ (itd_z W2 (stays_t W2 h1.sq) (stays_l n h2) r1 r2 hl)⟩
    ·exact q2.elim⟩
end
def finF (fl : Fl) (m : Sto) : Res D := match fl with
 | .nx _ => .ok .non m
 | .rt d => .ok d m
 | _ => .bad
def runF (n : Nat) (body : SV) : List D -> Sto -> Res D := fun ds m => (body (ds.map some ++ List.replicate (n - ds.length) none) m).bind finF
def spD (K : PySem.W.Frag) (cl : Str -> Addr) (ex : XD) (n : Nat) (g : List D -> Sto -> Res D) : Sp := fun vs H Q _ => vs.length = n /\ ∃ α m ds, Wd K cl α m H /\ RepL K α H ds vs /\ PQ K cl ex (g ds m) α H fun d α' _ H' => ∀ v, Rep K α' H' d v -> Q v H'
theorem repE_start {K : PySem.W.Frag} {α : List Addr} {H : Hp} {N : List Str} : ∀ {ds : List D} {vs : List V}, RepL K α H ds vs -> RepE K α H (ds.map some ++ List.replicate (N.length - ds.length) none) (L2.start N vs) := by
 intro ds vs r
 unfold L2.start
 rw [r.length]
 refine RepE.more ⟨by rw [List.length_map, List.length_map, r.length], fun i d e => ?_⟩ _
 rw [List.getElem?_map] at e
 cases h : ds[i]? with
 | none => rw [h] at e; cases e
 | some d' =>
  rw [h] at e
  cases e
  obtain ⟨v, h1, h2⟩ := r.get h
  exact ⟨v, by rw [List.getElem?_map, h1]; rfl, h2⟩
theorem fn_d {K : PySem.W.Frag} {cl : Str -> Addr} {ex : XD} {n : Nat} {N : List Str} {body : SV} {vs : List V} {H : Hp} {Q : VK} {E : XK} (h : spD K cl ex n (runF N.length body) vs H Q E) : tDS K cl ex body { nx := fun _ H' => Q .non H', rt := Q } (L2.start N vs) H := by
 obtain ⟨_, α, m, ds, W, r, q⟩ := h
 refine ⟨α, _, m, W, repE_start r, PQ.mono (Ext.refl W) q.bind fun fl α1 m1 H1 E1 W1 q1 => ?_⟩
 cases fl with
 | nx ρ => exact fun σ _ => PQ.ok W1 q1 _ (by rw [Rep])
 | rt d => exact PQ.ok W1 q1
 | bk ρ => exact q1.elim
 | ct ρ => exact q1.elim
def X0 : XD := fun _ _ _ _ => False
theorem qe_call {X : Cx} {cl : Str -> Addr} {e : Expr} {es : List Expr} {fr : AV} {p pos : Pos} {x : Str} {k n : Nat} {f : Addr} {fd : FuncData} {ps : List Str} {g : List D -> Sto -> Res D} (F : FnOk X.prog X.w X.K X.mg X.base CX0 k f fd ps (spD X.K cl X0 n g)) (hn : n = (e :: es).length) (hr : Room k X.A) (hg : Gl X x) (hm : X.mg x = some (.ref f)) (hk : PySem.W.keepIn X.K (.ref f) = true) (hb : Binds X.K fd ps [])
  (ha : QA X cl X0 (e :: es) fr) (hlen : ∀ ρ m ds m1, fr ρ m = .ok ds m1 -> ds.length = (e :: es).length) (hdb : autoParam ((x == ("__debug__" : Str)) = false) AutoP.a1._auto_1) (he : autoParam (starEach (e :: es) X.env = (false, eval e X.env) :: starEach es X.env) AutoP.a3._auto_1) (hpl : autoParam ((backTo pos (starEach es X.env)).any (·.1) = false) AutoP.a3._auto_1) :
  QE X cl X0 (.Call (.Name x p) (e :: es) [] pos) (eFn g fr) :=
 ⟨PE.weak (pe_call (E := E0) F hr hg hm hk hb .nil pass0 ha.out hdb he hpl) fun σ H Q hh => ex3 hh fun α ρ m W hr h => by
  unfold eFn at h
  cases hf : fr ρ m with
  | bad => rw [hf] at h; exact h.elim
  | exc c m1 => exact tDA.exc W hr hf h
  | ok ds m1 =>
   rw [hf] at h
   refine tDA.at W hr hf fun α1 H1 v E1 W1 hr1 rv => ?_
   refine ⟨?_, α1, m1, ds, W1, by rw [List.append_nil]; exact rv, PQ.mono E1 h fun _ _ _ _ _ _ z => z⟩
   rw [List.append_nil, <- rv.length, hlen ρ m ds m1 hf, hn]⟩
theorem aNil_len : ∀ ρ m ds m1, aNil ρ m = .ok ds m1 -> ds.length = ([] : List Expr).length := fun ρ m ds m1 h => by cases h; rfl
theorem aCons_len {fa : EV} {fr : AV} {e : Expr} {es : List Expr} (h : ∀ ρ m ds m1, fr ρ m = .ok ds m1 -> ds.length = es.length) : ∀ ρ m ds m1, aCons fa fr ρ m = .ok ds m1 -> ds.length = (e :: es).length := fun ρ m ds m1 q => by
 unfold aCons at q
 cases hf : fa ρ m with
 | ok x m2 =>
  rw [hf] at q
  have q : ((fr ρ m2).bind fun xs m3 => Res.ok (x :: xs) m3) = .ok ds m1 := q
  cases hr : fr ρ m2 with
  | ok xs m3 => rw [hr] at q; cases q; rw [List.length_cons, List.length_cons, h ρ m2 xs _ hr]
  | _ => rw [hr] at q; cases q
 | _ => rw [hf] at q; cases q
end MD
set_option autoImplicit false
namespace L2
open PySem PySem.Spec PyProof.Rows
section
variable {X : Cx}
def rCatQ (K : PySem.W.Frag) : R2 := fun x y H Q => ∃ a b xs ys, x = .ref a /\ y = .ref b /\ MD.TupAt K H a xs /\ MD.TupAt K H b ys /\ xs.length + ys.length <= sizeLine /\ ∀ r H', MD.TupAt K H' r (xs ++ ys) -> Same H H' -> Q (.ref r) H'
end
end L2
namespace MD
open PySem PySem.Spec PyProof.Rows L2
def addD (x y : D) (m : Sto) : Res D := match x, y with
 | .int i, .int j => .ok (.int (i + j)) m
 | .str a, .str b => if a.length + b.length <= sizeLine then .ok (.str (a ++ b)) m else .bad
 | .tup a, .tup b => if a.length + b.length <= sizeLine then .ok (.tup (a ++ b)) m else .bad
 | .lst a, .lst b => if a.length + b.length <= sizeLine then .ok (.lst (a ++ b)) m else .bad
 | _, _ => .bad
def subD (x y : D) (m : Sto) : Res D := match x, y with
 | .int i, .int j => .ok (.int (i - j)) m
 | _, _ => .bad
def mulR (x y : D) (m : Sto) : Res D := match x, y with
 | .int i, .int j => if (-(2 ^ 64) < i /\ i < 2 ^ 64) ∨ (-(2 ^ 64) < j /\ j < 2 ^ 64) then .ok (.int (i * j)) m else .bad
 | .str z, .int n => if 0 <= n /\ n <= 1000 /\ z.length <= 1000 then .ok (.str (Txt.mul z n)) m else .bad
 | .tup [d], .int n => if 1 <= n /\ n <= 1000 then .ok (.tup (List.replicate n.toNat d)) m else .bad
 | _, _ => .bad
theorem mulD_ex : ∃ f : D -> D -> Sto -> Res D, f = mulR := ⟨_, rfl⟩
def mulD : D -> D -> Sto -> Res D := Classical.choose mulD_ex
theorem mulD_eq : mulD = mulR := Classical.choose_spec mulD_ex
def fdivR (x y : D) (m : Sto) : Res D := match x, y with
 | .int i, .int j => if 0 < j /\ j < 2 ^ 64 then .ok (.int (i / j)) m else .bad
 | _, _ => .bad
theorem fdivD_ex : ∃ f : D -> D -> Sto -> Res D, f = fdivR := ⟨_, rfl⟩
def fdivD : D -> D -> Sto -> Res D := Classical.choose fdivD_ex
theorem fdivD_eq : fdivD = fdivR := Classical.choose_spec fdivD_ex
def modD (x y : D) (m : Sto) : Res D := match x, y with
 | .int i, .int j => if 0 < j then .ok (.int (i % j)) m else .bad
 | _, _ => .bad
def powR (x y : D) (m : Sto) : Res D := match x, y with
 | .int i, .int j => if 0 <= j /\ j <= 1000000 /\ i.natAbs < 2 ^ 64 then .ok (.int (i ^ j.toNat)) m else .bad
 | _, _ => .bad
theorem powD_ex : ∃ f : D -> D -> Sto -> Res D, f = powR := ⟨_, rfl⟩
def powD : D -> D -> Sto -> Res D := Classical.choose powD_ex
theorem powD_eq : powD = powR := Classical.choose_spec powD_ex
def shlR (x y : D) (m : Sto) : Res D := match x, y with
 | .int i, .int j => if 0 <= j /\ j <= 1000000 /\ i.natAbs < 2 ^ 64 then .ok (.int (i * 2 ^ j.toNat)) m else .bad
 | _, _ => .bad
theorem shlD_ex : ∃ f : D -> D -> Sto -> Res D, f = shlR := ⟨_, rfl⟩
def shlD : D -> D -> Sto -> Res D := Classical.choose shlD_ex
theorem shlD_eq : shlD = shlR := Classical.choose_spec shlD_ex
def negD (x : D) (m : Sto) : Res D := match x with
 | .int i => .ok (.int (-i)) m
 | _ => .bad
section
variable {X : Cx} {K : PySem.W.Frag} {cl : Str -> Addr} {ex : XD}
theorem repI {α : List Addr} {H : Hp} {i : Int} : Rep K α H (.int i) (.int i) := by rw [Rep]
theorem repS {α : List Addr} {H : Hp} {i : Str} : Rep K α H (.str i) (.str i) := by rw [Rep]
theorem repB {α : List Addr} {H : Hp} {i : Bool} : Rep K α H (.bl i) (.bl i) := by rw [Rep]
theorem repN {α : List Addr} {H : Hp} : Rep K α H .non .non := by rw [Rep]
theorem od_sub : OpD K cl ex (rI0 fun i j => .int (i - j)) subD := fun α m H x y vx vy Q W rx ry h => by
 unfold subD at h
 split at h
 ·rw [Rep] at rx ry; exact ⟨_, _, rx, ry, PQ.ok W h _ repI⟩
 ·exact h.elim
theorem od_fdiv : OpD K cl ex (rI (fun _ j => 0 < j /\ j < 2 ^ 64) fun i j => .int (i / j)) fdivD := fun α m H x y vx vy Q W rx ry h => by
 rw [fdivD_eq] at h; unfold fdivR at h
 split at h
 ·rw [Rep] at rx ry; obtain ⟨hc, h⟩ := PQ.if h; exact ⟨_, _, rx, ry, hc, PQ.ok W h _ repI⟩
 ·exact h.elim
theorem od_mod : OpD K cl ex (rI (fun _ j => 0 < j) fun i j => .int (i % j)) modD := fun α m H x y vx vy Q W rx ry h => by
 unfold modD at h
 split at h
 ·rw [Rep] at rx ry; obtain ⟨hc, h⟩ := PQ.if h; exact ⟨_, _, rx, ry, hc, PQ.ok W h _ repI⟩
 ·exact h.elim
theorem od_pow : OpD K cl ex (rI CPow fun i j => .int (i ^ j.toNat)) powD := fun α m H x y vx vy Q W rx ry h => by
 rw [powD_eq] at h; unfold powR at h
 split at h
 ·rw [Rep] at rx ry; obtain ⟨hc, h⟩ := PQ.if h; exact ⟨_, _, rx, ry, hc, PQ.ok W h _ repI⟩
 ·exact h.elim
theorem od_shl : OpD K cl ex (rI CPow fun i j => .int (i * 2 ^ j.toNat)) shlD := fun α m H x y vx vy Q W rx ry h => by
 rw [shlD_eq] at h; unfold shlR at h
 split at h
 ·rw [Rep] at rx ry; obtain ⟨hc, h⟩ := PQ.if h; exact ⟨_, _, rx, ry, hc, PQ.ok W h _ repI⟩
 ·exact h.elim
theorem ud_neg : UnD K cl ex (rU fun i => .int (-i)) negD := fun α m H x vx Q W rx h => by
 unfold negD at h
 split at h
 ·rw [Rep] at rx; exact ⟨_, rx, PQ.ok W h _ repI⟩
 ·exact h.elim
theorem op_catQ : OpR X (binaryOp .Add) (rCatQ X.K) := by
 intro pins s σ H x y v u Q I rx ry h
 obtain ⟨a, b, xs, ys, rfl, rfl, ha, hb, hz, q⟩ := h
 by_cases hx : xs = []
 ·subst hx
  cases rx
  cases ry
  obtain ⟨its, r1, p1, _⟩ := I.tuple ha.sq
  obtain ⟨its2, r2, p2, _⟩ := I.tuple hb.sq
  cases r1
  obtain ⟨⟨cls, dd, data, sl⟩, ho, hc, n, hd⟩ := id p1
  obtain ⟨⟨cls2, dd2, data2, sl2⟩, ho2, hc2, n2, hd2⟩ := id p2
  simp only at hc hd hc2 hd2
  subst hc hd hc2 hd2
  exact concat_meets ⟨_, ho, rfl⟩ ⟨_, ho2, rfl⟩ noFill_tuple_add seq_tuple_add PySem.F.slot_tuple_add PySem.F.entry_tuple_add (PySem.F.args_tuple_add_2 _ _)
   (tuple_addW0 a b #[] its2.toArray n n2 dd dd2 sl sl2 rfl) ⟨ho, ho2, ⟨.ref b, H, I, rfl, q b H (by rw [List.nil_append]; exact hb) (L2.Same.refl H)⟩⟩
 ·refine op_catT pins s σ H (.ref a) (.ref b) v u Q I rx ry ⟨a, b, xs, ys, rfl, rfl, ha.sq, hb.sq, hx, hz, fun e => ?_, fun _ p hp => ?_⟩
  ·subst e
   exact q a H (by rw [List.append_nil]; exact ha) (L2.Same.refl H)
  ·exact q p _ (.inl upd_same) (MD.Same.new hp)
def rCatR : R2 := fun x y H Q => ∃ l b xs zs, x = .ref l /\ y = .ref b /\ Rd H l (.lst xs) /\ Rd H b (.lst zs) /\ xs.length + zs.length <= sizeLine /\ ∀ p, H p = none -> Q (.ref p) (upd H p (.lst (xs ++ zs)))
theorem op_catR : OpR X (binaryOp .Add) rCatR := by
 intro pins s σ H x y v u Q I rx ry h
 obtain ⟨l, b, xs, zs, rfl, rfl, hH, hB, hz, q⟩ := h
 cases rx
 cases ry
 obtain ⟨z, its, n, r, e⟩ := hH.ok I.hok
 obtain ⟨z2, its2, n2, r2, e2⟩ := hB.ok I.hok
 have hl := r.length
 have hl2 := r2.length
 refine PySem.P.add_list e e2 ?_ (by rw [List.size_toArray, List.size_toArray]; omega)
 have ea : its.toArray ++ its2.toArray = (its ++ its2).toArray := by simp
 rw [ea]
 exact ⟨.ref _, _, I.lnew (t' := s.toks) (r.append r2) (by rw [List.length_append]; omega), rfl, q _ I.fresh⟩
def rAddA (K : PySem.W.Frag) : R2 := fun x y H Q => (rI0 (fun i j => .int (i + j))) x y H Q ∨ (∃ i j, x = .str i /\ y = .str j /\ i.length + j.length <= sizeLine /\ Q (.str (i ++ j)) H) ∨ rCatQ K x y H Q ∨ rCatR x y H Q
theorem op_addA : OpR X (binaryOp .Add) (rAddA X.K) := OpR.or op_add (OpR.or op_add_str (OpR.or op_catQ op_catR))
theorem od_add : OpD K cl ex (rAddA K) addD := fun α m H x y vx vy Q W rx ry h => by
 unfold addD at h
 split at h
 ·rw [Rep] at rx ry; exact .inl ⟨_, _, rx, ry, PQ.ok W h _ repI⟩
 ·rw [Rep] at rx ry; obtain ⟨hc, h⟩ := PQ.if h; exact .inr (.inl ⟨_, _, rx, ry, hc, PQ.ok W h _ repS⟩)
 ·obtain ⟨hc, h⟩ := PQ.if h
  rw [Rep] at rx ry
  obtain ⟨a, xs, rfl, h1, r1⟩ := rx
  obtain ⟨b, ys, rfl, h2, r2⟩ := ry
  refine .inr (.inr (.inl ⟨a, b, xs, ys, rfl, rfl, h1, h2, by rw [<- r1.length, <- r2.length]; exact hc, fun r H' hr sm => ?_⟩))
  exact PQ.okS W sm h _ (by rw [Rep]; exact ⟨r, _, rfl, hr, (RepL.append r1 r2).mono W (Ext.of_same W sm)⟩)
 ·obtain ⟨hc, h⟩ := PQ.if h
  rw [Rep] at rx ry
  obtain ⟨a, xs, rfl, n1, h1, r1⟩ := rx
  obtain ⟨b, ys, rfl, n2, h2, r2⟩ := ry
  refine .inr (.inr (.inr ⟨a, b, xs, ys, rfl, rfl, h1, h2, by rw [<- r1.length, <- r2.length]; exact hc, fun p hp => ?_⟩))
  exact PQ.okS W (Same.new hp) h _ (rep_lst W hp (RepL.append r1 r2))
 ·exact h.elim
def rMulQ (K : PySem.W.Frag) : R2 := fun x y H Q => ∃ a v n, x = .ref a /\ y = .int n /\ TupAt K H a [v] /\ 1 <= n /\ n <= 1000 /\ ∀ r H', TupAt K H' r (List.replicate n.toNat v) -> L2.Same H H' -> Q (.ref r) H'
theorem op_mulQ : OpR X (binaryOp .Mult) (rMulQ X.K) := by
 intro pins s σ H x y v u Q I rx ry h
 obtain ⟨a, w, n, rfl, rfl, ha, n1, n2, q⟩ := h
 cases rx
 obtain ⟨t, rfl⟩ := ry
 obtain ⟨its, r1, p1, _⟩ := I.tuple ha.sq
 obtain ⟨u, rfl, ru⟩ := vals1 r1
 obtain ⟨⟨cls, dd, data, sl⟩, ho, hc, k, hd⟩ := id p1
 simp only at hc hd
 subst hc hd
 refine wpAny_binaryOp_repeat_ref (by decide) ⟨_, ho, rfl⟩ (fun s' => typeIs_int s' n t) noFill_tuple_mul F.fills_int_mul F.slot_int_rmul repeat_tuple F.slot_int_index.lookup
  (call_meets F.slot_int_rmul (typeIs_int s n t) F.entry_int_rmul (F.args_int_rmul_2 _ _) (int_rmul_tup n t a _ k dd sl) ⟨ho, rfl, ⟨_, ho, rfl⟩, ?_⟩)
 by_cases e : n = 1
 ·subst e
  exact call_meets F.slot_tuple_mul ⟨_, ho, rfl⟩ F.entry_tuple_mul (F.args_tuple_mul_2 _ _) (tup_mul1 a u t k dd sl) ⟨ho, ⟨.ref a, H, I, rfl, q a H ha (L2.Same.refl H)⟩⟩
 ·refine call_meets F.slot_tuple_mul ⟨_, ho, rfl⟩ F.entry_tuple_mul (F.args_tuple_mul_2 _ _) (tup_mulN a u n t k dd sl (by omega) n2) ⟨ho, ?_⟩
  rw [fold_rep]
  have z : (List.replicate n.toNat w).length <= sizeLine := by
   rw [List.length_replicate]
   have : sizeLine = 16777216 := by decide
   omega
  exact ⟨.ref s.heap.objs.size, upd H s.heap.objs.size (.tup (List.replicate n.toNat w)), I.laid (t' := s.toks) (fun b o e => Heap.get?_push_of_some _ e) (Nat.le_refl _) ⟨z, List.replicate n.toNat u, vals_rep ru _, ⟨_, Heap.get?_push_size _ rfl, rfl, 0, rfl⟩, _, Heap.get?_push_size _ rfl, rfl⟩, rfl, q _ _ (.inl upd_same) (Same.new (I.hok.fresh (Nat.le_refl _)))⟩
theorem mulOk_small {z : Str} {n : Int} (h : 0 <= n /\ n <= 1000 /\ z.length <= 1000) : MulOk z n := by
 obtain ⟨h0, h1, h2⟩ := h
 refine ⟨by simp; omega, fun h3 _ => ?_, fun h3 _ => ?_⟩
 ·have h4 : (1000 : Int) <= (2 ^ 63 - 1) / n := (Int.le_ediv_iff_mul_le (by omega)).mpr (by omega)
  omega
 ·have h6 : z.length * n.toNat <= 1000 * 1000 := Nat.mul_le_mul h2 (by omega)
  have h7 := sizeLine_eq
  unfold Builtin.Str.tooLong
  simp
  omega
def rMulA (K : PySem.W.Frag) : R2 := fun x y H Q => (rI CMul fun i j => .int (i * j)) x y H Q ∨ (∃ z n, x = .str z /\ y = .int n /\ MulOk z n /\ Q (.str (Txt.mul z n)) H) ∨ rMulQ K x y H Q
theorem op_mulA : OpR X (binaryOp .Mult) (rMulA X.K) := OpR.or op_mul (OpR.or op_mul_str op_mulQ)
theorem RepL.rep {α : List Addr} {H : Hp} {d : D} {v : V} (h : Rep K α H d v) : ∀ n : Nat, RepL K α H (List.replicate n d) (List.replicate n v)
 | 0 => by simp [RepL]
 | n + 1 => by
  rw [List.replicate_succ, List.replicate_succ, RepL]
  exact ⟨v, _, rfl, h, RepL.rep h n⟩
theorem od_mul : OpD K cl ex (rMulA K) mulD := fun α m H x y vx vy Q W rx ry h => by
 rw [mulD_eq] at h; unfold mulR at h
 split at h
 ·rw [Rep] at rx ry; obtain ⟨hc, h⟩ := PQ.if h; exact .inl ⟨_, _, rx, ry, hc, PQ.ok W h _ repI⟩
 ·rw [Rep] at rx; rw [Rep] at ry; obtain ⟨hc, h⟩ := PQ.if h; exact .inr (.inl ⟨_, _, rx, ry, mulOk_small hc, PQ.ok W h _ repS⟩)
 ·obtain ⟨hc, h⟩ := PQ.if h
  rw [Rep] at rx
  rw [Rep] at ry
  obtain ⟨a, xs, rfl, h1, r1⟩ := rx
  rw [RepL] at r1
  obtain ⟨v, r, rfl, rv, r2⟩ := r1
  rw [RepL] at r2
  subst r2
  refine .inr (.inr ⟨a, v, _, rfl, ry, h1, hc.1, hc.2, fun r H' hr sm => ?_⟩)
  exact PQ.okS W sm h _ (by rw [Rep]; exact ⟨r, _, rfl, hr, (RepL.rep rv _).mono W (Ext.of_same W sm)⟩)
 ·exact h.elim
end
mutual
def py : D -> PyData
 | .bl b => .bool b
 | .int i => .int i
 | .str x => .str x
 | .tup ds => .tuple (pyL ds)
 | .lst ds => .list (pyL ds)
 | _ => .none
def pyL : List D -> List PyData
 | [] => []
 | d :: r => py d :: pyL r
end
mutual
def pyOk : D -> Bool
 | .non => true
 | .bl _ => true
 | .int _ => true
 | .str _ => true
 | .tup ds => pyOkL ds
 | .lst ds => pyOkL ds
 | _ => false
def pyOkL : List D -> Bool
 | [] => true
 | d :: r => pyOk d && pyOkL r
end
def deep (d : D) : Bool := pyOk d && SeqAt.shaped (py d)
def eqB (x y : D) : Option Bool := match x, y with
 | .int i, .int j => some (decide (i = j))
 | .str a, .str b => some (decide (a = b))
 | .bl a, .bl b => some (decide (a = b))
 | .non, .non => some true
 | .non, .int _ => some false
 | .non, .str _ => some false
 | .non, .bl _ => some false
 | .int _, .non => some false
 | .str _, .non => some false
 | .bl _, .non => some false
 | .int _, .str _ => some false
 | .str _, .int _ => some false
 | .bl _, .str _ => some false
 | .str _, .bl _ => some false
 | x, y => if deep x && deep y then some (PyData.eqv (py x) (py y)) else none
def rs (m : Sto) (d : D) : D := match d with
 | .ob k => match m[k]? with
  | some (.lst xs) => .lst xs
  | _ => .ob k
 | d => d
def eqD (x y : D) (m : Sto) : Res D := match eqB (rs m x) (rs m y) with
 | some b => .ok (.bl b) m
 | none => .bad
def neD (x y : D) (m : Sto) : Res D := match eqB (rs m x) (rs m y) with
 | some b => .ok (.bl (!b)) m
 | none => .bad
section
variable {X : Cx} {K : PySem.W.Frag} {cl : Str -> Addr} {ex : XD} {pins : List (Addr × Obj)} {σ : L2.St} {H : Hp} {s : Shared} {α : List Addr}
mutual
theorem rep_reads (I : Inv X pins σ H s) : ∀ {d : D} {v : V} {u : Value}, pyOk d = true -> Rep X.K α H d v -> RelV v u -> ∃ as, Reads s.heap u (py d) as
 | .non, v, u, _, r, rv => by rw [Rep] at r; subst r; cases rv; exact ⟨_, .none⟩
 | .bl b, v, u, _, r, rv => by rw [Rep] at r; subst r; cases rv; exact ⟨_, .bool b⟩
 | .int i, v, u, _, r, rv => by rw [Rep] at r; subst r; obtain ⟨t, rfl⟩ := rv; exact ⟨_, .int i t⟩
 | .str x, v, u, _, r, rv => by rw [Rep] at r; subst r; obtain ⟨t, rfl⟩ := rv; exact ⟨_, .str x t⟩
 | .tup ds, v, u, ok, r, rv => by
  rw [Rep] at r
  obtain ⟨a, xs, rfl, h1, h2⟩ := r
  cases rv
  obtain ⟨its, r1, ⟨o, e1, e2, n, e3⟩, _⟩ := I.tuple h1.sq
  obtain ⟨as, h⟩ := rep_readsL I (by rw [pyOk] at ok; exact ok) h2 r1
  exact ⟨as, .tuple e1 e2 e3 (by simpa using h)⟩
 | .lst ds, v, u, ok, r, rv => by
  rw [Rep] at r
  obtain ⟨a, xs, rfl, _, h1, h2⟩ := r
  cases rv
  obtain ⟨its, r1, ⟨o, n, e1, e2, _, e3⟩, _⟩ := I.list (xs := xs) (.inl h1)
  obtain ⟨as, h⟩ := rep_readsL I (by rw [pyOk] at ok; exact ok) h2 r1
  exact ⟨_, .list e1 e2 e3 (by simpa using h)⟩
 | .flt _, _, _, ok, _, _ => by simp [pyOk] at ok
 | .byt _, _, _, ok, _, _ => by simp [pyOk] at ok
 | .exn _ _, _, _, ok, _, _ => by simp [pyOk] at ok
 | .ob _, _, _, ok, _, _ => by simp [pyOk] at ok
 | .scr _, _, _, ok, _, _ => by simp [pyOk] at ok
theorem rep_readsL (I : Inv X pins σ H s) : ∀ {ds : List D} {vs : List V} {us : List Value}, pyOkL ds = true -> RepL X.K α H ds vs -> Vals vs us -> ∃ as, ReadsAll s.heap us (pyL ds) as
 | [], vs, us, _, r, rv => by rw [RepL] at r; subst r; cases rv; exact ⟨_, .nil⟩
 | d :: ds, vs, us, ok, r, rv => by
  rw [RepL] at r
  obtain ⟨v, r', rfl, h1, h2⟩ := r
  rw [pyOkL, Bool.and_eq_true] at ok
  cases rv with
  | cons a b =>
   obtain ⟨as, q1⟩ := rep_reads I ok.1 h1 a
   obtain ⟨bs, q2⟩ := rep_readsL I ok.2 h2 b
   exact ⟨_, .cons q1 q2⟩
end
def rDeep (K : PySem.W.Frag) (f : Bool -> Bool) : R2 := fun vx vy H Q => ∃ x y α, Rep K α H x vx /\ Rep K α H y vy /\ deep x = true /\ deep y = true /\ Q (.bl (f (PyData.eqv (py x) (py y)))) H
theorem op_eqDeep (hu : X.A.units + 64 < cLine) : OpR X (compareOp .Eq) (rDeep X.K id) := by
 intro pins s σ H vx vy v u Q I rx ry h
 obtain ⟨x, y, α, r1, r2, d1, d2, q⟩ := h
 rw [deep, Bool.and_eq_true] at d1 d2
 obtain ⟨as, h1⟩ := rep_reads I d1.1 r1 rx
 obtain ⟨bs, h2⟩ := rep_reads I d2.1 r2 ry
 exact eq_dataH h1 h2 d1.2 d2.2 hu ⟨.bl _, H, I, rfl, q⟩
theorem op_neDeep (hu : X.A.units + 64 < cLine) : OpR X (compareOp .NotEq) (rDeep X.K not) := by
 intro pins s σ H vx vy v u Q I rx ry h
 obtain ⟨x, y, α, r1, r2, d1, d2, q⟩ := h
 rw [deep, Bool.and_eq_true] at d1 d2
 obtain ⟨as, h1⟩ := rep_reads I d1.1 r1 rx
 obtain ⟨bs, h2⟩ := rep_reads I d2.1 r2 ry
 exact ne_dataH h1 h2 d1.2 d2.2 hu ⟨.bl _, H, I, rfl, q⟩
def rEqA (K : PySem.W.Frag) : R2 := fun x y H Q => rEq x y H Q ∨ rDeep K id x y H Q
def rNeA (K : PySem.W.Frag) : R2 := fun x y H Q => rNe x y H Q ∨ rDeep K not x y H Q
theorem op_eqA (hu : X.A.units + 64 < cLine) : OpR X (compareOp .Eq) (rEqA X.K) := OpR.or op_eq (op_eqDeep hu)
theorem op_neA (hu : X.A.units + 64 < cLine) : OpR X (compareOp .NotEq) (rNeA X.K) := OpR.or op_ne (op_neDeep hu)
mutual
theorem Rep.bare {K : PySem.W.Frag} {α : List Addr} {H : Hp} : ∀ {d : D} {v : V}, pyOk d = true -> Rep K α H d v -> Rep K [] H d v
 | .non, _, _, h => by simpa [Rep] using h
 | .bl _, _, _, h => by simpa [Rep] using h
 | .int _, _, _, h => by simpa [Rep] using h
 | .str _, _, _, h => by simpa [Rep] using h
 | .flt _, _, c, _ => by simp [pyOk] at c
 | .byt _, _, c, _ => by simp [pyOk] at c
 | .exn _ _, _, c, _ => by simp [pyOk] at c
 | .ob _, _, c, _ => by simp [pyOk] at c
 | .scr _, _, c, _ => by simp [pyOk] at c
 | .tup ds, _, c, h => by
  rw [Rep] at h ⊢
  obtain ⟨a, xs, e, h1, h2⟩ := h
  rw [pyOk] at c
  exact ⟨a, xs, e, h1, RepL.bare c h2⟩
 | .lst ds, _, c, h => by
  rw [Rep] at h ⊢
  obtain ⟨a, xs, e, n, h1, h2⟩ := h
  rw [pyOk] at c
  exact ⟨a, xs, e, (by simp), h1, RepL.bare c h2⟩
theorem RepL.bare {K : PySem.W.Frag} {α : List Addr} {H : Hp} : ∀ {ds : List D} {vs : List V}, pyOkL ds = true -> RepL K α H ds vs -> RepL K [] H ds vs
 | [], _, _, h => by rw [RepL] at h ⊢; exact h
 | _ :: _, _, c, h => by
  rw [RepL] at h ⊢
  obtain ⟨v, r, e, h1, h2⟩ := h
  rw [pyOkL, Bool.and_eq_true] at c
  exact ⟨v, r, e, Rep.bare c.1 h1, RepL.bare c.2 h2⟩
end
def RepW (K : PySem.W.Frag) (α : List Addr) (H : Hp) (x : D) (v : V) : Prop := Rep K α H x v ∨ ∃ xs a ys, x = .lst xs /\ v = .ref a /\ H a = some (.lst ys) /\ RepL K α H xs ys
theorem RepW.bare {x : D} {v : V} (c : deep x = true) (h : RepW K α H x v) : Rep K [] H x v := by
 rw [deep, Bool.and_eq_true] at c
 rcases h with h | ⟨xs, a, ys, rfl, rfl, h1, h2⟩
 ·exact h.bare c.1
 ·rw [Rep]
  have c1 := c.1
  rw [pyOk] at c1
  exact ⟨a, ys, rfl, (by simp), .inl h1, h2.bare c1⟩
theorem rs_rep {m : Sto} (W : Wd K cl α m H) {x : D} {v : V} (r : Rep K α H x v) : RepW K α H (rs m x) v := by
 unfold rs
 split
 ·split
  ·rename_i xs hx
   rw [Rep] at r
   obtain ⟨a, h1, rfl⟩ := r
   obtain ⟨ys, h2, h3⟩ := (show MoRep K cl α H a (.lst xs) from W.at' _ a _ h1 hx)
   exact .inr ⟨_, a, ys, rfl, rfl, h2, h3⟩
  ·exact .inl r
 ·exact .inl r
theorem eqB_use {x y : D} {vx vy : V} {b : Bool} (e : eqB x y = some b) (rx : RepW K α H x vx) (ry : RepW K α H y vy) : (scal vx vy = true /\ decide (vx = vy) = b) ∨ (deep x = true /\ deep y = true /\ PyData.eqv (py x) (py y) = b) := by
 unfold eqB at e
 split at e
 case h_15 =>
  split at e
  ·rename_i hc
   rw [Bool.and_eq_true] at hc
   exact .inr ⟨hc.1, hc.2, Option.some.inj e⟩
  ·cases e
 all_goals (
  rcases rx with rx | ⟨_, _, _, z, _⟩
  case inr => cases z
  rcases ry with ry | ⟨_, _, _, z, _⟩
  case inr => cases z
  rw [Rep] at rx; rw [Rep] at ry; subst rx ry; refine .inl ⟨rfl, ?_⟩; rw [<- Option.some.inj e]; simp)
theorem od_eq : OpD K cl ex (rEqA K) eqD := fun α m H x y vx vy Q W rx ry h => by
 unfold eqD at h
 split at h
 ·rename_i b e
  have rx := rs_rep W rx
  have ry := rs_rep W ry
  rcases eqB_use e rx ry with ⟨h1, h2⟩ | ⟨h1, h2, h3⟩
  ·exact .inl ⟨h1, by rw [h2]; exact PQ.ok W h _ repB⟩
  ·exact .inr ⟨_, _, [], rx.bare h1, ry.bare h2, h1, h2, by rw [h3]; exact PQ.ok W h _ repB⟩
 ·exact h.elim
theorem od_ne : OpD K cl ex (rNeA K) neD := fun α m H x y vx vy Q W rx ry h => by
 unfold neD at h
 split at h
 ·rename_i b e
  have rx := rs_rep W rx
  have ry := rs_rep W ry
  rcases eqB_use e rx ry with ⟨h1, h2⟩ | ⟨h1, h2, h3⟩
  ·exact .inl ⟨h1, by rw [h2]; exact PQ.ok W h _ repB⟩
  ·exact .inr ⟨_, _, [], rx.bare h1, ry.bare h2, h1, h2, by rw [h3]; exact PQ.ok W h _ repB⟩
 ·exact h.elim
end
def ltS (x y : Str) : Bool := decide (x.cps.toList < y.cps.toList)
def ltD (x y : D) (m : Sto) : Res D := match x, y with
 | .int i, .int j => .ok (.bl (decide (i < j))) m
 | .str a, .str b => .ok (.bl (ltS a b)) m
 | _, _ => .bad
def leD (x y : D) (m : Sto) : Res D := match x, y with
 | .int i, .int j => .ok (.bl (decide (i <= j))) m
 | .str a, .str b => .ok (.bl (!ltS b a)) m
 | _, _ => .bad
def gtD (x y : D) (m : Sto) : Res D := match x, y with
 | .int i, .int j => .ok (.bl (decide (j < i))) m
 | _, _ => .bad
def geD (x y : D) (m : Sto) : Res D := match x, y with
 | .int i, .int j => .ok (.bl (decide (j <= i))) m
 | _, _ => .bad
def isB (x y : D) : Option Bool := match x, y with
 | .bl a, .bl b => some (a == b)
 | .non, .non => some true
 | _, .non => some false
 | _, _ => none
def isD (x y : D) (m : Sto) : Res D := match isB x y with
 | some b => .ok (.bl b) m
 | none => .bad
def isntD (x y : D) (m : Sto) : Res D := match isB x y with
 | some b => .ok (.bl (!b)) m
 | none => .bad
section
variable {X : Cx} {K : PySem.W.Frag} {cl : Str -> Addr} {ex : XD}
def rLtA : R2 := fun x y H Q => (rI0 (fun i j => .bl (decide (i < j)))) x y H Q ∨ ∃ i j, x = .str i /\ y = .str j /\ Q (.bl (decide (i.cps.toList < j.cps.toList))) H
theorem op_ltA : OpR X (compareOp .Lt) rLtA := OpR.or op_lt op_lt_str
theorem od_lt : OpD K cl ex rLtA ltD := fun α m H x y vx vy Q W rx ry h => by
 unfold ltD at h
 split at h
 ·rw [Rep] at rx ry; exact .inl ⟨_, _, rx, ry, PQ.ok W h _ repB⟩
 ·rw [Rep] at rx ry; exact .inr ⟨_, _, rx, ry, PQ.ok W h _ repB⟩
 ·exact h.elim
theorem od_gt : OpD K cl ex (rI0 (fun i j => .bl (decide (j < i)))) gtD := fun α m H x y vx vy Q W rx ry h => by
 unfold gtD at h
 split at h
 ·rw [Rep] at rx ry; exact ⟨_, _, rx, ry, PQ.ok W h _ repB⟩
 ·exact h.elim
theorem od_ge : OpD K cl ex (rI0 (fun i j => .bl (decide (j <= i)))) geD := fun α m H x y vx vy Q W rx ry h => by
 unfold geD at h
 split at h
 ·rw [Rep] at rx ry; exact ⟨_, _, rx, ry, PQ.ok W h _ repB⟩
 ·exact h.elim
def rIs (f : Bool -> Bool) : R2 := fun x y H Q => (y = .non /\ Q (.bl (f (decide (x = .non)))) H) ∨ ∃ b c, x = .bl b /\ y = .bl c /\ Q (.bl (f (b == c))) H
theorem op_isA : OpR X (compareOp .Is) (rIs id) := OpR.or op_isN op_isT
theorem op_isntA : OpR X (compareOp .IsNot) (rIs not) := OpR.or op_notN op_isntT
def isNon : D -> Bool
 | .non => true
 | _ => false
theorem rep_non {α : List Addr} {H : Hp} {x : D} {vx : V} (rx : Rep K α H x vx) : decide (vx = .non) = isNon x := by
 cases x <;> rw [Rep] at rx
 case ob => obtain ⟨_, _, rfl⟩ := rx; rfl
 case tup => obtain ⟨_, _, rfl, _⟩ := rx; rfl
 case lst => obtain ⟨_, _, rfl, _⟩ := rx; rfl
 case scr => obtain ⟨_, _, rfl, _⟩ := rx; rfl
 case exn => obtain ⟨_, _, _, _, rfl, _⟩ := rx; rfl
 all_goals (subst rx; rfl)
theorem isB_use {α : List Addr} {H : Hp} {x y : D} {vx vy : V} {b : Bool} {f : Bool -> Bool} {Q : VK} (e : isB x y = some b) (rx : Rep K α H x vx) (ry : Rep K α H y vy) (q : Q (.bl (f b)) H) : rIs f vx vy H Q := by
 unfold isB at e
 split at e
 ·rw [Rep] at rx ry
  exact .inr ⟨_, _, rx, ry, by rw [Option.some.inj e]; exact q⟩
 ·have h := rep_non rx
  rw [Rep] at ry
  exact .inl ⟨ry, by rw [h]; show Q (.bl (f true)) H; rw [Option.some.inj e]; exact q⟩
 ·rename_i hn
  have h := rep_non rx
  rw [Rep] at ry
  refine .inl ⟨ry, ?_⟩
  have : isNon x = false := by
   cases x with
   | non => exact (hn rfl).elim
   | _ => rfl
  rw [h, this, Option.some.inj e]
  exact q
 ·cases e
theorem od_is : OpD K cl ex (rIs id) isD := fun α m H x y vx vy Q W rx ry h => by
 unfold isD at h
 split at h
 ·exact isB_use (f := id) ‹_› rx ry (PQ.ok W h _ repB)
 ·exact h.elim
theorem od_isnt : OpD K cl ex (rIs not) isntD := fun α m H x y vx vy Q W rx ry h => by
 unfold isntD at h
 split at h
 ·exact isB_use (f := not) ‹_› rx ry (PQ.ok W h _ repB)
 ·exact h.elim
end
section
variable {K : PySem.W.Frag} {cl : Str -> Addr} {ex : XD} {α : List Addr} {m : Sto} {H : Hp}
theorem Wd.lst (W : Wd K cl α m H) {k : Nat} {a : Addr} {ds : List D} (h1 : α[k]? = some a) (h2 : m[k]? = some (.lst ds)) : ∃ xs, H a = some (.lst xs) /\ RepL K α H ds xs := W.at' k a _ h1 h2
theorem Wd.dct (W : Wd K cl α m H) {k : Nat} {a : Addr} {ds : List (L2.Key × D)} (h1 : α[k]? = some a) (h2 : m[k]? = some (.dct ds)) : ∃ xs, H a = some (.dK xs) /\ RepKV K α H ds xs := W.at' k a _ h1 h2
theorem Wd.set (W : Wd K cl α m H) {k : Nat} {a : Addr} {u : HO} {o : MO} (h1 : α[k]? = some a) (h2 : ∀ _ : Ext α H α (upd H a u), MoRep K cl α (upd H a u) a o) (hn : autoParam (∀ o v, H a ≠ some (.frz o v)) AutoP.a5._auto_1) : Wd K cl α (m.set k o) (upd H a u) /\ Ext α H α (upd H a u) := by
 have ha : a ∈ α := List.mem_of_getElem? h1
 have E : Ext α H α (upd H a u) := by
  refine ⟨⟨[], by simp, fun _ h => nomatch h⟩, fun b o h n => by rw [upd_ne (fun z => n (by rw [z]; exact ha))]; exact h, fun b hb => ?_, fun b o v q => by rw [upd_ne fun z => hn o v (by rw [<- z]; exact q)]; exact q⟩
  by_cases hba : b = a
  ·rw [hba, upd_same]; exact fun z => nomatch z
  ·rw [upd_ne hba]; exact W.has hb
 refine ⟨⟨by rw [List.length_set]; exact W.len, W.nd, fun j b o' e1 e2 => ?_⟩, E⟩
 by_cases hj : k = j
 ·subst hj
  rw [h1] at e1
  cases e1
  have hk : k < m.length := by rw [<- W.len]; exact (List.getElem?_eq_some_iff.mp h1).1
  rw [List.getElem?_set_self hk] at e2
  cases e2
  exact h2 E
 ·rw [List.getElem?_set_ne hj] at e2
  have hne : b ≠ a := fun z => by
   subst z
   obtain ⟨hk, e3⟩ := List.getElem?_eq_some_iff.mp h1
   obtain ⟨hk2, e4⟩ := List.getElem?_eq_some_iff.mp e1
   exact hj ((List.getElem_inj W.nd).mp (e3.trans e4.symm))
  exact (W.at' j b o' e1 e2).mono W E fun o h => by rw [upd_ne hne]; exact h
end
theorem RepL.atI {K : PySem.W.Frag} {α : List Addr} {H : Hp} {ds : List D} {vs : List V} {i : Int} {d : D} (r : RepL K α H ds vs) (h : L2.atI ds i = some d) : ∃ v, L2.atI vs i = some v /\ Rep K α H d v := by
 unfold L2.atI at h ⊢
 rw [r.length] at h
 cases e : ixN vs.length i with
 | none => rw [e] at h; cases h
 | some j =>
  rw [e] at h
  exact r.get (i := j) h
def valD (kvs : List (L2.Key × D)) (k : L2.Key) : Option D := match kvs with
 | [] => none
 | p :: r => if p.1 = k then some p.2 else valD r k
def putD (kvs : List (L2.Key × D)) (k : L2.Key) (d : D) : List (L2.Key × D) := match kvs with
 | [] => [(k, d)]
 | p :: r => if p.1 = k then (p.1, d) :: r.map (fun q => if q.1 = k then (q.1, d) else q) else p :: putD r k d
theorem RepKV.val {K : PySem.W.Frag} {α : List Addr} {H : Hp} {k : L2.Key} : ∀ {ds : List (L2.Key × D)} {vs : List (L2.Key × V)}, RepKV K α H ds vs -> (∀ d, valD ds k = some d -> ∃ v, valV vs k = some v /\ Rep K α H d v) /\ (valD ds k = none -> valV vs k = none)
 | [], _, h => by
  cases (show _ = [] from h)
  exact ⟨fun d e => (nomatch e), fun _ => rfl⟩
 | p :: r, _, ⟨v, r', e, h1, h2⟩ => by
  subst e
  have ih := RepKV.val (k := k) h2
  unfold valD
  by_cases hk : p.1 = k
  ·rw [if_pos hk, valV_pos hk]
   exact ⟨fun d e => by cases e; exact ⟨v, rfl, h1⟩, fun e => nomatch e⟩
  ·rw [if_neg hk, valV_neg hk]
   exact ih
theorem RepKV.length {K : PySem.W.Frag} {α : List Addr} {H : Hp} : ∀ {ds : List (L2.Key × D)} {vs : List (L2.Key × V)}, RepKV K α H ds vs -> ds.length = vs.length
 | [], _, h => by
  have h : _ = [] := h
  subst h; rfl
 | p :: r, _, ⟨v, r', e, h1, h2⟩ => by subst e; rw [List.length_cons, List.length_cons, RepKV.length h2]
theorem RepKV.map {K : PySem.W.Frag} {α : List Addr} {H : Hp} {k : L2.Key} {d : D} {v : V} (r : Rep K α H d v) : ∀ {ds : List (L2.Key × D)} {vs : List (L2.Key × V)}, RepKV K α H ds vs -> RepKV K α H (ds.map fun q => if q.1 = k then (q.1, d) else q) (vs.map fun q => if q.1 = k then (q.1, v) else q)
 | [], _, h => by
  have h : _ = [] := h
  subst h; rfl
 | p :: t, _, ⟨w, r', e, h1, h2⟩ => by
  subst e
  rw [List.map_cons, List.map_cons]
  by_cases hk : p.1 = k
  ·rw [if_pos hk, if_pos hk]
   exact ⟨v, _, rfl, r, RepKV.map r h2⟩
  ·rw [if_neg hk, if_neg hk]
   exact ⟨w, _, rfl, h1, RepKV.map r h2⟩
theorem RepKV.put {K : PySem.W.Frag} {α : List Addr} {H : Hp} {k : L2.Key} {d : D} {v : V} (r : Rep K α H d v) : ∀ {ds : List (L2.Key × D)} {vs : List (L2.Key × V)}, RepKV K α H ds vs -> RepKV K α H (putD ds k d) (putK vs k v)
 | [], _, h => by
  have h : _ = [] := h
  subst h
  exact ⟨v, [], rfl, r, rfl⟩
 | p :: t, _, ⟨w, r', e, h1, h2⟩ => by
  subst e
  unfold putD
  by_cases hk : p.1 = k
  ·rw [if_pos hk]
   have e2 : putK ((p.1, w) :: r') k v = (p.1, v) :: r'.map fun q => if q.1 = k then (q.1, v) else q := by
    unfold putK
    rw [if_pos (by simp [hk]), List.map_cons, if_pos hk]
   rw [e2]
   exact ⟨v, _, rfl, r, RepKV.map r h2⟩
  ·rw [if_neg hk]
   have ih := RepKV.put (k := k) r h2
   have e2 : putK ((p.1, w) :: r') k v = (p.1, w) :: putK r' k v := by
    unfold putK
    by_cases ha : (r'.any fun kv => decide (kv.1 = k)) = true
    ·rw [if_pos (by rw [List.any_cons, ha, Bool.or_true]), if_pos ha, List.map_cons, if_neg hk]
    ·rw [if_neg ha, if_neg (by rw [List.any_cons]; simp only [decide_eq_false hk, Bool.false_or]; exact ha)]
     rfl
   rw [e2]
   exact ⟨w, _, rfl, h1, ih⟩
def opt {τ : Type} (o : Option τ) (m : Sto) : Res τ := match o with
 | some d => .ok d m
 | none => .bad
def ixD (x y : D) (m : Sto) : Res D := match x, y with
 | .tup ds, .int i => opt (L2.atI ds i) m
 | .lst ds, .int i => opt (L2.atI ds i) m
 | .str z, .int i => if z.length <= sizeLine then opt ((L2.atI z.cps.toList i).map fun c => D.str ⟨#[c]⟩) m else .bad
 | .ob k, .int i => match m[k]? with
  | some (.lst ds) => opt (L2.atI ds i) m
  | some (.dct kvs) => opt (valD kvs (.inl i)) m
  | _ => .bad
 | .ob k, .str z => match m[k]? with
  | some (.dct kvs) => opt (valD kvs (.inr z)) m
  | _ => .bad
 | _, _ => .bad
section
variable {X : Cx} {K : PySem.W.Frag} {cl : Str -> Addr} {ex : XD}
def rIxD : R2 := fun x y H Q => ∃ a v, x = .ref a /\ DGet H a y (some v) /\ Q v H
theorem ix_dict (hu : X.A.units + 1 < cLine) : IxR X rIxD := by
 intro value slice pins s σ H x y v u Q I rx ry h hs
 obtain ⟨a, w, rfl, g, q⟩ := h
 cases rx
 have hT := dict_typeIs I g
 unfold subscriptTail
 refine wpAny_bind ?_
 rw [getitemInPython_of_ne hT.not_modules]
 refine wpAny_bind (wpAny_specialOf hT PySem.F.slot_dict_getitem.lookup ?_)
 have fin : wpAny (model X.prog X.w) X.A (subscripted slice false (.ref a) u) (fun r s₃ => wpAny (model X.prog X.w) X.A (letTemporaryGo value (.ref a) r >>= fun _ => pure r) (EP X pins σ Q) X.xe s₃) X.xe s := by
  rw [hs]
  exact wpAny_operating (wpAny_mono (d_getItem hu I g ry fun w' s3 I3 rw' => (⟨w, H, I3, rw', q⟩ : EP X pins σ Q w' s3)) (fun r s₃ h₃ => wpAny_bind (wpAny_letTemporaryGo (wpAny_pure h₃))) fun _ _ x => x)
 first
  | exact wpAny_pure (wpAny_bind fin)
  | exact wpAny_bind (wpAny_pure (wpAny_bind fin))
  | exact wpAny_bind fin
def rIxA (K : PySem.W.Frag) : R2 := fun x y H Q => rIx K x y H Q ∨ rIxD x y H Q
theorem ix_A (hu : X.A.units + 1 < cLine) : IxR X (rIxA X.K) := IxR.or ix_seq (ix_dict hu)
theorem opt_use {τ : Type} {o : Option τ} {α : List Addr} {m : Sto} {H : Hp} {R : RD τ} (h : PQ K cl ex (opt o m) α H R) : ∃ d, o = some d /\ PQ K cl ex (.ok d m) α H R := by
 cases o with
 | none => exact h.elim
 | some d => exact ⟨d, rfl, h⟩
theorem od_ix : OpD K cl ex (rIxA K) ixD := fun α m H x y vx vy Q W rx ry h => by
 unfold ixD at h
 split at h
 ·obtain ⟨d, e, h⟩ := opt_use h
  rw [Rep] at rx
  rw [Rep] at ry
  obtain ⟨a, xs, rfl, h1, r1⟩ := rx
  obtain ⟨v, e2, rv⟩ := r1.atI e
  exact .inl (.inr (.inl ⟨a, xs, _, v, rfl, ry, h1.sq, e2, PQ.ok W h _ rv⟩))
 ·obtain ⟨d, e, h⟩ := opt_use h
  rw [Rep] at rx
  rw [Rep] at ry
  obtain ⟨a, xs, rfl, _, h1, r1⟩ := rx
  obtain ⟨v, e2, rv⟩ := r1.atI e
  exact .inl (.inl ⟨a, xs, _, v, rfl, ry, .inl h1, e2, PQ.ok W h _ rv⟩)
 ·obtain ⟨hc, h⟩ := PQ.if h
  obtain ⟨d, e, h⟩ := opt_use h
  rw [Rep] at rx
  rw [Rep] at ry
  obtain ⟨c, e2, rfl⟩ := Option.map_eq_some_iff.mp e
  exact .inl (.inr (.inr ⟨_, _, c, rx, ry, hc, e2, PQ.ok W h _ repS⟩))
 ·rw [Rep] at rx
  rw [Rep] at ry
  obtain ⟨a, ha, rfl⟩ := rx
  split at h
  ·obtain ⟨d, e, h⟩ := opt_use h
   obtain ⟨xs, h1, r1⟩ := W.lst ha ‹_›
   obtain ⟨v, e2, rv⟩ := r1.atI e
   exact .inl (.inl ⟨a, xs, _, v, rfl, ry, SqL.of h1, e2, PQ.ok W h _ rv⟩)
  ·obtain ⟨d, e, h⟩ := opt_use h
   obtain ⟨xs, h1, r1⟩ := W.dct ha ‹_›
   obtain ⟨v, e2, rv⟩ := (RepKV.val r1).1 d e
   refine .inr ⟨a, v, rfl, ?_, PQ.ok W h _ rv⟩
   rw [ry, <- e2]
   exact DGet.k (k := .inl _) h1
  ·exact h.elim
 ·rw [Rep] at rx
  rw [Rep] at ry
  obtain ⟨a, ha, rfl⟩ := rx
  split at h
  ·obtain ⟨d, e, h⟩ := opt_use h
   obtain ⟨xs, h1, r1⟩ := W.dct ha ‹_›
   obtain ⟨v, e2, rv⟩ := (RepKV.val r1).1 d e
   refine .inr ⟨a, v, rfl, ?_, PQ.ok W h _ rv⟩
   rw [ry, <- e2]
   exact DGet.k (k := .inr _) h1
  ·exact h.elim
 ·exact h.elim
end
def cutD {τ : Type} (xs : List τ) (lo hi : Option Int) : List τ := (xs.drop (HT.sIx xs.length 0 lo)).take (HT.sIx xs.length xs.length hi - HT.sIx xs.length 0 lo)
theorem RepL.take {K : PySem.W.Frag} {α : List Addr} {H : Hp} : ∀ {ds : List D} {vs : List V} (n : Nat), RepL K α H ds vs -> RepL K α H (ds.take n) (vs.take n)
 | [], _, _, h => by rw [RepL] at h; subst h; simp [RepL]
 | _ :: _, _, 0, h => by simp [RepL]
 | _ :: _, _, n + 1, h => by
  rw [RepL] at h
  obtain ⟨v, r, rfl, a, b⟩ := h
  rw [List.take_succ_cons, List.take_succ_cons, RepL]
  exact ⟨v, _, rfl, a, RepL.take n b⟩
theorem RepL.drop {K : PySem.W.Frag} {α : List Addr} {H : Hp} : ∀ {ds : List D} {vs : List V} (n : Nat), RepL K α H ds vs -> RepL K α H (ds.drop n) (vs.drop n)
 | _, _, 0, h => h
 | [], _, n + 1, h => by rw [RepL] at h; subst h; simp [RepL]
 | _ :: _, _, n + 1, h => by
  rw [RepL] at h
  obtain ⟨v, r, rfl, a, b⟩ := h
  exact RepL.drop n b
theorem RepL.cut {K : PySem.W.Frag} {α : List Addr} {H : Hp} {ds : List D} {vs : List V} (lo hi : Option Int) (r : RepL K α H ds vs) : RepL K α H (cutD ds lo hi) (cutV vs lo hi) := by
 unfold cutD cutV
 rw [r.length]
 exact RepL.take _ (RepL.drop _ r)
abbrev OV := En -> Sto -> Res (Option Int)
def oNone : OV := fun _ m => .ok none m
def oSome (f : EV) : OV := fun ρ m => (f ρ m).bind fun d m1 => match d with
 | .int i => .ok (some i) m1
 | _ => .bad
def tDO (K : PySem.W.Frag) (cl : Str -> Addr) (ex : XD) (f : OV) : TO := fun σ H Q => ∃ α ρ m, Wd K cl α m H /\ RepE K α H ρ σ /\ PQ K cl ex (f ρ m) α H fun d _ _ H' => Q d H'
structure QO (X : Cx) (cl : Str -> Addr) (ex : XD) (e : Option Expr) (f : OV) : Prop where
 out : PO X e (tDO X.K cl ex f)
theorem PO.weak {X : Cx} {e : Option Expr} {t t' : TO} (h : PO X e t) (w : ∀ σ H Q, t' σ H Q -> t σ H Q) : PO X e t' := fun pins s σ H Q I q => h pins s σ H Q I (w σ H Q q)
def slD (x : D) (lo hi : Option Int) (m : Sto) : Res D := match x with
 | .tup ds => if HT.sIx ds.length 0 lo = 0 /\ HT.sIx ds.length ds.length hi = ds.length then .bad else .ok (.tup (cutD ds lo hi)) m
 | .lst ds => .ok (.lst (cutD ds lo hi)) m
 | .scr ds => .ok (.lst (cutD ds lo hi)) m
 | .str z => if z.length <= sizeLine then .ok (.str (Txt.slice z lo hi)) m else .bad
 | .ob k => match m[k]? with
  | some (.lst ds) => .ok (.lst (cutD ds lo hi)) m
  | _ => .bad
 | _ => .bad
def eSl (f : EV) (lo hi : OV) : EV := fun ρ m => (f ρ m).bind fun x m1 => (lo ρ m1).bind fun l m2 => (hi ρ m2).bind fun h m3 => slD x l h m3
section
variable {X : Cx} {cl : Str -> Addr} {ex : XD} {e : Expr} {fa : EV} {lo hi : OV} {el eh : Option Expr} {pos p2 : Pos}
theorem qo_none : QO X cl ex none oNone := ⟨PO.weak po_none fun σ H Q hh => ex3 hh fun α ρ m W hr h => PQ.ok W h⟩
theorem qo_some (hq : QE X cl ex e fa) : QO X cl ex (some e) (oSome fa) := ⟨PO.weak (po_some hq.out) fun σ H Q hh => ex3 hh fun α ρ m W hr h => tD.use W hr h fun α1 m1 H1 d v E1 W1 hr1 rv q1 => by
 split at q1
 ·rw [Rep] at rv; exact ⟨_, rv, PQ.ok W1 q1⟩
 ·exact q1.elim⟩
theorem tDO.use {K : PySem.W.Frag} {α : List Addr} {m : Sto} {H : Hp} {ρ : En} {σ : L2.St} {τ : Type} {f : OV} {k : Option Int -> Sto -> Res τ} {R : RD τ} {Q : Option Int -> Hp -> Prop} (W : Wd K cl α m H) (hr : RepE K α H ρ σ) (h : PQ K cl ex ((f ρ m).bind k) α H R)
  (hQ : ∀ α1 m1 H1 d, Ext α H α1 H1 -> Wd K cl α1 m1 H1 -> RepE K α1 H1 ρ σ -> PQ K cl ex (k d m1) α1 H1 R -> Q d H1) : tDO K cl ex f σ H Q :=
 ⟨α, ρ, m, W, hr, PQ.mono (Ext.refl W) h.bind fun d α1 m1 H1 E1 W1 q => hQ α1 m1 H1 d E1 W1 (hr.mono W E1) q⟩
theorem qe_sl (he : QE X cl ex e fa) (hl : QO X cl ex el lo) (hh : QO X cl ex eh hi) : QE X cl ex (.Subscript e (.Slice el eh none p2) pos) (eSl fa lo hi) :=
 ⟨PE.weak (pe_slice (SlR.or sl_tup (SlR.or sl_list sl_txt)) he.out hl.out hh.out) fun σ H Q hh => ex3 hh fun α ρ m W hr h =>
  tD.use W hr h fun α1 m1 H1 d v E1 W1 hr1 rv q1 => tDO.use W1 hr1 q1 fun α2 m2 H2 l E2 W2 hr2 q2 => tDO.use W2 hr2 q2 fun α3 m3 H3 u E3 W3 hr3 q3 => by
   have rv := rv.mono W1 (E2.trans E3)
   unfold slD at q3
   split at q3
   ·split at q3
    ·exact q3.elim
    ·rename_i hn
     rw [Rep] at rv
     obtain ⟨a, xs, rfl, h1, r1⟩ := rv
     refine .inl ⟨a, xs, rfl, h1.sq, by rw [<- r1.length]; exact hn, fun p hp => ?_⟩
     exact PQ.okS W3 (Same.new hp) q3 _ (rep_new_tup W3 hp (r1.cut l u))
   ·rw [Rep] at rv
    obtain ⟨a, xs, rfl, _, h1, r1⟩ := rv
    exact .inr (.inl ⟨a, xs, rfl, .inl h1, fun p hp => PQ.okS W3 (Same.new hp) q3 _ (rep_lst W3 hp (r1.cut l u))⟩)
   ·rw [Rep] at rv
    obtain ⟨a, xs, rfl, h1, r1⟩ := rv
    exact .inr (.inl ⟨a, xs, rfl, h1.sq, fun p hp => PQ.okS W3 (Same.new hp) q3 _ (rep_lst W3 hp (r1.cut l u))⟩)
   ·rw [Rep] at rv
    obtain ⟨hc, q3⟩ := PQ.if q3
    exact .inr (.inr ⟨_, rv, hc, PQ.ok W3 q3 _ repS⟩)
   ·rw [Rep] at rv
    obtain ⟨a, ha, rfl⟩ := rv
    split at q3
    ·obtain ⟨xs, h1, r1⟩ := W3.lst ha ‹_›
     exact .inr (.inl ⟨a, xs, rfl, SqL.of h1, fun p hp => PQ.okS W3 (Same.new hp) q3 _ (rep_lst W3 hp (r1.cut l u))⟩)
    ·exact q3.elim
   ·exact q3.elim⟩
end
section
variable {X : Cx} {K : PySem.W.Frag} {cl : Str -> Addr} {ex : XD} {α : List Addr} {m : Sto} {H : Hp}
theorem RepL.one_of {d : D} {vs : List V} (h : RepL K α H [d] vs) : ∃ v, vs = [v] /\ Rep K α H d v := by
 rw [RepL] at h
 obtain ⟨v, r, rfl, a, b⟩ := h
 rw [RepL] at b
 subst b
 exact ⟨v, rfl, a⟩
theorem RepL.two_of {d e : D} {vs : List V} (h : RepL K α H [d, e] vs) : ∃ v w, vs = [v, w] /\ Rep K α H d v /\ Rep K α H e w := by
 rw [RepL] at h
 obtain ⟨v, r, rfl, a, b⟩ := h
 obtain ⟨w, rfl, c⟩ := b.one_of
 exact ⟨v, w, rfl, a, c⟩
def lenF (ds : List D) (m : Sto) : Res D := match ds with
 | [.tup xs] => .ok (.int xs.length) m
 | [.lst xs] => .ok (.int xs.length) m
 | [.scr xs] => .ok (.int xs.length) m
 | [.str z] => if z.length <= sizeLine then .ok (.int z.length) m else .bad
 | [.ob k] => match m[k]? with
  | some (.lst xs) => .ok (.int xs.length) m
  | some (.dct xs) => .ok (.int xs.length) m
  | _ => .bad
 | _ => .bad
def rLen (K : PySem.W.Frag) : List V -> Hp -> VK -> Prop := fun xs H Q => (∃ p ys, xs = [.ref p] /\ (SqL K H p ys ∨ SqT K H p ys) /\ Q (.int ys.length) H) ∨ (∃ z, xs = [.str z] /\ z.length <= sizeLine /\ Q (.int z.length) H) ∨ ∃ a kvs, xs = [V.ref a] /\ H a = some (.dK kvs) /\ Q (.int kvs.length) H
theorem call_lenK : CallR X (.builtin "len") (fun xs H Q => ∃ a kvs, xs = [V.ref a] /\ H a = some (.dK kvs) /\ Q (.int kvs.length) H) := by
 intro pins s σ H xs us Q I r h
 obtain ⟨a, kvs, rfl, e, q⟩ := h
 obtain ⟨u, rfl, ru⟩ := vals1 r
 cases ru
 exact d_len I (.inl e) fun t s' I' => ⟨.int kvs.length, H, I', ⟨t, rfl⟩, q⟩
theorem call_lenA : CallR X (.builtin "len") (rLen X.K) := CallR.or call_len_seq (CallR.or call_len_str call_lenK)
theorem fd_len : FnD K cl ex (rLen K) lenF := fun α m H x vx Q W rx h => by
 unfold lenF at h
 split at h
 ·obtain ⟨v, rfl, rv⟩ := rx.one_of
  rw [Rep] at rv
  obtain ⟨a, xs, rfl, h1, r1⟩ := rv
  exact .inl ⟨a, xs, rfl, .inr h1.sq, by rw [<- r1.length]; exact PQ.ok W h _ repI⟩
 ·obtain ⟨v, rfl, rv⟩ := rx.one_of
  rw [Rep] at rv
  obtain ⟨a, xs, rfl, _, h1, r1⟩ := rv
  exact .inl ⟨a, xs, rfl, .inl (.inl h1), by rw [<- r1.length]; exact PQ.ok W h _ repI⟩
 ·obtain ⟨v, rfl, rv⟩ := rx.one_of
  rw [Rep] at rv
  obtain ⟨a, xs, rfl, h1, r1⟩ := rv
  exact .inl ⟨a, xs, rfl, .inl h1.sq, by rw [<- r1.length]; exact PQ.ok W h _ repI⟩
 ·obtain ⟨v, rfl, rv⟩ := rx.one_of
  rw [Rep] at rv
  subst rv
  obtain ⟨hc, h⟩ := PQ.if h
  exact .inr (.inl ⟨_, rfl, hc, PQ.ok W h _ repI⟩)
 ·obtain ⟨v, rfl, rv⟩ := rx.one_of
  rw [Rep] at rv
  obtain ⟨a, ha, rfl⟩ := rv
  split at h
  ·obtain ⟨xs, h1, r1⟩ := W.lst ha ‹_›
   exact .inl ⟨a, xs, rfl, .inl (SqL.of h1), by rw [<- r1.length]; exact PQ.ok W h _ repI⟩
  ·obtain ⟨xs, h1, r1⟩ := W.dct ha ‹_›
   exact .inr (.inr ⟨a, xs, rfl, h1, by rw [<- r1.length]; exact PQ.ok W h _ repI⟩)
  ·exact h.elim
 ·exact h.elim
def intF (ds : List D) (m : Sto) : Res D := match ds with
 | [.int i] => .ok (.int i) m
 | [.bl b] => .ok (.int (if b then 1 else 0)) m
 | [.str z] => match PySem.intText? z with
  | some n => if z.length <= 640 then .ok (.int n) m else .bad
  | none => .bad
 | _ => .bad
def rInt : List V -> Hp -> VK -> Prop := fun xs H Q => ((∃ i, xs = [.int i] /\ Q (.int i) H) ∨ ∃ k, xs = [.bl k] /\ Q (.int (if k then 1 else 0)) H) ∨ ∃ z n, xs = [.str z] /\ PySem.intText? z = some n /\ z.length <= 640 /\ Q (.int n) H
theorem call_intA : CallR X (.type "int") rInt := CallR.or call_int1 call_int_txt
theorem fd_int : FnD K cl ex rInt intF := fun α m H x vx Q W rx h => by
 unfold intF at h
 split at h
 ·obtain ⟨v, rfl, rv⟩ := rx.one_of
  rw [Rep] at rv; subst rv
  exact .inl (.inl ⟨_, rfl, PQ.ok W h _ repI⟩)
 ·obtain ⟨v, rfl, rv⟩ := rx.one_of
  rw [Rep] at rv; subst rv
  exact .inl (.inr ⟨_, rfl, PQ.ok W h _ repI⟩)
 ·obtain ⟨v, rfl, rv⟩ := rx.one_of
  rw [Rep] at rv; subst rv
  split at h
  ·obtain ⟨hc, h⟩ := PQ.if h
   exact .inr ⟨_, _, rfl, ‹_›, hc, PQ.ok W h _ repI⟩
  ·exact h.elim
 ·exact h.elim
def strF (ds : List D) (m : Sto) : Res D := match ds with
 | [.int i] => if i.natAbs.log2 < 1920 then .ok (.str (toString i)) m else .bad
 | _ => .bad
theorem fd_str : FnD K cl ex (fun xs H Q => ∃ i, xs = [.int i] /\ i.natAbs.log2 < 1920 /\ Q (.str (toString i)) H) strF := fun α m H x vx Q W rx h => by
 unfold strF at h
 split at h
 ·obtain ⟨v, rfl, rv⟩ := rx.one_of
  rw [Rep] at rv; subst rv
  obtain ⟨hc, h⟩ := PQ.if h
  exact ⟨_, rfl, hc, PQ.ok W h _ repS⟩
 ·exact h.elim
def absF (ds : List D) (m : Sto) : Res D := match ds with
 | [.int i] => .ok (.int (if i < 0 then -i else i)) m
 | _ => .bad
theorem fd_abs : FnD K cl ex (fun xs H Q => ∃ i, xs = [.int i] /\ Q (.int (if i < 0 then -i else i)) H) absF := fun α m H x vx Q W rx h => by
 unfold absF at h
 split at h
 ·obtain ⟨v, rfl, rv⟩ := rx.one_of
  rw [Rep] at rv; subst rv
  exact ⟨_, rfl, PQ.ok W h _ repI⟩
 ·exact h.elim
def max2F (ds : List D) (m : Sto) : Res D := match ds with
 | [.int i, .int j] => .ok (.int (if j > i then j else i)) m
 | _ => .bad
def min2F (ds : List D) (m : Sto) : Res D := match ds with
 | [.int i, .int j] => .ok (.int (if j < i then j else i)) m
 | _ => .bad
theorem fd_min2 : FnD K cl ex (fun xs H Q => ∃ i j, xs = [.int i, .int j] /\ Q (.int (if j < i then j else i)) H) min2F := fun α m H x vx Q W rx h => by
 unfold min2F at h
 split at h
 ·obtain ⟨v, w, rfl, rv, rw'⟩ := rx.two_of
  rw [Rep] at rv rw'; subst rv rw'
  exact ⟨_, _, rfl, PQ.ok W h _ repI⟩
 ·exact h.elim
def tupF (ds : List D) (m : Sto) : Res D := match ds with
 | [.lst xs] => .ok (.tup xs) m
 | [.tup xs] => .ok (.tup xs) m
 | [.ob k] => match m[k]? with
  | some (.lst xs) => .ok (.tup xs) m
  | _ => .bad
 | [.str z] => if z.cps.size <= sizeLine then .ok (.tup (signs z)) m else .bad
 | _ => .bad
def rTup (K : PySem.W.Frag) : List V -> Hp -> VK -> Prop := fun xs H Q => (∃ p ys, xs = [.ref p] /\ ((SqL K H p ys /\ ∀ l, H l = none -> Q (.ref l) (upd H l (.tup ys))) ∨ (SqT K H p ys /\ Q (.ref p) H))) ∨ ∃ z, xs = [.str z] /\ z.cps.size <= sizeLine /\ ∀ l, H l = none -> Q (.ref l) (upd H l (.tup ((List.range z.cps.size).map (sgn z))))
theorem call_tupA (hc : X.calm = true) : CallR X (.type "tuple") (rTup X.K) := CallR.or call_tuple_of (call_tuple_txt hc)
theorem rep_signs {z : Str} : RepL K α H (signs z) ((List.range z.cps.size).map (sgn z)) := by
 unfold signs
 generalize List.range z.cps.size = l
 induction l with
 | nil => simp [RepL]
 | cons i r ih => rw [List.map_cons, List.map_cons, RepL]; exact ⟨_, _, rfl, by rw [Rep]; rfl, ih⟩
theorem fd_tup : FnD K cl ex (rTup K) tupF := fun α m H x vx Q W rx h => by
 unfold tupF at h
 split at h
 ·obtain ⟨v, rfl, rv⟩ := rx.one_of
  rw [Rep] at rv
  obtain ⟨a, xs, rfl, _, h1, r1⟩ := rv
  exact .inl ⟨a, xs, rfl, .inl ⟨.inl h1, fun l hl => PQ.okS W (Same.new hl) h _ (rep_new_tup W hl r1)⟩⟩
 ·obtain ⟨v, rfl, rv⟩ := rx.one_of
  have rv2 := rv
  rw [Rep] at rv
  obtain ⟨a, xs, rfl, h1, r1⟩ := rv
  exact .inl ⟨a, xs, rfl, .inr ⟨h1.sq, PQ.ok W h _ rv2⟩⟩
 ·obtain ⟨v, rfl, rv⟩ := rx.one_of
  rw [Rep] at rv
  obtain ⟨a, ha, rfl⟩ := rv
  split at h
  ·obtain ⟨xs, h1, r1⟩ := W.lst ha ‹_›
   exact .inl ⟨a, xs, rfl, .inl ⟨SqL.of h1, fun l hl => PQ.okS W (Same.new hl) h _ (rep_new_tup W hl r1)⟩⟩
  ·exact h.elim
 ·obtain ⟨v, rfl, rv⟩ := rx.one_of
  rw [Rep] at rv; subst rv
  obtain ⟨hc, h⟩ := PQ.if h
  exact .inr ⟨_, rfl, hc, fun l hl => PQ.okS W (Same.new hl) h _ (rep_new_tup W hl rep_signs)⟩
 ·exact h.elim
def asInts : List D -> Option (List Int)
 | [] => some []
 | .int i :: r => (asInts r).map (i :: ·)
 | _ => none
def asBls : List D -> Option (List Bool)
 | [] => some []
 | .bl i :: r => (asBls r).map (i :: ·)
 | _ => none
def asStrs : List D -> Option (List Str)
 | [] => some []
 | .str i :: r => (asStrs r).map (i :: ·)
 | _ => none
theorem asInts_use : ∀ {ds : List D} {ns : List Int} {vs : List V}, asInts ds = some ns -> RepL K α H ds vs -> vs = ns.map V.int
 | [], ns, vs, e, r => by cases e; rw [RepL] at r; exact r
 | d :: t, ns, vs, e, r => by
  unfold asInts at e
  split at e
  ·exact absurd ‹d :: t = []› (by simp)
  ·rename_i i t' e1
   cases e1
   obtain ⟨ms, e2, rfl⟩ := Option.map_eq_some_iff.mp e
   rw [RepL] at r
   obtain ⟨v, r', rfl, a, b⟩ := r
   rw [Rep] at a
   subst a
   rw [asInts_use e2 b]
   rfl
  ·cases e
theorem asBls_use : ∀ {ds : List D} {ns : List Bool} {vs : List V}, asBls ds = some ns -> RepL K α H ds vs -> vs = ns.map V.bl
 | [], ns, vs, e, r => by cases e; rw [RepL] at r; exact r
 | d :: t, ns, vs, e, r => by
  unfold asBls at e
  split at e
  ·exact absurd ‹d :: t = []› (by simp)
  ·rename_i i t' e1
   cases e1
   obtain ⟨ms, e2, rfl⟩ := Option.map_eq_some_iff.mp e
   rw [RepL] at r
   obtain ⟨v, r', rfl, a, b⟩ := r
   rw [Rep] at a
   subst a
   rw [asBls_use e2 b]
   rfl
  ·cases e
def lOf (d : D) (m : Sto) : Option (List D) := match d with
 | .lst xs => some xs
 | .ob k => match m[k]? with
  | some (.lst xs) => some xs
  | _ => none
 | _ => none
theorem lOf_use {d : D} {v : V} {xs : List D} (W : Wd K cl α m H) (e : lOf d m = some xs) (rv : Rep K α H d v) : ∃ p ys, v = .ref p /\ SqL K H p ys /\ RepL K α H xs ys := by
 unfold lOf at e
 split at e
 ·cases e; rw [Rep] at rv; obtain ⟨a, ys, rfl, _, h1, r1⟩ := rv; exact ⟨a, ys, rfl, .inl h1, r1⟩
 ·rw [Rep] at rv
  obtain ⟨a, ha, rfl⟩ := rv
  split at e
  ·cases e; obtain ⟨ys, h1, r1⟩ := W.lst ha ‹_›; exact ⟨a, ys, rfl, SqL.of h1, r1⟩
  ·cases e
 ·cases e
def sumOk (ns : List Int) : Prop := (∀ a, a ∈ ns -> 0 <= a /\ a <= 2 ^ 50) /\ ns.length <= 1000
instance (ns : List Int) : Decidable (sumOk ns) := by unfold sumOk; infer_instance
def sumF (ds : List D) (m : Sto) : Res D := match ds with
 | [d] => match (lOf d m).bind asInts with
  | some ns => if sumOk ns then .ok (.int ns.sum) m else .bad
  | none => .bad
 | _ => .bad
theorem fd_sum : FnD K cl ex (fun xs H Q => ∃ (l : Addr) (ns : List Int), xs = [.ref l] /\ SqL K H l (ns.map V.int) /\ (∀ a, a ∈ ns -> 0 <= a /\ a <= 2 ^ 50) /\ ns.length <= 1000 /\ Q (.int ns.sum) H) sumF := fun α m H x vx Q W rx h => by
 unfold sumF at h
 split at h
 ·split at h
  ·rename_i ns e
   obtain ⟨hc, h⟩ := PQ.if h
   obtain ⟨v, rfl, rv⟩ := rx.one_of
   obtain ⟨xs, e1, e2⟩ := Option.bind_eq_some_iff.mp e
   obtain ⟨p, ys, rfl, h1, r1⟩ := lOf_use W e1 rv
   rw [asInts_use e2 r1] at h1
   exact ⟨p, ns, rfl, h1, hc.1, hc.2, PQ.ok W h _ repI⟩
  ·exact h.elim
 ·exact h.elim
def allF (ds : List D) (m : Sto) : Res D := match ds with
 | [d] => match (lOf d m).bind asBls with
  | some bs => .ok (.bl (bs.all id)) m
  | none => .bad
 | _ => .bad
theorem fd_all : FnD K cl ex (fun xs H Q => ∃ (l : Addr) (bs : List Bool), xs = [.ref l] /\ SqL K H l (bs.map V.bl) /\ Q (.bl (bs.all id)) H) allF := fun α m H x vx Q W rx h => by
 unfold allF at h
 split at h
 ·split at h
  ·rename_i ns e
   obtain ⟨v, rfl, rv⟩ := rx.one_of
   obtain ⟨xs, e1, e2⟩ := Option.bind_eq_some_iff.mp e
   obtain ⟨p, ys, rfl, h1, r1⟩ := lOf_use W e1 rv
   rw [asBls_use e2 r1] at h1
   exact ⟨p, ns, rfl, h1, PQ.ok W h _ repB⟩
  ·exact h.elim
 ·exact h.elim
end
def eMeth (ty : D -> Sto -> Bool) (g : D -> List D -> Sto -> Res D) (fo : EV) (fr : AV) : EV := fun ρ m => (fo ρ m).bind fun o m1 => if ty o m1 = true then (fr ρ m1).bind fun ds m2 => g o ds m2 else .bad
def MtD (K : PySem.W.Frag) (cl : Str -> Addr) (ex : XD) (r : V -> List V -> Hp -> VK -> Prop) (g : D -> List D -> Sto -> Res D) : Prop :=
 ∀ (α : List Addr) (m : Sto) (H : Hp) (x : D) (xs : List D) (vx : V) (vs : List V) (Q : VK), Wd K cl α m H -> Rep K α H x vx -> RepL K α H xs vs -> PQ K cl ex (g x xs m) α H (fun d α' _ H' => ∀ v, Rep K α' H' d v -> Q v H') -> r vx vs H Q
def isStr (d : D) (_ : Sto) : Bool := match d with
 | .str _ => true
 | _ => false
def isLst (d : D) (m : Sto) : Bool := match d with
 | .lst _ => true
 | .ob k => match m[k]? with
  | some (.lst _) => true
  | _ => false
 | _ => false
def isTup (d : D) (_ : Sto) : Bool := match d with
 | .tup _ => true
 | _ => false
section
variable {X : Cx} {K : PySem.W.Frag} {cl : Str -> Addr} {ex : XD} {α : List Addr} {m : Sto} {H : Hp} {o e : Expr} {es : List Expr} {fo : EV} {fr : AV} {name : Str} {apos cpos : Pos} {T id : String} {r : V -> List V -> Hp -> VK -> Prop} {g : D -> List D -> Sto -> Res D} {ty : D -> Sto -> Bool}
theorem ty_str {d : D} {v : V} (h : isStr d m = true) (W : Wd K cl α m H) (r : Rep K α H d v) : tyV K "str" v H := by
 cases d with
 | str z => rw [Rep] at r; subst r; rfl
 | _ => cases h
theorem ty_lst {d : D} {v : V} (h : isLst d m = true) (W : Wd K cl α m H) (r : Rep K α H d v) : tyV K "list" v H := by
 unfold isLst at h
 split at h
 ·rw [Rep] at r; obtain ⟨a, ys, rfl, _, h1, r1⟩ := r; exact .inl ⟨rfl, ys, .inl h1⟩
 ·rw [Rep] at r
  obtain ⟨a, ha, rfl⟩ := r
  split at h
  ·obtain ⟨ys, h1, _⟩ := W.lst ha ‹_›; exact .inl ⟨rfl, ys, SqL.of h1⟩
  ·cases h
 ·cases h
theorem tBM_of (hty : ∀ {α : List Addr} {m : Sto} {H : Hp} {d : D} {v : V}, ty d m = true -> Wd X.K cl α m H -> Rep X.K α H d v -> tyV X.K T v H) (hd : MtD X.K cl ex r g) : ∀ σ H Q, tD X.K cl ex (eMeth ty g fo fr) σ H Q -> tBM X.K T r (tD X.K cl ex fo) (tDA X.K cl ex fr) σ H Q := fun σ H Q hh => ex3 hh fun α ρ m W hr h =>
 tD.use W hr h fun α1 m1 H1 d v E1 W1 hr1 rv q1 => by
  obtain ⟨ht, q1⟩ := PQ.if q1
  exact ⟨hty ht W1 rv, tDA.use W1 hr1 q1 fun α2 m2 H2 ds vs E2 W2 hr2 rvs q2 => hd α2 m2 H2 d ds v vs Q W2 (rv.mono W1 E2) rvs q2⟩
theorem qe_bm (pa : PlainAttrs T) (slot : Slot T name id) (hty : typeOf (.builtin id) = pure (.type "method_descriptor")) (hm : MtR X id r) (hT : ∀ {α : List Addr} {m : Sto} {H : Hp} {d : D} {v : V}, ty d m = true -> Wd X.K cl α m H -> Rep X.K α H d v -> tyV X.K T v H) (hd : MtD X.K cl ex r g) (ho : QE X cl ex o fo) (ha : QA X cl ex (e :: es) fr)
  (hbase : autoParam (attributeBase o name X.env (eval o X.env) = eval o X.env) AutoP.a3._auto_1)
  (hfew : autoParam (((backTo cpos (starEach (e :: es) X.env)).all (fun x => !x.1) && (backToKw cpos (keywordEach [] X.env)).all (fun x => x.1.isSome)
   && decide ((e :: es).length + ([] : List Keyword).length + (if ([] : List Keyword).isEmpty then 0 else 1) < 30)) = true) AutoP.a3._auto_1)
  (hline : autoParam ((apos.endLine == cpos.line) = true) AutoP.a3._auto_1) (hs : autoParam (starEach (e :: es) X.env = (false, eval e X.env) :: starEach es X.env) AutoP.a3._auto_1) (hplain : autoParam ((backTo cpos (starEach es X.env)).any (·.1) = false) AutoP.a3._auto_1) :
  QE X cl ex (.Call (.Attribute o name apos) (e :: es) [] cpos) (eMeth ty g fo fr) :=
 ⟨PE.weak (pe_bm pa slot hty hm ho.out ha.out hbase hfew hline hs hplain) (tBM_of hT hd)⟩
def appendM (o : D) (ds : List D) (m : Sto) : Res D := match o, ds with
 | .ob k, [d] => match m[k]? with
  | some (.lst xs) => if xs.length < sizeLine then .ok .non (m.set k (.lst (xs ++ [d]))) else .bad
  | _ => .bad
 | _, _ => .bad
theorem md_append : MtD K cl ex rAppend appendM := fun α m H x xs vx vs Q W rx rxs h => by
 unfold appendM at h
 split at h
 ·split at h
  ·rename_i k d _ ds e
   obtain ⟨hc, h⟩ := PQ.if h
   rw [Rep] at rx
   obtain ⟨a, ha, rfl⟩ := rx
   obtain ⟨v, rfl, rv⟩ := rxs.one_of
   obtain ⟨ys, h1, r1⟩ := W.lst ha e
   obtain ⟨W2, E2⟩ := W.set (u := .lst (ys ++ [v])) (o := .lst (ds ++ [d])) ha fun E => ⟨_, upd_same, RepL.append (r1.mono W E) (RepL.one (rv.mono W E))⟩
   exact ⟨a, ys, v, rfl, rfl, h1, by rw [<- r1.length]; exact hc, h _ _ E2 W2 _ repN⟩
  ·exact h.elim
 ·exact h.elim
def popM (o : D) (ds : List D) (m : Sto) : Res D := match o, ds with
 | .ob k, [.int i] => match m[k]? with
  | some (.lst xs) => if -(2 ^ 63) <= i /\ i < 2 ^ 63 then match seqIndex? i xs.length with
   | some j => match xs[j]? with
    | some d => .ok d (m.set k (.lst (xs.eraseIdx j)))
    | none => .bad
   | none => .bad else .bad
  | _ => .bad
 | _, _ => .bad
theorem RepL.erase {ds : List D} {vs : List V} (j : Nat) (r : RepL K α H ds vs) : RepL K α H (ds.eraseIdx j) (vs.eraseIdx j) := by
 rw [List.eraseIdx_eq_take_drop_succ, List.eraseIdx_eq_take_drop_succ]
 exact RepL.append (r.take j) (r.drop (j + 1))
theorem md_pop : MtD K cl ex rPopAt popM := fun α m H x xs vx vs Q W rx rxs h => by
 unfold popM at h
 split at h
 ·split at h
  ·rename_i k i _ ds e
   obtain ⟨hc, h⟩ := PQ.if h
   rw [Rep] at rx
   obtain ⟨a, ha, rfl⟩ := rx
   obtain ⟨v, rfl, rv⟩ := rxs.one_of
   rw [Rep] at rv
   subst rv
   obtain ⟨ys, h1, r1⟩ := W.lst ha e
   split at h
   ·rename_i j ej
    split at h
    ·rename_i d ed
     obtain ⟨w, hw, rw'⟩ := r1.get ed
     obtain ⟨W2, E2⟩ := W.set (u := .lst (ys.eraseIdx j)) (o := .lst (ds.eraseIdx j)) ha fun E => ⟨_, upd_same, (r1.mono W E).erase j⟩
     exact ⟨a, ys, i, j, w, rfl, rfl, h1, hc.1, hc.2, by rw [<- r1.length]; exact ej, hw, h _ _ E2 W2 _ (rw'.mono W E2)⟩
    ·exact h.elim
   ·exact h.elim
  ·exact h.elim
 ·exact h.elim
end
section
variable {X : Cx} {K : PySem.W.Frag} {cl : Str -> Addr} {ex : XD} {α : List Addr} {m : Sto} {H : Hp}
def tyN (d : D) (m : Sto) : Option String := match d with
 | .non => some "NoneType"
 | .bl _ => some "bool"
 | .int _ => some "int"
 | .str _ => some "str"
 | .flt _ => some "float"
 | .tup _ => some "tuple"
 | .lst _ => some "list"
 | .ob k => match m[k]? with
  | some (.lst _) => some "list"
  | some (.dct _) => some "dict"
  | _ => none
 | _ => none
def isiB (t n : String) : Bool := t == n || (t == "bool" && n == "int")
def isiD (n : String) (d : D) (m : Sto) : Res D := match tyN d m with
 | some t => .ok (.bl (isiB t n)) m
 | none => .bad
def askTy : List String := ["int", "bool", "str", "tuple", "list", "dict"]
theorem kit_tab {d : D} {t n : String} (h : tyN d m = some t) (hn : n ∈ askTy) : PySem.W.kitOne K (.type t) (.type n) = some (isiB t n) := by
 have ht : t ∈ ["NoneType", "bool", "int", "str", "float", "tuple", "list", "dict"] := by
  unfold tyN at h
  split at h <;> first | (cases h; simp; done) | (split at h <;> first | (cases h; simp; done) | cases h) | cases h
 simp only [askTy, List.mem_cons, List.not_mem_nil, or_false] at hn ht
 rcases hn with rfl | rfl | rfl | rfl | rfl | rfl <;> rcases ht with rfl | rfl | rfl | rfl | rfl | rfl | rfl | rfl <;> rfl
theorem call_isiD {n : String} (hn : n ∈ askTy) : CallR X (.builtin "isinstance") (fun xs H Q => ∃ cl α m d v t, xs = [v, .ty n] /\ Wd X.K cl α m H /\ Rep X.K α H d v /\ tyN d m = some t /\ Q (.bl (isiB t n)) H) := by
 intro pins s σ H xs us Q I r h
 obtain ⟨cl, α, m, d, v, t, rfl, W, rv, ht, q⟩ := h
 obtain ⟨u, w, rfl, ru, rw'⟩ := vals2 r
 cases rw'
 have kt := kit_tab (K := X.K) ht hn
 have old : ∀ {t' : Value}, TyOf X.K H v t' -> t' = .type t -> wpAny (model X.prog X.w) X.A (call (.builtin "isinstance") [u, .type n]) (EP X pins σ Q) X.xe s := fun {t'} ty e => by
  subst e
  exact isinst_ok I ru ty kt fun tk => ⟨.bl _, H, I.tok _, rfl, q⟩
 unfold tyN at ht
 split at ht
 ·cases ht; rw [Rep] at rv; subst rv; exact old .non rfl
 ·cases ht; rw [Rep] at rv; subst rv; exact old (.bl _) rfl
 ·cases ht; rw [Rep] at rv; subst rv; exact old (.int _) rfl
 ·cases ht; rw [Rep] at rv; subst rv; exact old (.str _) rfl
 ·cases ht; rw [Rep] at rv; subst rv; exact old (.flt _) rfl
 ·cases ht
  rw [Rep] at rv
  obtain ⟨a, xs, rfl, h1, _⟩ := rv
  rcases h1 with h1 | ⟨o, _, _, k1, k2, _⟩
  ·exact old (.tup h1) rfl
  ·cases ru
   exact PySem.W.kia_one PySem.W.kitx_tuple I.kIn ⟨o, I.kIn a o k1, k2⟩ kt (fun z => nomatch z) fun tk => ⟨.bl _, H, I.tok _, rfl, q⟩
 ·cases ht
  rw [Rep] at rv
  obtain ⟨a, xs, rfl, _, h1, _⟩ := rv
  rcases h1 with h1 | ⟨o, h1⟩
  ·exact old (.lst h1) rfl
  ·exact old (.frz h1) rfl
 ·rw [Rep] at rv
  obtain ⟨a, ha, rfl⟩ := rv
  split at ht
  ·cases ht; obtain ⟨xs, h1, _⟩ := W.lst ha ‹_›; exact old (.lst h1) rfl
  ·cases ht; obtain ⟨xs, h1, _⟩ := W.dct ha ‹_›; exact old (.dK h1) rfl
  ·cases ht
 ·cases ht
theorem qe_isi {e : Expr} {fa : EV} {p p2 pos : Pos} {x : Str} {n : String} (hn : n ∈ askTy) (hg : Gl X "isinstance") (hm : X.mg "isinstance" = none) (hg2 : Gl X x) (hm2 : X.mg x = none) (hv : bootBuiltins x = some (.type n)) (ha : QE X cl ex e fa) (hx : autoParam (x ≠ "__name__") AutoP.a1._auto_1) (hdb : autoParam ((x == ("__debug__" : Str)) = false) AutoP.a1._auto_1)
  (he : autoParam (starEach [e, .Name x p2] X.env = (false, eval e X.env) :: starEach [.Name x p2] X.env) AutoP.a3._auto_1) (he2 : autoParam (starEach [.Name x p2] X.env = (false, eval (.Name x p2) X.env) :: starEach [] X.env) AutoP.a3._auto_1) (hpl : autoParam ((backTo pos (starEach [.Name x p2] X.env)).any (·.1) = false) AutoP.a3._auto_1) :
  QE X cl ex (.Call (.Name "isinstance" p) [e, .Name x p2] [] pos) (eUn (isiD n) fa) :=
 ⟨PE.weak (pe_callB (call_isiD hn) hg hm boot_isinstance (pa_cons ha.out (pa_cons (pe_bltn (v := .ty n) hg2 hm2 hv rfl hx hdb) pa_nil he2) he) (by decide) (by decide) he hpl) fun σ H Q hh => ex3 hh fun α ρ m W hr h => tD.use W hr h fun α1 m1 H1 d v E1 W1 hr1 rv q1 => by
  unfold isiD at q1
  split at q1
  ·exact ⟨cl, α1, m1, d, v, _, rfl, W1, rv, ‹_›, PQ.ok W1 q1 _ repB⟩
  ·exact q1.elim⟩
end
section
variable {X : Cx} {cl : Str -> Addr} {ex : XD} {o i e value : Expr} {fo fi fv : EV} {fr : AV} {pos p pos' : Pos}
def keyOf (d : D) : Option L2.Key := match d with
 | .int i => some (.inl i)
 | .str z => some (.inr z)
 | _ => none
def putS (x y v : D) (m : Sto) : Res Unit := match x with
 | .ob k => match m[k]?, keyOf y with
  | some (.dct kvs), some q => if kvs.length < sizeLine then .ok () (m.set k (.dct (putD kvs q v))) else .bad
  | some (.lst ds), some (.inl i) => match ixN ds.length i with
   | some j => .ok () (m.set k (.lst (ds.set j v)))
   | none => .bad
  | _, _ => .bad
 | _ => .bad
theorem keyOf_use {K : PySem.W.Frag} {α : List Addr} {H : Hp} {d : D} {v : V} {k : L2.Key} (h : keyOf d = some k) (r : Rep K α H d v) : v = kV k := by
 unfold keyOf at h
 split at h
 ·cases h; rw [Rep] at r; exact r
 ·cases h; rw [Rep] at r; exact r
 ·cases h
def putDS (x y v : D) (m : Sto) : Res Unit := match x with
 | .ob k => match m[k]? with
  | some (.dct kvs) => match keyOf y with
   | some q => if kvs.length < sizeLine then .ok () (m.set k (.dct (putD kvs q v))) else .bad
   | none => .bad
  | _ => .bad
 | _ => .bad
def sPutD (fo fi fv : EV) : SV := fun ρ m => (fv ρ m).bind fun v m1 => (fo ρ m1).bind fun x m2 => (fi ρ m2).bind fun y m3 => (putDS x y v m3).bind fun _ m4 => .ok (.nx ρ) m4
theorem qs_dput (hu : X.A.units + 1 < cLine) (ho : QE X cl ex o fo) (hi : QE X cl ex i fi) (hv : QE X cl ex value fv) (hs : swapsWith value (some (.Subscript o i pos')) pos.line X.env = pure false) :
  QS X cl ex (.Assign [.Subscript o i pos'] value pos) (sPutD fo fi fv) :=
 ⟨PS.weak (ps_dput hu ho.out hi.out hv.out hs) fun D σ H hh => ex3 hh fun α ρ m W hr h => tD.use W hr h fun α1 m1 H1 dv v E1 W1 hr1 rv q1 => tD.use W1 hr1 q1 fun α2 m2 H2 dx x E2 W2 hr2 rx q2 => tD.use W2 hr2 q2 fun α3 m3 H3 dy y E3 W3 hr3 ry q3 => by
  have rv := rv.mono W1 (E2.trans E3)
  have rx := rx.mono W2 E3
  unfold putDS at q3
  split at q3
  ·rw [Rep] at rx
   obtain ⟨a, ha, rfl⟩ := rx
   split at q3
   ·rename_i k _ kvs e
    split at q3
    ·rename_i q ek
     split at q3
     ·rename_i hc
      obtain ⟨ys, h1, r1⟩ := W3.dct ha e
      obtain ⟨W4, E4⟩ := W3.set (u := .dK (putK ys q v)) (o := .dct (putD kvs q dv)) ha fun E => ⟨_, upd_same, RepKV.put (rv.mono W3 E) (r1.mono W3 E)⟩
      refine ⟨a, _, rfl, by rw [keyOf_use ek ry]; exact DPut.k h1 (by rw [<- r1.length]; exact hc), ?_⟩
      exact (show PQ X.K cl ex (.ok (.nx ρ) (m3.set k (.dct (putD kvs q dv)))) α3 H3 fun fl α' _ H' => EndsOk X.K D fl α' H' from q3) _ _ E4 W4 _ (hr3.mono W3 E4)
     ·exact q3.elim
    ·exact q3.elim
   ·exact q3.elim
  ·exact q3.elim⟩
def pairsM : List (Str × EV) -> En -> Sto -> Res (List (L2.Key × D))
 | [], _, m => .ok [] m
 | (k, f) :: r, ρ, m => (f ρ m).bind fun d m1 => (pairsM r ρ m1).bind fun ps m2 => .ok ((.inr k, d) :: ps) m2
def mergeD (more : List (L2.Key × D)) : List (L2.Key × D) := more.foldl (fun acc kv => putD acc kv.1 kv.2) []
def eDict (fs : List (Str × EV)) : EV := fun ρ m => (pairsM fs ρ m).bind fun ps m1 => .ok (.ob m1.length) (m1 ++ [.dct (mergeD ps)])
inductive QPs (X : Cx) (cl : Str -> Addr) (ex : XD) : List (Option Expr) -> List Expr -> List (Str × EV) -> Prop where
 | nil : QPs X cl ex [] [] []
 | cons {k : Str} {j} {pk : Pos} {v : Expr} {f : EV} {ks : List (Option Expr)} {vs : List Expr} {fs : List (Str × EV)} : QE X cl ex v f -> QPs X cl ex ks vs fs -> QPs X cl ex (some (.Constant (.str k) j pk) :: ks) (v :: vs) ((k, f) :: fs)
theorem QPs.pps {ks : List (Option Expr)} {vs : List Expr} {fs : List (Str × EV)} (h : QPs X cl ex ks vs fs) : PPs X pos ks vs (fs.map fun q => (tC (.str q.1), tD X.K cl ex q.2)) := by
 induction h with
 | nil => exact pps_nil
 | cons hv _ ih => exact pps_cons pe_str hv.out ih
theorem QPs.keys {ks : List (Option Expr)} {vs : List Expr} {fs : List (Str × EV)} (h : QPs X cl ex ks vs fs) : ks.all (·.isSome) = true /\ ks.length = vs.length /\ ks.length = fs.length := by
 induction h with
 | nil => exact ⟨rfl, rfl, rfl⟩
 | cons _ _ ih => exact ⟨by rw [List.all_cons, ih.1]; rfl, by rw [List.length_cons, List.length_cons, ih.2.1], by rw [List.length_cons, List.length_cons, ih.2.2]⟩
theorem tPairs_of {K : PySem.W.Frag} {σ : L2.St} {ρ : En} {R : RD (List (L2.Key × D))} : ∀ (fs : List (Str × EV)) {α : List Addr} {m : Sto} {H : Hp} {Q : List (V × V) -> Hp -> Prop}, Wd K cl α m H -> RepE K α H ρ σ -> PQ K cl ex (pairsM fs ρ m) α H R →
  (∀ α1 m1 H1 ps vs, Ext α H α1 H1 -> Wd K cl α1 m1 H1 -> RepE K α1 H1 ρ σ -> ps.length = fs.length -> RepKV K α1 H1 ps vs -> R ps α1 m1 H1 -> Q (vs.map fun kv => (kV kv.1, kv.2)) H1) -> tPairs (fs.map fun q => (tC (.str q.1), tD K cl ex q.2)) σ H Q
 | [], α, m, H, Q, W, hr, h, hQ => hQ α m H [] [] (Ext.refl W) W hr rfl rfl (PQ.ok W h)
 | (k, f) :: r, α, m, H, Q, W, hr, h, hQ => by
  refine tD.use W hr h fun α1 m1 H1 d v E1 W1 hr1 rv q1 => ?_
  refine tPairs_of (R := fun ps α2 m2 H2 => R ((.inr k, d) :: ps) α2 m2 H2) r W1 hr1 (PQ.mono (Ext.refl W1) q1.bind fun ps α2 m2 H2 E2 W2 q2 => PQ.ok W2 q2) fun α2 m2 H2 ps vs E2 W2 hr2 hl rps q2 => ?_
  exact hQ α2 m2 H2 ((.inr k, d) :: ps) ((.inr k, v) :: vs) (E1.trans E2) W2 hr2 (by rw [List.length_cons, List.length_cons, hl]) ⟨v, vs, rfl, rv.mono W1 E2, rps⟩ q2
theorem rep_merge {K : PySem.W.Frag} {α : List Addr} {H : Hp} : ∀ (ps : List (L2.Key × D)) {vs : List (L2.Key × V)} {qs : List (L2.Key × D)} {us : List (L2.Key × V)}, RepKV K α H ps vs -> RepKV K α H qs us -> RepKV K α H (ps.foldl (fun acc kv => putD acc kv.1 kv.2) qs) (mergeK us vs)
 | [], _, _, _, h, h' => by
  cases (show _ = [] from h)
  exact h'
 | p :: r, _, _, _, ⟨v, r', e, h1, h2⟩, h' => by
  subst e
  exact (show RepKV K α H _ (mergeK (putK _ p.1 v) r') from rep_merge r h2 (RepKV.put h1 h'))
theorem qe_dict {ks : List (Option Expr)} {vs : List Expr} {fs : List (Str × EV)} (h : QPs X cl ex ks vs fs) (h0 : ks ≠ []) (h15 : ks.length <= 15) : QE X cl ex (.Dict ks vs pos) (eDict fs) :=
 ⟨PE.weak (pe_disp h.pps h.keys.1 h.keys.2.1 h0 h15) fun σ H Q hh => ex3 hh fun α ρ m W hr q p hp => by
  have s0 := Same.new (o := .dK []) hp
  have W0 := W.same s0
  have E0 := Ext.of_same W s0
  refine tPairs_of (R := fun ps α1 m1 H1 => PQ X.K cl ex (.ok (.ob m1.length) (m1 ++ [.dct (mergeD ps)])) α H fun d α' _ H' => ∀ v, Rep X.K α' H' d v -> Q v H') fs W0 (hr.mono W E0) ?_ fun α1 m1 H1 ps us E1 W1 hr1 hl rps q1 => ?_
  ·cases hf : pairsM fs ρ m with
   | ok ps m1 => rw [show eDict fs ρ m = (pairsM fs ρ m).bind _ from rfl, hf] at q; exact fun _ _ _ _ => q
   | exc c m1 => rw [show eDict fs ρ m = (pairsM fs ρ m).bind _ from rfl, hf] at q; exact fun α2 H2 E2 W2 => q α2 H2 (E0.trans E2) W2
   | bad => rw [show eDict fs ρ m = (pairsM fs ρ m).bind _ from rfl, hf] at q; exact q
  have pn : p ∉ α := W.nin hp
  have pk : H1 p = some (.dK []) := E1.keep p _ upd_same pn
  have E01 : Ext α H α1 H1 := E0.trans E1
  have pn1 : p ∉ α1 := fun z => by
   obtain ⟨β, rfl, hb⟩ := E1.pre
   rcases List.mem_append.mp z with z | z
   ·exact pn z
   ·have := hb p z
    rw [upd_same] at this
    cases this
  refine ⟨pk, us, rfl, by rw [<- rps.length, hl, <- h.keys.2.2]; exact h15, ?_⟩
  have keep : ∀ a o, H1 a = some o -> a ≠ p -> upd H1 p (.dK (mergeK [] us)) a = some o := fun a o e n => by rw [upd_ne n]; exact e
  have kp : Kp α1 H1 (α1 ++ [p]) (upd H1 p (.dK (mergeK [] us))) := by
   refine ⟨⟨[p], rfl⟩, (fun a xs e => keep a _ e fun z => by rw [z, pk] at e; cases e), (fun a xs n e => ?_), (fun a xs e => keep a _ e fun z => by rw [z, pk] at e; cases e), fun a xs e => keep a _ e fun z => by rw [z, pk] at e; cases e⟩
   have hap : a ≠ p := fun z => by
    rcases e with e | ⟨_, e⟩ <;> rw [z, pk] at e <;> cases e
   refine ⟨fun z => ?_, ?_⟩
   ·rcases List.mem_append.mp z with z | z
    ·exact n z
    ·exact hap (List.mem_singleton.mp z)
   ·rcases e with e | ⟨o, e⟩
    ·exact .inl (keep a _ e hap)
    ·exact .inr ⟨o, keep a _ e hap⟩
  have W2 := W1.join (u := .dK (mergeK [] us)) (o := .dct (mergeD ps)) pn1 kp ⟨_, upd_same, rep_merge ps (rps.kp kp) (show RepKV X.K _ _ [] [] from rfl)⟩
  have E2 : Ext α H (α1 ++ [p]) (upd H1 p (.dK (mergeK [] us))) := by
   obtain ⟨β, hβ, hb⟩ := E01.pre
   refine ⟨⟨β ++ [p], by rw [hβ, List.append_assoc], fun b hbm => ?_⟩, fun a o e n => ?_, fun a ha => ?_, fun a o u e => keep a _ (E01.frzs a o u e) (ne_of_none e hp)⟩
   ·rcases List.mem_append.mp hbm with z | z
    ·exact hb b z
    ·rw [List.mem_singleton.mp z]; exact hp
   ·exact keep a o (E01.keep a o e n) (ne_of_none e hp)
   ·rw [upd_ne (fun z => pn (by rw [<- z]; exact ha))]; exact E01.there a ha
  refine q1 _ _ E2 W2 _ ?_
  rw [Rep]
  refine ⟨p, ?_, rfl⟩
  rw [<- W1.len, List.getElem?_append_right (Nat.le_refl _)]
  simp⟩
end
structure FnX (P : Program) (w : World) (K : PySem.W.Frag) (mg : Str -> Option Value) (base : Heap) (cl : Str -> Addr) (x : Str) (k n : Nat) (g : List D -> Sto -> Res D) : Prop where
 ex : ∃ (f : Addr) (fd : FuncData) (ps : List Str), mg x = some (.ref f) /\ PySem.W.keepIn K (.ref f) = true /\ Binds K fd ps [] /\ FnOk P w K mg base CX0 k f fd ps (spD K cl X0 n g)
theorem qe_fn {X : Cx} {cl : Str -> Addr} {e : Expr} {es : List Expr} {fr : AV} {p pos : Pos} {x : Str} {k n : Nat} {g : List D -> Sto -> Res D} (h : FnX X.prog X.w X.K X.mg X.base cl x k n g) (hn : n = (e :: es).length) (hr : Room k X.A) (hg : Gl X x)
  (ha : QA X cl X0 (e :: es) fr) (hlen : ∀ ρ m ds m1, fr ρ m = .ok ds m1 -> ds.length = (e :: es).length) (hdb : autoParam ((x == ("__debug__" : Str)) = false) AutoP.a1._auto_1) (he : autoParam (starEach (e :: es) X.env = (false, eval e X.env) :: starEach es X.env) AutoP.a3._auto_1) (hpl : autoParam ((backTo pos (starEach es X.env)).any (·.1) = false) AutoP.a3._auto_1) :
  QE X cl X0 (.Call (.Name x p) (e :: es) [] pos) (eFn g fr) := by
 obtain ⟨f, fd, ps, h1, h2, h3, h4⟩ := h.ex
 exact qe_call h4 hn hr hg h1 h2 h3 ha hlen hdb he hpl
theorem FnX.mk' {P : Program} {w : World} {K : PySem.W.Frag} {mg : Str -> Option Value} {base : Heap} {cl : Str -> Addr} {x qual : Str} {st : Stmt} {f : Addr} {fd : FuncData} {N ps : List Str} {k n : Nat} {body : SV} (F : Fun K x qual st f fd) (b : Binds K fd ps []) (m : mg x = some (.ref f)) (S : FnScope N ps (defScope st)) (hn : n = ps.length)
  (h : ∀ (cdv : Value) (A : Around) (outer : List PySem.Env) (s : Shared) (H : Hp) (E : XK), Room k (A.deeper (envOfC qual (defScope st) s.heap.objs.size f cdv)) -> QSs (cxOf CX0 P w K mg base N qual (defScope st) f cdv A outer s H E).nox cl X0 (defBody st) body) : FnX P w K mg base cl x (k + 1) n (runF N.length body) :=
 ⟨f, fd, ps, m, F.kp, b, F.ok S (fun vs H Q E h => by rw [<- hn]; exact h.1) fun cdv A outer s H vs Q E hr q => ⟨_, (h cdv A outer s H E hr).out, fn_d q⟩⟩
theorem FnX.none {P : Program} {w : World} {K : PySem.W.Frag} {mg : Str -> Option Value} {base : Heap} {cl : Str -> Addr} {x qual : Str} {st : Stmt} {f : Addr} {fd : FuncData} {ps : List Str} {k n : Nat} (F : Fun K x qual st f fd) (b : Binds K fd ps []) (m : mg x = some (.ref f)) : FnX P w K mg base cl x k n (fun _ _ => .bad) :=
 ⟨f, fd, ps, m, F.kp, b, ⟨fun vs H Q E h => (by obtain ⟨_, _, _, _, _, _, q⟩ := h; exact q.elim), fun A outer s H args us vs Q E _ _ _ _ h => (by obtain ⟨_, _, _, _, _, _, q⟩ := h; exact q.elim)⟩⟩
theorem fnO {P : Program} {w : World} {K : PySem.W.Frag} {mg : Str -> Option Value} {base : Heap} {cl : Str -> Addr} {x qual : Str} {st : Stmt} {f : Addr} {fd : FuncData} {N ps : List Str} {k n : Nat} {body : SV} (F : Fun K x qual st f fd) (S : FnScope N ps (defScope st)) (hn : n = ps.length)
  (h : ∀ (cdv : Value) (A : Around) (outer : List PySem.Env) (s : Shared) (H : Hp) (E : XK), Room k (A.deeper (envOfC qual (defScope st) s.heap.objs.size f cdv)) -> QSs (cxOf CX0 P w K mg base N qual (defScope st) f cdv A outer s H E).nox cl X0 (defBody st) body) : FnOk P w K mg base CX0 (k + 1) f fd ps (spD K cl X0 n (runF N.length body)) :=
 F.ok S (fun vs H Q E h => by rw [<- hn]; exact h.1) fun cdv A outer s H vs Q E hr q => ⟨_, (h cdv A outer s H E hr).out, fn_d q⟩
def spLaw (K : PySem.W.Frag) : Sp := fun vs H Q _ => ∃ (a : Addr) (ns : List Int), vs = [.ref a] /\ SqL K H a (ns.map V.int) /\ ns.length <= 63 /\ ∀ H', Q (.bl true) H'
theorem repL_ints {K : PySem.W.Frag} {α : List Addr} {H : Hp} : ∀ ns : List Int, RepL K α H (ns.map D.int) (ns.map V.int)
 | [] => by simp [RepL]
 | a :: r => by
  rw [List.map_cons, List.map_cons, RepL]
  exact ⟨_, _, rfl, by rw [Rep], repL_ints r⟩
theorem law_sp {K : PySem.W.Frag} {cl : Str -> Addr} {g : List D -> Sto -> Res D} (h : ∀ ns : List Int, ns.length <= 63 -> ∃ a m, g [.scr (ns.map D.int)] [] = .ok a m /\ a = .bl true) : ∀ vs H Q E, spLaw K vs H Q E -> spD K cl X0 1 g vs H Q E := by
 rintro vs H Q E ⟨a, ns, rfl, hS, hlen, q⟩
 obtain ⟨_, m', e, rfl⟩ := h ns hlen
 refine ⟨rfl, [], [], [.scr (ns.map D.int)], ⟨rfl, List.nodup_nil, fun k a o h => by simp at h⟩, ?_, ?_⟩
 ·rw [RepL]
  refine ⟨_, _, rfl, ?_, by rw [RepL]⟩
  rw [Rep]
  refine ⟨a, _, rfl, ?_, repL_ints ns⟩
  rcases hS with hS | hS
  ·exact .inl ⟨by simp, hS⟩
  ·exact .inr hS
 ·rw [e]
  intro α' H' _ _ v r
  rw [Rep] at r
  subst r
  exact q H'
theorem law_fn {P : Program} {w : World} {K : PySem.W.Frag} {mg : Str -> Option Value} {base : Heap} {cl : Str -> Addr} {k : Nat} {f : Addr} {fd : FuncData} {ps : List Str} {g : List D -> Sto -> Res D} (F : FnOk P w K mg base CX0 k f fd ps (spD K cl X0 1 g)) (h : ∀ ns : List Int, ns.length <= 63 -> ∃ a m, g [.scr (ns.map D.int)] [] = .ok a m /\ a = .bl true) : FnOk P w K mg base CX0 k f fd ps (spLaw K) := F.imp (law_sp h)
theorem usS {us : List Value} {n : Nat} (hl : us.length = n + 1) : ∃ a r, us = a :: r /\ r.length = n := by
 cases us with
 | nil => exact absurd hl (by simp)
 | cons a r => exact ⟨a, r, rfl, Nat.succ.inj hl⟩
theorem us0 {us : List Value} (hl : us.length = 0) : us = [] := List.length_eq_zero_iff.mp hl
theorem us1 {us : List Value} (hl : us.length = 1) : ∃ (a0 : Value), us = [a0] := by
 obtain ⟨a0, r, rfl, h⟩ := usS hl
 obtain rfl := us0 h
 exact ⟨a0, rfl⟩
theorem us2 {us : List Value} (hl : us.length = 2) : ∃ (a0 a1 : Value), us = [a0, a1] := by
 obtain ⟨a0, r, rfl, h⟩ := usS hl
 obtain ⟨a1, rfl⟩ := us1 h
 exact ⟨a0, a1, rfl⟩
theorem us3 {us : List Value} (hl : us.length = 3) : ∃ (a0 a1 a2 : Value), us = [a0, a1, a2] := by
 obtain ⟨a0, r, rfl, h⟩ := usS hl
 obtain ⟨a1, a2, rfl⟩ := us2 h
 exact ⟨a0, a1, a2, rfl⟩
theorem us4 {us : List Value} (hl : us.length = 4) : ∃ (a0 a1 a2 a3 : Value), us = [a0, a1, a2, a3] := by
 obtain ⟨a0, r, rfl, h⟩ := usS hl
 obtain ⟨a1, a2, a3, rfl⟩ := us3 h
 exact ⟨a0, a1, a2, a3, rfl⟩
end MD
set_option autoImplicit false
namespace HT
open PySem PySem.Spec PyProof.Rows L2
end HT
namespace MD
open PySem PySem.Spec PyProof.Rows L2
def slA (x : D) (lo hi : Option Int) (m : Sto) : Res D := match x with
 | .tup ds => .ok (.tup (cutD ds lo hi)) m
 | d => slD d lo hi m
def eSlA (f : EV) (lo hi : OV) : EV := fun ρ m => (f ρ m).bind fun x m1 => (lo ρ m1).bind fun l m2 => (hi ρ m2).bind fun h m3 => slA x l h m3
end MD
set_option autoImplicit false
namespace HT
open PySem PySem.Spec PyProof.Rows L2
end HT
namespace MD
open PySem PySem.Spec PyProof.Rows L2
section
variable {X : Cx} {K : PySem.W.Frag} {cl : Str -> Addr} {ex : XD} {α : List Addr} {m : Sto} {H : Hp} {pos : Pos}
theorem qe_dict0 : QE X cl ex (.Dict [] [] pos) (eDict []) :=
 ⟨PE.weak pe_dnewK fun σ H Q hh => ex3 hh fun α ρ m W hr q p hp => by
  obtain ⟨W2, E2⟩ := W.new (u := .dK []) (o := .dct []) hp ⟨_, upd_same, (show RepKV X.K _ _ [] [] from rfl)⟩
  have q' : PQ X.K cl ex (.ok (.ob m.length) (m ++ [.dct []])) α H fun d α' _ H' => ∀ v, Rep X.K α' H' d v -> Q v H' := q
  refine q' _ _ E2 W2 _ ?_
  rw [Rep]
  refine ⟨p, ?_, rfl⟩
  rw [<- W.len, List.getElem?_append_right (Nat.le_refl _), Nat.sub_self]
  rfl⟩
end
def fuelW : Nat := 1000000
def gNumberOf0 : SV :=
 (sSeq (sAsg (eC (.int 0)) (gN 1))
 (sSeq (sFor (aIt (eVar 0)) (gN 2)
 (sAsg (eOp addD (eOp mulD (eVar 1) (eC (.int 2))) (eFn intF (aCons (eVar 2) aNil))) (gN 1)))
 (sRet (eVar 1))))
def gNumberOf : List D -> Sto -> Res D := runF 3 gNumberOf0
def gBreadths0 : SV :=
 (sRet (eFn gL1 (aComp 1 (aIt (eOp ixD (eVar 0) (eC (.int 0)))) (gN 1) tYesM (eOp ixD (eVar 1) (eC (.int 1))))))
def gBreadths : List D -> Sto -> Res D := runF 1 gBreadths0
def gWidthOf0 : SV :=
 (sSeq (sIf (tV (eOp eqD (eOp ixD (eVar 0) (eC (.int 0))) (eC (.str "keep"))))
 (sRet (eC (.int 0)))
 sNil)
 (sSeq (sIf (tV (eOp eqD (eOp ixD (eVar 0) (eC (.int 0))) (eC (.str "low"))))
 (sRet (eOp ixD (eVar 0) (eC (.int 1))))
 sNil)
 (sRet (eVar 1))))
def gWidthOf : List D -> Sto -> Res D := runF 2 gWidthOf0
def gWidths0 : SV :=
 (sRet (eFn gL1 (aComp 2 (aZip (eOp ixD (eVar 1) (eC (.int 2))) (eFn gBreadths (aCons (eVar 0) aNil))) (gT 2 (gsCons (gN 2) (gsCons (gN 3) gsNil))) tYesM (eFn gWidthOf (aCons (eVar 2) (aCons (eVar 3) aNil))))))
def gWidths : List D -> Sto -> Res D := runF 2 gWidths0
def gLawBits0 : SV :=
 (sSeq (sAsg (eC (.str "")) (gN 2))
 (sSeq (sFor (aRng rng1 (aCons (eVar 1) aNil)) (gN 3)
 (sSeq (sAsg (eOp addD (eFn strF (aCons (eOp modD (eVar 0) (eC (.int 2))) aNil)) (eVar 2)) (gN 2))
 (sAsg (eOp fdivD (eVar 0) (eC (.int 2))) (gN 0))))
 (sRet (eVar 2))))
def gLawBits : List D -> Sto -> Res D := runF 4 gLawBits0
def gLawNumber0 : SV :=
 (sSeq (sAsg (eC (.int 0)) (gN 1))
 (sSeq (sFor (aIt (eVar 0)) (gN 2)
 (sAsg (eOp addD (eOp mulD (eC (.int 2)) (eVar 1)) (eFn intF (aCons (eOp eqD (eVar 2) (eC (.str "1"))) aNil))) (gN 1)))
 (sRet (eVar 1))))
def gLawNumber : List D -> Sto -> Res D := runF 3 gLawNumber0
def gLawSame0 (self : List D -> Sto -> Res D) : SV :=
 (sSeq (sIf (tV (eUn (isiD "tuple") (eVar 1)))
 (sSeq (sIf (tOrM (tNotM (tV (eUn (isiD "tuple") (eVar 0)))) (tV (eOp neD (eFn lenF (aCons (eVar 0) aNil)) (eFn lenF (aCons (eVar 1) aNil)))))
 (sRet (eC (.bl false)))
 sNil)
 (sRet (eFn allF (aCons (eFn gL1 (aComp 2 (aZip (eVar 0) (eVar 1)) (gT 2 (gsCons (gN 2) (gsCons (gN 3) gsNil))) tYesM (eFn self (aCons (eVar 2) (aCons (eVar 3) aNil))))) aNil))))
 sNil)
 (sSeq (sIf (tV (eOp isD (eVar 1) (eC .non)))
 (sRet (eOp isD (eVar 0) (eC .non)))
 sNil)
 (sSeq (sIf (tV (eUn (isiD "str") (eVar 1)))
 (sRet (eAnd (eUn (isiD "str") (eVar 0)) (eOp eqD (eVar 0) (eVar 1))))
 sNil)
 (sRet (eAnd (eUn (isiD "int") (eVar 0)) (eAnd (eNot (eUn (isiD "bool") (eVar 0))) (eOp eqD (eVar 0) (eVar 1))))))))
def gLawSameN : Nat -> List D -> Sto -> Res D
 | 0 => fun _ _ => .bad
 | n + 1 => runF 2 (gLawSame0 (gLawSameN n))
def gLawSame : List D -> Sto -> Res D := gLawSameN 12
def gSizeOf0 : SV :=
 (sRet (eFn sumF (aCons (eFn gWidths (aCons (eVar 0) (aCons (eVar 1) aNil))) aNil)))
def gSizeOf : List D -> Sto -> Res D := runF 2 gSizeOf0
section
variable {X : Cx} {K : PySem.W.Frag} {cl : Str -> Addr} {ex : XD} {o i : Expr} {fo fi : EV} {pos : Pos}
def putL (x y v : D) (m : Sto) : Res Unit := match x, y with
 | .ob k, .int i => match m[k]? with
  | some (.lst ds) => match ixN ds.length i with
   | some j => .ok () (m.set k (.lst (ds.set j v)))
   | none => .bad
  | _ => .bad
 | _, _ => .bad
def gI (fo fi : EV) : GV := fun d ρ m => (fo ρ m).bind fun x m1 => (fi ρ m1).bind fun y m2 => (putL x y d m2).bind fun _ m3 => .ok ρ m3
theorem RepL.put {α : List Addr} {H : Hp} {d : D} {v : V} (h : Rep K α H d v) : ∀ {ds : List D} {vs : List V} (j : Nat), RepL K α H ds vs -> RepL K α H (ds.set j d) (vs.set j v)
 | [], vs, j, r => by
  rw [RepL] at r
  subst r
  simp [RepL]
 | e :: ds, vs, j, r => by
  rw [RepL] at r
  obtain ⟨u, us, rfl, r1, r2⟩ := r
  cases j with
  | zero => rw [List.set_cons_zero, List.set_cons_zero, RepL]; exact ⟨v, us, rfl, h, r2⟩
  | succ j => rw [List.set_cons_succ, List.set_cons_succ, RepL]; exact ⟨u, _, rfl, r1, RepL.put h j r2⟩
theorem qg_item (ho : QE X cl ex o fo) (hi : QE X cl ex i fi) (ha : autoParam (∀ v, assign (.Subscript o i pos) X.env v = (do
   let ov <- holding [v] (eval o X.env)
   let iv <- holding [v, ov] (eval i X.env)
   standAt pos
   holding [v, ov, iv] (setItem ov iv v)
   release [v, ov, iv] [])) AutoP.a2._auto_1) : QG X cl ex (.Subscript o i pos) (gI fo fi) :=
 ⟨PG.weak (pg_sub ho.out hi.out set_list ha) fun v σ H Q ⟨α, ρ, m, d, W, hr, rv, h⟩ => tD.use W hr h fun α1 m1 H1 dx x E1 W1 hr1 rx q1 => tD.use W1 hr1 q1 fun α2 m2 H2 dy y E2 W2 hr2 ry q2 => by
  have rv := rv.mono W (E1.trans E2)
  have rx := rx.mono W1 E2
  unfold putL at q2
  split at q2
  ·rw [Rep] at rx
   rw [Rep] at ry
   obtain ⟨a, ha, rfl⟩ := rx
   subst ry
   split at q2
   ·rename_i ds e
    split at q2
    ·rename_i j' ej
     obtain ⟨ys, h1, r1⟩ := W2.lst ha e
     obtain ⟨W4, E4⟩ := W2.set (u := .lst (ys.set j' v)) (o := .lst (ds.set j' d)) ha fun E => ⟨_, upd_same, RepL.put (rv.mono W2 E) j' (r1.mono W2 E)⟩
     refine ⟨a, ys, _, j', rfl, rfl, h1, by rw [<- r1.length]; exact ej, ?_⟩
     exact (show PQ X.K cl ex (.ok ρ (m2.set _ (.lst (ds.set j' d)))) α2 H2 _ from q2) _ _ E4 W4 _ (hr2.mono W2 E4)
    ·exact q2.elim
   ·exact q2.elim
  ·exact q2.elim⟩
end
end MD
namespace L2
open PySem PySem.Spec PyProof.Rows
variable {X : Cx} {e : Expr} {te : TE} {pos : Pos}
end L2
set_option autoImplicit false
namespace MD
open PySem PySem.Spec PyProof.Rows L2
def mulBR (x y : D) (m : Sto) : Res D := match x, y with
 | .int i, .int j => if i.natAbs.log2 < 1100 /\ j.natAbs.log2 < 1100 then .ok (.int (i * j)) m else .bad
 | _, _ => .bad
theorem mulB_ex : ∃ f : D -> D -> Sto -> Res D, f = mulBR := ⟨_, rfl⟩
def mulB : D -> D -> Sto -> Res D := Classical.choose mulB_ex
theorem mulB_eq : mulB = mulBR := Classical.choose_spec mulB_ex
theorem bits_1100 {a : Int} (h : a.natAbs.log2 < 1100) : Builtin.Int.intBits a <= 2 ^ 20 := by
 unfold Builtin.Int.intBits
 split
 ·exact Nat.zero_le _
 ·exact Nat.le_trans (Nat.succ_le_of_lt h) (by decide)
theorem op_mulB {X : Cx} : OpR X (binaryOp .Mult) (rI IntMulOk fun i j => .int (i * j)) := opI fun _ _ _ _ _ _ _ hc q => mul_int q hc
theorem od_mulB {K : PySem.W.Frag} {cl : Str -> Addr} {ex : XD} : OpD K cl ex (rI IntMulOk fun i j => .int (i * j)) mulB := fun α m H x y vx vy Q W rx ry h => by
 rw [mulB_eq] at h; unfold mulBR at h
 split at h
 ·rw [Rep] at rx ry; obtain ⟨hc, h⟩ := PQ.if h; exact ⟨_, _, rx, ry, IntMulOk.of_bits (bits_1100 hc.1) (bits_1100 hc.2), PQ.ok W h _ repI⟩
 ·exact h.elim
open Classical in
def grd {τ : Type} (k : Nat) (o : MO) (m : Sto) (r : Res τ) : Res τ := if m[k]? = some o then r else .bad
def loopO (k : Nat) (o : MO) (g : GV) (body : SV) : List D -> En -> Sto -> Res Fl
 | [], ρ, m => grd k o m (.ok (.nx ρ) m)
 | d :: r, ρ, m => grd k o m ((g d ρ m).bind fun ρ1 m1 => (body ρ1 m1).bind fun fl m2 => match fl with
  | .nx ρ2 => loopO k o g body r ρ2 m2
  | .ct ρ2 => loopO k o g body r ρ2 m2
  | .bk ρ2 => .ok (.nx ρ2) m2
  | .rt d => .ok (.rt d) m2)
abbrev OI := En -> Sto -> Res (Nat × MO × List D)
def asObj (d : D) (m : Sto) : Res (Nat × MO × List D) := match d with
 | .ob k => match m[k]? with
  | some (.lst xs) => .ok (k, .lst xs, xs) m
  | _ => .bad
 | _ => .bad
def aObj (fa : EV) : OI := fun ρ m => (fa ρ m).bind asObj
def sForO (it : OI) (g : GV) (body : SV) : SV := fun ρ m => (it ρ m).bind fun t m1 => loopO t.1 t.2.1 g body t.2.2 ρ m1
def gLawBox0 : SV :=
 (sSeq (sAsg (eC (.int 41)) (gN 1))
 (sSeq (sAsg (eFn gNewL aNil) (gN 2))
 (sSeq (sAsg (eOp mulB (eOp mulB (eOp mulB (eOp mulB (eOp powD (eC (.int 10)) (eC (.int 60))) (eOp powD (eC (.int 10)) (eC (.int 60)))) (eOp powD (eC (.int 10)) (eC (.int 60)))) (eOp powD (eC (.int 10)) (eC (.int 60)))) (eOp powD (eC (.int 10)) (eC (.int 60)))) (gN 3))
 (sSeq (sFor (aIt (eSl (eVar 0) oNone (oSome (eC (.int 63))))) (gN 4)
 (sSeq (sAsg (eOp modD (eOp addD (eOp addD (eOp mulD (eVar 1) (eC (.int 1000003))) (eOp modD (eVar 4) (eOp powD (eC (.int 10)) (eC (.int 30))))) (eC (.int 7))) (eC (.int 2305843009213693951))) (gN 1))
 (sIf (tV (eOp geD (eFn absF (aCons (eVar 4) aNil)) (eOp powD (eC (.int 10)) (eC (.int 18)))))
 (sDrop (eMeth isLst appendM (eVar 2) (aCons (eOp modD (eFn absF (aCons (eVar 4) aNil)) (eVar 3)) aNil)))
 sNil)))
 (sRet (eDict [("own", (eVar 2)), ("seed", (eVar 1)), ("turn", (eC (.int 0)))]))))))
def gLawBox : List D -> Sto -> Res D := runF 5 gLawBox0
def gLawNext0 : SV :=
 (sSeq (sWhile fuelW (tAndM (tV (eOp neD (eOp ixD (eVar 0) (eC (.str "own"))) (eFn gLst aNil))) (tV (eOp eqD (eOp ixD (eOp ixD (eVar 0) (eC (.str "own"))) (eC (.int 0))) (eC (.int 0)))))
 (sDrop (eMeth isLst popM (eOp ixD (eVar 0) (eC (.str "own"))) (aCons (eC (.int 0)) aNil))))
 (sSeq (sIf (tV (eOp neD (eOp ixD (eVar 0) (eC (.str "own"))) (eFn gLst aNil)))
 (sSeq (sAsg (eOp modD (eOp ixD (eOp ixD (eVar 0) (eC (.str "own"))) (eC (.int 0))) (eVar 1)) (gN 2))
 (sSeq (sAsg (eOp fdivD (eOp ixD (eOp ixD (eVar 0) (eC (.str "own"))) (eC (.int 0))) (eVar 1)) (gI (eOp ixD (eVar 0) (eC (.str "own"))) (eC (.int 0))))
 (sRet (eVar 2))))
 sNil)
 (sSeq (sPutD (eVar 0) (eC (.str "turn")) (eOp addD (eOp ixD (eVar 0) (eC (.str "turn"))) (eC (.int 1))))
 (sSeq (sAsg (eOp ixD (eVar 0) (eC (.str "turn"))) (gN 3))
 (sSeq (sAsg (eOp addD (eOp addD (eOp ixD (eVar 0) (eC (.str "seed"))) (eOp mulD (eOp mulD (eVar 3) (eVar 3)) (eC (.int 7919)))) (eOp mulD (eVar 3) (eC (.int 104729)))) (gN 4))
 (sSeq (sAsg (eOp modD (eOp mulD (eVar 4) (eC (.int 48271))) (eC (.int 2305843009213693921))) (gN 4))
 (sSeq (sAsg (eOp modD (eOp mulD (eVar 4) (eOp addD (eOp modD (eVar 4) (eC (.int 1000003))) (eC (.int 69621)))) (eC (.int 2305843009213693907))) (gN 4))
 (sRet (eOp modD (eOp fdivD (eVar 4) (eC (.int 65537))) (eVar 1))))))))))
def gLawNext : List D -> Sto -> Res D := runF 5 gLawNext0
def gLawOf0 : SV :=
 (sRet (eOp ixD (eVar 1) (eFn gLawNext (aCons (eVar 0) (aCons (eFn lenF (aCons (eVar 1) aNil)) aNil)))))
def gLawOf : List D -> Sto -> Res D := runF 2 gLawOf0
def gLawValue30 : SV :=
 (sSeq (sAsg (eFn gLst (aCons (eC (.int 0)) (aCons (eC (.int 1)) (aCons (eOp subD (eOp shlD (eC (.int 1)) (eVar 1)) (eC (.int 1))) (aCons (eFn gLawNext (aCons (eVar 0) (aCons (eOp shlD (eC (.int 1)) (eVar 1)) aNil))) aNil))))) (gN 2))
 (sRet (eOp modD (eOp ixD (eVar 2) (eFn gLawNext (aCons (eVar 0) (aCons (eC (.int 4)) aNil)))) (eOp shlD (eC (.int 1)) (eVar 1)))))
def gLawValue3 : List D -> Sto -> Res D := runF 3 gLawValue30
def gLawKind30 : SV :=
 (sSeq (sAsg (eFn gLawNext (aCons (eVar 0) (aCons (eC (.int 8)) aNil))) (gN 3))
 (sSeq (sIf (tV (eOp ltD (eVar 3) (eC (.int 2))))
 (sRet (eFn gTup (aCons (eC (.str "still")) aNil)))
 sNil)
 (sSeq (sIf (tV (eOp ltD (eVar 3) (eC (.int 4))))
 (sRet (eFn gTup (aCons (eC (.str "step")) (aCons (eFn gLawValue3 (aCons (eVar 0) (aCons (eVar 2) aNil))) aNil))))
 sNil)
 (sSeq (sIf (tV (eOp eqD (eVar 3) (eC (.int 4))))
 (sSeq (sAsg (eFn min2F (aCons (eOp addD (eC (.int 2)) (eFn gLawNext (aCons (eVar 0) (aCons (eC (.int 11)) aNil)))) (aCons (eOp shlD (eC (.int 1)) (eVar 2)) aNil))) (gN 4))
 (sSeq (sAsg (eFn gTup (aCons (eFn gLawNext (aCons (eVar 0) (aCons (eOp shlD (eC (.int 1)) (eVar 2)) aNil))) (aCons (eOp addD (eOp mulD (eC (.int 2)) (eFn gLawNext (aCons (eVar 0) (aCons (eC (.int 8)) aNil)))) (eC (.int 1))) aNil))) (gT 2 (gsCons (gN 5) (gsCons (gN 6) gsNil))))
 (sRet (eFn gTup (aCons (eC (.str "turn")) (aCons (eFn tupF (aCons (eFn gL1 (aComp 1 (aRng rng1 (aCons (eVar 4) aNil)) (gN 8) tYesM (eOp modD (eOp addD (eVar 5) (eOp mulD (eVar 6) (eVar 8))) (eOp shlD (eC (.int 1)) (eVar 2))))) aNil)) aNil))))))
 sNil)
 (sSeq (sIf (tAndM (tV (eOp ltD (eVar 3) (eC (.int 7)))) (tV (eOp gtD (eVar 1) (eC (.int 0)))))
 (sSeq (sAsg (eFn gLst (aCons (eC (.int 0)) (aCons (eC (.int 1)) (aCons (eUn negD (eC (.int 1))) (aCons (eC (.int 3)) (aCons (eC (.int 99)) (aCons (eUn negD (eC (.int 99))) (aCons (eOp subD (eFn gLawNext (aCons (eVar 0) (aCons (eC (.int 199)) aNil))) (eC (.int 99))) aNil)))))))) (gN 7))
 (sRet (eFn gTup (aCons (eC (.str "with")) (aCons (eFn gLawNext (aCons (eVar 0) (aCons (eVar 1) aNil))) (aCons (eFn gLawOf (aCons (eVar 0) (aCons (eVar 7) aNil))) aNil))))))
 sNil)
 (sRet (eFn gTup (aCons (eC (.str "drawn")) aNil))))))))
def gLawKind3 : List D -> Sto -> Res D := runF 8 gLawKind30
def gLawShape40 : SV :=
 (sSeq (sAsg (eC (.str "abcdefghijklmnopqrstuvwxyz")) (gN 2))
 (sSeq (sPar 3 4 (aCons (eFn gLawNext (aCons (eVar 0) (aCons (eC (.int 26)) aNil))) (aCons (eFn gNewL aNil) aNil)))
 (sSeq (sFor (aRng rng1 (aCons (eOp addD (eC (.int 1)) (eFn gLawNext (aCons (eVar 0) (aCons (eVar 1) aNil)))) aNil)) (gN 5)
 (sSeq (sAsg (eFn gLawOf (aCons (eVar 0) (aCons (eFn gLst (aCons (eC (.int 1)) (aCons (eC (.int 2)) (aCons (eC (.int 3)) (aCons (eC (.int 4)) (aCons (eC (.int 5)) (aCons (eC (.int 8)) (aCons (eC (.int 16)) (aCons (eC (.int 40)) aNil))))))))) aNil))) (gN 6))
 (sSeq (sAsg (eOp mulD (eOp ixD (eVar 2) (eOp modD (eOp addD (eVar 3) (eOp mulD (eC (.int 3)) (eVar 5))) (eC (.int 26)))) (eOp addD (eC (.int 1)) (eOp modD (eOp addD (eVar 3) (eVar 5)) (eC (.int 8))))) (gN 7))
 (sDrop (eMeth isLst appendM (eVar 4) (aCons (eFn gTup (aCons (eVar 7) (aCons (eVar 6) (aCons (eFn gLawKind3 (aCons (eVar 0) (aCons (eVar 5) (aCons (eVar 6) aNil)))) aNil)))) aNil))))))
 (sRet (eFn gTup (aCons (eFn tupF (aCons (eVar 4) aNil)) (aCons (eFn gLawOf (aCons (eVar 0) (aCons (eFn gLst (aCons (eC (.int 1)) (aCons (eC (.int 2)) (aCons (eC (.int 7)) (aCons (eC (.int 16)) (aCons (eC (.int 251)) (aCons (eC (.int 1000)) (aCons (eC (.int 999983)) (aCons (eOp powD (eC (.int 10)) (eC (.int 6))) aNil))))))))) aNil))) aNil)))))))
def gLawShape4 : List D -> Sto -> Res D := runF 8 gLawShape40
def gLawWay30 : SV :=
 (sSeq (sAsg (eFn gLawNext (aCons (eVar 0) (aCons (eC (.int 5)) aNil))) (gN 2))
 (sSeq (sIf (tV (eOp ltD (eVar 2) (eC (.int 3))))
 (sRet (eFn gTup (aCons (eC (.str "keep")) aNil)))
 sNil)
 (sSeq (sIf (tV (eOp eqD (eVar 2) (eC (.int 3))))
 (sRet (eFn gTup (aCons (eC (.str "whole")) aNil)))
 sNil)
 (sSeq (sAsg (eOp addD (eC (.int 1)) (eFn gLawNext (aCons (eVar 0) (aCons (eVar 1) aNil)))) (gN 3))
 (sRet (eFn gTup (aCons (eC (.str "low")) (aCons (eVar 3) (aCons (eFn gLawValue3 (aCons (eVar 0) (aCons (eVar 3) aNil))) aNil)))))))))
def gLawWay3 : List D -> Sto -> Res D := runF 4 gLawWay30
def gLawForm30 : SV :=
 (sSeq (sAsg (eFn tupF (aCons (eFn gL1 (aComp 1 (aIt (eOp ixD (eVar 1) (eC (.int 0)))) (gN 3) tYesM (eFn gLawWay3 (aCons (eVar 0) (aCons (eOp ixD (eVar 3) (eC (.int 1))) aNil))))) aNil)) (gN 2))
 (sRet (eFn gTup (aCons (eFn gLawOf (aCons (eVar 0) (aCons (eFn gLst (aCons (eC (.int 1)) (aCons (eC (.int 2)) (aCons (eC (.int 3)) (aCons (eC (.int 4)) (aCons (eC (.int 6)) (aCons (eC (.int 9)) (aCons (eC (.int 40)) aNil)))))))) aNil))) (aCons (eFn gLawOf (aCons (eVar 0) (aCons (eFn gLst (aCons (eC (.int 1)) (aCons (eC (.int 2)) (aCons (eC (.int 3)) (aCons (eC (.int 4)) (aCons (eC (.int 5)) (aCons (eC (.int 6)) (aCons (eC (.int 8)) (aCons (eC (.int 12)) (aCons (eC (.int 40)) aNil)))))))))) aNil))) (aCons (eVar 2) aNil))))))
def gLawForm3 : List D -> Sto -> Res D := runF 3 gLawForm30
def gLawRoad0 : SV :=
 (sSeq (sAsg (eFn gLawOf (aCons (eVar 0) (aCons (eFn gLst (aCons (eC (.int 0)) (aCons (eC (.int 0)) (aCons (eC (.int 1)) (aCons (eC (.int 2)) (aCons (eC (.int 3)) (aCons (eC (.int 5)) (aCons (eC (.int 39)) aNil)))))))) aNil))) (gN 1))
 (sSeq (sAsg (eOp addD (eVar 1) (eFn gLawOf (aCons (eVar 0) (aCons (eFn gLst (aCons (eC (.int 0)) (aCons (eC (.int 1)) (aCons (eC (.int 4)) (aCons (eC (.int 30)) (aCons (eC (.int 361)) aNil)))))) aNil)))) (gN 2))
 (sRet (eFn gTup (aCons (eVar 1) (aCons (eVar 2) (aCons (eFn gLawOf (aCons (eVar 0) (aCons (eFn gLst (aCons (eC (.int 0)) (aCons (eC (.int 0)) (aCons (eC (.int 1)) (aCons (eC (.int 2)) (aCons (eC (.int 5)) (aCons (eC (.int 20)) aNil))))))) aNil))) (aCons (eFn gLawOf (aCons (eVar 0) (aCons (eFn gLst (aCons (eC (.int 0)) (aCons (eC (.int 0)) (aCons (eC (.int 0)) (aCons (eC (.int 7)) (aCons (eC (.int 30)) (aCons (eC (.int 1)) (aCons (eC (.int 400)) aNil)))))))) aNil))) aNil))))))))
def gLawRoad : List D -> Sto -> Res D := runF 3 gLawRoad0
def gLawPact0 : SV :=
 (sSeq (sAsg (eFn gLawShape4 (aCons (eVar 0) (aCons (eVar 1) aNil))) (gN 2))
 (sSeq (sAsg (eFn tupF (aCons (eFn gL1 (aComp 1 (aRng rng1 (aCons (eFn gLawOf (aCons (eVar 0) (aCons (eFn gLst (aCons (eC (.int 0)) (aCons (eC (.int 1)) (aCons (eC (.int 2)) (aCons (eC (.int 3)) (aCons (eC (.int 5)) (aCons (eC (.int 12)) aNil))))))) aNil))) aNil)) (gN 4) tYesM (eFn gLawForm3 (aCons (eVar 0) (aCons (eVar 2) aNil))))) aNil)) (gN 3))
 (sRet (eFn gTup (aCons (eVar 2) (aCons (eFn gLawOf (aCons (eVar 0) (aCons (eFn gLst (aCons (eC (.int 9)) (aCons (eC (.int 12)) (aCons (eC (.int 16)) (aCons (eC (.int 40)) aNil))))) aNil))) (aCons (eVar 3) (aCons (eFn gLawRoad (aCons (eVar 0) aNil)) aNil))))))))
def gLawPact : List D -> Sto -> Res D := runF 4 gLawPact0
end MD
set_option autoImplicit false
namespace L2
open PySem PySem.Spec PyProof.Rows
end L2
namespace MD
open PySem L2
variable {K : PySem.W.Frag} {cl : Str -> Addr} {ex : XD}
end MD
set_option autoImplicit false
namespace MD
open PySem PySem.Spec PyProof.Rows L2
def lstRF (ds : List D) (m : Sto) : Res D := match ds with
 | [.int j] => if 0 <= j /\ j <= 1000 then .ok (.lst (intsD 0 j.toNat)) m else .bad
 | _ => .bad
theorem repL_rng {K : PySem.W.Frag} {α : List Addr} {H : Hp} : ∀ (l : List Nat), RepL K α H (l.map fun i : Nat => D.int (0 + (i : Nat))) (l.map fun i : Nat => V.int (i : Int))
 | [] => by simp [RepL]
 | i :: r => by
  rw [List.map_cons, List.map_cons, RepL]
  exact ⟨_, _, rfl, by rw [Rep, Int.zero_add], repL_rng r⟩
section
variable {X : Cx} {cl : Str -> Addr} {ex : XD} {a : Expr} {fr : AV} {p p2 pos pos2 : Pos}
theorem qe_lstR (hc : X.calm = true) (hg : Gl X "list") (hm : X.mg "list" = none) (hg2 : Gl X "range") (hm2 : X.mg "range" = none) (ha : QA X cl ex [a] fr)
  (he : autoParam (starEach [Expr.Call (.Name "range" p2) [a] [] pos2] X.env = (false, eval (Expr.Call (.Name "range" p2) [a] [] pos2) X.env) :: starEach [] X.env) AutoP.a3._auto_1) (hpl : autoParam ((backTo pos (starEach [] X.env)).any (·.1) = false) AutoP.a3._auto_1)
  (he2 : autoParam (starEach [a] X.env = (false, eval a X.env) :: starEach [] X.env) AutoP.a3._auto_1) (hpl2 : autoParam ((backTo pos2 (starEach [] X.env)).any (·.1) = false) AutoP.a3._auto_1) :
  QE X cl ex (.Call (.Name "list" p) [.Call (.Name "range" p2) [a] [] pos2] [] pos) (eFn lstRF fr) :=
 ⟨PE.weak (pe_callTy (call_list_rng hc) hg hm boot_list (pa_cons (pe_callTy call_rng hg2 hm2 boot_range ha.out (by decide) (by decide) he2 hpl2) pa_nil he) (by decide) (by decide) he hpl) fun σ H Q hh => ex3 hh fun α ρ m W hr h => tDA.use W hr h fun α1 m1 H1 d v E1 W1 hr1 rv q1 => by
  unfold lstRF at q1
  split at q1
  ·rename_i j
   obtain ⟨hj, q2⟩ := PQ.if q1
   obtain ⟨v, rfl, r1⟩ := rv.one_of
   rw [Rep] at r1
   subst r1
   refine ⟨j, rfl, hj.1, by omega, fun q hq => ?_⟩
   refine ⟨q, j.toNat, rfl, ?_, by omega, fun l hl => ?_⟩
   ·rw [upd_same]
    congr 2
    omega
   ·have W2 := W1.same (Same.new (o := .rng 0 j) hq)
    have s3 : Same H1 (upd (upd H1 q (.rng 0 j)) l (.lst ((List.range j.toNat).map fun i : Nat => V.int (i : Int)))) := fun b o e => Same.new hl b o (Same.new hq b o e)
    exact PQ.okS W1 s3 q2 _ (rep_lst W2 hl (repL_rng _))
  ·exact q1.elim⟩
end
def fldM (c f : Str) (x : D) (m : Sto) : Res D := match x with
 | .ob k => match m[k]? with
  | some (.ins c' fs) => if c' = c then opt (fs.lookup f) m else .bad
  | _ => .bad
 | _ => .bad
def eFld (c f : Str) (fa : EV) : EV := fun ρ m => (fa ρ m).bind (fldM c f)
def putFD (f : Str) (v : D) : List (Str × D) -> List (Str × D)
 | [] => [(f, v)]
 | (g, x) :: r => if g = f then (g, v) :: r else (g, x) :: putFD f v r
def setM (c f : Str) (x y : D) (m : Sto) : Res Unit := match x with
 | .ob k => match m[k]? with
  | some (.ins c' fs) => if c' = c /\ fs.length < 1000 then .ok () (m.set k (.ins c (putFD f y fs))) else .bad
  | _ => .bad
 | _ => .bad
def sFldM (c f : Str) (fo fv : EV) : SV := fun ρ m => (fv ρ m).bind fun y m1 => (fo ρ m1).bind fun x m2 => (setM c f x y m2).bind fun _ m3 => .ok (.nx ρ) m3
def insOk (c mth : Str) (x : D) (m : Sto) : Bool := match x with
 | .ob k => match m[k]? with
  | some (.ins c' fs) => decide (c' = c) && (fs.lookup mth).isNone
  | _ => false
 | _ => false
def eMth (c mth : Str) (g : List D -> Sto -> Res D) (fo : EV) (fr : AV) : EV := fun ρ m => (fo ρ m).bind fun x m1 => if insOk c mth x m1 = true then (fr ρ m1).bind fun ds m2 => g (x :: ds) m2 else .bad
end MD
set_option autoImplicit false
namespace L2
open PySem PySem.Spec PyProof.Rows
end L2
namespace MD
open PySem PySem.Spec PyProof.Rows L2
end MD
namespace PySem
open Sem (wp)
open Builtin
end PySem
set_option autoImplicit false
namespace L2
open PySem PySem.Spec PyProof.Rows
end L2
namespace MD
open PySem PySem.Spec PyProof.Rows L2
def gAreBits0 : SV :=
 (sSeq (sIf (tNotM (tV (eUn (isiD "str") (eVar 0))))
 (sRet (eC (.bl false)))
 sNil)
 (sSeq (sFor (aIt (eVar 0)) (gN 1)
 (sIf (tAndM (tV (eOp neD (eVar 1) (eC (.str "0")))) (tV (eOp neD (eVar 1) (eC (.str "1")))))
 (sRet (eC (.bl false)))
 sNil))
 (sRet (eC (.bl true)))))
def gAreBits : List D -> Sto -> Res D := runF 2 gAreBits0
def gWidthFor0 : SV :=
 (sSeq (sAsg (eC (.int 0)) (gN 1))
 (sSeq (sAsg (eC (.int 1)) (gN 2))
 (sSeq (sWhile fuelW (tV (eOp ltD (eVar 2) (eVar 0)))
 (sSeq (sAsg (eOp mulD (eVar 2) (eC (.int 2))) (gN 2))
 (sAsg (eOp addD (eVar 1) (eC (.int 1))) (gN 1))))
 (sRet (eVar 1)))))
def gWidthFor : List D -> Sto -> Res D := runF 3 gWidthFor0
def gFormAt0 : SV :=
 (sSeq (sIf (tV (eOp isD (eVar 1) (eC .non)))
 (sRet (eFn gTup (aCons (eC (.int 1)) (aCons (eOp ixD (eVar 0) (eC (.int 1))) (aCons (eOp mulD (eFn gTup (aCons (eFn gTup (aCons (eC (.str "whole")) aNil)) aNil)) (eFn lenF (aCons (eOp ixD (eOp ixD (eVar 0) (eC (.int 0))) (eC (.int 0))) aNil))) aNil)))))
 sNil)
 (sRet (eOp ixD (eOp ixD (eVar 0) (eC (.int 2))) (eVar 1))))
def gFormAt : List D -> Sto -> Res D := runF 2 gFormAt0
def gSortWidth0 : SV :=
 (sRet (eFn gWidthFor (aCons (eOp addD (eC (.int 1)) (eFn lenF (aCons (eOp ixD (eVar 0) (eC (.int 2))) aNil))) aNil)))
def gSortWidth : List D -> Sto -> Res D := runF 1 gSortWidth0
def gCheckWidth0 : SV :=
 (sRet (eFn gWidthFor (aCons (eOp ixD (eOp ixD (eVar 0) (eC (.int 0))) (eC (.int 1))) aNil)))
def gCheckWidth : List D -> Sto -> Res D := runF 1 gCheckWidth0
def gLetterSize0 : SV :=
 (sSeq (sAsg (eFn gFormAt (aCons (eVar 0) (aCons (eVar 1) aNil))) (gN 2))
 (sRet (eOp addD (eOp addD (eOp addD (eFn gSortWidth (aCons (eVar 0) aNil)) (eOp ixD (eVar 2) (eC (.int 1)))) (eFn gSizeOf (aCons (eOp ixD (eVar 0) (eC (.int 0))) (aCons (eVar 2) aNil)))) (eFn gCheckWidth (aCons (eVar 0) aNil)))))
def gLetterSize : List D -> Sto -> Res D := runF 3 gLetterSize0
def gLawWidth20 : SV :=
 (sSeq (sAsg (eC (.int 0)) (gN 1))
 (sSeq (sWhile fuelW (tV (eOp ltD (eOp shlD (eC (.int 1)) (eVar 1)) (eVar 0)))
 (sAsg (eOp addD (eVar 1) (eC (.int 1))) (gN 1)))
 (sRet (eVar 1))))
def gLawWidth2 : List D -> Sto -> Res D := runF 2 gLawWidth20
def gLawAnyHead0 : SV :=
 (sRet (eFn tupF (aCons (eFn gL1 (aComp 1 (aIt (eOp ixD (eVar 1) (eC (.int 0)))) (gN 2) tYesM (eFn gLawValue3 (aCons (eVar 0) (aCons (eOp ixD (eVar 2) (eC (.int 1))) aNil))))) aNil)))
def gLawAnyHead : List D -> Sto -> Res D := runF 2 gLawAnyHead0
def gLawCheck0 : SV :=
 (sSeq (sAsg (eVar 1) (gN 3))
 (sSeq (sFor (aRng rng1 (aCons (eFn lenF (aCons (eVar 2) aNil)) aNil)) (gN 4)
 (sAsg (eOp addD (eVar 3) (eOp mulD (eOp addD (eVar 4) (eC (.int 2))) (eOp ixD (eVar 2) (eVar 4)))) (gN 3)))
 (sRet (eOp modD (eVar 3) (eOp ixD (eVar 0) (eC (.int 1)))))))
def gLawCheck : List D -> Sto -> Res D := runF 5 gLawCheck0
def gLawWidthOf0 : SV :=
 (sSeq (sIf (tV (eOp eqD (eOp ixD (eVar 0) (eC (.int 0))) (eC (.str "low"))))
 (sRet (eOp ixD (eVar 0) (eC (.int 1))))
 sNil)
 (sRet (eOp mulD (eVar 1) (eFn intF (aCons (eOp eqD (eOp ixD (eVar 0) (eC (.int 0))) (eC (.str "whole"))) aNil)))))
def gLawWidthOf : List D -> Sto -> Res D := runF 2 gLawWidthOf0
def gLawPieces20 : SV :=
 (sSeq (sAsg (eC (.str "")) (gN 3))
 (sSeq (sFor (aEnum (eOp ixD (eVar 0) (eC (.int 0)))) (gT 2 (gsCons (gN 4) (gsCons (gN 5) gsNil)))
 (sSeq (sAsg (eIf (tV (eOp isD (eVar 1) (eC .non))) (eOp ixD (eVar 5) (eC (.int 1))) (eFn gLawWidthOf (aCons (eOp ixD (eVar 1) (eVar 4)) (aCons (eOp ixD (eVar 5) (eC (.int 1))) aNil)))) (gN 6))
 (sAsg (eOp addD (eVar 3) (eFn gLawBits (aCons (eOp modD (eOp ixD (eVar 2) (eVar 4)) (eOp shlD (eC (.int 1)) (eVar 6))) (aCons (eVar 6) aNil)))) (gN 3))))
 (sRet (eVar 3))))
def gLawPieces2 : List D -> Sto -> Res D := runF 7 gLawPieces20
def gLawLetter0 : SV :=
 (sSeq (sAsg (eVar 0) (gT 4 (gsCons (gN 4) (gsCons (gN 5) (gsCons (gN 6) (gsCons (gN 7) gsNil))))))
 (sSeq (sPar3 8 9 10 (aCons (eVar 5) (aCons (eC .non) (aCons (eC (.int 0)) aNil))))
 (sSeq (sIf (tV (eOp isntD (eVar 1) (eC .non)))
 (sPar3 8 9 10 (aCons (eOp ixD (eOp ixD (eVar 6) (eVar 1)) (eC (.int 1))) (aCons (eOp ixD (eOp ixD (eVar 6) (eVar 1)) (eC (.int 2))) (aCons (eOp addD (eC (.int 1)) (eVar 1)) aNil))))
 sNil)
 (sSeq (sAsg (eOp addD (eFn gLawBits (aCons (eVar 10) (aCons (eFn gLawWidth2 (aCons (eOp addD (eC (.int 1)) (eFn lenF (aCons (eVar 6) aNil))) aNil)) aNil))) (eFn gLawBits (aCons (eOp modD (eVar 2) (eOp shlD (eC (.int 1)) (eVar 8))) (aCons (eVar 8) aNil)))) (gN 11))
 (sSeq (sAsg (eOp addD (eVar 11) (eFn gLawPieces2 (aCons (eVar 4) (aCons (eVar 9) (aCons (eVar 3) aNil))))) (gN 11))
 (sRet (eOp addD (eVar 11) (eFn gLawBits (aCons (eFn gLawCheck (aCons (eVar 4) (aCons (eVar 2) (aCons (eVar 3) aNil)))) (aCons (eFn gLawWidth2 (aCons (eOp ixD (eVar 4) (eC (.int 1))) aNil)) aNil))))))))))
def gLawLetter : List D -> Sto -> Res D := runF 12 gLawLetter0
end MD
set_option autoImplicit false
namespace L2
open PySem PySem.Spec PyProof.Rows
theorem fields_up {h : Heap} {a : Addr} {o : Obj} {vs : Array Value} {i : Nat} {x : Value} (he : h.get? a = some o) (hd : o.data = .fields vs) : (h.update a (Obj.mapFields fun z => z.setIfInBounds i x)).get? a = some { o with data := .fields (vs.setIfInBounds i x) } := by
 obtain ⟨c, d, dt, sl⟩ := o
 simp only at hd
 subst hd
 exact Heap.get?_update_self _ he rfl
theorem newEntry_ok {M : Model} {A : Around} {E : Value -> Shared -> Prop} {s : Shared} {nx fr ln fl la : Value} {pl : List Value} (hp : IsPlace pl) {Q : Value -> Shared -> Prop}
  (h : ∀ ts : Array Value, 3 < ts.size -> Q (.ref s.heap.objs.size) { s with heap := s.heap.push { cls := .type "traceback", data := .fields ts } }) : wpAny M A (EntryCells.newEntry nx fr ln fl la pl) Q E s := by
 unfold EntryCells.newEntry newFields
 refine wpAny_newObj_type (h _ ?_) ?_
 ·simp
 ·show Array.size _ <= sizeLine + 2
  have e : sizeLine = 16777216 := by decide
  rcases hp with rfl | ⟨a, b, c, d, c9, b10, _, rfl⟩ <;> simp <;> omega
theorem entry_ok {M : Model} {A : Around} {E : Value -> Shared -> Prop} {s : Shared} {base : Heap} {env : Env} {outer : List Env} {L e : Addr} {oe : Obj} {vs : Array Value} {head : Value} {hb : Bool} (fr : A.frames = some (env :: outer)) (ff : s.heap.FunFrames base (env :: outer)) (hL : env.frame = some L)
  (he : s.heap.get? e = some oe) (hd : oe.data = .fields vs) (hv : 1 < vs.size) {Q : Unit -> Shared -> Prop}
  (h : ∀ h' : Heap, (∀ b o, b ∉ frs (env :: outer) -> b ≠ e -> s.heap.get? b = some o -> h'.get? b = some o) -> (∀ b o, b ≠ e -> s.heap.get? b = some o -> ∃ sl, h'.get? b = some { o with slots := sl }) →
   (∃ vs', h'.get? e = some { oe with data := .fields vs' } /\ vs'[1]? = some (.ref s.heap.objs.size)) -> (∃ oT ts, h'.get? s.heap.objs.size = some oT /\ oT.data = .fields ts /\ ts[3]? = some .none) -> Q () { s with heap := h' }) :
  wpAny M A (do
   let a <- frameOf env
   let pl <- entryPlaceOf L hb
   let b <- EntryCells.newEntry head a Value.none (rawInt ↑L) Value.none pl
   setField (Value.ref e) 1 b) (fun _ s' => wpAny M A (setFlight (.ref e) none) Q E s') E s := by
 have nfe : e ∉ frs (env :: outer) := fun z => by
  obtain ⟨_, o, ho, hn⟩ := ff.mem z
  rw [he] at ho
  cases ho
  exact hn _ hd
 refine wpAny_bind (wpAny_frameOf_fun fr ff hL fun h1 so => ?_)
 obtain ⟨sz, k1, k2⟩ := so
 refine wpAny_bind (wpAny_entryPlaceOf fun pl hp => wpAny_bind (newEntry_ok hp fun ts hts => ?_))
 have he1 : h1.get? e = some oe := by rw [k1 e nfe]; exact he
 have he2 : (h1.push { cls := .type "traceback", data := .fields ts }).get? e = some oe := Heap.get?_push_of_some _ he1
 have ne : h1.objs.size ≠ e := Nat.ne_of_gt (Heap.lt_size he1)
 refine wpAny_setField he2 hd hv ?_
 unfold setFlight
 refine wpAny_bind (wpAny_field (fields_up he2 hd) rfl (by rw [Array.getElem?_setIfInBounds]; simp [hv]; rfl) ?_)
 have hT : ((h1.push { cls := .type "traceback", data := .fields ts }).update e (Obj.mapFields fun z => z.setIfInBounds 1 (.ref h1.objs.size))).get? h1.objs.size = some { cls := .type "traceback", data := .fields ts } := by
  rw [Heap.get?_update_ne _ _ _ _ ne]; exact Heap.get?_push_size _ rfl
 show wpAny M A (setField (.ref h1.objs.size) 3 .none) Q E _
 refine wpAny_setField hT rfl hts ?_
 rw [show s.heap.objs.size = h1.objs.size from sz.symm] at h
 refine h _ (fun b o nb hb q => ?_) (fun b o hb q => ?_) ⟨vs.setIfInBounds 1 (.ref h1.objs.size), ?_, ?_⟩ ⟨_, ts.setIfInBounds 3 .none, fields_up hT rfl, rfl, ?_⟩
 ·have q1 : h1.get? b = some o := by rw [k1 b nb]; exact q
  rw [Heap.get?_update_ne _ _ _ _ (Nat.ne_of_lt (Heap.lt_size q1)), Heap.get?_update_ne _ _ _ _ hb]
  exact Heap.get?_push_of_some _ q1
 ·obtain ⟨sl, q1⟩ := k2 b o q
  refine ⟨sl, ?_⟩
  rw [Heap.get?_update_ne _ _ _ _ (Nat.ne_of_lt (Heap.lt_size q1)), Heap.get?_update_ne _ _ _ _ hb]
  exact Heap.get?_push_of_some _ q1
 ·rw [Heap.get?_update_ne _ _ _ _ ne.symm]
  exact fields_up he2 hd
 ·rw [Array.getElem?_setIfInBounds]; simp [hv]
 ·rw [Array.getElem?_setIfInBounds]; simp [hts]
def TbO (T : Addr) : Heap -> Prop := fun h => ∃ o vs, h.get? T = some o /\ o.data = .fields vs
theorem leaving_ok {M : Model} {A : Around} {E : Value -> Shared -> Prop} {s : Shared} {base : Heap} {env : Env} {outer : List Env} {L e : Addr} {oe : Obj} {vs : Array Value} (fr : A.frames = some (env :: outer)) (ff : s.heap.FunFrames base (env :: outer)) (hL : env.frame = some L)
  (he : s.heap.get? e = some oe) (hd : oe.data = .fields vs) {Q : Unit -> Shared -> Prop}
  (hh : vs[1]? = some .none ∨ ∃ T oT ts, vs[1]? = some (.ref T) /\ T ≠ e /\ s.heap.get? T = some oT /\ oT.data = .fields ts /\ ts[3]? = some .none)
  (h : ∀ h' : Heap, (∀ b o, b ∉ frs (env :: outer) -> b ≠ e -> vs[1]? ≠ some (.ref b) -> s.heap.get? b = some o -> h'.get? b = some o) -> (∀ b o, b ≠ e -> vs[1]? ≠ some (.ref b) -> s.heap.get? b = some o -> ∃ sl, h'.get? b = some { o with slots := sl }) -> (∀ T, vs[1]? = some (.ref T) -> TbO T h') →
   (∃ vs', h'.get? e = some { oe with data := .fields vs' } /\ vs'[1]? = some (.ref s.heap.objs.size)) -> (∃ oT ts, h'.get? s.heap.objs.size = some oT /\ oT.data = .fields ts /\ ts[3]? = some .none) -> Q () { s with heap := h' }) :
  wpAny M A (noteFrame (.ref e) env) (fun _ s' => wpAny M A (setFlight (.ref e) none) Q E s') E s := by
 unfold noteFrame
 rw [hL]
 rcases hh with hv | ⟨T, oT, ts, hv, ne, hT, hdT, h3⟩
 ·have h1 : 1 < vs.size := by have := (Array.getElem?_eq_some_iff.mp hv).1; exact this
  refine wpAny_bind (wpAny_field he hd hv ?_)
  refine entry_ok (head := .none) fr ff hL he hd h1 fun h' k1 k2 k3 k4 => h h' (fun b o a c _ q => k1 b o a c q) (fun b o a _ q => k2 b o a q) (fun T z => ?_) k3 k4
  rw [hv] at z; cases z
 ·have h1 : 1 < vs.size := by have := (Array.getElem?_eq_some_iff.mp hv).1; exact this
  have h3' : 3 < ts.size := by have := (Array.getElem?_eq_some_iff.mp h3).1; exact this
  refine wpAny_bind (wpAny_field he hd hv ?_)
  refine wpAny_bind (wpAny_field hT hdT h3 ?_)
  refine wpAny_bind (wpAny_setField hT hdT h3' ?_)
  have nT : T ∉ frs (env :: outer) := fun z => by
   obtain ⟨_, o, ho, hn⟩ := ff.mem z
   rw [hT] at ho
   cases ho
   exact hn _ hdT
  have hT' := fields_up (i := 3) (x := .none) hT hdT
  have he' : (s.heap.update T (Obj.mapFields fun z => z.setIfInBounds 3 .none)).get? e = some oe := by rw [Heap.get?_update_ne _ _ _ _ ne.symm]; exact he
  have ff' : (s.heap.update T (Obj.mapFields fun z => z.setIfInBounds 3 .none)).FunFrames base (env :: outer) := by
   clear h fr
   have go : ∀ l : List Env, T ∉ frs l -> s.heap.FunFrames base l -> (s.heap.update T (Obj.mapFields fun z => z.setIfInBounds 3 .none)).FunFrames base l := by
    intro l
    induction l with
    | nil => exact fun _ q => by simp only [Heap.FunFrames]
    | cons x l ih =>
     intro hn q
     simp only [Heap.FunFrames] at q ⊢
     obtain ⟨q1, ⟨L, o, a, b, c, d⟩, q3⟩ := q
     have hn' : ¬ (L = T ∨ T ∈ frs l) := by
      intro z
      refine hn ?_
      unfold frs
      rw [List.filterMap_cons, a]
      rcases z with z | z
      ·rw [z]; exact List.mem_cons_self ..
      ·exact List.mem_cons_of_mem _ z
     exact ⟨q1, ⟨L, o, a, b, by rw [Heap.get?_update_ne _ _ _ _ fun z => hn' (.inl z)]; exact c, d⟩, ih (fun z => hn' (.inr z)) q3⟩
   exact go _ nT ff
  have zs : (s.heap.update T (Obj.mapFields fun z => z.setIfInBounds 3 .none)).objs.size = s.heap.objs.size := Heap.size_update ..
  refine entry_ok (head := .ref T) fr ff' hL he' hd h1 fun h' k1 k2 k3 k4 => h h' (fun b o a c n q => k1 b o a c ?_) (fun b o a n q => k2 b o a ?_) (fun T' z => ?_) (by simpa only [zs] using k3) (by simpa only [zs] using k4)
  ·rw [Heap.get?_update_ne _ _ _ _ fun z => n (by rw [hv, z])]; exact q
  ·rw [Heap.get?_update_ne _ _ _ _ fun z => n (by rw [hv, z])]; exact q
  ·rw [hv] at z; cases z
   have := k1 T _ nT ne hT'
   exact ⟨_, _, this, rfl⟩
end L2
set_option autoImplicit false
namespace L2
open PySem PySem.Spec PyProof.Rows MD
structure Fly (C : Value) (dd : Option Addr) (e : Addr) (H : Hp) (h : Heap) : Prop where
 te : H e = some (.ext (ExcO C dd e))
 lies : ∃ o vs, h.get? e = some o /\ o.cls = C /\ o.dict = dd /\ o.data = .fields vs /\ (vs[1]? = some .none ∨ ∃ T oT ts, vs[1]? = some (.ref T) /\ T ≠ e /\ H T = some (.ext (TbO T)) /\ h.get? T = some oT /\ oT.data = .fields ts /\ ts[3]? = some .none)
theorem ok_exc {P : Program} {w : World} {H : Hp} {h : Heap} {C : Value} {dd : Option Addr} {e : Addr} (x : ExcO C dd e h) : ObjOk P w H h e (.ext (ExcO C dd e)) := by
 refine ⟨x, ?_, fun h1 h2 a k => ?_⟩
 ·obtain ⟨o, _, q, _⟩ := x
  exact ⟨o, q⟩
 ·obtain ⟨o, vs, q, r⟩ := a
  exact ⟨o, vs, k o q, r⟩
theorem ok_tb {P : Program} {w : World} {H : Hp} {h : Heap} {T : Addr} (x : TbO T h) : ObjOk P w H h T (.ext (TbO T)) := by
 refine ⟨x, ?_, fun h1 h2 a k => ?_⟩
 ·obtain ⟨o, _, q, _⟩ := x
  exact ⟨o, q⟩
 ·obtain ⟨o, vs, q, r⟩ := a
  exact ⟨o, vs, k o q, r⟩
theorem ObjOk.has {P : Program} {w : World} {H : Hp} {h : Heap} {a : Addr} {o : HO} (x : ObjOk P w H h a o) : ∃ u, h.get? a = some u := by
 cases o with
 | lst xs => obtain ⟨_, _, _, _, e⟩ := x; exact ⟨_, e⟩
 | tup xs => obtain ⟨_, _, _, _, u, e, _⟩ := x; exact ⟨u, e⟩
 | dK kvs => obtain ⟨_, _, _, _, o, _, _, e, _⟩ := x; exact ⟨_, e⟩
 | dT kvs => obtain ⟨_, _, _, _, o, _, _, e, _⟩ := x; exact ⟨_, e⟩
 | set S n => obtain ⟨o, _, _, _, e, _⟩ := x; exact ⟨_, e⟩
 | ins C dx fs => obtain ⟨_, _, _, e, _⟩ := x; exact ⟨_, e⟩
 | own y => exact x
 | xd fs => obtain ⟨_, ⟨_, _, _, e, _⟩, _⟩ := x; exact ⟨_, e⟩
 | rng lo hi => obtain ⟨_, _, _, e⟩ := x; exact ⟨_, e⟩
 | frz ob u => obtain ⟨e, _⟩ := x; exact ⟨_, e⟩
 | tbl ps => exact ⟨_, show h.get? a = some _ from x⟩
 | met f y => exact ⟨_, show h.get? a = some _ from x⟩
 | ext φ => exact x.2.1
theorem HOk.none {P : Program} {w : World} {H : Hp} {h : Heap} {a : Addr} (x : HOk P w H h) (e : h.get? a = Option.none) : H a = Option.none := by
 cases q : H a with
 | none => rfl
 | some u =>
  obtain ⟨o, z⟩ := (x a u q).has
  rw [e] at z
  cases z
section
variable {X : Cx} {pins : List (Addr × Obj)} {σ : St} {H : Hp} {s : Shared} {C : Value} {dd : Option Addr} {e : Addr}
theorem made_inv {h' : Heap} {args : List Value} (I : Inv X pins σ H s) (hm : s.heap.MadeExcOf h' e C args) : H e = none /\ Inv X pins σ (upd H e (.ext (ExcO C none e))) { s with heap := h' } /\ Fly C none e (upd H e (.ext (ExcO C none e))) h' := by
 have hn := I.hok.none hm.new
 obtain ⟨t, he, _⟩ := hm.there
 have ne : ∀ b o, s.heap.get? b = some o -> b ≠ e := fun b o q z => by rw [z, hm.new] at q; cases q
 refine ⟨hn, ?_, upd_same, _, _, he, rfl, rfl, rfl, .inl rfl⟩
 refine I.un (t' := s.toks) (h' := h') ⟨fun b o q _ _ _ => hm.keeps b o q, fun b o q _ _ _ => ⟨_, hm.keeps b o q⟩, fun b o q n _ => by rw [upd_ne (ne b o q)]; exact n, fun b o q _ => ⟨_, hm.keeps b o q⟩, fun b xs q => by rw [upd_ne (ne_of_none q hn)]; exact q, fun b o u q => by rw [upd_ne (ne_of_none q hn)]; exact q, fun b ps q => ⟨#[], by rw [upd_ne (ne_of_none q hn), q]; simp⟩⟩ fun b u q => ?_
 by_cases hb : b = e
 ·subst hb
  rw [upd_same] at q
  cases q
  exact ok_exc ⟨_, _, he, rfl, rfl, rfl⟩
 ·rw [upd_ne hb] at q
  exact (I.hok b u q).stay (fun c v _ z => hm.keeps c v z) (fun c z => by rw [upd_ne (ne_of_none z hn)]; exact z) fun c xs z => by rw [upd_ne (ne_of_none z hn)]; exact z
theorem leave_inv {M : Model} {A : Around} {Q : Unit -> Shared -> Prop} {E : Value -> Shared -> Prop} (I : Inv X pins σ H s) (hk : X.stack = X.env :: X.outer) (hA : A.frames = X.A.frames) (F : Fly C dd e H s.heap)
  (h : ∀ s' H', s'.os = s.os -> Same H H' -> Inv X pins σ H' s' -> Fly C dd e H' s'.heap -> Q () s') : wpAny M A (noteFrame (.ref e) X.env) (fun _ s' => wpAny M A (setFlight (.ref e) none) Q E s') E s := by
 obtain ⟨te, o, vs, ho, hc, hdd, hd, hl⟩ := F
 have hf : X.env.frame = some X.env.locals := by
  rcases I.ok.stk with z | ⟨_, z⟩
  ·rw [hk] at z
   have := congrArg List.length z
   simp at this
  ·exact z
 have fr : A.frames = some (X.env :: X.outer) := by rw [hA, <- hk]; exact I.ok.frames
 have ff : s.heap.FunFrames X.base (X.env :: X.outer) := hk ▸ I.stack
 refine leaving_ok fr ff hf ho hd (hl.imp id fun ⟨T, oT, ts, a, b, c, d, f, g⟩ => ⟨T, oT, ts, a, b, d, f, g⟩) fun h' k1 k2 k3 k4 k5 => ?_
 have hn : H s.heap.objs.size = none := I.hok.fresh (Nat.le_refl _)
 have trk : ∀ b, vs[1]? = some (.ref b) -> H b = some (.ext (TbO b)) := fun b z => by
  rcases hl with q | ⟨T, oT, ts, a, _, c, _⟩
  ·rw [q] at z; cases z
  ·rw [a] at z; cases z; exact c
 have nf : ∀ b u, H b = some u -> b ∉ frs (X.env :: X.outer) := fun b u q z => by
  have := I.stkFree b (hk ▸ z)
  rw [q] at this; cases this
 obtain ⟨vs', he', hv'⟩ := k4
 obtain ⟨oT, ts, hT, hdT, h3⟩ := k5
 have exo : ExcO C dd e h' := ⟨_, vs', he', hc, hdd, rfl⟩
 have ssz : ∀ b o, s.heap.get? b = some o -> b ≠ s.heap.objs.size := fun b o q => Nat.ne_of_lt (Heap.lt_size q)
 have un : Un (frs X.stack) [] H (upd H s.heap.objs.size (.ext (TbO s.heap.objs.size))) s.heap h' := by
  rw [hk]
  refine ⟨fun b u q n hb _ => k1 b u hb (fun z => by rw [z, te] at n; cases n) (fun z => by rw [trk b z] at n; cases n) q, fun b u q n hb _ => k2 b u (fun z => by rw [z, te] at n; cases n) (fun z => by rw [trk b z] at n; cases n) q, fun b u q n _ => by rw [upd_ne (ssz b u q)]; exact n, fun b u q _ => ?_, fun b xs q => by rw [upd_ne (ne_of_none q hn)]; exact q, fun b o u q => by rw [upd_ne (ne_of_none q hn)]; exact q, fun b ps q => ⟨#[], by rw [upd_ne (ne_of_none q hn), q]; simp⟩⟩
  by_cases hb : b = e
  ·rw [hb]; exact ⟨_, he'⟩
  ·by_cases hv : vs[1]? = some (.ref b)
   ·obtain ⟨o, _, q, _⟩ := k3 b hv
    exact ⟨o, q⟩
   ·obtain ⟨sl, q⟩ := k2 b u hb hv q
    exact ⟨_, q⟩
 have hok : HOk X.prog X.w (upd H s.heap.objs.size (.ext (TbO s.heap.objs.size))) h' := fun b u q => by
  by_cases hb : b = s.heap.objs.size
  ·subst hb
   rw [upd_same] at q
   cases q
   exact ok_tb ⟨oT, ts, hT, hdT⟩
  ·rw [upd_ne hb] at q
   by_cases he : b = e
   ·subst he
    rw [te] at q
    cases q
    exact ok_exc exo
   ·by_cases hv : vs[1]? = some (.ref b)
    ·rw [trk b hv] at q
     cases q
     exact ok_tb (k3 b hv)
    ·refine (I.hok b u q).stay (fun c v hc z => ?_) (fun c z => by rw [upd_ne (ne_of_none z hn)]; exact z) fun c xs z => by rw [upd_ne (ne_of_none z hn)]; exact z
     rcases hc with rfl | hc
     ·exact k1 c v (nf c u q) he hv z
     ·exact k1 c v (nf c _ hc) (fun z => by rw [z, te] at hc; cases hc) (fun z => by rw [trk c z] at hc; cases hc) z
 refine h _ _ rfl (MD.Same.new hn) (I.call (g' := s.gens) (t' := s.toks) (d' := s.drawn) un hok I.bare fun b z => absurd z (by simp)) ⟨?_, _, vs', he', hc, hdd, rfl, .inr ⟨_, oT, ts, hv', ?_, upd_same, hT, hdT, h3⟩⟩
 ·rw [upd_ne (ne_of_none te hn)]; exact te
 ·exact (ssz e o ho).symm
theorem leave_all {M : Model} {A : Around} {Q : Unit -> Shared -> Prop} {E : Value -> Shared -> Prop} (I : Inv X pins σ H s) (hk : X.stack = X.env :: X.outer) (hA : A.frames = X.A.frames) (F : Fly C dd e H s.heap)
  (h : ∀ s' H', s'.os = s.os -> Same H H' -> Inv X pins σ H' s' -> Fly C dd e H' s'.heap -> Q () s') : wpAny M A (leaving X.env (.ref e)) Q E s := by
 unfold leaving
 exact wpAny_bind (leave_inv I hk hA F h)
def CXx (P : Program) (w : World) : CXT := fun outer H s E v s' => ∃ e C dd H', v = .ref e /\ s'.os = s.os /\ AllBare s'.gens /\ Un (frs outer) [] H H' s.heap s'.heap /\ HOk P w H' s'.heap /\ Fly C dd e H' s'.heap /\ E C dd H'
end
end L2
set_option autoImplicit false
namespace MD
open PySem PySem.Spec PyProof.Rows L2
def Res.pu {α : Type} (r : Res α) : Res α := match r with
 | .exc _ _ => .bad
 | r => r
def aPu (f : AV) : AV := fun ρ m => (f ρ m).pu
def tPu (f : TV) : TV := fun ρ m => (f ρ m).pu
def sPu (f : SV) : SV := fun ρ m => (f ρ m).pu
theorem PQ.pu {K : PySem.W.Frag} {cl : Str -> Addr} {ex : XD} {τ : Type} {r : Res τ} {α : List Addr} {H : Hp} {R : RD τ} (h : PQ K cl ex r.pu α H R) : PQ K cl X0 r α H R := by
 cases r with
 | ok d m => exact h
 | exc c m => exact h.elim
 | bad => exact h
def FlyC (K : PySem.W.Frag) (cl : Str -> Addr) (c : Exc) (e : Addr) (α : List Addr) (H : Hp) (h : Heap) : Prop := ∃ dd xs, PySem.W.nsIn K mainGlobals c.cls = some (some (.ref (cl c.cls))) /\ Fly (.ref (cl c.cls)) dd e H h /\ XdAt H dd xs /\ RepL K α H c.args xs
def XP (X : Cx) (cl : Str -> Addr) (pins : List (Addr × Obj)) (σ : L2.St) (W : XD) (v : Value) (s' : Shared) : Prop :=
 ∃ e H' c α' m', v = .ref e /\ Inv X pins σ H' s' /\ FlyC X.K cl c e α' H' s'.heap /\ Wd X.K cl α' m' H' /\ ∀ α2 H2, Ext α' H' α2 H2 -> Wd X.K cl α2 m' H2 -> W c α2 m' H2
def XPs (X : Cx) (cl : Str -> Addr) (pins : List (Addr × Obj)) (W : XD) (v : Value) (s' : Shared) : Prop := ∃ σ, XP X cl pins σ W v s'
section
variable (X : Cx) (cl : Str -> Addr)
structure YE (e : Expr) (f : EV) : Prop where
 out : ∀ (pins : List (Addr × Obj)) (s : Shared) (σ : L2.St) (H : Hp) (Q : VK) (W : XD), Inv X pins σ H s -> tD X.K cl W f σ H Q -> wpAny (model X.prog X.w) X.A (eval e X.env) (EP X pins σ Q) (XP X cl pins σ W) s
structure YS (st : Stmt) (f : SV) : Prop where
 out : ∀ (pins : List (Addr × Obj)) (s : Shared) (σ : L2.St) (H : Hp) (D : Ends) (W : XD), Inv X pins σ H s -> tDS X.K cl W f D σ H -> wpAny (model X.prog X.w) X.A (exec st X.env) (SP X pins D) (XPs X cl pins W) s
structure YSs (st : List Stmt) (f : SV) : Prop where
 out : ∀ (pins : List (Addr × Obj)) (s : Shared) (σ : L2.St) (H : Hp) (D : Ends) (W : XD), Inv X pins σ H s -> tDS X.K cl W f D σ H -> wpAny (model X.prog X.w) X.A (execs st X.env) (SP X pins D) (XPs X cl pins W) s
end
section
variable {X : Cx} {cl : Str -> Addr} {e : Expr} {es : List Expr} {f g : EV} {ta : TV} {fr : AV} {pos p : Pos} {st : Stmt} {sts sts' : List Stmt} {fs gs : SV}
theorem tDT.pu {W : XD} {σ : L2.St} {H : Hp} {Q : Bool -> Hp -> Prop} (h : tDT X.K cl W (tPu ta) σ H Q) : tDT X.K cl X0 ta σ H Q := ex3 h fun α ρ m W hr h => ⟨α, ρ, m, W, hr, PQ.pu h⟩
theorem tDS.pu {W : XD} {σ : L2.St} {H : Hp} {D : Ends} (h : tDS X.K cl W (sPu fs) D σ H) : tDS X.K cl X0 fs D σ H := ex3 h fun α ρ m W hr h => ⟨α, ρ, m, W, hr, PQ.pu h⟩
theorem ys_pu (hx : X.xe = fun _ _ => False) (h : QS X cl X0 st fs) : YS X cl st (sPu fs) :=
 ⟨fun pins s σ H D W I q => wpAny_mono (h.out pins s σ H D I q.pu) (fun _ _ z => z) fun _ _ z => by rw [hx] at z; exact z.elim⟩
theorem yss_nil : YSs X cl [] sNil := ⟨fun pins s σ H D W I hh => ex3 hh fun α ρ m W hr h => wpAny_execs_nil ⟨σ, H, I, PQ.ok W h σ hr⟩⟩
theorem yss_one (h1 : YS X cl st fs) : YSs X cl [st] fs := ⟨fun pins s σ H D W I h => by
 refine wpAny_execs_cons (thn (h1.out pins s σ H D W I h) fun f s1 q => ?_)
 cases f with
 | next => exact wpAny_execs_nil q
 | ret v => exact q
 | brk => exact q
 | cont => exact q⟩
theorem yss_cons (h1 : YS X cl st fs) (h2 : YSs X cl sts gs) : YSs X cl (st :: sts) (sSeq fs gs) := ⟨fun pins s σ H D W I hh => by
 refine wpAny_execs_cons (thn (h1.out pins s σ H { D with nx := fun σ1 H1 => tDS X.K cl W gs D σ1 H1 } W I ?_) fun f s1 q => ?_)
 ·exact ex3 hh fun α ρ m W0 hr h => ⟨α, ρ, m, W0, hr, PQ.mono (Ext.refl W0) h.bind fun fl α1 m1 H1 E1 W1 q => by
   cases fl with
   | nx ρ1 => exact fun σ1 hr1 => ⟨α1, ρ1, m1, W1, hr1, q⟩
   | rt d => exact PQ.ok W1 q
   | bk ρ1 => exact PQ.ok W1 q
   | ct ρ1 => exact PQ.ok W1 q⟩
 ·cases f with
  | next =>
   obtain ⟨σ', H', I', q⟩ := q
   exact h2.out pins s1 σ' H' D W I' q
  | ret v => exact q
  | brk => exact q
  | cont => exact q⟩
structure YB (X : Cx) (cl : Str -> Addr) (st : Stmt) (f : SV) : Prop where
 out : ∀ (pins : List (Addr × Obj)) (s : Shared) (σ : L2.St) (H : Hp) (D : Ends) (W : XD), Inv X pins σ H s -> tDS X.K cl W f D σ H -> wpAny (model X.prog X.w) X.A (exec st X.env) (SP X pins D) (XP X cl pins σ W) s
theorem XP.up {W : XD} {pins : List (Addr × Obj)} {σ : L2.St} {v : Value} {s : Shared} (h : XP X cl pins σ W v s) : XPs X cl pins W v s := ⟨σ, h⟩
theorem ys_if (hx : X.xe = fun _ _ => False) {c : Expr} (hc : QT X cl X0 c ta) (ha : YSs X cl sts fs) (hb : YSs X cl sts' gs) : YS X cl (.If c sts sts' pos) (sIf (tPu ta) fs gs) := ⟨fun pins s σ H D W I hh => by
 refine wpAny_If (wpAny_mono (hc.out pins s σ H (fun b H1 => tDS X.K cl W (if b = true then fs else gs) D σ H1) I ?_) (fun d s1 ⟨H1, I1, q1⟩ => ?_) fun _ _ z => by rw [hx] at z; exact z.elim)
 ·refine tDT.pu (W := W) (ex3 hh fun α ρ m W0 hr h => tDT.use W0 hr h fun α1 m1 H1 d E1 W1 hr1 h1 => ⟨α1, ρ, m1, W1, hr1, ?_⟩)
  cases d <;> exact h1
 ·cases d with
  | true => exact ha.out pins s1 σ H1 D W I1 q1
  | false => exact hb.out pins s1 σ H1 D W I1 q1⟩
theorem yb_drop (he : YE X cl e f) (hs : autoParam (swapsWith e none pos.line X.env = pure false) AutoP.a3._auto_1) : YB X cl (.Expr e pos) (sDrop f) := ⟨fun pins s σ H D W I hh => by
 refine wpAny_Expr_any (wpAny_mono (he.out pins s σ H (fun _ H1 => D.nx σ H1) W I (ex3 hh fun α ρ m W hr h => tD.use W hr h fun α1 m1 H1 d v E1 W1 hr1 rv h1 => PQ.ok W1 h1 _ hr1)) (fun v s1 ⟨x, H1, I1, r1, q1⟩ => ⟨σ, H1, I1, q1⟩) fun _ _ z => z) I.quiet hs⟩
theorem yb_set {i : Nat} {x : Str} {pos' : Pos} (hN : X.N.Nodup) (hi : X.N[i]? = some x) (hx : Loc X.env.scope x) (he : YE X cl e f) (hs : autoParam (swapsWith e (some (.Name x pos')) pos.line X.env = pure false) AutoP.a3._auto_1) (hf : autoParam (X.fn x = true ∨ X.env.scope.names.lookup x = some .local) AutoP.a0._auto_1) :
  YB X cl (.Assign [.Name x pos'] e pos) (sAsg f (gN i)) := ⟨fun pins s σ H D W I hh => by
 refine wpAny_Assign_Name (wpAny_mono (he.out pins s σ H (fun v H1 => D.nx (σ.set i (some v)) H1) W I (ex3 hh fun α ρ m W hr h => tD.use W hr h fun α1 m1 H1 d v E1 W1 hr1 rv h1 => PQ.ok W1 h1 _ (hr1.set rv))) (fun v s1 ⟨y, H1, I1, r1, q1⟩ => ?_) fun _ _ z => z) hs
 exact store_ok I1 hN hi hx r1 (fun s2 I2 => ⟨_, H1, I2, q1⟩) hf⟩
end
theorem YB.ys {X : Cx} {cl : Str -> Addr} {st : Stmt} {f : SV} (h : YB X cl st f) : YS X cl st f := ⟨fun pins s σ H D W I q => wpAny_mono (h.out pins s σ H D W I q) (fun _ _ z => z) fun _ _ z => z.up⟩
def exE (K : PySem.W.Frag) (cl : Str -> Addr) (E : XK) : XD := fun c α' _ H' => ∀ dd xs, PySem.W.nsIn K mainGlobals c.cls = some (some (.ref (cl c.cls))) -> XdAt H' dd xs -> RepL K α' H' c.args xs -> E (.ref (cl c.cls)) dd H'
def spX (K : PySem.W.Frag) (cl : Str -> Addr) (n : Nat) (g : List D -> Sto -> Res D) : Sp := fun vs H Q E => vs.length = n /\ ∃ α m ds, Wd K cl α m H /\ RepL K α H ds vs /\ PQ K cl (exE K cl E) (g ds m) α H fun d α' _ H' => ∀ v, Rep K α' H' d v -> Q v H'
theorem fn_x {K : PySem.W.Frag} {cl : Str -> Addr} {n : Nat} {N : List Str} {body : SV} {vs : List V} {H : Hp} {Q : VK} {E : XK} (h : spX K cl n (runF N.length body) vs H Q E) : tDS K cl (exE K cl E) body { nx := fun _ H' => Q .non H', rt := Q } (L2.start N vs) H := by
 obtain ⟨_, α, m, ds, W, r, q⟩ := h
 refine ⟨α, _, m, W, repE_start r, PQ.mono (Ext.refl W) q.bind fun fl α1 m1 H1 E1 W1 q1 => ?_⟩
 cases fl with
 | nx ρ => exact fun σ _ => PQ.ok W1 q1 _ (by rw [Rep])
 | rt d => exact PQ.ok W1 q1
 | bk ρ => exact q1.elim
 | ct ρ => exact q1.elim
theorem fn_okx {P : Program} {w : World} {K : PySem.W.Frag} {mg : Str -> Option Value} {base : Heap} {cl : Str -> Addr} {x qual : Str} {st : Stmt} {f : Addr} {fd : FuncData} {N ps : List Str} {k n : Nat} {body : SV} (F : Fun K x qual st f fd) (S : FnScope N ps (defScope st)) (hn : n = ps.length)
  (h : ∀ (cdv : Value) (A : Around) (outer : List PySem.Env) (s : Shared) (H : Hp) (E : XK), Room k (A.deeper (envOfC qual (defScope st) s.heap.objs.size f cdv)) -> YSs (cxOf (CXx P w) P w K mg base N qual (defScope st) f cdv A outer s H E).nox cl (defBody st) body) : FnOk P w K mg base (CXx P w) (k + 1) f fd ps (spX K cl n (runF N.length body)) := by
 obtain ⟨oc, od, kV, doc, pm, an, cdv, ct, osl, rfl, lk, hcd⟩ := F.ex
 refine fn_of lk hcd S (fun vs H Q E h => by rw [<- hn]; exact h.1) fun A outer s H vs Q E hr hsp => ?_
 refine ⟨fun D σ H1 => tDS K cl (exE K cl E) body D σ H1, fun pins s1 σ H1 D I hw => ?_, fn_x hsp⟩
 refine wpAny_mono ((h cdv A outer s H E hr).out pins s1 σ H1 D (exE K cl E) (I.wish _) hw) (fun _ _ q => q.unwish) fun v s2 hv => ?_
 obtain ⟨σ', e, H', c, α', m', rfl, I', ⟨dd, xs, hns, F, hxd, hrl⟩, Wd', hW⟩ := hv
 have I2 := I'.unwish
 refine leave_all I2 rfl rfl F fun s3 H3 hos sm I3 F3 => ?_
 have Es := Ext.of_same Wd' sm
 exact ⟨e, _, dd, H3, rfl, I3.os, I3.bare, I3.base, I3.hok, F3, hW α' H3 Es (Wd'.same sm) dd xs hns ((Es.kp Wd').xdAt hxd) (hrl.mono Wd' Es)⟩
structure FnE (P : Program) (w : World) (K : PySem.W.Frag) (mg : Str -> Option Value) (base : Heap) (cl : Str -> Addr) (x : Str) (k n : Nat) (g : List D -> Sto -> Res D) : Prop where
 ex : ∃ (f : Addr) (fd : FuncData) (ps : List Str), mg x = some (.ref f) /\ PySem.W.keepIn K (.ref f) = true /\ Binds K fd ps [] /\ FnOk P w K mg base (CXx P w) k f fd ps (spX K cl n g)
theorem FnE.mk' {P : Program} {w : World} {K : PySem.W.Frag} {mg : Str -> Option Value} {base : Heap} {cl : Str -> Addr} {x qual : Str} {st : Stmt} {f : Addr} {fd : FuncData} {N ps : List Str} {k n : Nat} {body : SV} (F : Fun K x qual st f fd) (b : Binds K fd ps []) (m : mg x = some (.ref f)) (S : FnScope N ps (defScope st)) (hn : n = ps.length)
  (h : ∀ (cdv : Value) (A : Around) (outer : List PySem.Env) (s : Shared) (H : Hp) (E : XK), Room k (A.deeper (envOfC qual (defScope st) s.heap.objs.size f cdv)) -> YSs (cxOf (CXx P w) P w K mg base N qual (defScope st) f cdv A outer s H E).nox cl (defBody st) body) : FnE P w K mg base cl x (k + 1) n (runF N.length body) :=
 ⟨f, fd, ps, m, F.kp, b, fn_okx F S hn h⟩
section
variable {X : Cx} {cl : Str -> Addr} {e : Expr} {es : List Expr} {fr : AV} {p pos : Pos} {x : Str} {k n : Nat} {g : List D -> Sto -> Res D}
theorem run_fnx {pins : List (Addr × Obj)} {σ : L2.St} {H : Hp} {s : Shared} {Q : VK} {W : XD} {us : List Value} {vs : List V} {f : Addr} {fd : FuncData} {ps : List Str} {α : List Addr} {m : Sto} {ds : List D} (F : FnOk X.prog X.w X.K X.mg X.base (CXx X.prog X.w) k f fd ps (spX X.K cl n g)) (hr : Room k X.A) (hb : Binds X.K fd ps [])
  (I : Inv X pins σ H s) (r : Vals vs us) (hn : vs.length = n) (W0 : Wd X.K cl α m H) (rd : RepL X.K α H ds vs) (q : PQ X.K cl W (g ds m) α H fun d α' _ H' => ∀ v, Rep X.K α' H' d v -> Q v H') : wpAny (model X.prog X.w) X.A (call (.ref f) us) (EP X pins σ Q) (XP X cl pins σ W) s := by
 let E : XK := fun C dd H2 => ∃ c α2 m2 xs, C = .ref (cl c.cls) /\ PySem.W.nsIn X.K mainGlobals c.cls = some (some (.ref (cl c.cls))) /\ XdAt H2 dd xs /\ RepL X.K α2 H2 c.args xs /\ Wd X.K cl α2 m2 H2 /\ ∀ α3 H3, Ext α2 H2 α3 H3 -> Wd X.K cl α3 m2 H3 -> W c α3 m2 H3
 have hq : PQ X.K cl (exE X.K cl E) (g ds m) α H fun d α' _ H' => ∀ v, Rep X.K α' H' d v -> Q v H' := by
  cases hg : g ds m with
  | ok d m1 => rw [hg] at q; exact q
  | bad => rw [hg] at q; exact q
  | exc c m1 =>
   rw [hg] at q
   exact fun α2 H2 E2 W2 dd xs h1 h2 h3 => ⟨c, α2, m1, xs, rfl, h1, h2, h3, W2, fun α3 H3 E3 W3 => q α3 H3 (E2.trans E3) W3⟩
 have h : spX X.K cl n g vs H Q E := ⟨hn, α, m, ds, W0, rd, hq⟩
 have hl : us.length = ps.length := by rw [<- r.length]; exact F.len _ _ _ _ h
 refine wpAny_call (codeAny_mono (F.run X.A X.stack s H ⟨us, []⟩ us vs Q E hr I.env0 (by have := hb s us I.kIn (by simpa using hl); simpa using this) r h) fun r s' hq => ?_)
 cases r with
 | error v =>
  obtain ⟨e, C, dd, H', rfl, os, bare, un, hok, F, c, α2, m2, xs, rfl, h1, h2, h3, h4, h5⟩ := hq
  exact ⟨e, H', c, α2, m2, rfl, I.call' (ch := []) os un hok bare (fun b z => absurd z (by simp)), ⟨dd, xs, h1, F, h2, h3⟩, h4, h5⟩
 | ok fl =>
  cases fl with
  | ret u => exact I.after hq
  | next => exact False.elim hq
  | brk => exact False.elim hq
  | cont => exact False.elim hq
theorem ye_fn (hx : X.xe = fun _ _ => False) (h : FnE X.prog X.w X.K X.mg X.base cl x k n g) (hn : n = (e :: es).length) (hr : Room k X.A) (hg : Gl X x)
  (ha : QA X cl X0 (e :: es) fr) (hlen : ∀ ρ m ds m1, fr ρ m = .ok ds m1 -> ds.length = (e :: es).length) (hdb : autoParam ((x == ("__debug__" : Str)) = false) AutoP.a1._auto_1) (he : autoParam (starEach (e :: es) X.env = (false, eval e X.env) :: starEach es X.env) AutoP.a3._auto_1) (hpl : autoParam ((backTo pos (starEach es X.env)).any (·.1) = false) AutoP.a3._auto_1) :
  YE X cl (.Call (.Name x p) (e :: es) [] pos) (eFn g (aPu fr)) := by
 obtain ⟨f, fd, ps, h1, h2, h3, h4⟩ := h.ex
 refine ⟨fun pins s σ H Q W I hh => ?_⟩
 refine wpAny_Call_Name_kw (ld_glob I hg h1 ?_ hdb)
 refine PySem.W.callWith_K (h₀ := X.base) I.ok.mod.kin h2 (wpAny_mono (ha.out pos pins s σ H (fun vs H1 => ∃ α1 m1 ds, Wd X.K cl α1 m1 H1 /\ RepL X.K α1 H1 ds vs /\ ds.length = n /\ PQ X.K cl W (g ds m1) α1 H1 fun d α' _ H' => ∀ v, Rep X.K α' H' d v -> Q v H') I ?_) (fun us s1 ⟨vs, H1, I1, r, α1, m1, ds, w1, rd, hl, q⟩ => ⟨I1.kIn, ?_⟩) fun _ _ z => by rw [hx] at z; exact z.elim) he hpl
 ·refine ex3 hh fun α ρ m W0 hr h => ?_
  cases hf : fr ρ m with
  | bad =>
   have h' : PQ X.K cl W ((aPu fr ρ m).bind g) α H _ := h
   unfold aPu at h'
   rw [hf] at h'
   exact h'.elim
  | exc c m1 =>
   have h' : PQ X.K cl W ((aPu fr ρ m).bind g) α H _ := h
   unfold aPu at h'
   rw [hf] at h'
   exact h'.elim
  | ok ds m1 =>
   have h' : PQ X.K cl W ((aPu fr ρ m).bind g) α H _ := h
   unfold aPu at h'
   rw [hf] at h'
   refine tDA.at W0 hr hf fun α1 H1 v E1 W1 hr1 rv => ⟨α1, m1, ds, W1, rv, by rw [hlen ρ m ds m1 hf, hn], PQ.mono E1 h' fun _ _ _ _ _ _ z => z⟩
 ·exact run_fnx h4 hr h3 I1 r (by rw [<- rd.length]; exact hl) w1 rd q
end
end MD
set_option autoImplicit false
namespace L2
open PySem PySem.Spec PyProof.Rows MD
theorem Looks.go {α : Type} {M : Model} {A : Around} {s : Shared} {t : Sem α} {r : α} {Q : α -> Shared -> Prop} {E : Value -> Shared -> Prop} (h : PySem.W.Looks M s.heap t r) (q : Q r s) : wpAny M A t Q E s := h A Q E s (fun _ _ z => z) q
theorem ga_kind : builtinKind "BaseException.__getattribute__" = some .slot := by kernel_rfl
theorem ga_split : splitId "BaseException.__getattribute__" = some ("BaseException", "__getattribute__") := by kernel_rfl
theorem ga_args (a b : Value) : argsOk "BaseException.__getattribute__" { pos := [a, b] } := by kernel_rfl
theorem ga_entry : entryFor table "BaseException.__getattribute__" = some Builtin.«object.__getattribute__» := by kernel_rfl
structure ExA (K : PySem.W.Frag) (C : Addr) : Prop where
 ga : PySem.W.findIn K (.ref C) "__getattribute__" = some (some (.builtin "BaseException.__getattribute__"))
 no : PySem.W.findIn K (.ref C) "__getattr__" = some none
 sub : PySem.W.subIn K (.ref C) (.type "BaseException") = some true
 obj : PySem.W.mroIn K C (.type "object") = some true
 cls : ∀ od, PySem.W.findObj K C od "__class__" = some (.bind (.builtin "getset_descriptor.__get__") (.builtin "object.__class__"))
theorem ga_run {prog : Program} {w : World} {A : Around} {E : Value -> Shared -> Prop} {s : Shared} {K : PySem.W.Frag} {e C : Addr} {oe : Obj} {od : Option Obj} {tk : Tok} {Q : PySem.Fin -> Shared -> Prop} (kin : K.In s.heap) (F : ExA K C) (hi : PySem.W.InstAt s.heap e oe C od) (q : Q (.done (.ret (.ref C))) s) : wpAny (model prog w) A (Builtin.«object.__getattribute__» { pos := [.ref e, .str "__class__" tk] }) Q E s := by
 unfold Builtin.«object.__getattribute__»
 refine wpAny_bind (wpAny_pure ?_)
 refine wpAny_bind (wpAny_pure ?_)
 refine wpAny_bind (wpAny_typeOf_ref hi.at_ ?_)
 rw [hi.cls]
 refine wpAny_bind (Looks.go (PySem.W.looks_find (h := s.heap) kin hi (F.cls od)) ?_)
 show wpAny (model prog w) A (holding [_] (call _ [_, _, _]) >>= _) _ _ _
 exact wpAny_bind (wpAny_holding (wpAny_call (PySem.W.class_get kin hi F.obj (wpAny_pure q))))
theorem ga_call {prog : Program} {w : World} {A : Around} {R : Result -> Shared -> Prop} {s : Shared} {K : PySem.W.Frag} {e C : Addr} {oe : Obj} {od : Option Obj} {tk : Tok} (kin : K.In s.heap) (F : ExA K C) (hi : PySem.W.InstAt s.heap e oe C od) (q : R (.ok (.ret (.ref C))) s) : codeAny (model prog w) A (Code.call (.builtin "BaseException.__getattribute__") { pos := [.ref e, .str "__class__" tk] }) R s := by
 have ha := ga_args (.ref e) (.str "__class__" tk)
 refine codeAny_call_builtin PySem.F.attrBase_ValueError.toExcAttrFacts.ga.plain ga_entry ?_
 refine PySem.W.check_slot (i := "BaseException.__getattribute__") (owner := "BaseException") (n := "__getattribute__") (self := .ref e) (rest := [.str "__class__" tk]) (kw := []) ga_kind ga_split ?_ ha ?_
 ·refine fun A Q E s1 hs q => ?_
  unfold isInstance
  refine wpAny_bind (wpAny_typeOf_ref (hs _ _ hi.at_) ?_)
  rw [hi.cls]
  exact PySem.W.looks_subIn kin F.sub A Q E s1 hs q
 ·exact ga_run kin F hi q
theorem exc_class {prog : Program} {w : World} {A : Around} {E : Value -> Shared -> Prop} {s : Shared} {K : PySem.W.Frag} {e C : Addr} {oe : Obj} {od : Option Obj} {Q : Option Value -> Shared -> Prop} (kin : K.In s.heap) (F : ExA K C) (hi : PySem.W.InstAt s.heap e oe C od) (q : Q (some (.ref C)) { s with toks := s.toks + 1 }) : wpAny (model prog w) A (getAttr? (.ref e) "__class__") Q E s := by
 have he := hi.at_
 have hc := hi.cls
 unfold getAttr?
 refine wpAny_bind (wpAny_mkText ?_)
 unfold getAttrBy?
 refine wpAny_bind (wpAny_attempt ?_)
 unfold getAttrBy
 refine wpAny_holding ?_
 refine wpAny_bind (wpAny_typeOf_ref (s := { s with toks := s.toks + 1 }) he ?_)
 rw [hc]
 refine wpAny_bind (Looks.go (PySem.W.looks_findIn (h := s.heap) kin F.ga) ?_)
 show wpAny (model prog w) A (getAttrByItsOwn _ _ _ _ _ _) _ _ _
 unfold getAttrByItsOwn
 refine wpAny_bind (Looks.go (PySem.W.looks_hook (h := s.heap) kin (r := none) F.no) ?_)
 refine wpAny_bind (wpAny_attempt (wpAny_holding ?_))
 show wpAny (model prog w) A (boundAndCalled _ _ _) _ _ _
 unfold boundAndCalled
 rw [PySem.F.attrBase_ValueError.toExcAttrFacts.ga.bind]
 refine wpAny_bind (wpAny_pure ?_)
 refine wpAny_call (pos := [.ref e, .str "__class__" s.toks]) (ga_call (s := { s with toks := s.toks + 1 }) kin F hi ?_)
 show wpAny (model prog w) A (handedOut (.ref C)) _ _ _
 exact wpAny_pure (wpAny_pure q)
abbrev Cx.marked (X : Cx) (e : Addr) : Cx := { X with A := X.A.mark (some (.ref e)), calm := false }
section
variable {X : Cx} {pins : List (Addr × Obj)} {σ : St} {H : Hp} {s : Shared} {C : Value} {dd : Option Addr} {e : Addr}
theorem Inv.mark (I : Inv X pins σ H s) (e : Addr) : Inv (X.marked e) pins σ H s :=
 ⟨⟨I.ok.mod, I.ok.kind, I.ok.glob, I.ok.blt, I.ok.above, I.ok.inj, I.ok.has, I.ok.cab, (fun z => nomatch z), I.ok.frames, I.ok.stk, I.ok.exf, I.ok.bs, I.ok.bsz, I.ok.noex, I.ok.exfs, I.ok.funs, I.ok.frf⟩, I.os, I.bare, I.base, I.loc, I.cell, I.free, I.freeC, I.pin, I.hok, I.len⟩
theorem Inv.unmark (I : Inv (X.marked e) pins σ H s) (h : X.calm = true -> X.A.handled = none) : Inv X pins σ H s :=
 ⟨⟨I.ok.mod, I.ok.kind, I.ok.glob, I.ok.blt, I.ok.above, I.ok.inj, I.ok.has, I.ok.cab, h, I.ok.frames, I.ok.stk, I.ok.exf, I.ok.bs, I.ok.bsz, I.ok.noex, I.ok.exfs, I.ok.funs, I.ok.frf⟩, I.os, I.bare, I.base, I.loc, I.cell, I.free, I.freeC, I.pin, I.hok, I.len⟩
theorem flight_inv {M : Model} {A : Around} {Q : Unit -> Shared -> Prop} {E : Value -> Shared -> Prop} (I : Inv X pins σ H s) (F : Fly C dd e H s.heap) (h : ∀ s', s'.os = s.os -> Inv X pins σ H s' -> Q () s') : wpAny M A (setFlight (.ref e) none) Q E s := by
 obtain ⟨te, o, vs, ho, hc, hdd, hd, hl⟩ := F
 unfold setFlight
 rcases hl with hv | ⟨T, oT, ts, hv, ne, tT, hT, hdT, h3⟩
 ·exact wpAny_bind (wpAny_field ho hd hv (wpAny_pure (h s rfl I)))
 ·refine wpAny_bind (wpAny_field ho hd hv ?_)
  have h3' : 3 < ts.size := (Array.getElem?_eq_some_iff.mp h3).1
  show wpAny M A (setField (.ref T) 3 .none) Q E s
  refine wpAny_setField hT hdT h3' (h _ rfl ?_)
  have e1 : upd H T (.ext (TbO T)) = H := by
   funext b
   by_cases hb : b = T
   ·rw [hb, upd_same, tT]
   ·rw [upd_ne hb]
  have := I.write (x := T) (e := T) (o := .ext (TbO T)) (t' := s.toks) (h' := s.heap.update T (Obj.mapFields fun z => z.setIfInBounds 3 .none)) (by rw [tT]; trivial) (.inl rfl) (fun b u hb q => by rw [Heap.get?_update_ne _ _ _ _ hb]; exact q) ⟨_, fields_up hT hdT⟩ (ok_tb ⟨_, _, fields_up hT hdT, rfl⟩)
  rw [e1] at this
  exact this
theorem unbind_ok {M : Model} {A : Around} {E : Value -> Shared -> Prop} {i : Nat} {x : Str} {v : V} {Q : Unit -> Shared -> Prop} (I : Inv X pins σ H s) (hN : X.N.Nodup) (hi : X.N[i]? = some x) (hk : X.env.scope.names.lookup x = some .local) (hv : σ[i]? = some (some v)) (h : ∀ s', Inv X pins (σ.set i none) H s' -> Q () s') : wpAny M A (unbindName X.env x) Q E s := by
 obtain ⟨m, hn, hl⟩ := id I.loc
 have hcls : (X.env.scope.kind == .class || (X.env.scope.kind == .module && X.env.locals != X.env.globals)) = false := by rw [I.ok.kind]; rfl
 have hiσ : i < σ.length := by rw [I.len]; exact (List.getElem?_eq_some_iff.mp hi).1
 have cne := I.cne
 obtain ⟨u0, _, lk⟩ := hl i x v hi hv (.inl hk)
 have hm : m x = some u0 := by
  rcases lk with ⟨_, z⟩ | ⟨z, _⟩
  ·exact z
  ·have z' : X.env.scope.names.lookup x = some .cell ∨ X.env.scope.names.lookup x = some .free := z
   rw [hk] at z'
   rcases z' with z | z <;> cases z
 refine wpAny_unbindName_local hk hn hm hcls fun h' u hn' hs => ?_
 obtain ⟨oL, _, _, hoL, _⟩ := id hn
 have tracked : HOk X.prog X.w H h' := fun b ob e => by
  refine (I.hok b ob e).stay (fun c w' hc q => (hs.2 c ?_).trans q) (fun _ q => q) fun _ _ q => q
  rintro rfl
  rcases hc with rfl | hc
  ·rw [I.free] at e; cases e
  ·rw [I.free] at hc; cases hc
 refine h _ ⟨I.ok, I.os, I.bare, ⟨fun b o e n hb hx => ?_, fun b o e n hb hx => ?_, I.base.free, fun b o e hx => ?_, I.base.tups, I.base.frzs, I.base.tbls⟩, ⟨_, hn', fun j y v' e1 e2 e3 => ?_⟩, fun y c e => ?_, I.free, I.freeC, fun p hp => ?_, tracked, by simpa using I.len⟩
 ·exact (hs.2 b (Nat.ne_of_lt (Nat.lt_of_lt_of_le (Heap.lt_size e) I.ok.above))).trans (I.base.keep b o e n hb hx)
 ·obtain ⟨sl, e1⟩ := I.base.slot b o e n hb hx
  exact ⟨sl, (hs.2 b (Nat.ne_of_lt (Nat.lt_of_lt_of_le (Heap.lt_size e) I.ok.above))).trans e1⟩
 ·obtain ⟨o', e1⟩ := I.base.there b o e hx
  exact ⟨o', (hs.2 b (Nat.ne_of_lt (Nat.lt_of_lt_of_le (Heap.lt_size e) I.ok.above))).trans e1⟩
 ·by_cases hj : j = i
  ·subst hj
   rw [List.getElem?_set_self hiσ] at e2
   cases e2
  ·rw [List.getElem?_set_ne (Ne.symm hj)] at e2
   obtain ⟨u', r', q⟩ := hl j y v' e1 e2 e3
   refine ⟨u', r', ?_⟩
   rcases q with ⟨k, e⟩ | ⟨k, c, e, z⟩
   ·refine .inl ⟨k, ?_⟩
    have : y ≠ x := fun e => hj (nodup_ix hN e1 (e ▸ hi))
    simp [this, e]
   ·exact .inr ⟨k, c, e, z.sameBut hs (cne y c e)⟩
 ·obtain ⟨w', z⟩ := I.cell y c e
  exact ⟨w', z.sameBut hs (cne y c e)⟩
 ·obtain ⟨e, n, ne, nf, d⟩ := I.pin p hp
  exact ⟨(hs.2 p.1 ne).trans e, n, ne, nf, d⟩
end
theorem matches_own {M : Model} {A : Around} {E : Value -> Shared -> Prop} {s : Shared} {K : PySem.W.Frag} {e C D : Addr} {oe : Obj} {b : Bool} {Q : Bool -> Shared -> Prop} (kin : K.In s.heap) (he : s.heap.get? e = some oe) (hc : oe.cls = .ref C) (h1 : PySem.W.subIn K (.ref D) (.type "BaseException") = some true) (h2 : PySem.W.typeIn K (.ref D) = some (.type "type")) (h3 : (PySem.W.clsIn K D).isSome = true) (h4 : PySem.W.subIn K (.ref C) (.ref D) = some b) (q : Q b s) : wpAny M A (excMatches (.ref e) (.ref D)) Q E s := by
 have hD : ∃ o cd, s.heap.get? D = some o /\ o.data = .cls cd := by
  unfold PySem.W.clsIn at h3
  split at h3
  ·rename_i c d cd sl hl
   exact ⟨_, cd, kin _ _ hl, rfl⟩
  ·cases h3
 obtain ⟨oD, cd, hD, hdD⟩ := hD
 unfold excMatches
 refine wpAny_bind ?_
 unfold isInstance
 refine wpAny_bind (Looks.go (PySem.W.looks_typeIn (h := s.heap) kin h2) ?_)
 rw [show isSubtype (.type "type") (.type "tuple") = pure false from rfl]
 refine wpAny_pure (wpAny_bind (wpAny_pure ?_))
 show wpAny M A (forIn [Value.ref D] PUnit.unit _ >>= _) Q E s
 rw [List.forIn_cons]
 refine wpAny_bind (wpAny_bind (wpAny_bind ?_))
 unfold isExcClass isType loadHead
 refine wpAny_bind (wpAny_bind (wpAny_loadPart hD ?_))
 rw [hdD]
 refine wpAny_pure ?_
 refine Looks.go (PySem.W.looks_subIn (h := s.heap) kin h1) ?_
 refine wpAny_pure ?_
 show wpAny M A (forIn ([] : List Value) PUnit.unit _) _ E s
 rw [List.forIn_nil]
 refine wpAny_pure (wpAny_bind (wpAny_typeOf_ref he ?_))
 rw [hc, List.forIn_cons]
 refine wpAny_bind (wpAny_bind (wpAny_bind (Looks.go (PySem.W.looks_subIn (h := s.heap) kin h4) ?_)))
 cases b with
 | true => exact wpAny_pure (wpAny_pure (wpAny_pure q))
 | false =>
  refine wpAny_pure ?_
  show wpAny M A (forIn ([] : List Value) (none, ()) _) _ E s
  rw [List.forIn_nil]
  exact wpAny_pure (wpAny_pure q)
end L2
set_option autoImplicit false
namespace MD
open PySem PySem.Spec PyProof.Rows L2
structure TxE (K : PySem.W.Frag) (cl : Str -> Addr) (es rs : List Str) : Prop where
 ns : ∀ c ∈ es, PySem.W.nsIn K mainGlobals c = some (some (.ref (cl c)))
 tab : excTab K es = true
 rai : excRai K rs = true
 sub : ∀ c ∈ rs, c ∈ es
section
variable {K : PySem.W.Frag} {cl : Str -> Addr} {es rs : List Str} {c d : Str}
theorem TxE.row (T : TxE K cl es rs) (hc : c ∈ es) : askB K (cl c) = true /\ PySem.W.kitOne K (.ref (cl c)) (.type "ValueError") = some true /\ PySem.W.kitOne K (.type "NoneType") (.ref (cl c)) = some false /\ ∀ d ∈ es, PySem.W.kitOne K (.ref (cl c)) (.ref (cl d)) = some (isX c d) /\ PySem.W.subIn K (.ref (cl c)) (.ref (cl d)) = some (isX c d) := by
 have h := List.all_eq_true.mp T.tab c hc
 rw [T.ns c hc] at h
 simp only [Bool.and_eq_true, beq_iff_eq] at h
 obtain ⟨⟨⟨h1, h2⟩, h3⟩, h4⟩ := h
 refine ⟨h1, h2, h3, fun d hd => ?_⟩
 have h := List.all_eq_true.mp h4 d hd
 rw [T.ns d hd] at h
 simpa only [Bool.and_eq_true, beq_iff_eq] using h
theorem askB_exa {C : Addr} (h : askB K C = true) : ExA K C := by
 unfold askB at h
 simp only [Bool.and_eq_true, beq_iff_eq] at h
 obtain ⟨⟨⟨⟨⟨⟨⟨⟨h1, h2⟩, h3⟩, h4⟩, h5⟩, h6⟩, h7⟩, h8⟩, h9⟩ := h
 refine ⟨h1, h2, h3, h4, fun od => ?_⟩
 obtain ⟨cd, hcd⟩ := Option.isSome_iff_exists.mp h5
 unfold PySem.W.findObj
 rw [hcd, Option.bind_some, h6, Option.bind_some]
 simp only [h7, Option.bind_some, h8]
theorem TxE.exa (T : TxE K cl es rs) (hc : c ∈ es) : ExA K (cl c) := askB_exa (T.row hc).1
theorem exc_of_in {h : Heap} {C : Addr} {bmB : List Value} {newId : String} (kin : K.In h) (x : PySem.W.excIn K C bmB newId = true) : ∃ nm q N bs bm hdct sn sub ab col dd k0 k1 k2 k3 k5, ∃ mN : Str -> Option Value,
  h.get? C = some (excClassObj nm q C N bs bm hdct sn sub ab col dd k0 k1 k2 k3 k5 newId) /\ h.Ns N mN /\ mN "__init__" = none /\ OwnTail h bmB bm := by
 unfold PySem.W.excIn at x
 split at x
 ·rename_i dd cd sl hl
  split at x
  ·rename_i C' bm k0 k1 k2 k3 n k5 hm hs
   simp only [Bool.and_eq_true, beq_iff_eq, Bool.not_eq_true'] at x
   obtain ⟨⟨⟨⟨⟨e1, e2⟩, e3⟩, e4⟩, e5⟩, e6⟩ := x
   subst e1 e2
   have hg := kin _ _ hl
   obtain ⟨nm, bs, mro, N, q, hd, sn, sub, ab, col, del⟩ := cd
   obtain ⟨sl⟩ := sl
   simp only at hm hs e3 e5 e6
   subst hm hs e3
   exact ⟨nm, q, N, bs, bm, hd, sn, sub, ab, col, dd, k0, k1, k2, k3, k5, h.nsMap N, hg, Heap.Ns.of_isNs (PySem.W.isNs_of_in kin e5), PySem.W.nsMap_none_of_in kin e5 e6, PySem.W.tail_of_in kin e4⟩
  ·cases x
 ·cases x
theorem TxE.exc (T : TxE K cl es rs) (hc : c ∈ rs) : PySem.W.excIn K (cl c) bmV "ValueError.__new__" = true := by
 have h := List.all_eq_true.mp T.rai c hc
 rw [T.ns c (T.sub c hc)] at h
 exact h
end
def sExcA (c : Str) (fr : AV) : SV := fun ρ m => (fr ρ m).bind fun _ m1 => .exc ⟨c, []⟩ m1
section
variable {X : Cx} {cl : Str -> Addr} {es rs : List Str} {e : Expr} {as : List Expr} {fr : AV} {np cpos pos : Pos} {x : Str}
theorem yb_raise (hx : X.xe = fun _ _ => False) (hc : X.calm = true) (T : TxE X.K cl es rs) (hr : x ∈ rs) (hg : Gl X x) (ha : QA X cl X0 (e :: as) fr) (hlen : ∀ ρ m ds m1, fr ρ m = .ok ds m1 -> ds.length = (e :: as).length) (hsz : autoParam ((e :: as).length <= sizeLine) AutoP.a1._auto_1) (hdb : autoParam ((x == ("__debug__" : Str)) = false) AutoP.a1._auto_1)
  (he : autoParam (starEach (e :: as) X.env = (false, eval e X.env) :: starEach as X.env) AutoP.a3._auto_1) (hpl : autoParam ((backTo cpos (starEach as X.env)).any (·.1) = false) AutoP.a3._auto_1) : YB X cl (.Raise (some (.Call (.Name x np) (e :: as) [] cpos)) none pos) (sExcA x (aPu fr)) := ⟨fun pins s σ H D W I hh => by
 have hm : X.mg x = some (.ref (cl x)) := PySem.W.mg_of I.mod.kin I.mod.glob (T.ns x (T.sub x hr))
 obtain ⟨nm, q, N, bs, bm, hdct, sn, sub, ab, col, dd, k0, k1, k2, k3, k5, mN, h1, h2, h3, h4⟩ := exc_of_in I.mod.kin (T.exc hr)
 have hbm : bm.contains (.type "BaseException") = true := by
  have := (T.exa (T.sub x hr)).sub
  have hl : ∃ o, X.K.lookup (cl x) = some o /\ o = (excClassObj nm q (cl x) N bs bm hdct sn sub ab col dd k0 k1 k2 k3 k5 "ValueError.__new__") := by
   have := T.exc hr
   unfold PySem.W.excIn at this
   split at this
   ·rename_i z
    have z' := I.mod.kin _ _ z
    rw [h1] at z'
    exact ⟨_, z, (Option.some.inj z').symm⟩
   ·cases this
  obtain ⟨o, hl, rfl⟩ := hl
  have e1 : PySem.W.clsIn X.K (cl x) = some { name := nm, bases := bs, mro := Value.ref (cl x) :: bm, ns := N, qualname := q, hasDict := hdct, slotNames := sn, subclasses := sub, abstract := ab, collection := col } := by
   unfold PySem.W.clsIn
   rw [hl]
  have e2 : PySem.W.mroIn X.K (cl x) (.type "BaseException") = some true := this
  unfold PySem.W.mroIn at e2
  rw [e1, Option.bind_some] at e2
  simpa using e2
 refine wpAny_Raise_call_subT (nm := nm) (q := q) (C := cl x) (N := N) (bs := bs) (hdct := hdct) (sn := sn) (sub := sub) (ab := ab) (col := col) (dd := dd) (k0 := k0) (k1 := k1) (k2 := k2) (k3 := k3) (k5 := k5) PySem.F.excBase_ValueError hbm (I.ok.hd hc) (by rw [he]; exact hpl) h3 (ld_glob I hg hm ?_ hdb)
 refine ⟨rfl, ?_⟩
 rw [he]
 refine PySem.Calls.evalArgs_plain ?_
 have ha' := ha.out cpos pins s σ H (fun vs H1 => ∃ α1 m1, Wd X.K cl α1 m1 H1 /\ vs.length = (e :: as).length /\ PQ X.K cl W (.exc ⟨x, []⟩ m1 : Res Fl) α1 H1 fun fl α' _ H' => EndsOk X.K D fl α' H') I (ex3 hh fun α ρ m W0 hr h => by
  have h' : PQ X.K cl W ((aPu fr ρ m).bind fun _ m1 => (.exc ⟨x, []⟩ m1 : Res Fl)) α H fun fl α' _ H' => EndsOk X.K D fl α' H' := h
  unfold aPu at h'
  cases hf : fr ρ m with
  | bad => rw [hf] at h'; exact h'.elim
  | exc c m1 => rw [hf] at h'; exact h'.elim
  | ok ds m1 =>
   rw [hf] at h'
   exact tDA.at W0 hr hf fun α1 H1 v E1 W1 hr1 rv => ⟨α1, m1, W1, by rw [<- rv.length, hlen ρ m ds m1 hf], fun α2 H2 E2 W2 => h' α2 H2 (E1.trans E2) W2⟩)
 rw [he] at ha'
 refine wpAny_mono ha' (fun us s1 ⟨vs, H1, I1, r, α1, m1, W1, hl, q⟩ => ⟨rfl, by rw [<- r.length, hl]; exact hsz, I1.bk _ _ h1, h2.keeps I1.bk, h4.keeps I1.bk, fun h' a hmade => ?_⟩) fun _ _ z => by rw [hx] at z; exact z.elim
 obtain ⟨hn, I2, F2⟩ := made_inv I1 hmade
 have sm : Same H1 _ := Same.new (o := .ext (ExcO (.ref (cl x)) none a)) hn
 have Es := Ext.of_same W1 sm
 exact ⟨a, _, ⟨x, []⟩, α1, m1, rfl, I2, ⟨none, [], T.ns x (T.sub x hr), F2, .inl ⟨rfl, rfl⟩, by rw [RepL]⟩, W1.same sm, fun α2 H2 E2 W2 => q α2 H2 (Es.trans E2) W2⟩⟩
end
def freeX (i : Nat) (fl : Fl) : Fl := match fl with
 | .nx ρ => .nx (ρ.set i none)
 | .rt d => .rt d
 | .bk ρ => .bk (ρ.set i none)
 | .ct ρ => .ct (ρ.set i none)
def sTry (es : List Str) (h : Str) (fb : SV) (i : Nat) (fs : SV) : SV := fun ρ m => match fb ρ m with
 | .ok fl m1 => .ok fl m1
 | .bad => .bad
 | .exc c m1 => if (es.contains c.cls && isX c.cls h) = true then (fs (ρ.set i (some (.exn c.cls c.args))) m1).bind fun fl m2 => .ok (freeX i fl) m2 else .bad
theorem RepE.drop {K : PySem.W.Frag} {α : List Addr} {H : Hp} {ρ : En} {σ : L2.St} {i : Nat} (h : RepE K α H ρ σ) : RepE K α H (ρ.set i none) (σ.set i none) := by
 refine ⟨by rw [List.length_set, List.length_set, h.len], fun j e hj => ?_⟩
 by_cases hij : i = j
 ·subst hij
  have hl : i < ρ.length := by
   have := (List.getElem?_eq_some_iff.mp hj).1
   rwa [List.length_set] at this
  rw [List.getElem?_set_self hl] at hj
  cases hj
 ·rw [List.getElem?_set_ne hij] at hj ⊢
  exact h.at' j e hj
section
variable {X : Cx} {cl : Str -> Addr} {es rs : List Str} {h n : Str} {i : Nat} {bst b0 : Stmt} {suite : List Stmt} {fb fs : SV} {np hp pos : Pos}
theorem qs_try (hx : X.xe = fun _ _ => False) (hk : X.stack = X.env :: X.outer) (T : TxE X.K cl es rs) (hh : h ∈ es) (hg : Gl X h) (hN : X.N.Nodup) (hi : X.N[i]? = some n) (hl : X.env.scope.names.lookup n = some .local) (hb : YB X cl bst fb) (hs : ∀ e, QSs (X.marked e) cl X0 (b0 :: suite) fs) (hdb : autoParam ((h == ("__debug__" : Str)) = false) AutoP.a1._auto_1) :
  QS X cl X0 (.Try [bst] [.ExceptHandler (some (.Name h np)) (some n) (b0 :: suite) hp] [] [] pos) (sTry es h fb i fs) := ⟨fun pins s σ H D I hh0 => by
 rw [hx]
 obtain ⟨α, ρ, m, W0, hr, hq⟩ := hh0
 refine wpAny_Try_except ?_
 unfold sTry at hq
 have fin : ∀ W : XD, tDS X.K cl W fb D σ H -> (∀ v s', XP X cl pins σ W v s' -> wpAny (model X.prog X.w) X.A (noteFrame v X.env) (fun _ s₂ => wpAny (model X.prog X.w) X.A (setFlight v none) (fun _ s₃ => wpAny (model X.prog X.w) X.A (handleBy v X.env [.ExceptHandler (some (.Name h np)) (some n) (b0 :: suite) hp]) (SP X pins D) (fun _ _ => False) s₃) (fun _ _ => False) s₂) (fun _ _ => False) s') →
   wpAny (model X.prog X.w) X.A (execs [bst] X.env) (fun f s₁ => match f with
    | .next => wpAny (model X.prog X.w) X.A (execs [] X.env) (SP X pins D) (fun _ _ => False) s₁
    | f => SP X pins D f s₁) (fun e s₁ => wpAny (model X.prog X.w) X.A (noteFrame e X.env) (fun _ s₂ => wpAny (model X.prog X.w) X.A (setFlight e none) (fun _ s₃ => wpAny (model X.prog X.w) X.A (handleBy e X.env [.ExceptHandler (some (.Name h np)) (some n) (b0 :: suite) hp]) (SP X pins D) (fun _ _ => False) s₃) (fun _ _ => False) s₂) (fun _ _ => False) s₁) s := fun W hW hxp => by
  refine wpAny_execs_cons (wpAny_mono (hb.out pins s σ H D W I hW) (fun f s1 q => ?_) hxp)
  cases f with
  | next => exact wpAny_execs_nil (wpAny_execs_nil q)
  | ret v => exact q
  | brk => exact q
  | cont => exact q
 cases hf : fb ρ m with
 | bad => rw [hf] at hq; exact hq.elim
 | ok fl m1 =>
  rw [hf] at hq
  refine fin (fun _ _ _ _ => False) ⟨α, ρ, m, W0, hr, by rw [hf]; exact hq⟩ fun v s' ⟨e, H', c, α', m', _, _, _, w, z⟩ => (z α' H' (Ext.refl w) w).elim
 | exc c m1 =>
  rw [hf] at hq
  have hq : PQ X.K cl X0 (if (es.contains c.cls && isX c.cls h) = true then (fs (ρ.set i (some (.exn c.cls c.args))) m1).bind fun fl m2 => .ok (freeX i fl) m2 else .bad) α H fun fl α' _ H' => EndsOk X.K D fl α' H' := hq
  obtain ⟨hX0, hq⟩ := PQ.if hq
  rw [Bool.and_eq_true, List.contains_iff_mem] at hX0
  have hX := hX0.2
  refine fin (fun c' α2 m2 H2 => c' = c /\ m2 = m1 /\ Ext α H α2 H2) ⟨α, ρ, m, W0, hr, by rw [hf]; exact fun α2 H2 E2 _ => ⟨rfl, rfl, E2⟩⟩ fun v s' ⟨e, H', c', α', m', hv, I1, ⟨dd, xs, hns, F, hxd, hrl⟩, w, z⟩ => ?_
  obtain ⟨rfl, rfl, E1⟩ := z α' H' (Ext.refl w) w
  subst hv
  refine leave_inv I1 hk rfl F fun s2 H2 hos sm I2 F2 => ?_
  have Es := Ext.of_same w sm
  have w2 := w.same sm
  have hce : c'.cls ∈ es := hX0.1
  obtain ⟨oe, vs, ho, hoc, _⟩ := F2.lies
  have Tr := T.row hh
  have ask := Tr.1
  unfold askB at ask
  simp only [Bool.and_eq_true, beq_iff_eq] at ask
  refine wpAny_handleBy_cons ?_ (fun z => nomatch z)
  refine codeAny_handlers_test ?_
  have hm : X.mg h = some (.ref (cl h)) := PySem.W.mg_of I.mod.kin I.mod.glob (T.ns h hh)
  refine ld_glob (X := X.marked e) (I2.mark e) hg hm ?_ hdb
  refine matches_own I2.kIn ho hoc ask.1.1.1.1.1.1.2 ask.2 ask.1.1.1.1.2 ((T.row hce).2.2.2 h hh).2 ?_
  rw [hX]
  refine codeAny_handlers_suite_as ?_
  refine flight_inv (I2.mark e) F2 fun s3 _ I3 => ?_
  refine store_ok (X := X.marked e) (v := .ref e) I3 hN hi (.inl hl) rfl (fun s4 I4 => ?_) (.inr hl)
  have E12 : Ext α H α' H2 := E1.trans Es
  have re : Rep X.K α' H2 (.exn c'.cls c'.args) (.ref e) := by
   rw [Rep]
   exact ⟨e, cl c'.cls, dd, xs, rfl, hns, F2.te, (Es.kp w).xdAt hxd, hrl.mono w Es⟩
  have hr2 := (hr.mono W0 E12).set (i := i) re
  have hout := (hs e).out pins s4 (σ.set i (some (.ref e))) H2 { nx := fun σ1 H1 => D.nx (σ1.set i none) H1, rt := D.rt, bk := fun σ1 H1 => D.bk (σ1.set i none) H1, ct := fun σ1 H1 => D.ct (σ1.set i none) H1 } I4 ⟨α', _, _, w2, hr2, PQ.mono E12 hq.bind fun fl α3 m3 H3 E3 W3 q => by
   have q' := PQ.ok W3 q
   cases fl with
   | nx ρ3 => exact fun σ3 r3 => q' _ r3.drop
   | rt d => exact q'
   | bk ρ3 => exact fun σ3 r3 => q' _ r3.drop
   | ct ρ3 => exact fun σ3 r3 => q' _ r3.drop⟩
  refine wpAny_mono hout (fun f s5 q => ?_) fun _ _ z => by rw [show (X.marked e).xe = X.xe from rfl, hx] at z; exact z.elim
  have free : ∀ {σ5 : L2.St} {H5 : Hp} {Q : Unit -> Shared -> Prop}, Inv (X.marked e) pins σ5 H5 s5 -> (∀ s6, Inv X pins (σ5.set i none) H5 s6 -> Q () s6) -> wpAny (model X.prog X.w) X.A (do
    bindName X.env n Value.none
    unbindBehindTheSuite X.env n hp) Q (fun _ _ => False) s5 := fun {σ5 H5 Q} I5 hQ => by
   have I5' : Inv X pins σ5 H5 s5 := I5.unmark I.ok.hd
   refine wpAny_bind (wpAny_bindName (store_ok (v := .non) I5' hN hi (.inl hl) rfl (fun s6 I6 => ?_) (.inr hl)))
   unfold unbindBehindTheSuite
   refine wpAny_onRaise (unbind_ok I6 hN hi hl (v := .non) ?_ fun s7 I7 => hQ s7 (by rw [List.set_set] at I7; exact I7))
   rw [List.getElem?_set_self]
   rw [I5'.len]
   exact (List.getElem?_eq_some_iff.mp hi).1
  cases f with
  | next => obtain ⟨σ5, H5, I5, q5⟩ := q; exact free I5 fun s6 I6 => ⟨_, H5, I6, q5⟩
  | brk => obtain ⟨σ5, H5, I5, q5⟩ := q; exact free I5 fun s6 I6 => ⟨_, H5, I6, q5⟩
  | cont => obtain ⟨σ5, H5, I5, q5⟩ := q; exact free I5 fun s6 I6 => ⟨_, H5, I6, q5⟩
  | ret u => obtain ⟨v5, σ5, H5, I5, r5, q5⟩ := q; exact free I5 fun s6 I6 => ⟨v5, _, H5, I6, r5, q5⟩⟩
end
theorem kitx_exc {K : PySem.W.Frag} {C e : Addr} (F : ExA K C) (hc : (PySem.W.clsIn K C).isSome = true) : PySem.W.KitX K (.ref e) (.ref C) fun h => ∃ oe od, PySem.W.InstAt h e oe C od := by
 have hD : ∀ h : Heap, K.In h -> ∃ o cd, h.get? C = some o /\ o.data = .cls cd := fun h kin => by
  unfold PySem.W.clsIn at hc
  split at hc
  ·rename_i c d cd sl hl
   exact ⟨_, cd, kin _ _ hl, rfl⟩
  ·cases hc
 refine ⟨fun M h kin ⟨oe, od, hi⟩ A Q E s hs q => wpAny_typeOf_ref (hs _ _ hi.at_) (by rw [hi.cls]; exact q), fun M h kin _ A Q E s hs q => ?_, fun h tp dd its n sl kin ht => ?_, fun {prog w A E Q s} kin ⟨oe, od, hi⟩ q => exc_class kin F hi q⟩
 ·obtain ⟨o, cd, hC, hd⟩ := hD h kin
  unfold isType loadHead
  refine wpAny_bind (wpAny_loadPart (hs _ _ hC) (wpAny_pure ?_))
  rw [hd]
  exact q
 ·obtain ⟨o, cd, hC, hd⟩ := hD h kin
  rw [beq_eq_false_iff_ne]
  intro z
  cases z
  rw [ht] at hC
  cases hC
  cases hd
section
variable {X : Cx} {cl : Str -> Addr} {ex : XD} {es rs : List Str} {pins : List (Addr × Obj)} {σ : L2.St} {H : Hp} {s : Shared} {α : List Addr}
theorem exc_at (T : TxE X.K cl es rs) (I : Inv X pins σ H s) {c : Str} {ds : List D} {v : V} {u : Value} (hc : c ∈ es) (rv : Rep X.K α H (.exn c ds) v) (ru : RelV v u) : ∃ e, u = .ref e /\ ∃ oe od, PySem.W.InstAt s.heap e oe (cl c) od := by
 rw [Rep] at rv
 obtain ⟨a, C, dd, xs, rfl, hns, hH, hxd, _⟩ := rv
 rw [T.ns c hc] at hns
 cases hns
 cases ru
 obtain ⟨⟨o, vs, ho, h1, h2, h3⟩, _⟩ := I.hok a _ hH
 rcases hxd with ⟨rfl, _⟩ | ⟨dx, x, rfl, _, hx⟩
 ·exact ⟨a, rfl, o, none, ho, h1, by unfold PySem.W.notCls; rw [h3], by rw [h2]; trivial⟩
 ·obtain ⟨od, hod⟩ := (I.hok dx _ hx).has
  exact ⟨a, rfl, o, some od, ho, h1, by unfold PySem.W.notCls; rw [h3], by rw [h2]; exact hod⟩
theorem isx_one (T : TxE X.K cl es rs) (I : Inv X pins σ H s) {c : Str} {ds : List D} {v : V} {u c2 : Value} {b : Bool} {Q : VK} (hc : c ∈ es) (rv : Rep X.K α H (.exn c ds) v) (ru : RelV v u) (kt : PySem.W.kitOne X.K (.ref (cl c)) c2 = some b) (q : Q (.bl b) H) : wpAny (model X.prog X.w) X.A (call (.builtin "isinstance") [u, c2]) (EP X pins σ Q) X.xe s := by
 obtain ⟨e, rfl, oe, od, hi⟩ := exc_at T I hc rv ru
 have ask := (T.row hc).1
 unfold askB at ask
 simp only [Bool.and_eq_true, beq_iff_eq] at ask
 exact PySem.W.kia_one (kitx_exc (T.exa hc) ask.1.1.1.1.2) I.kIn ⟨oe, od, hi⟩ kt (fun z => nomatch z) fun tk => ⟨.bl _, H, I.tok _, rfl, q⟩
theorem kit_anyX {K : PySem.W.Frag} {t : Value} {f : Str -> Bool} : ∀ {ns : List Str}, (∀ n ∈ ns, PySem.W.kitOne K t (.ref (cl n)) = some (f n)) -> PySem.W.kitAny K t (ns.map fun n => .ref (cl n)) = some (ns.any f)
 | [], _ => by rw [List.map_nil, PySem.W.kitAny.eq_def]; rfl
 | n :: r, h => by
  rw [List.map_cons, PySem.W.kitAny.eq_def]
  simp only [h n (List.mem_cons_self ..)]
  cases hf : f n with
  | true => simp [hf]
  | false =>
   simp only [List.any_cons, hf, Bool.false_or]
   exact kit_anyX fun n hn => h n (List.mem_cons_of_mem _ hn)
def isiX (es : List Str) (n : Str) (d : D) (m : Sto) : Res D := match d with
 | .exn c _ => if es.contains c = true then .ok (.bl (isX c n)) m else .bad
 | .non => .ok (.bl false) m
 | _ => .bad
def isiV (es : List Str) (d : D) (m : Sto) : Res D := match d with
 | .exn c _ => if es.contains c = true then .ok (.bl true) m else .bad
 | .non => .ok (.bl false) m
 | _ => .bad
def isiT (es ns : List Str) (d : D) (m : Sto) : Res D := match d with
 | .exn c _ => if es.contains c = true then .ok (.bl (ns.any (isX c))) m else .bad
 | .non => .ok (.bl false) m
 | _ => .bad
variable {e : Expr} {as : List Expr} {fa : EV} {p p2 pos tp : Pos} {x : Str} {kt : Nat} {vs : List V} {ns : List Str}
theorem call_isiX (T : TxE X.K cl es rs) (hn : x ∈ es) : CallR X (.builtin "isinstance") (fun xs H Q => ∃ α m d v, xs = [v, .ref (cl x)] /\ Wd X.K cl α m H /\ Rep X.K α H d v /\ ∃ b, isiX es x d m = .ok (.bl b) m /\ Q (.bl b) H) := by
 intro pins s σ H xs us Q I r h
 obtain ⟨α, m, d, v, rfl, W, rv, b, hb, q⟩ := h
 obtain ⟨u, w, rfl, ru, rw'⟩ := vals2 r
 cases rw'
 unfold isiX at hb
 split at hb
 ·split at hb
  ·rename_i hc
   cases hb
   exact isx_one T I (List.contains_iff_mem.mp hc) rv ru ((T.row (List.contains_iff_mem.mp hc)).2.2.2 x hn).1 q
  ·cases hb
 ·cases hb
  rw [Rep] at rv
  subst rv
  exact isinst_ok I ru .non (T.row hn).2.2.1 fun tk => ⟨.bl _, H, I.tok _, rfl, q⟩
 ·cases hb
theorem call_isiV (T : TxE X.K cl es rs) : CallR X (.builtin "isinstance") (fun xs H Q => ∃ α m d v, xs = [v, .ty "ValueError"] /\ Wd X.K cl α m H /\ Rep X.K α H d v /\ ∃ b, isiV es d m = .ok (.bl b) m /\ Q (.bl b) H) := by
 intro pins s σ H xs us Q I r h
 obtain ⟨α, m, d, v, rfl, W, rv, b, hb, q⟩ := h
 obtain ⟨u, w, rfl, ru, rw'⟩ := vals2 r
 cases rw'
 unfold isiV at hb
 split at hb
 ·split at hb
  ·rename_i hc
   cases hb
   exact isx_one T I (List.contains_iff_mem.mp hc) rv ru (T.row (List.contains_iff_mem.mp hc)).2.1 q
  ·cases hb
 ·cases hb
  rw [Rep] at rv
  subst rv
  exact isinst_ok I ru .non rfl fun tk => ⟨.bl _, H, I.tok _, rfl, q⟩
 ·cases hb
theorem vals_map {f : Str -> Addr} : ∀ {ns : List Str} {us : List Value}, Vals (ns.map fun n => V.ref (f n)) us -> us = ns.map fun n => .ref (f n)
 | [], _, h => by cases h; rfl
 | n :: r, _, h => by
  cases h with
  | cons a b => cases a; rw [vals_map b]; rfl
theorem call_isiT (T : TxE X.K cl es rs) (hn : ∀ n ∈ ns, n ∈ es) : CallR X (.builtin "isinstance") (fun xs H Q => ∃ α m d v t, xs = [v, .ref t] /\ Wd X.K cl α m H /\ Rep X.K α H d v /\ H t = some (.tup (ns.map fun c => .ref (cl c))) /\ ∃ b, isiT es ns d m = .ok (.bl b) m /\ Q (.bl b) H) := by
 intro pins s σ H xs us Q I r h
 obtain ⟨α, m, d, v, t, rfl, W, rv, ht, b, hb, q⟩ := h
 obtain ⟨u, w, rfl, ru, rw'⟩ := vals2 r
 cases rw'
 obtain ⟨_, its, rvs, ⟨ot, h1, h2, n, h3⟩, _⟩ := I.hok t _ ht
 obtain ⟨c0, d0, dt0, sl0⟩ := ot
 simp only at h2 h3
 subst h2 h3
 rw [vals_map rvs] at h1
 unfold isiT at hb
 split at hb
 ·split at hb
  ·rename_i hc
   cases hb
   have hce := List.contains_iff_mem.mp hc
   obtain ⟨e, rfl, oe, od, hi⟩ := exc_at T I hce rv ru
   have ask := (T.row hce).1
   unfold askB at ask
   simp only [Bool.and_eq_true, beq_iff_eq] at ask
   exact PySem.W.kia_tup (kitx_exc (T.exa hce) ask.1.1.1.1.2) I.kIn ⟨oe, od, hi⟩ h1 (kit_anyX fun n hn' => ((T.row hce).2.2.2 n (hn n hn')).1) (fun z => nomatch z) fun tk => ⟨.bl _, H, I.tok _, rfl, q⟩
  ·cases hb
 ·cases hb
  rw [Rep] at rv
  subst rv
  cases ru
  exact PySem.W.kia_tup PySem.W.kitx_none I.kIn trivial h1 ((kit_anyX (f := fun _ => false) fun n hn' => (T.row (hn n hn')).2.2.1).trans (by simp)) (fun z => nomatch z) fun tk => ⟨.bl _, H, I.tok _, rfl, q⟩
 ·cases hb
theorem pe_cls (T : TxE X.K cl es rs) (hn : x ∈ es) (hg : Gl X x) (hd : autoParam ((x == ("__debug__" : Str)) = false) AutoP.a1._auto_1) : PE X (.Name x p) (tC (.ref (cl x))) :=
 fun _ _ _ H _ I h => ld_glob I hg (PySem.W.mg_of I.mod.kin I.mod.glob (T.ns x hn)) ⟨.ref (cl x), H, I, rfl, h⟩ hd
theorem qe_isiX (T : TxE X.K cl es rs) (hn : x ∈ es) (hg : Gl X "isinstance") (hm : X.mg "isinstance" = none) (hg2 : Gl X x) (ha : QE X cl ex e fa) (hdb : autoParam ((x == ("__debug__" : Str)) = false) AutoP.a1._auto_1)
  (he : autoParam (starEach [e, .Name x p2] X.env = (false, eval e X.env) :: starEach [.Name x p2] X.env) AutoP.a3._auto_1) (he2 : autoParam (starEach [.Name x p2] X.env = (false, eval (.Name x p2) X.env) :: starEach [] X.env) AutoP.a3._auto_1) (hpl : autoParam ((backTo pos (starEach [.Name x p2] X.env)).any (·.1) = false) AutoP.a3._auto_1) :
  QE X cl ex (.Call (.Name "isinstance" p) [e, .Name x p2] [] pos) (eUn (isiX es x) fa) :=
 ⟨PE.weak (pe_callB (call_isiX T hn) hg hm boot_isinstance (pa_cons ha.out (pa_cons (pe_cls T hn hg2 hdb) pa_nil he2) he) (by decide) (by decide) he hpl) fun σ H Q hh => ex3 hh fun α ρ m W hr h => tD.use W hr h fun α1 m1 H1 d v E1 W1 hr1 rv q1 => by
  refine ⟨α1, m1, d, v, rfl, W1, rv, ?_⟩
  unfold isiX at q1 ⊢
  split at q1
  ·obtain ⟨hc, q1⟩ := PQ.if q1
   exact ⟨_, by rw [if_pos hc], PQ.ok W1 q1 _ repB⟩
  ·exact ⟨_, rfl, PQ.ok W1 q1 _ repB⟩
  ·exact q1.elim⟩
theorem qe_isiV (T : TxE X.K cl es rs) (hg : Gl X "isinstance") (hm : X.mg "isinstance" = none) (hg2 : Gl X "ValueError") (hm2 : X.mg "ValueError" = none) (ha : QE X cl ex e fa)
  (he : autoParam (starEach [e, .Name "ValueError" p2] X.env = (false, eval e X.env) :: starEach [.Name "ValueError" p2] X.env) AutoP.a3._auto_1) (he2 : autoParam (starEach [.Name "ValueError" p2] X.env = (false, eval (.Name "ValueError" p2) X.env) :: starEach [] X.env) AutoP.a3._auto_1) (hpl : autoParam ((backTo pos (starEach [.Name "ValueError" p2] X.env)).any (·.1) = false) AutoP.a3._auto_1) :
  QE X cl ex (.Call (.Name "isinstance" p) [e, .Name "ValueError" p2] [] pos) (eUn (isiV es) fa) :=
 ⟨PE.weak (pe_callB (call_isiV T) hg hm boot_isinstance (pa_cons ha.out (pa_cons (pe_bltn (v := .ty "ValueError") hg2 hm2 (by rfl) rfl) pa_nil he2) he) (by decide) (by decide) he hpl) fun σ H Q hh => ex3 hh fun α ρ m W hr h => tD.use W hr h fun α1 m1 H1 d v E1 W1 hr1 rv q1 => by
  refine ⟨α1, m1, d, v, rfl, W1, rv, ?_⟩
  unfold isiV at q1 ⊢
  split at q1
  ·obtain ⟨hc, q1⟩ := PQ.if q1
   exact ⟨_, by rw [if_pos hc], PQ.ok W1 q1 _ repB⟩
  ·exact ⟨_, rfl, PQ.ok W1 q1 _ repB⟩
  ·exact q1.elim⟩
structure QN (X : Cx) (cl : Str -> Addr) (as : List Expr) (ns : List Str) : Prop where
 out : PA X as (fun _ H Q => Q (ns.map fun c => .ref (cl c)) H)
theorem qn_nil : QN X cl [] [] := ⟨fun pos pins s σ H Q I h => pa_nil pos pins s σ H Q I h⟩
theorem qn_cons (T : TxE X.K cl es rs) (hn : x ∈ es) (hg : Gl X x) (hr : QN X cl as ns) (hd : autoParam ((x == ("__debug__" : Str)) = false) AutoP.a1._auto_1) (hs : autoParam (starEach (.Name x p :: as) X.env = (false, eval (.Name x p) X.env) :: starEach as X.env) AutoP.a3._auto_1) : QN X cl (.Name x p :: as) (x :: ns) :=
 ⟨fun pos pins s σ H Q I h => pa_cons (pe_cls T hn hg hd) hr.out hs pos pins s σ H Q I h⟩
theorem qe_isiT (T : TxE X.K cl es rs) (hn : ∀ n ∈ ns, n ∈ es) (hg : Gl X "isinstance") (hm : X.mg "isinstance" = none) (ha : QE X cl ex e fa) (hq : QN X cl as ns) (hsz : autoParam (ns.length <= sizeLine) AutoP.a1._auto_1)
  (he : autoParam (starEach [e, .Tuple as kt tp] X.env = (false, eval e X.env) :: starEach [.Tuple as kt tp] X.env) AutoP.a3._auto_1) (he2 : autoParam (starEach [.Tuple as kt tp] X.env = (false, eval (.Tuple as kt tp) X.env) :: starEach [] X.env) AutoP.a3._auto_1) (hpl : autoParam ((backTo pos (starEach [.Tuple as kt tp] X.env)).any (·.1) = false) AutoP.a3._auto_1) :
  QE X cl ex (.Call (.Name "isinstance" p) [e, .Tuple as kt tp] [] pos) (eUn (isiT es ns) fa) :=
 ⟨PE.weak (pe_callB (call_isiT T hn) hg hm boot_isinstance (pa_cons ha.out (pa_cons (pe_tup hq.out) pa_nil he2) he) (by decide) (by decide) he hpl) fun σ H Q hh => ex3 hh fun α ρ m W hr h => tD.use W hr h fun α1 m1 H1 d v E1 W1 hr1 rv q1 => by
  refine ⟨by rw [List.length_map]; exact hsz, fun p hp => ?_⟩
  have s1 := Same.new (o := .tup (ns.map fun c => .ref (cl c))) hp
  refine ⟨α1, m1, d, v, p, rfl, W1.same s1, rv.mono W1 (Ext.of_same W1 s1), upd_same, ?_⟩
  unfold isiT at q1 ⊢
  split at q1
  ·obtain ⟨hc, q1⟩ := PQ.if q1
   exact ⟨_, by rw [if_pos hc], PQ.okS W1 s1 q1 _ repB⟩
  ·exact ⟨_, rfl, PQ.okS W1 s1 q1 _ repB⟩
  ·exact q1.elim⟩
end
theorem allN_nil {P : Str -> Prop} : ∀ c ∈ ([] : List Str), P c := fun _ h => nomatch h
theorem allN_cons {P : Str -> Prop} {x : Str} {xs : List Str} (h : P x) (r : ∀ c ∈ xs, P c) : ∀ c ∈ x :: xs, P c := fun c hc => by
 rcases List.mem_cons.mp hc with rfl | hc
 ·exact h
 ·exact r c hc
def puF (g : List D -> Sto -> Res D) : List D -> Sto -> Res D := fun ds m => (g ds m).pu
theorem FnE.pure {P : Program} {w : World} {K : PySem.W.Frag} {mg : Str -> Option Value} {base : Heap} {cl : Str -> Addr} {x : Str} {k n : Nat} {g : List D -> Sto -> Res D} (h : FnE P w K mg base cl x k n g) : FnX P w K mg base cl x k n (puF g) := by
 obtain ⟨f, fd, ps, h1, h2, h3, h4⟩ := h.ex
 refine ⟨f, fd, ps, h1, h2, h3, ?_⟩
 have imp : ∀ vs H Q E, spD K cl X0 n (puF g) vs H Q E -> spX K cl n g vs H Q E0 := fun vs H Q E ⟨hl, α, m, ds, W, r, q⟩ => ⟨hl, α, m, ds, W, r, by
  unfold puF at q
  cases hg : g ds m with
  | ok d m1 => rw [hg] at q; exact q
  | bad => rw [hg] at q; exact q
  | exc c m1 => rw [hg] at q; exact q.elim⟩
 refine ⟨fun vs H Q E q => h4.len vs H Q E0 (imp vs H Q E q), fun A outer s H args us vs Q E hr he hb hv hs => codeAny_mono (h4.run A outer s H args us vs Q E0 hr he hb hv (imp _ _ _ _ hs)) fun r s' hq => ?_⟩
 cases r with
 | error v =>
  obtain ⟨e, C, dd, H', _, _, _, _, _, _, z⟩ := hq
  exact z.elim
 | ok fl => cases fl <;> exact hq
end MD
set_option autoImplicit false
namespace MxD
open PySem PySem.Spec PyProof.Rows
end MxD
namespace MD
open PySem PySem.Spec PyProof.Rows L2
section
variable {X : Cx} {K : PySem.W.Frag} {cl : Str -> Addr} {ex : XD}
end
end MD
namespace L2
open PySem PySem.Spec PyProof.Rows
variable {X : Cx} {e : Expr} {te : TE} {pos : Pos}
end L2
set_option autoImplicit false
namespace MD
open PySem PySem.Spec PyProof.Rows L2
section
variable {X : Cx} {K : PySem.W.Frag} {cl : Str -> Addr} {ex : XD}
end
section
variable {X : Cx} {K : PySem.W.Frag} {cl : Str -> Addr} {ex : XD}
def rStrip : V -> List V -> Hp -> VK -> Prop := fun x vs H Q => ∃ z y, x = .str z /\ vs = [.str y] /\ z.length <= sizeLine /\ Q (.str (Txt.stripChars z y)) H
theorem mt_strip : MtR X "str.strip" rStrip := by
 intro pins s σ H x vs v us Q I rx rv h
 obtain ⟨z, y, rfl, rfl, hz, q⟩ := h
 obtain ⟨t, rfl⟩ := rx
 obtain ⟨u, rfl, w, rfl⟩ := vals1 rv
 refine call_gives F.slot_str_strip (typeIs_str _ _ _) F.entry_str_strip (F.args_str_strip_2 _ _) (gives_str_strip_chars z y t w) ?_
 have e : Txt.stripChars z y = if stripSame y.cps.contains true true z = true then z else stripped y.cps.contains true true z := rfl
 by_cases hs : stripSame y.cps.contains true true z = true
 ·rw [if_pos hs]
  rw [e, if_pos hs] at q
  exact ⟨.str _, H, I, ⟨_, rfl⟩, q⟩
 ·rw [if_neg hs]
  rw [e, if_neg hs] at q
  exact ⟨fits_stripped _ _ _ hz, ⟨.str _, H, I.tok _, ⟨_, rfl⟩, q⟩⟩
def stripM (o : D) (ds : List D) (m : Sto) : Res D := match o, ds with
 | .str z, [.str y] => if z.length <= sizeLine then .ok (.str (Txt.stripChars z y)) m else .bad
 | _, _ => .bad
theorem md_strip : MtD K cl ex rStrip stripM := fun α m H x xs vx vs Q W rx rxs h => by
 unfold stripM at h
 split at h
 ·rw [Rep] at rx
  obtain ⟨v, rfl, rv⟩ := rxs.one_of
  rw [Rep] at rv
  subst rv
  obtain ⟨hz, h⟩ := PQ.if h
  exact ⟨_, _, rx, rfl, hz, PQ.ok W h _ repS⟩
 ·exact h.elim
def signsV (z : Str) : List V := (List.range z.cps.size).map fun i => .str ⟨#[z.cps.getD i 0]⟩
theorem repL_signs {α : List Addr} {H : Hp} {z : Str} : RepL K α H (signs z) (signsV z) := by
 unfold signs signsV
 induction List.range z.cps.size with
 | nil => rw [List.map_nil, RepL]; rfl
 | cons i r ih =>
  rw [List.map_cons, List.map_cons, RepL]
  exact ⟨_, _, rfl, by rw [Rep], ih⟩
theorem sign_vals {z : Str} {acc : Array Value} {n : Nat} (h : ItemsOf (SignAt z) acc n) : Vals ((List.range n).map fun i => V.str ⟨#[z.cps.getD i 0]⟩) acc.toList := by
 obtain ⟨h1, h2⟩ := h
 have gen : ∀ (n k : Nat) (ls : List Value), ls.length = n -> (∀ j v, ls[j]? = some v -> SignAt z (k + j) v) -> Vals ((List.range' k n).map fun i => V.str ⟨#[z.cps.getD i 0]⟩) ls := by
  intro n
  induction n with
  | zero => intro k ls hl _; have : ls = [] := List.length_eq_zero_iff.mp hl; subst this; exact .nil
  | succ n ih =>
   intro k ls hl hh
   cases ls with
   | nil => cases hl
   | cons v ls =>
    rw [List.range'_succ, List.map_cons]
    refine .cons ?_ (ih (k + 1) ls (Nat.succ.inj hl) fun j v hj => ?_)
    ·obtain ⟨c, u, h1, rfl⟩ := hh 0 v rfl
     rw [Nat.add_zero] at h1
     have e : z.cps.getD k 0 = c := by simp [Array.getD_eq_getD_getElem?, h1]
     rw [e]
     exact ⟨u, rfl⟩
    ·have := hh (j + 1) v (by simpa using hj)
     rwa [show k + (j + 1) = k + 1 + j by omega] at this
 have := gen n 0 acc.toList (by simpa using h1) fun j v hj => by
  rw [Nat.zero_add]
  exact h2 j v (by simpa using hj)
 rwa [← List.range_eq_range'] at this
theorem call_lstS (hc : X.calm = true) : CallR X (.type "list") (fun xs H Q => ∃ z, xs = [.str z] /\ z.length <= sizeLine /\ ∀ l, H l = none -> Q (.ref l) (upd H l (.lst (signsV z)))) := by
 intro pins s σ H xs us Q I r h
 obtain ⟨z, rfl, hz, q⟩ := h
 obtain ⟨u, rfl, t, rfl⟩ := vals1 r
 refine call_list_str (I.ok.hd hc) z t (fun h' tk acc c' kp e it => ?_) hz
 exact ⟨.ref s.heap.objs.size, _, I.laid (t' := tk) kp (Nat.le_refl _) (show ObjOk X.prog X.w _ h' _ (.lst (signsV z)) from ⟨by unfold signsV; rw [List.length_map, List.length_range]; exact hz, acc.toList, c', sign_vals it, e⟩), rfl, q _ (I.hok.fresh (Nat.le_refl _))⟩
def lstSF (ds : List D) (m : Sto) : Res D := match ds with
 | [.str z] => if z.length <= sizeLine then .ok (.lst (signs z)) m else .bad
 | _ => .bad
theorem fd_lstS : FnD K cl ex (fun xs H Q => ∃ z, xs = [.str z] /\ z.length <= sizeLine /\ ∀ l, H l = none -> Q (.ref l) (upd H l (.lst (signsV z)))) lstSF := fun α m H x vx Q W rx h => by
 unfold lstSF at h
 split at h
 ·obtain ⟨v, rfl, rv⟩ := rx.one_of
  rw [Rep] at rv
  subst rv
  obtain ⟨hz, h⟩ := PQ.if h
  exact ⟨_, rfl, hz, fun l hl => PQ.okS W (Same.new hl) h _ (rep_lst W hl repL_signs)⟩
 ·exact h.elim
end
def gSortTold20 : SV :=
 (sSeq (sPu (sAsg (eFn gNumberOf (aCons (eSl (eVar 1) oNone (oSome (eFn gSortWidth (aCons (eVar 0) aNil)))) aNil)) (gN 2)))
 (sSeq (sIf (tPu (tV (eOp gtD (eVar 2) (eFn lenF (aCons (eOp ixD (eVar 0) (eC (.int 2))) aNil)))))
 (sExcA "NoLetter" (aPu (aCons (eC (.str "a sort of no form")) aNil)))
 sNil)
 (sPu (sRet (eIf (tV (eOp eqD (eVar 2) (eC (.int 0)))) (eC .non) (eOp subD (eVar 2) (eC (.int 1))))))))
def gSortTold2 : List D -> Sto -> Res D := runF 3 gSortTold20
def gParted20 : SV :=
 (sSeq (sIf (tPu (tNotM (tV (eFn gAreBits (aCons (eVar 1) aNil)))))
 (sExcA "NoLetter" (aPu (aCons (eC (.str "no bits")) aNil)))
 sNil)
 (sSeq (sAsg (eFn gSortTold2 (aPu (aCons (eVar 0) (aCons (eVar 1) aNil)))) (gN 2))
 (sSeq (sIf (tPu (tV (eOp neD (eFn lenF (aCons (eVar 1) aNil)) (eFn gLetterSize (aCons (eVar 0) (aCons (eVar 2) aNil))))))
 (sExcA "NoLetter" (aPu (aCons (eC (.str "not as many bits as its sort asks for")) aNil)))
 sNil)
 (sSeq (sPu (sAsg (eFn gSortWidth (aCons (eVar 0) aNil)) (gN 3)))
 (sSeq (sPu (sAsg (eOp addD (eVar 3) (eOp ixD (eFn gFormAt (aCons (eVar 0) (aCons (eVar 2) aNil))) (eC (.int 1)))) (gN 4)))
 (sSeq (sPu (sAsg (eOp subD (eFn lenF (aCons (eVar 1) aNil)) (eFn gCheckWidth (aCons (eVar 0) aNil))) (gN 5)))
 (sSeq (sPu (sAsg (eFn gNumberOf (aCons (eSl (eVar 1) (oSome (eVar 5)) oNone) aNil)) (gN 6)))
 (sSeq (sIf (tPu (tV (eOp geD (eVar 6) (eOp ixD (eOp ixD (eVar 0) (eC (.int 0))) (eC (.int 1))))))
 (sExcA "NoLetter" (aPu (aCons (eC (.str "a check that no letter has")) aNil)))
 sNil)
 (sPu (sRet (eFn gTup (aCons (eVar 2) (aCons (eFn gNumberOf (aCons (eSl (eVar 1) (oSome (eVar 3)) (oSome (eVar 4))) aNil)) (aCons (eSl (eVar 1) (oSome (eVar 4)) (oSome (eVar 5))) (aCons (eVar 6) aNil)))))))))))))))
def gParted2 : List D -> Sto -> Res D := runF 7 gParted20
def gLawSplit0 : SV :=
 (sSeq (sAsg (eVar 0) (gT 4 (gsCons (gN 2) (gsCons (gN 3) (gsCons (gN 4) (gsCons (gN 5) gsNil))))))
 (sSeq (sIf (tOrM (tNotM (tV (eUn (isiD "str") (eVar 1)))) (tV (eOp neD (eMeth isStr stripM (eVar 1) (aCons (eC (.str "01")) aNil)) (eC (.str "")))))
 (sRet (eC .non))
 sNil)
 (sSeq (sPar 6 7 (aCons (eFn gLawWidth2 (aCons (eOp addD (eC (.int 1)) (eFn lenF (aCons (eVar 4) aNil))) aNil)) (aCons (eFn gLawWidth2 (aCons (eOp ixD (eVar 2) (eC (.int 1))) aNil)) aNil)))
 (sSeq (sAsg (eFn gLawNumber (aCons (eSl (eVar 1) oNone (oSome (eVar 6))) aNil)) (gN 8))
 (sSeq (sIf (tOrM (tV (eOp ltD (eFn lenF (aCons (eVar 1) aNil)) (eVar 6))) (tV (eOp gtD (eVar 8) (eFn lenF (aCons (eVar 4) aNil)))))
 (sRet (eC .non))
 sNil)
 (sSeq (sPar3 9 10 11 (aCons (eC .non) (aCons (eVar 3) (aCons (eFn gL1 (aComp 1 (aIt (eOp ixD (eVar 2) (eC (.int 0)))) (gN 14) tYesM (eOp ixD (eVar 14) (eC (.int 1))))) aNil))))
 (sSeq (sIf (tV (eOp gtD (eVar 8) (eC (.int 0))))
 (sSeq (sPar 9 10 (aCons (eOp subD (eVar 8) (eC (.int 1))) (aCons (eOp ixD (eOp ixD (eVar 4) (eOp subD (eVar 8) (eC (.int 1)))) (eC (.int 1))) aNil)))
 (sAsg (eFn gL1 (aComp 2 (aZip (eOp ixD (eOp ixD (eVar 4) (eVar 9)) (eC (.int 2))) (eOp ixD (eVar 2) (eC (.int 0)))) (gT 2 (gsCons (gN 14) (gsCons (gN 15) gsNil))) tYesM (eFn gLawWidthOf (aCons (eVar 14) (aCons (eOp ixD (eVar 15) (eC (.int 1))) aNil))))) (gN 11)))
 sNil)
 (sSeq (sAsg (eOp addD (eOp addD (eVar 6) (eVar 10)) (eFn sumF (aCons (eVar 11) aNil))) (gN 12))
 (sSeq (sAsg (eFn gLawNumber (aCons (eSl (eVar 1) (oSome (eVar 12)) oNone) aNil)) (gN 13))
 (sSeq (sIf (tOrM (tV (eOp neD (eFn lenF (aCons (eVar 1) aNil)) (eOp addD (eVar 12) (eVar 7)))) (tV (eOp geD (eVar 13) (eOp ixD (eVar 2) (eC (.int 1))))))
 (sRet (eC .non))
 sNil)
 (sRet (eFn gTup (aCons (eVar 9) (aCons (eFn gLawNumber (aCons (eSl (eVar 1) (oSome (eVar 6)) (oSome (eOp addD (eVar 6) (eVar 10)))) aNil)) (aCons (eSl (eVar 1) (oSome (eOp addD (eVar 6) (eVar 10))) (oSome (eVar 12))) (aCons (eVar 13) aNil))))))))))))))))
def gLawSplit : List D -> Sto -> Res D := runF 14 gLawSplit0
def gLawRefused0 : SV :=
 (sSeq (sAsg (eC .non) (gN 2))
 (sSeq (sTry ["HeadError", "NoHead", "NoLetter", "NoStream", "NoText"] "HeadError" (sDrop (eFn gParted2 (aPu (aCons (eVar 0) (aCons (eVar 1) aNil))))) 3 (sSeq (sAsg (eAnd (eUn (isiX ["HeadError", "NoHead", "NoLetter", "NoStream", "NoText"] "NoLetter") (eVar 3)) (eUn (isiV ["HeadError", "NoHead", "NoLetter", "NoStream", "NoText"]) (eVar 3))) (gN 2))
 (sIf (tV (eUn (isiT ["HeadError", "NoHead", "NoLetter", "NoStream", "NoText"] ["NoHead", "NoStream", "NoText"]) (eVar 3)))
 (sAsg (eC (.bl false)) (gN 2))
 sNil)))
 (sRet (eOp isD (eVar 2) (eC (.bl true))))))
def gLawRefused : List D -> Sto -> Res D := runF 4 gLawRefused0
def gLawBent0 : SV :=
 (sSeq (sAsg (eFn gLawNext (aCons (eVar 0) (aCons (eOp addD (eFn lenF (aCons (eVar 2) aNil)) (eC (.int 1))) aNil))) (gN 3))
 (sSeq (sAsg (eOp ixD (eC (.str "01")) (eFn gLawNext (aCons (eVar 0) (aCons (eC (.int 2)) aNil)))) (gN 4))
 (sSeq (sAsg (eFn gLst (aCons (eOp addD (eOp addD (eSl (eVar 2) oNone (oSome (eVar 3))) (eVar 4)) (eSl (eVar 2) (oSome (eVar 3)) oNone)) (aCons (eOp addD (eSl (eVar 2) oNone (oSome (eVar 3))) (eSl (eVar 2) (oSome (eOp addD (eVar 3) (eC (.int 1)))) oNone)) (aCons (eOp addD (eOp addD (eSl (eVar 2) oNone (oSome (eVar 3))) (eVar 4)) (eSl (eVar 2) (oSome (eOp addD (eVar 3) (eC (.int 1)))) oNone)) aNil)))) (gN 5))
 (sSeq (sAsg (eOp addD (eVar 5) (eFn gLst (aCons (eOp addD (eVar 2) (eVar 4)) (aCons (eOp addD (eVar 4) (eVar 2)) (aCons (eSl (eVar 2) (oSome (eC (.int 1))) oNone) (aCons (eSl (eVar 2) oNone (oSome (eUn negD (eC (.int 1))))) (aCons (eC (.str "")) (aCons (eOp addD (eVar 2) (eVar 2)) aNil)))))))) (gN 5))
 (sSeq (sPar 6 7 (aCons (eFn gLawWidth2 (aCons (eOp addD (eC (.int 1)) (eFn lenF (aCons (eOp ixD (eVar 1) (eC (.int 2))) aNil))) aNil)) (aCons (eFn gLawWidth2 (aCons (eOp ixD (eOp ixD (eVar 1) (eC (.int 0))) (eC (.int 1))) aNil)) aNil)))
 (sSeq (sAsg (eOp addD (eVar 5) (eFn gLst (aCons (eOp addD (eOp mulD (eC (.str "1")) (eVar 6)) (eSl (eVar 2) (oSome (eVar 6)) oNone)) (aCons (eOp addD (eSl (eVar 2) oNone (oSome (eOp subD (eFn lenF (aCons (eVar 2) aNil)) (eVar 7)))) (eOp mulD (eC (.str "1")) (eVar 7))) aNil)))) (gN 5))
 (sSeq (sAsg (eOp addD (eVar 5) (eFn gLst (aCons (eOp addD (eFn gLawBits (aCons (eFn gLawNext (aCons (eVar 0) (aCons (eOp shlD (eC (.int 1)) (eVar 6)) aNil))) (aCons (eVar 6) aNil))) (eSl (eVar 2) (oSome (eVar 6)) oNone)) (aCons (eSl (eVar 2) oNone (oSome (eVar 3))) aNil)))) (gN 5))
 (sRet (eOp addD (eVar 5) (eFn gLst (aCons (eOp addD (eOp addD (eSl (eVar 2) oNone (oSome (eVar 3))) (eC (.str "2"))) (eSl (eVar 2) (oSome (eVar 3)) oNone)) (aCons (eOp addD (eC (.str " ")) (eVar 2)) (aCons (eOp addD (eOp addD (eSl (eVar 2) oNone (oSome (eVar 3))) (eC (.str "-"))) (eSl (eVar 2) (oSome (eOp addD (eVar 3) (eC (.int 1)))) oNone)) aNil)))))))))))))
def gLawBent : List D -> Sto -> Res D := runF 8 gLawBent0
def gLawRight50 : SV :=
 (sSeq (sAsg (eFn gLawSplit (aCons (eVar 0) (aCons (eVar 1) aNil))) (gN 2))
 (sSeq (sIf (tV (eOp isD (eVar 2) (eC .non)))
 (sRet (eFn gLawRefused (aCons (eVar 0) (aCons (eVar 1) aNil))))
 sNil)
 (sRet (eFn gLawSame (aCons (eFn (puF gParted2) (aCons (eVar 0) (aCons (eVar 1) aNil))) (aCons (eVar 2) aNil))))))
def gLawRight5 : List D -> Sto -> Res D := runF 3 gLawRight50
def gLaw270 : SV :=
 (sSeq (sAsg (eFn gLawBox (aCons (eVar 0) aNil)) (gN 1))
 (sSeq (sFor (aRng rng1 (aCons (eC (.int 4)) aNil)) (gN 2)
 (sSeq (sAsg (eFn gTup (aCons (eFn gLawPact (aCons (eVar 1) (aCons (eC (.int 5)) aNil))) (aCons (eC (.str "")) aNil))) (gT 2 (gsCons (gN 3) (gsCons (gN 4) gsNil))))
 (sSeq (sFor (aRng rng1 (aCons (eC (.int 4)) aNil)) (gN 5)
 (sSeq (sAsg (eFn gLawOf (aCons (eVar 1) (aCons (eOp addD (eFn gLst (aCons (eC .non) aNil)) (eFn lstRF (aCons (eFn lenF (aCons (eOp ixD (eVar 3) (eC (.int 2))) aNil)) aNil))) aNil))) (gN 6))
 (sSeq (sAsg (eFn gLawLetter (aCons (eVar 3) (aCons (eVar 6) (aCons (eFn gLawValue3 (aCons (eVar 1) (aCons (eOp ixD (eVar 3) (eC (.int 1))) aNil))) (aCons (eFn gLawAnyHead (aCons (eVar 1) (aCons (eOp ixD (eVar 3) (eC (.int 0))) aNil))) aNil))))) (gN 4))
 (sSeq (sAsg (eOp addD (eFn gLst (aCons (eVar 4) aNil)) (eFn gLawBent (aCons (eVar 1) (aCons (eVar 3) (aCons (eVar 4) aNil))))) (gN 7))
 (sIf (tNotM (tV (eFn allF (aCons (eFn gL1 (aComp 1 (aIt (eVar 7)) (gN 9) tYesM (eFn gLawRight5 (aCons (eVar 3) (aCons (eVar 9) aNil))))) aNil))))
 (sRet (eC (.bl false)))
 sNil)))))
 (sFor (aIt (eFn gLst (aCons (eC .non) (aCons (eC (.int 7)) (aCons (eC (.bl true)) (aCons (eFn gTup aNil) (aCons (eFn lstSF (aCons (eC (.str "01")) aNil)) (aCons (eFn gTup (aCons (eC (.str "0")) (aCons (eC (.str "1")) aNil))) (aCons (eDict []) (aCons (eC (.int 0)) (aCons (eFn gLst (aCons (eVar 4) aNil)) (aCons (eFn gTup (aCons (eVar 4) aNil)) aNil)))))))))))) (gN 8)
 (sIf (tNotM (tV (eFn gLawRefused (aCons (eVar 3) (aCons (eVar 8) aNil)))))
 (sRet (eC (.bl false)))
 sNil)))))
 (sRet (eC (.bl true)))))
def gLaw27 : List D -> Sto -> Res D := runF 9 gLaw270
theorem sco {N P : List Str} {sc : Scope} (a : autoParam (sc.kind = .function) AutoP.a3._auto_1) (b : autoParam (sc.isCoroutine = false) AutoP.a3._auto_1) (c : autoParam (sc.isGenerator = false) AutoP.a3._auto_1) (d : autoParam (N.Nodup) AutoP.a6._auto_1) (e : autoParam (N.take P.length = P) AutoP.a3._auto_1)
  (f : autoParam (∀ x ∈ P, sc.names.lookup x = some .local ∨ sc.names.lookup x = some .cell) AutoP.a6._auto_1) (g : autoParam (∀ y ∈ sc.names, y.2 ≠ .free) AutoP.a6._auto_1) : FnScope N P sc := ⟨a, b, c, d, e, f, g⟩
theorem qxi {X : Cx} {cl : Str -> Addr} {ex : XD} {a b : Expr} {fa fb : EV} {pos : Pos} {k : Nat} (hr : Room k X.A) (ha : QE X cl ex a fa) (hb : QE X cl ex b fb) (hs : autoParam (PlainIx b) AutoP.a7._auto_1) : QE X cl ex (.Subscript a b pos) (eOp ixD fa fb) :=
 qe_ix (ix_A (hu_of hr)) od_ix ha hb hs
theorem qfn {X : Cx} {cl : Str -> Addr} {e : Expr} {es : List Expr} {fr : AV} {p pos : Pos} {x : Str} {k n j : Nat} {g : List D -> Sto -> Res D} (h : FnX X.prog X.w X.K X.mg X.base cl x k n g) (hr : Room j X.A)
  (ha : QA X cl X0 (e :: es) fr) (hn : autoParam (n = (e :: es).length) AutoP.a3._auto_1) (hk : autoParam (k <= j) AutoP.a1._auto_1) (hg : autoParam (Gl X x) AutoP.a3._auto_1) (hlen : autoParam (∀ ρ m ds m1, fr ρ m = .ok ds m1 -> ds.length = (e :: es).length) AutoP.a8._auto_1) (hdb : autoParam ((x == ("__debug__" : Str)) = false) AutoP.a1._auto_1) (he : autoParam (starEach (e :: es) X.env = (false, eval e X.env) :: starEach es X.env) AutoP.a3._auto_1) (hpl : autoParam ((backTo pos (starEach es X.env)).any (·.1) = false) AutoP.a3._auto_1) :
  QE X cl X0 (.Call (.Name x p) (e :: es) [] pos) (eFn g fr) := qe_fn h hn (hr.mono hk) hg ha hlen hdb he hpl
theorem mkx (P : Program) (w : World) (base : Heap) (cl : Str -> Addr) (k : Nat) {K : PySem.W.Frag} {mg : Str -> Option Value} {x qual : Str} {st : Stmt} {f : Addr} {fd : FuncData} {N ps : List Str} {body : SV} (F : Fun K x qual st f fd) (b : Binds K fd ps []) (m : mg x = some (.ref f)) (S : FnScope N ps (defScope st))
  (h : ∀ (cdv : Value) (A : Around) (outer : List PySem.Env) (s : Shared) (H : Hp) (E : XK), Room k (A.deeper (envOfC qual (defScope st) s.heap.objs.size f cdv)) -> QSs (cxOf CX0 P w K mg base N qual (defScope st) f cdv A outer s H E).nox cl X0 (defBody st) body) : FnX P w K mg base cl x (k + 1) ps.length (runF N.length body) := FnX.mk' F b m S rfl h
theorem _root_.L2.Fun.bindA {K : PySem.W.Frag} {x qual : Str} {st : Stmt} {f : Addr} {fd : FuncData} {ps : List Str} (F : Fun K x qual st f fd)
  (h : ∀ (kV doc pm : Value) (an : Option Addr) (cdv ct : Value) (us : List Value), us.length = ps.length -> bindArgs (PySem.W.fnOf x qual (defArgs st) (defBody st) (defScope st) .none kV doc pm an cdv ct) ⟨us, []⟩ = pure (ps.zip us) := by intro _ _ _ _ _ _ us hl; first | (obtain rfl := us0 hl; rfl) | (obtain ⟨_, rfl⟩ := us1 hl; rfl) | (obtain ⟨_, _, rfl⟩ := us2 hl; rfl) | (obtain ⟨_, _, _, rfl⟩ := us3 hl; rfl) | (obtain ⟨_, _, _, _, rfl⟩ := us4 hl; rfl) | (obtain ⟨_, _, _, _, _, rfl⟩ := us5 hl; rfl) | (obtain ⟨_, _, _, _, _, _, rfl⟩ := us6 hl; rfl)) : Binds K fd ps [] := F.binds h
end MD
namespace Mth
end Mth
set_option autoImplicit false
namespace MD
open PySem L2
end MD
set_option autoImplicit false
namespace L2
open PySem PySem.Spec PyProof.Rows
end L2
set_option autoImplicit false
namespace MD
open PySem PySem.Spec PyProof.Rows L2
end MD
set_option autoImplicit false
namespace L2
open PySem PySem.Spec PyProof.Rows
end L2
namespace PySem
open Sem (wp)
end PySem
set_option autoImplicit false
namespace L2
open PySem PySem.Spec PyProof.Rows
end L2
namespace MD
open PySem PySem.Spec PyProof.Rows L2
section
variable {K : PySem.W.Frag} {cl : Str -> Addr} {ex : XD} {gt : GV} {ta : TV} {fk fv : EV} {fr : AV}
end
end MD
set_option autoImplicit false
namespace L2
open PySem PySem.Spec PyProof.Rows
end L2
namespace MD
open PySem PySem.Spec PyProof.Rows L2
end MD
set_option autoImplicit false
namespace MD
open PySem PySem.Spec PyProof.Rows L2
open PySem.SeqAt
section
variable {prog : Program} {w : World} {A : Around} {E : Value -> Shared -> Prop} {s : Shared} {Q : Value -> Shared -> Prop}
open AutoSeq1 (wpAny_loadPart')
end
section
variable {X : Cx} {K : PySem.W.Frag} {cl : Str -> Addr} {ex : XD}
end
theorem look_mem {a : Addr} {o : Obj} : ∀ {K : PySem.W.Frag}, K.lookup a = some o -> (a, o) ∈ K
 | [], h => nomatch h
 | (b, u) :: K, h => by
  rw [List.lookup_cons] at h
  cases hb : a == b with
  | true =>
   rw [hb] at h
   cases h
   rw [eq_of_beq hb]
   exact List.mem_cons_self
  | false =>
   rw [hb] at h
   exact List.mem_cons_of_mem _ (look_mem h)
theorem Kof_in (n : Nat) (h : Heap) : (Kof n h).In h := fun a o e => by
 obtain ⟨b, _, hb⟩ := List.mem_filterMap.mp (look_mem e)
 obtain ⟨u, hu, e2⟩ := Option.map_eq_some_iff.mp hb
 cases e2
 exact hu
theorem fun_of {K : PySem.W.Frag} {f : Addr} {x q : Str} {st : Stmt} (h : fnV K f = (some (x, q, defArgs st, defBody st, defScope st), true)) : ∃ fd, Fun K x q st f fd := by
 unfold fnV at h
 split at h
 ·rename_i oc od x' q' ps b sc gl dv kV doc pm an cd ct bl sl hl
  simp only [Prod.mk.injEq, Option.some.injEq, Bool.and_eq_true] at h
  obtain ⟨⟨rfl, rfl, rfl, rfl, rfl⟩, ⟨⟨h1, h2⟩, h3⟩, h4⟩ := h
  have e1 := Nat.eq_of_beq_eq_true h1
  have e2 := Nat.eq_of_beq_eq_true h2
  subst e1 e2
  have e3 : dv = .none := by
   unfold valNone at h3
   split at h3
   ·rfl
   ·cases h3
  subst e3
  refine ⟨_, ⟨⟨oc, od, kV, doc, pm, an, cd, ct, sl, rfl, hl, h4⟩, ?_⟩⟩
  unfold PySem.W.keepIn
  dsimp only
  rw [hl]
 ·cases h
theorem pick {τ υ : Type} {f : τ -> υ} {l : List τ} {e : List υ} (h : l.map f = e) (i : Nat) {x : τ} {v : υ} (hx : l[i]? = some x) (hv : e[i]? = some v) : f x = v := by
 rw [<- h, List.getElem?_map, hx] at hv
 exact Option.some.inj hv
theorem both {α β γ : Type} {r : Option α} {f : α -> β} {g : α -> γ} {a : β} {b : γ} (h1 : r.map f = some a) (h2 : r.map g = some b) : r.map (fun s => (f s, g s)) = some (a, b) := by
 cases r with
 | none => cases h1
 | some s =>
  simp only [Option.map_some, Option.some.injEq] at h1 h2 ⊢
  rw [h1, h2]
theorem joinH {α τ υ : Type} {r : Option α} {g : α -> τ -> υ} {l1 l2 : List τ} {e1 e2 : List υ} (h1 : r.map (fun s => l1.map (g s)) = some e1) (h2 : r.map (fun s => l2.map (g s)) = some e2) : r.map (fun s => (l1 ++ l2).map (g s)) = some (e1 ++ e2) := by
 cases r with
 | none => cases h1
 | some s =>
  simp only [Option.map_some, Option.some.injEq] at h1 h2 ⊢
  rw [List.map_append, h1, h2]
theorem both4 {α A B C D : Type} {r : Option α} {f1 : α -> A} {f2 : α -> B} {f3 : α -> C} {f4 : α -> D} {a : A} {b : B} {c : C} {d : D} (h1 : r.map f1 = some a) (h2 : r.map (fun s => (f2 s, f4 s)) = some (b, d)) (h3 : r.map f3 = some c) : r.map (fun s => (f1 s, f2 s, f3 s, f4 s)) = some (a, b, c, d) := by
 cases r with
 | none => cases h1
 | some s =>
  simp only [Option.map_some, Option.some.injEq, Prod.mk.injEq] at h1 h2 h3 ⊢
  exact ⟨h1, h2.1, h3, h2.2⟩
theorem parts4 {α B C D : Type} {r : Option α} {f : α -> Seen × B × C × D} {g : Seen × B × C × D} (k : Nat) (ha : r.map (fun s => (f s).1.defs.take k) = some (g.1.defs.take k)) (hb : r.map (fun s => (f s).1.defs.drop k) = some (g.1.defs.drop k)) (ho : r.map (fun s => (f s).1.ownsOk) = some g.1.ownsOk) (hn : r.map (fun s => (f s).1.names) = some g.1.names) (h1 : r.map (fun s => ((f s).1.globalsOk, (f s).1.builtinsOk, (f s).1.noLimit, (f s).1.gens)) = some (g.1.globalsOk, g.1.builtinsOk, g.1.noLimit, g.1.gens)) (hv : r.map (fun s => (f s).2.1) = some g.2.1) (h2 : r.map (fun s => (f s).2.2.1) = some g.2.2.1) (h3 : r.map (fun s => (f s).2.2.2) = some g.2.2.2) : r.map f = some g := by
 cases r with
 | none => cases h1
 | some s =>
  simp only [Option.map_some, Option.some.injEq, Prod.mk.injEq] at ha hb ho hn h1 hv h2 h3 ⊢
  have e0 : (f s).1.defs = g.1.defs := by rw [<- List.take_append_drop k (f s).1.defs, ha, hb, List.take_append_drop]
  generalize f s = x at *
  obtain ⟨⟨a1, a2, a3, a4, a5, a6, a7⟩, b, c, d⟩ := x
  obtain ⟨⟨b1, b2, b3, b4, b5, b6, b7⟩, b', c', d'⟩ := g
  simp only at e0 ho hn h1 hv h2 h3
  obtain ⟨rfl, rfl, rfl, rfl⟩ := h1
  subst e0 ho hn hv h2 h3
  rfl
theorem walk_ofY {l : PySem.W.OpenLaw} {n k nK : Nat} {q : Program} {loose : List Str} {XP : (Str -> Option Value) -> Heap -> Prop} {d : DefRec} {CX : CXT} {sp : PySem.W.Frag -> Sp} {x : Str} {α : Type} {Yf : PySem.W.Frag -> α} {E : α}
  (hn : l.most = some n) (hn2 : n <= sizeLine) (hdf : d.params.defaults = []) (hr : Room k callerA)
  (F : ∀ (K : PySem.W.Frag), Yf K = E -> ∀ (w : World) (mg : Str -> Option Value) (fa : Addr) (h : Heap), K.In h -> h.Ns mainGlobals mg -> mg d.name = some (.ref fa) →
   ∃ fd : FuncData, (∀ (s : Shared) (u : Value), BindsTo s fd ⟨[u], []⟩ [(x, u)]) /\ ∀ base : Heap, K.In base -> base.Ns mainGlobals mg -> FnOk l.prog w K mg base CX k fa fd [x] (sp K))
  (hsp : ∀ (K : PySem.W.Frag) (H : Hp) (a : Addr) (ns : List Int), ns.length <= n -> Only H -> SqL K H a (ns.map V.int) -> sp K [.ref a] H (fun v _ => v = .bl true) fun _ _ _ => False)
  (hCX : ∀ (H : Hp) (s : Shared) (e : Value) (s' : Shared), CX [] H s (fun _ _ _ => False) e s' -> False) :
  PySem.W.WalkX q loose XP (fun s => Yf (Kof nK s.heap)) (fun _ => E) l.row.toRowW d [] (fun f vs => PySem.call f vs) := by
 intro w s₀ s₁ mg mb G y a o pm cd doc dV kV ho hd hcd hD hmg hg args vals as' L hpre hlay hrd hwl hlo
 have KX : (Kof nK s₀.heap).In s₁.heap := (Kof_in nK s₀.heap).keeps L.keeps
 exact L2.walk_ofK (YP := fun w h => (Kof nK s₀.heap).In h) (K := fun _ => Kof nK s₀.heap) hn hn2 hdf hr (fun w h Y => Y) (F (Kof nK s₀.heap) y) hsp hCX w s₀ s₁ mg mb G KX a o pm cd doc dV kV ho hd hcd hD hmg hg args vals as' hpre hlay hrd hwl hlo
section
variable {α β γ : Type}
def kThen (f : α -> Sto -> Res β) (g : β -> Sto -> Res γ) : α -> Sto -> Res γ := fun a m => (f a m).bind g
theorem then_at (f : α -> Sto -> Res β) (g : β -> Sto -> Res γ) (a : α) (m : Sto) : kThen f g a m = (f a m).bind g := rfl
theorem bind_then (r : Res α) (f : α -> Sto -> Res β) (g : β -> Sto -> Res γ) : (r.bind f).bind g = r.bind (kThen f g) := Res.bind_assoc r f g
end
section
variable (m : Sto) (ρ : En) (d : D) (f g : SV) (fa fb fc : EV) (fr : AV) (c t : TV) (h : GV)
def kSeq (g : SV) : Fl -> Sto -> Res Fl := fun fl m1 => match fl with
 | .nx ρ1 => g ρ1 m1
 | fl => .ok fl m1
theorem seq_at : sSeq f g ρ m = (f ρ m).bind (kSeq g) := rfl
theorem seq_nx : kSeq g (.nx ρ) m = g ρ m := rfl
theorem seq_rt : kSeq g (.rt d) m = .ok (.rt d) m := rfl
theorem nil_at : sNil ρ m = .ok (.nx ρ) m := rfl
def kRt : D -> Sto -> Res Fl := fun d m => .ok (.rt d) m
theorem ret_at : sRet fa ρ m = (fa ρ m).bind kRt := rfl
theorem rt_at : kRt d m = .ok (.rt d) m := rfl
theorem retN_at : sRetN ρ m = .ok (.rt .non) m := rfl
def kDrop (ρ : En) : D -> Sto -> Res Fl := fun _ m => .ok (.nx ρ) m
theorem drop_at : sDrop fa ρ m = (fa ρ m).bind (kDrop ρ) := rfl
theorem kdrop_at : kDrop ρ d m = .ok (.nx ρ) m := rfl
def kIf (f g : SV) (ρ : En) : Bool -> Sto -> Res Fl := fun b m => if b = true then f ρ m else g ρ m
theorem if_at : sIf c f g ρ m = (c ρ m).bind (kIf f g ρ) := rfl
theorem kif_at (b : Bool) : kIf f g ρ b m = if b = true then f ρ m else g ρ m := rfl
def kAsg (h : GV) (ρ : En) : D -> Sto -> Res Fl := fun d m1 => (h d ρ m1).bind fun ρ1 m2 => .ok (.nx ρ1) m2
def kNx : En -> Sto -> Res Fl := fun ρ m => .ok (.nx ρ) m
theorem asg_at : sAsg fa h ρ m = (fa ρ m).bind (kAsg h ρ) := rfl
theorem kasg_at : kAsg h ρ d m = (h d ρ m).bind kNx := rfl
theorem nx_at : kNx ρ m = .ok (.nx ρ) m := rfl
theorem gN_at (i : Nat) : gN i d ρ m = .ok (ρ.set i (some d)) m := rfl
theorem gs_nil : gsNil [] ρ m = .ok ρ m := rfl
theorem gs_cons (gs : List D -> En -> Sto -> Res En) (r : List D) : gsCons h gs (d :: r) ρ m = (h d ρ m).bind (gs r) := rfl
theorem gT_at (n : Nat) (gs : List D -> En -> Sto -> Res En) (ds : List D) : gT n gs (.tup ds) ρ m = if ds.length = n then gs ds ρ m else .bad := rfl
def kPar (i j : Nat) (ρ : En) : List D -> Sto -> Res Fl := fun ds m1 => match ds with
 | [x, y] => .ok (.nx ((ρ.set i (some x)).set j (some y))) m1
 | _ => .bad
theorem par_at (i j : Nat) : sPar i j fr ρ m = (fr ρ m).bind (kPar i j ρ) := rfl
theorem kpar_at (i j : Nat) (x y : D) : kPar i j ρ [x, y] m = .ok (.nx ((ρ.set i (some x)).set j (some y))) m := rfl
def kFor (h : GV) (f : SV) (ρ : En) : List D -> Sto -> Res Fl := fun ds m1 => loopF h f ds ρ m1
theorem for_at : sFor fr h f ρ m = (fr ρ m).bind (kFor h f ρ) := rfl
theorem kfor_at (ds : List D) : kFor h f ρ ds m = loopF h f ds ρ m := rfl
theorem eC_at : eC d ρ m = .ok d m := rfl
def kOp (g : D -> D -> Sto -> Res D) (fb : EV) (ρ : En) : D -> Sto -> Res D := fun x m1 => (fb ρ m1).bind (g x)
theorem op_at (g : D -> D -> Sto -> Res D) : eOp g fa fb ρ m = (fa ρ m).bind (kOp g fb ρ) := rfl
theorem kop_at (g : D -> D -> Sto -> Res D) : kOp g fb ρ d m = (fb ρ m).bind (g d) := rfl
theorem un_at (g : D -> Sto -> Res D) : eUn g fa ρ m = (fa ρ m).bind g := rfl
theorem fn_at (g : List D -> Sto -> Res D) : eFn g fr ρ m = (fr ρ m).bind g := rfl
def kIfE (f g : EV) (ρ : En) : Bool -> Sto -> Res D := fun b m => if b = true then f ρ m else g ρ m
theorem ife_at : eIf c fa fb ρ m = (c ρ m).bind (kIfE fa fb ρ) := rfl
theorem kife_at (b : Bool) : kIfE fa fb ρ b m = if b = true then fa ρ m else fb ρ m := rfl
theorem aNil_at : aNil ρ m = .ok [] m := rfl
def kCons (fr : AV) (ρ : En) : D -> Sto -> Res (List D) := fun x m1 => (fr ρ m1).bind fun xs m2 => .ok (x :: xs) m2
def kCons2 (x : D) : List D -> Sto -> Res (List D) := fun xs m2 => .ok (x :: xs) m2
theorem aCons_at : aCons fa fr ρ m = (fa ρ m).bind (kCons fr ρ) := rfl
theorem kcons_at : kCons fr ρ d m = (fr ρ m).bind (kCons2 d) := rfl
theorem kcons2_at (xs : List D) : kCons2 d xs m = .ok (d :: xs) m := rfl
theorem asB_at (b : Bool) : asB (.bl b) m = .ok b m := rfl
theorem tV_at : tV fa ρ m = (fa ρ m).bind asB := rfl
def kAndT (t : TV) (ρ : En) : Bool -> Sto -> Res Bool := fun b m => if b = true then t ρ m else .ok false m
theorem andT_at : tAndM c t ρ m = (c ρ m).bind (kAndT t ρ) := rfl
theorem kandT_at (b : Bool) : kAndT t ρ b m = if b = true then t ρ m else .ok false m := rfl
def kOrT (t : TV) (ρ : En) : Bool -> Sto -> Res Bool := fun b m => if b = true then .ok true m else t ρ m
theorem orT_at : tOrM c t ρ m = (c ρ m).bind (kOrT t ρ) := rfl
theorem korT_at (b : Bool) : kOrT t ρ b m = if b = true then .ok true m else t ρ m := rfl
def kNotT : Bool -> Sto -> Res Bool := fun c m1 => .ok (!c) m1
theorem notT_at : tNotM c ρ m = (c ρ m).bind kNotT := rfl
theorem knotT_at (b : Bool) : kNotT b m = .ok (!b) m := rfl
def kAnd (fb : EV) (ρ : En) : D -> Sto -> Res D := fun c m1 => (asB c m1).bind fun c m1 => if c = true then fb ρ m1 else .ok (.bl false) m1
theorem and_at : eAnd fa fb ρ m = (fa ρ m).bind (kAnd fb ρ) := rfl
theorem kand_at (b : Bool) : kAnd fb ρ (.bl b) m = if b = true then fb ρ m else .ok (.bl false) m := rfl
def kOr (fb : EV) (ρ : En) : D -> Sto -> Res D := fun c m1 => (asB c m1).bind fun c m1 => if c = true then .ok (.bl true) m1 else fb ρ m1
theorem or_at : eOr fa fb ρ m = (fa ρ m).bind (kOr fb ρ) := rfl
theorem kor_at (b : Bool) : kOr fb ρ (.bl b) m = if b = true then .ok (.bl true) m else fb ρ m := rfl
def kNot : D -> Sto -> Res D := fun c m1 => (asB c m1).bind fun c m1 => .ok (.bl (!c)) m1
theorem not_at : eNot fa ρ m = (fa ρ m).bind kNot := rfl
theorem knot_at (b : Bool) : kNot (.bl b) m = .ok (.bl (!b)) m := rfl
theorem aIt_at : aIt fa ρ m = (fa ρ m).bind asSeq := rfl
theorem sq_t (ds : List D) : asSeq (.tup ds) m = .ok ds m := rfl
theorem sq_l (ds : List D) : asSeq (.lst ds) m = .ok ds m := rfl
theorem sq_s (z : Str) : asSeq (.str z) m = .ok (signs z) m := rfl
theorem sq_c (ds : List D) : asSeq (.scr ds) m = .ok ds m := rfl
theorem rngA_at (g : List D -> Sto -> Res (List D)) : aRng g fr ρ m = (fr ρ m).bind g := rfl
def kEnum : D -> Sto -> Res (List D) := fun d m1 => (asSq2 d m1).bind fun ds m2 => .ok (enumD 0 ds) m2
theorem enumA_at : aEnum fa ρ m = (fa ρ m).bind kEnum := rfl
theorem kenum_t (ds : List D) : kEnum (.tup ds) m = .ok (enumD 0 ds) m := rfl
theorem kenum_l (ds : List D) : kEnum (.lst ds) m = .ok (enumD 0 ds) m := rfl
def kZip (fb : EV) (ρ : En) : D -> Sto -> Res (List D) := fun x m1 => (fb ρ m1).bind (zip2 x)
theorem zipA_at : aZip fa fb ρ m = (fa ρ m).bind (kZip fb ρ) := rfl
theorem kzip_at : kZip fb ρ d m = (fb ρ m).bind (zip2 d) := rfl
def kZip3 (fb fc : EV) (ρ : En) : D -> Sto -> Res (List D) := fun x m1 => (fb ρ m1).bind fun y m2 => (fc ρ m2).bind (zip3 x y)
def kZip4 (x : D) (fc : EV) (ρ : En) : D -> Sto -> Res (List D) := fun y m1 => (fc ρ m1).bind (zip3 x y)
theorem zip3A_at : aZip3 fa fb fc ρ m = (fa ρ m).bind (kZip3 fb fc ρ) := rfl
theorem kzip3_at : kZip3 fb fc ρ d m = (fb ρ m).bind (kZip4 d fc ρ) := rfl
theorem kzip4_at (x : D) : kZip4 x fc ρ d m = (fc ρ m).bind (zip3 x d) := rfl
theorem oNone_at : oNone ρ m = .ok none m := rfl
def kSome : D -> Sto -> Res (Option Int) := fun d m1 => match d with
 | .int i => .ok (some i) m1
 | _ => .bad
theorem oSome_at : oSome fa ρ m = (fa ρ m).bind kSome := rfl
theorem ksome_at (i : Int) : kSome (.int i) m = .ok (some i) m := rfl
def kSl1 (lo hi : OV) (ρ : En) : D -> Sto -> Res D := fun x m1 => (lo ρ m1).bind fun l m2 => (hi ρ m2).bind (slD x l)
def kSl2 (hi : OV) (ρ : En) (x : D) : Option Int -> Sto -> Res D := fun l m2 => (hi ρ m2).bind (slD x l)
theorem slD_at (lo hi : OV) : eSl fa lo hi ρ m = (fa ρ m).bind (kSl1 lo hi ρ) := rfl
theorem ksl1_at (lo hi : OV) : kSl1 lo hi ρ d m = (lo ρ m).bind (kSl2 hi ρ d) := rfl
theorem ksl2_at (hi : OV) (l : Option Int) : kSl2 hi ρ d l m = (hi ρ m).bind (slD d l) := rfl
def kSlA1 (lo hi : OV) (ρ : En) : D -> Sto -> Res D := fun x m1 => (lo ρ m1).bind fun l m2 => (hi ρ m2).bind (slA x l)
def kSlA2 (hi : OV) (ρ : En) (x : D) : Option Int -> Sto -> Res D := fun l m2 => (hi ρ m2).bind (slA x l)
theorem slA_at (lo hi : OV) : eSlA fa lo hi ρ m = (fa ρ m).bind (kSlA1 lo hi ρ) := rfl
theorem kslA1_at (lo hi : OV) : kSlA1 lo hi ρ d m = (lo ρ m).bind (kSlA2 hi ρ d) := rfl
theorem kslA2_at (hi : OV) (l : Option Int) : kSlA2 hi ρ d l m = (hi ρ m).bind (slA d l) := rfl
def kMeth (ty : D -> Sto -> Bool) (g : D -> List D -> Sto -> Res D) (fr : AV) (ρ : En) : D -> Sto -> Res D := fun o m1 => if ty o m1 = true then (fr ρ m1).bind (g o) else .bad
theorem meth_at (ty : D -> Sto -> Bool) (g : D -> List D -> Sto -> Res D) : eMeth ty g fa fr ρ m = (fa ρ m).bind (kMeth ty g fr ρ) := rfl
theorem kmeth_at (ty : D -> Sto -> Bool) (g : D -> List D -> Sto -> Res D) : kMeth ty g fr ρ d m = if ty d m = true then (fr ρ m).bind (g d) else .bad := rfl
theorem isStr_at (z : Str) : isStr (.str z) m = true := rfl
theorem isTup_at (ds : List D) : isTup (.tup ds) m = true := rfl
theorem fin_nx : finF (.nx ρ) m = .ok .non m := rfl
theorem fin_rt : finF (.rt d) m = .ok d m := rfl
theorem run_at (n : Nat) (ds : List D) : runF n f ds m = (f (ds.map some ++ List.replicate (n - ds.length) none) m).bind finF := rfl
def kCh3 (g' : D -> D -> Sto -> Res D) (fc : EV) (ρ : En) (y : D) : D -> Sto -> Res D := fun z m3 => (asB z m3).bind fun k m3 => if k = true then (fc ρ m3).bind (g' y) else .ok (.bl false) m3
def kCh2 (g g' : D -> D -> Sto -> Res D) (fc : EV) (ρ : En) (x : D) : D -> Sto -> Res D := fun y m2 => (g x y m2).bind (kCh3 g' fc ρ y)
def kCh1 (g g' : D -> D -> Sto -> Res D) (fb fc : EV) (ρ : En) : D -> Sto -> Res D := fun x m1 => (fb ρ m1).bind (kCh2 g g' fc ρ x)
theorem chain_at (g g' : D -> D -> Sto -> Res D) : eChain g g' fa fb fc ρ m = (fa ρ m).bind (kCh1 g g' fb fc ρ) := rfl
theorem kch1_at (g g' : D -> D -> Sto -> Res D) : kCh1 g g' fb fc ρ d m = (fb ρ m).bind (kCh2 g g' fc ρ d) := rfl
theorem kch2_at (g g' : D -> D -> Sto -> Res D) (x : D) : kCh2 g g' fc ρ x d m = (g x d m).bind (kCh3 g' fc ρ d) := rfl
theorem kch3_at (g' : D -> D -> Sto -> Res D) (y : D) (b : Bool) : kCh3 g' fc ρ y (.bl b) m = if b = true then (fc ρ m).bind (g' y) else .ok (.bl false) m := rfl
def kPutA (fo fi : EV) (ρ : En) : D -> Sto -> Res Fl := fun v m1 => (fo ρ m1).bind fun x m2 => (fi ρ m2).bind fun y m3 => (putDS x y v m3).bind fun _ m4 => .ok (.nx ρ) m4
def kPutB (fi : EV) (ρ : En) (v : D) : D -> Sto -> Res Fl := fun x m2 => (fi ρ m2).bind fun y m3 => (putDS x y v m3).bind fun _ m4 => .ok (.nx ρ) m4
def kPutC (ρ : En) (v x : D) : D -> Sto -> Res Fl := fun y m3 => (putDS x y v m3).bind fun _ m4 => .ok (.nx ρ) m4
def kPutE (ρ : En) : Unit -> Sto -> Res Fl := fun _ m4 => .ok (.nx ρ) m4
theorem put_at : sPutD fa fb fc ρ m = (fc ρ m).bind (kPutA fa fb ρ) := rfl
theorem kputA_at : kPutA fa fb ρ d m = (fa ρ m).bind (kPutB fb ρ d) := rfl
theorem kputB_at (x : D) : kPutB fb ρ d x m = (fb ρ m).bind (kPutC ρ d x) := rfl
theorem kputC_at (x y : D) : kPutC ρ d x y m = (putDS x y d m).bind (kPutE ρ) := rfl
theorem kputE_at : kPutE ρ () m = .ok (.nx ρ) m := rfl
theorem var_0 : eVar 0 (some d :: ρ) m = .ok d m := rfl
theorem var_S (i : Nat) (x : Option D) : eVar (i + 1) (x :: ρ) m = eVar i ρ m := rfl
end
theorem bind_ok {α β : Type} (a : α) (m : Sto) (k : α -> Sto -> Res β) : (Res.ok a m).bind k = k a m := rfl
def Run {α : Type} (r : Res α) (P : α -> Sto -> Prop) : Prop := ∃ a m, r = .ok a m /\ P a m
theorem Run.bind {α β : Type} {r : Res α} {k : α -> Sto -> Res β} {Q : α -> Sto -> Prop} {P : β -> Sto -> Prop} (h : Run r Q) (hk : ∀ a m, Q a m -> Run (k a m) P) : Run (r.bind k) P := by
 obtain ⟨a, m, rfl, q⟩ := h
 exact hk a m q
theorem Run.ok {α : Type} {a : α} {m : Sto} {P : α -> Sto -> Prop} (h : P a m) : Run (.ok a m) P := ⟨a, m, rfl, h⟩
theorem Run.mono {α : Type} {r : Res α} {P Q : α -> Sto -> Prop} (h : Run r P) (k : ∀ a m, P a m -> Q a m) : Run r Q := by
 obtain ⟨a, m, e, p⟩ := h
 exact ⟨a, m, e, k a m p⟩
theorem loop_run {g : GV} {body : SV} (I : Nat -> En -> Sto -> Prop) : ∀ (ds : List D) (k : Nat) {ρ : En} {m : Sto}, I k ρ m -> (∀ i d ρ m, ds[i]? = some d -> I (k + i) ρ m -> Run ((g d ρ m).bind body) fun fl m2 => ∃ ρ2, fl = .nx ρ2 /\ I (k + i + 1) ρ2 m2) →
  Run (loopF g body ds ρ m) fun fl m' => ∃ ρ', fl = .nx ρ' /\ I (k + ds.length) ρ' m'
 | [], k, ρ, m, h, _ => ⟨_, m, rfl, ρ, rfl, h⟩
 | d :: r, k, ρ, m, h, st => by
  obtain ⟨_, m2, e2, ρ2, rfl, h2⟩ := st 0 d ρ m rfl h
  obtain ⟨_, m', e3, ρ', rfl, h3⟩ := loop_run I r (k + 1) h2 fun i d ρ m hd hi => by
   have := st (i + 1) d ρ m (by simpa using hd) (by rw [show k + (i + 1) = k + 1 + i by omega]; exact hi)
   rw [show k + (i + 1) + 1 = k + 1 + i + 1 by omega] at this
   exact this
  refine ⟨_, m', ?_, ρ', rfl, by rw [List.length_cons, show k + (r.length + 1) = k + 1 + r.length by omega]; exact h3⟩
  rw [loopF, <- Res.bind_assoc, e2, bind_ok]
  exact e3
theorem comp_run {g : GV} {el : EV} {ρ : En} (I : Nat -> Sto -> Prop) (P : Nat -> D -> D -> Prop) : ∀ (ds : List D) (k : Nat) {m : Sto}, I k m -> (∀ i d m, ds[i]? = some d -> I (k + i) m -> Run ((g d ρ m).bind el) fun x m3 => P (k + i) d x /\ I (k + i + 1) m3) →
  Run (compM g tYesM el ρ ds m) fun xs m' => xs.length = ds.length /\ (∀ i d x, ds[i]? = some d -> xs[i]? = some x -> P (k + i) d x) /\ I (k + ds.length) m'
 | [], k, m, h, _ => ⟨[], m, rfl, rfl, fun i d x e => by simp at e, h⟩
 | d :: r, k, m, h, st => by
  obtain ⟨x, m3, e3, hP, h3⟩ := st 0 d m rfl h
  obtain ⟨xs, m', e4, hl, hPs, h4⟩ := comp_run I P r (k + 1) h3 fun i d m hd hi => by
   have := st (i + 1) d m (by simpa using hd) (by rw [show k + (i + 1) = k + 1 + i by omega]; exact hi)
   rw [show k + (i + 1) + 1 = k + 1 + i + 1 by omega, show k + (i + 1) = k + 1 + i by omega] at this
   exact this
  refine ⟨x :: xs, m', ?_, by rw [List.length_cons, List.length_cons, hl], fun i d' x' hd hx => ?_, by rw [List.length_cons, show k + (r.length + 1) = k + 1 + r.length by (clear hl; omega)]; exact h4⟩
  ·have e : compM g tYesM el ρ (d :: r) m = ((g d ρ m).bind el).bind fun x m3 => (compM g tYesM el ρ r m3).bind fun xs m4 => .ok (x :: xs) m4 := by
    rw [compM, Res.bind_assoc]
    rfl
   rw [e, e3, bind_ok, e4, bind_ok]
  ·cases i with
   | zero => simp at hd hx; subst hd hx; exact hP
   | succ i =>
    have := hPs i d' x' (by simpa using hd) (by simpa using hx)
    rw [show k + (i + 1) = k + 1 + i by (clear hl; omega)]
    exact this
theorem comp_map {g : GV} {el : EV} {ρ : En} {m : Sto} (f : D -> D) : ∀ (ds : List D), (∀ d ∈ ds, ∃ ρ1, g d ρ m = .ok ρ1 m /\ el ρ1 m = .ok (f d) m) -> compM g tYesM el ρ ds m = .ok (ds.map f) m
 | [], _ => rfl
 | d :: r, h => by
  obtain ⟨ρ1, e1, e2⟩ := h d (by simp)
  rw [compM, e1, bind_ok]
  show (Res.ok true m).bind _ = _
  rw [bind_ok, if_pos rfl, e2, bind_ok, comp_map f r fun d hd => h d (List.mem_cons_of_mem _ hd), bind_ok]
  rfl
theorem pyL_ints : ∀ ns : List Int, pyL (ns.map D.int) = ns.map PyData.int
 | [] => by simp [pyL]
 | a :: r => by simp [pyL, py, pyL_ints r]
theorem pyOkL_ints : ∀ ns : List Int, pyOkL (ns.map D.int) = true
 | [] => by simp [pyOkL]
 | a :: r => by simp [pyOkL, pyOk, pyOkL_ints r]
theorem can_ints : ∀ ns : List Int, PyData.canLayAll0 (ns.map PyData.int) = true
 | [] => by simp [PyData.canLayAll0]
 | a :: r => by simp [PyData.canLayAll0, PyData.canLay0, can_ints r]
theorem dep_ints : ∀ ns : List Int, PyData.depthAll (ns.map PyData.int) = 0
 | [] => by simp [PyData.depthAll]
 | a :: r => by simp [PyData.depthAll, PyData.depth, dep_ints r]
theorem eqv_ints : ∀ ns ms : List Int, PyData.eqvAll (ns.map PyData.int) (ms.map PyData.int) = decide (ns = ms)
 | [], [] => by simp [PyData.eqvAll]
 | [], _ :: _ => by simp [PyData.eqvAll]
 | _ :: _, [] => by simp [PyData.eqvAll]
 | a :: r, b :: t => by
  simp only [List.map_cons, PyData.eqvAll, PyData.eqv, eqv_ints r t]
  by_cases h : a = b <;> by_cases h' : r = t <;> simp [h, h']
theorem deep_lst (ns : List Int) : deep (.lst (ns.map D.int)) = true := by
 simp [deep, pyOk, py, pyOkL_ints, pyL_ints, SeqAt.shaped, PyData.canLay0, can_ints, PyData.depth, dep_ints]
theorem eqB_lst (ns ms : List Int) : eqB (.lst (ns.map D.int)) (.lst (ms.map D.int)) = some (decide (ns = ms)) := by
 show (if deep (.lst (ns.map D.int)) && deep (.lst (ms.map D.int)) then some (PyData.eqv (py (.lst (ns.map D.int))) (py (.lst (ms.map D.int)))) else none) = _
 rw [deep_lst, deep_lst]
 simp [py, PyData.eqv, pyL_ints, eqv_ints]
structure Fr (p q : Nat) (m m' : Sto) : Prop where
 len : m.length <= m'.length
 at' : ∀ j, j < m.length -> j ≠ p -> j ≠ q -> m'[j]? = m[j]?
theorem Fr.refl {p q : Nat} {m : Sto} : Fr p q m m := ⟨Nat.le_refl _, fun _ _ _ _ => rfl⟩
theorem Fr.trans {p q : Nat} {a b c : Sto} (h : Fr p q a b) (k : Fr p q b c) : Fr p q a c := ⟨Nat.le_trans h.len k.len, fun j h1 h2 h3 => (k.at' j (Nat.lt_of_lt_of_le h1 h.len) h2 h3).trans (h.at' j h1 h2 h3)⟩
section
variable {m : Sto}
theorem add_i (a b : Int) : addD (.int a) (.int b) m = .ok (.int (a + b)) m := rfl
theorem sub_i (a b : Int) : subD (.int a) (.int b) m = .ok (.int (a - b)) m := rfl
theorem eq_i (a b : Int) : eqD (.int a) (.int b) m = .ok (.bl (decide (a = b))) m := rfl
theorem ne_i (a b : Int) : neD (.int a) (.int b) m = .ok (.bl (!decide (a = b))) m := rfl
theorem eq_s (a b : Str) : eqD (.str a) (.str b) m = .ok (.bl (decide (a = b))) m := rfl
theorem ne_s (a b : Str) : neD (.str a) (.str b) m = .ok (.bl (!decide (a = b))) m := rfl
theorem lt_i (a b : Int) : ltD (.int a) (.int b) m = .ok (.bl (decide (a < b))) m := rfl
theorem gt_i (a b : Int) : gtD (.int a) (.int b) m = .ok (.bl (decide (b < a))) m := rfl
theorem ge_i (a b : Int) : geD (.int a) (.int b) m = .ok (.bl (decide (b <= a))) m := rfl
theorem le_i (a b : Int) : leD (.int a) (.int b) m = .ok (.bl (decide (a <= b))) m := rfl
theorem mul_i {a b : Int} (h : -(2 ^ 64) < b /\ b < 2 ^ 64) : mulD (.int a) (.int b) m = .ok (.int (a * b)) m := by rw [mulD_eq]; exact if_pos (.inr h)
theorem mul_j {a b : Int} (h : -(2 ^ 64) < a /\ a < 2 ^ 64) : mulD (.int a) (.int b) m = .ok (.int (a * b)) m := by rw [mulD_eq]; exact if_pos (.inl h)
theorem mod_i {a b : Int} (h : 0 < b) : modD (.int a) (.int b) m = .ok (.int (a % b)) m := if_pos h
theorem div_i {a b : Int} (h : 0 < b /\ b < 2 ^ 64) : fdivD (.int a) (.int b) m = .ok (.int (a / b)) m := by rw [fdivD_eq]; exact if_pos h
theorem shl_1 {n : Nat} (h : n <= 1000000) : shlD (.int 1) (.int n) m = .ok (.int (2 ^ n)) m := by
 rw [shlD_eq]
 show (if _ then _ else _) = _
 rw [if_pos ⟨by (clear h; omega), by omega, by decide⟩, Int.toNat_natCast, Int.one_mul]
theorem lst_0 : gLst [] m = .ok (.lst []) m := if_pos (Nat.zero_le _)
theorem sl_small {n : Nat} (h : n <= 8) : n <= sizeLine := Nat.le_trans h (by decide)
theorem lst_2 (a b : D) : gLst [a, b] m = .ok (.lst [a, b]) m := if_pos (sl_small (by simp))
theorem lst_3 (a b c : D) : gLst [a, b, c] m = .ok (.lst [a, b, c]) m := if_pos (sl_small (by simp))
theorem lst_4 (a b c d : D) : gLst [a, b, c, d] m = .ok (.lst [a, b, c, d]) m := if_pos (sl_small (by simp))
theorem lst_5 (a b c d e : D) : gLst [a, b, c, d, e] m = .ok (.lst [a, b, c, d, e]) m := if_pos (sl_small (by simp))
theorem tup_0 : gTup [] m = .ok (.tup []) m := if_pos (Nat.zero_le _)
theorem tup_1 (a : D) : gTup [a] m = .ok (.tup [a]) m := if_pos (sl_small (by simp))
theorem tup_2 (a b : D) : gTup [a, b] m = .ok (.tup [a, b]) m := if_pos (sl_small (by simp))
theorem tup_3 (a b c : D) : gTup [a, b, c] m = .ok (.tup [a, b, c]) m := if_pos (sl_small (by simp))
theorem new_0 : gNewL [] m = .ok (.ob m.length) (m ++ [.lst []]) := if_pos (Nat.zero_le _)
theorem min_i (a b : Int) : min2F [.int a, .int b] m = .ok (.int (if b < a then b else a)) m := rfl
theorem len_t (xs : List D) : lenF [.tup xs] m = .ok (.int xs.length) m := rfl
theorem len_l (xs : List D) : lenF [.lst xs] m = .ok (.int xs.length) m := rfl
theorem tup_l (xs : List D) : tupF [.lst xs] m = .ok (.tup xs) m := rfl
theorem l1 (xs : List D) : gL1 xs m = .ok (.lst xs) m := rfl
theorem atI_nat {τ : Type} {xs : List τ} {n : Nat} : L2.atI xs (n : Int) = xs[n]? := by
 unfold L2.atI L2.ixN
 by_cases h : n < xs.length
 ·rw [if_pos (by (clear h; omega)), if_pos (by omega)]
  simp
 ·rw [if_pos (by (clear h; omega)), if_neg (by omega)]
  simp
  omega
theorem ix_t {xs : List D} {n : Nat} {d : D} (h : xs[n]? = some d) : ixD (.tup xs) (.int n) m = .ok d m := by
 show opt (L2.atI xs n) m = _
 rw [atI_nat, h]
 rfl
theorem ix_l {xs : List D} {n : Nat} {d : D} (h : xs[n]? = some d) : ixD (.lst xs) (.int n) m = .ok d m := by
 show opt (L2.atI xs n) m = _
 rw [atI_nat, h]
 rfl
theorem ix_t0 (a : D) (xs : List D) : ixD (.tup (a :: xs)) (.int 0) m = .ok a m := ix_t (n := 0) rfl
theorem ix_t1 (a b : D) (xs : List D) : ixD (.tup (a :: b :: xs)) (.int 1) m = .ok b m := ix_t (n := 1) rfl
theorem ix_t2 (a b c : D) (xs : List D) : ixD (.tup (a :: b :: c :: xs)) (.int 2) m = .ok c m := ix_t (n := 2) rfl
theorem ix_any {xs : List D} {d : Int} (h0 : 0 <= d) (h1 : d < xs.length) : ∃ x ∈ xs, ixD (.lst xs) (.int d) m = .ok x m := by
 obtain ⟨n, rfl⟩ : ∃ n : Nat, d = n := ⟨d.toNat, by (clear h1; omega)⟩
 have hn : n < xs.length := by (clear h0; omega)
 exact ⟨xs[n], List.getElem_mem hn, ix_l (by simp [hn])⟩
end
theorem aComp_map {n : Nat} {it : AV} {g : GV} {el : EV} {ρ : En} {m : Sto} {ds : List D} (f : D -> D) (h : it ρ m = .ok ds m) (hl : ds.length <= 1000000) (hf : ∀ d ∈ ds, ∃ ρ1, g d (ρ ++ List.replicate n none) m = .ok ρ1 m /\ el ρ1 m = .ok (f d) m) : aComp n it g tYesM el ρ m = .ok (ds.map f) m := by
 unfold aComp
 rw [h, bind_ok, if_pos hl]
 exact comp_map f ds hf
theorem aComp_run {n : Nat} {it : AV} {g : GV} {el : EV} {ρ : En} {m : Sto} {ds : List D} (I : Nat -> Sto -> Prop) (P : Nat -> D -> D -> Prop) (h : it ρ m = .ok ds m) (hl : ds.length <= 1000000) (h0 : I 0 m) (hf : ∀ i d m, ds[i]? = some d -> I i m -> Run ((g d (ρ ++ List.replicate n none) m).bind el) fun x m3 => P i d x /\ I (i + 1) m3) :
  Run (aComp n it g tYesM el ρ m) fun xs m' => xs.length = ds.length /\ (∀ i d x, ds[i]? = some d -> xs[i]? = some x -> P i d x) /\ I ds.length m' := by
 unfold aComp
 rw [h, bind_ok, if_pos hl]
 have := comp_run (g := g) (el := el) (ρ := ρ ++ List.replicate n none) I P ds 0 h0 (fun i d m hd hi => by
  have := hf i d m hd (by rw [Nat.zero_add] at hi; exact hi)
  rw [Nat.zero_add]
  exact this)
 simpa only [Nat.zero_add] using this
theorem len_ints (lo : Int) (n : Nat) : (intsD lo n).length = n := by simp [intsD]
theorem rng_ok {j : Int} {m : Sto} (h : 0 <= j) (h' : j <= 1000000) : rng1 [.int j] m = .ok (intsD 0 j.toNat) m := by rw [rng1_eq]; exact if_pos ⟨by (clear h'; omega), by (clear h; omega)⟩
theorem ofs_inj {a b : String} (h : Str.ofString a = Str.ofString b) : a = b := by
 rw [PySem.Str.ofString_eq_toList, PySem.Str.ofString_eq_toList] at h
 have h2 := congrArg (fun s : Str => s.cps.toList) h
 exact String.toList_inj.mp ((List.map_inj_right fun x y e => Char.toNat_inj.mp e).mp h2)
theorem ofs_eq (a b : String) : (Str.ofString a = Str.ofString b) = (a = b) := propext ⟨ofs_inj, fun h => by rw [h]⟩
local macro_rules | `(tactic| walk_at "w") => do
  let ids := ("run_at fin_nx fin_rt seq_at seq_nx seq_rt nil_at ret_at rt_at retN_at drop_at kdrop_at if_at kif_at asg_at kasg_at nx_at gs_nil gs_cons gT_at par_at kpar_at List.set_cons_zero List.set_cons_succ for_at kfor_at eC_at op_at kop_at un_at fn_at ife_at kife_at aNil_at aCons_at kcons_at kcons2_at asB_at tV_at andT_at kandT_at orT_at korT_at notT_at knotT_at and_at kand_at or_at kor_at not_at knot_at aIt_at sq_t sq_l sq_s sq_c rngA_at enumA_at kenum_t kenum_l zipA_at kzip_at zip3A_at kzip3_at kzip4_at oNone_at oSome_at ksome_at slD_at ksl1_at ksl2_at slA_at kslA1_at kslA2_at meth_at kmeth_at isStr_at isTup_at chain_at kch1_at kch2_at kch3_at put_at kputA_at kputB_at kputC_at kputE_at bind_ok bind_then then_at var_0 var_S gN_at Bool.false_eq_true reduceIte List.map_cons List.map_nil List.length_cons List.length_nil Nat.reduceAdd Nat.reduceSub List.cons_append List.nil_append add_i sub_i eq_i ne_i eq_s ne_s lt_i le_i gt_i ge_i lst_0 lst_2 lst_3 lst_4 lst_5 tup_0 tup_1 tup_2 tup_3 min_i len_t len_l tup_l l1 ix_t0 ix_t1 ix_t2 List.replicate List.append_nil decide_eq_true_eq Bool.not_true Bool.not_false eq_self not_true_eq_false not_false_eq_true decide_true decide_false ofs_eq String.reduceEq".splitOn " ").toArray.map fun s => Lean.mkIdent s.toName
  `(tactic| try simp only [$[$ids:ident],*])
theorem ix_key {m : Sto} {p : Nat} {kvs : List (L2.Key × D)} {k : Str} {d : D} (h : m[p]? = some (.dct kvs)) (e : valD kvs (.inr k) = some d) : ixD (.ob p) (.str k) m = .ok d m := by
 simp only [ixD, h, e, opt]
theorem put_key {m : Sto} {p : Nat} {kvs : List (L2.Key × D)} {k : Str} {d : D} (h : m[p]? = some (.dct kvs)) (hl : kvs.length < sizeLine) : putDS (.ob p) (.str k) d m = .ok () (m.set p (.dct (putD kvs (.inr k) d))) := by
 simp only [putDS, h, keyOf, if_pos hl]
theorem set_get {m : Sto} {p : Nat} {o o' : MO} (h : m[p]? = some o) : (m.set p o')[p]? = some o' := List.getElem?_set_self (List.getElem?_eq_some_iff.mp h).1
theorem set_other {m : Sto} {p j : Nat} {o : MO} (h : p ≠ j) : (m.set p o)[j]? = m[j]? := List.getElem?_set_ne h
theorem Fr.set {p q : Nat} {m : Sto} {o : MO} : Fr p q m (m.set p o) := ⟨by rw [List.length_set]; exact Nat.le_refl _, fun j _ h _ => set_other (Ne.symm h)⟩
theorem Fr.set' {p q : Nat} {m : Sto} {o : MO} : Fr p q m (m.set q o) := ⟨by rw [List.length_set]; exact Nat.le_refl _, fun j _ _ h => set_other (Ne.symm h)⟩
theorem mod_small (x : Int) : -(2 ^ 64) < x % 1000003 + 69621 /\ x % 1000003 + 69621 < 2 ^ 64 := by
 have h0 := Int.emod_nonneg x (b := 1000003) (by decide)
 have h1 := Int.emod_lt_of_pos x (b := 1000003) (by decide)
 (clear h1 h0; omega)
theorem pop_first {m : Sto} {q : Nat} {a : Int} {own : List Int} (h : m[q]? = some (.lst ((a :: own).map D.int))) : popM (.ob q) [.int 0] m = .ok (.int a) (m.set q (.lst (own.map D.int))) := by
 simp only [popM, h]; rw [if_pos (by decide)]
 have e : seqIndex? 0 ((a :: own).map D.int).length = some 0 := by
  simp [seqIndex?]
 rw [e]
 simp
inductive Kd where
 | step (n : Int) | turn (row : List Int) | wth (i : Nat) (f : Int) | still | drawn
def Kd.e : Kd -> D
 | .step n => .tup [.str "step", .int n]
 | .turn row => .tup [.str "turn", .tup (row.map D.int)]
 | .wth i f => .tup [.str "with", .int i, .int f]
 | .still => .tup [.str "still"]
 | .drawn => .tup [.str "drawn"]
def Kd.Ok (pl b : Nat) : Kd -> Prop
 | .step n => 0 <= n /\ n < 2 ^ b
 | .turn row => row ≠ [] /\ row.length <= 12 /\ ∀ v ∈ row, 0 <= v /\ v < 2 ^ b
 | .wth i f => i < pl /\ -99 <= f /\ f <= 99
 | _ => True
theorem p2 (b : Nat) : (0 : Int) < 2 ^ b := Int.pow_pos (by decide)
theorem p2le {b : Nat} (h : b <= 40) : (2 : Int) ^ b <= 2 ^ 40 := by
 have := Nat.pow_le_pow_right (n := 2) (by decide) h
 exact_mod_cast this
theorem p2lt {b : Nat} (h : b <= 40) : (2 : Int) ^ b < 2 ^ 64 := Int.lt_of_le_of_lt (p2le h) (by decide)
structure Fd where
 nm : Str
 b : Nat
 kd : Kd
def Fd.e (f : Fd) : D := .tup [.str f.nm, .int f.b, f.kd.e]
def ShOk (fs : List Fd) : Prop := ∀ (i : Nat) (f : Fd), fs[i]? = some f -> 0 < f.b /\ f.b <= 40 /\ f.kd.Ok i f.b
theorem app_ok {m : Sto} {r : Nat} {xs : List D} {d : D} (h : m[r]? = some (.lst xs)) (hl : xs.length < sizeLine) : appendM (.ob r) [d] m = .ok .non (m.set r (.lst (xs ++ [d]))) := by
 simp only [appendM, h, if_pos hl]
theorem is_lst {m : Sto} {r : Nat} {xs : List D} (h : m[r]? = some (.lst xs)) : isLst (.ob r) m = true := by simp only [isLst, h]
theorem mul_s {z : Str} {n : Int} {m : Sto} (h : z.length = 1) (h0 : 0 <= n) (h1 : n <= 1000) : mulD (.str z) (.int n) m = .ok (.str (Txt.mul z n)) m := by rw [mulD_eq]; exact if_pos ⟨h0, h1, by (clear h1 h0; omega)⟩
theorem small_lt {n : Nat} (h : n < 1000) : n < sizeLine := Nat.lt_trans h (by decide)
theorem pow106 {m : Sto} : powD (.int 10) (.int 6) m = .ok (.int 1000000) m := by
 rw [powD_eq]
 have e : powR (.int 10) (.int 6) m = if (0 : Int) <= 6 /\ (6 : Int) <= 1000000 /\ (10 : Int).natAbs < 2 ^ 64 then .ok (.int ((10 : Int) ^ (6 : Int).toNat)) m else .bad := rfl
 rw [e, if_pos (by decide)]
 rfl
theorem run_eq {τ : Type} {r : Res τ} {x : τ} {m : Sto} (h : Run r fun a m' => a = x /\ m' = m) : r = .ok x m := by
 obtain ⟨a, m', e, rfl, rfl⟩ := h
 exact e
theorem asInts_map : ∀ row : List Int, asInts (row.map D.int) = some row
 | [] => rfl
 | a :: r => by simp only [List.map_cons, asInts, asInts_map r]; rfl
theorem ix_ints {row : List Int} {m : Sto} {n : Nat} {v : Int} (h : row[n]? = some v) : ixD (.tup (row.map D.int)) (.int n) m = .ok (.int v) m := ix_t (by simp [h])
def shD (fs : List Fd) (n : Int) : D := .tup [.tup (fs.map Fd.e), .int n]
def inD2 (l : List Int) : D := .tup (l.map D.int)
def Bin (l : List Nat) : Prop := ∀ c ∈ l, c = 48 ∨ c = 49
def numC (l : List Nat) : Int := l.foldl (fun a c => a * 2 + if c = 49 then 1 else 0) 0
theorem numC_snoc (l : List Nat) (c : Nat) : numC (l ++ [c]) = numC l * 2 + if c = 49 then 1 else 0 := by simp only [numC, List.foldl_append, List.foldl_cons, List.foldl_nil]
theorem signs_at {z : Str} {i : Nat} {d : D} (h : (signs z)[i]? = some d) : ∃ c, z.cps.toList[i]? = some c /\ d = .str ⟨#[c]⟩ := by
 have hi : i < z.cps.size := by have := (List.getElem?_eq_some_iff.mp h).1; simpa [signs] using this
 have hd : d = .str ⟨#[z.cps.getD i 0]⟩ := by
  simp only [signs, List.getElem?_map, List.getElem?_range hi, Option.map_some, Option.some.injEq] at h
  exact h.symm
 refine ⟨z.cps[i], by simp [hi], ?_⟩
 rw [hd]
 simp [Array.getD, hi]
theorem signs_len (z : Str) : (signs z).length = z.cps.toList.length := by simp [signs]
theorem take_snoc {l : List Nat} {i c : Nat} (h : l[i]? = some c) : l.take (i + 1) = l.take i ++ [c] := by
 rw [List.take_add_one, h]
 rfl
theorem int_0 {m : Sto} : intF [.str ⟨#[48]⟩] m = .ok (.int 0) m := by
 have e : PySem.intText? ⟨#[48]⟩ = some 0 := by decide +kernel
 simp only [intF, e]
 rfl
theorem int_1 {m : Sto} : intF [.str ⟨#[49]⟩] m = .ok (.int 1) m := by
 have e : PySem.intText? ⟨#[49]⟩ = some 1 := by decide +kernel
 simp only [intF, e]
 rfl
theorem number_run {z : Str} {m : Sto} (hz : Bin z.cps.toList) : Run (gNumberOf [.str z] m) fun a m' => a = .int (numC z.cps.toList) /\ m' = m := by
 unfold gNumberOf gNumberOf0; walk_at "w"; refine Run.bind (loop_run (fun k ρ m' => ∃ x, ρ = [some (.str z), some (.int (numC (z.cps.toList.take k))), x] /\ m' = m) (signs z) 0 ⟨_, rfl, rfl⟩ ?_) ?_
 ·rintro i d ρ m' hd ⟨x, rfl, rfl⟩
  obtain ⟨c, hc, rfl⟩ := signs_at hd
  rw [Nat.zero_add, take_snoc hc, numC_snoc]; walk_at "w"; rw [mul_i (by decide)]; walk_at "w"
  rcases hz c (List.mem_of_getElem? hc) with rfl | rfl
  ·rw [int_0]; walk_at "w"; exact Run.ok ⟨_, rfl, _, rfl, rfl⟩
  ·rw [int_1]; walk_at "w"; exact Run.ok ⟨_, rfl, _, rfl, rfl⟩
 ·rintro _ m' ⟨ρ, rfl, x, rfl, rfl⟩; rw [Nat.zero_add, signs_len, List.take_length]; walk_at "w"; exact Run.ok ⟨rfl, rfl⟩
theorem lawNumber_run {z : Str} {m : Sto} (hz : Bin z.cps.toList) : Run (gLawNumber [.str z] m) fun a m' => a = .int (numC z.cps.toList) /\ m' = m := by
 unfold gLawNumber gLawNumber0; walk_at "w"; refine Run.bind (loop_run (fun k ρ m' => ∃ x, ρ = [some (.str z), some (.int (numC (z.cps.toList.take k))), x] /\ m' = m) (signs z) 0 ⟨_, rfl, rfl⟩ ?_) ?_
 ·rintro i d ρ m' hd ⟨x, rfl, rfl⟩
  obtain ⟨c, hc, rfl⟩ := signs_at hd
  rw [Nat.zero_add, take_snoc hc, numC_snoc]; walk_at "w"; rw [mul_j (by decide)]; walk_at "w"
  rcases hz c (List.mem_of_getElem? hc) with rfl | rfl
  ·rw [show decide ((⟨#[48]⟩ : Str) = Str.ofString "1") = false by decide, show ∀ m, intF [.bl false] m = .ok (.int 0) m from fun _ => rfl]; walk_at "w"; rw [Int.mul_comm]; exact Run.ok ⟨_, rfl, _, rfl, rfl⟩
  ·rw [show decide ((⟨#[49]⟩ : Str) = Str.ofString "1") = true by decide, show ∀ m, intF [.bl true] m = .ok (.int 1) m from fun _ => rfl]; walk_at "w"; rw [Int.mul_comm]; exact Run.ok ⟨_, rfl, _, rfl, rfl⟩
 ·rintro _ m' ⟨ρ, rfl, x, rfl, rfl⟩; rw [Nat.zero_add, signs_len, List.take_length]; walk_at "w"; exact Run.ok ⟨rfl, rfl⟩
inductive Wy where
 | keep | whole | low (w : Nat) (bl : Int)
def Wy.e : Wy -> D
 | .keep => .tup [.str "keep"]
 | .whole => .tup [.str "whole"]
 | .low w bl => .tup [.str "low", .int w, .int bl]
def Wy.w (b : Nat) : Wy -> Nat
 | .keep => 0
 | .whole => b
 | .low w _ => w
def Wy.Ok (b : Nat) : Wy -> Prop
 | .low w bl => 0 < w /\ w <= b /\ 0 <= bl /\ bl < 2 ^ w
 | _ => True
theorem Wy.w_le {b : Nat} {w : Wy} (h : w.Ok b) : w.w b <= b := by
 cases w with
 | keep => exact Nat.zero_le _
 | whole => exact Nat.le_refl _
 | low w bl => exact h.2.1
theorem widthOf_run {wy : Wy} {b : Nat} {m : Sto} : Run (gWidthOf [wy.e, .int b] m) fun a m' => a = .int (wy.w b : Nat) /\ m' = m := by
 unfold gWidthOf gWidthOf0
 cases wy with
 | keep => simp only [Wy.e]; walk_at "w"; exact Run.ok ⟨rfl, rfl⟩
 | whole => simp only [Wy.e]; walk_at "w"; exact Run.ok ⟨rfl, rfl⟩
 | low w bl => simp only [Wy.e]; walk_at "w"; exact Run.ok ⟨rfl, rfl⟩
theorem int_bf {m : Sto} : intF [.bl false] m = .ok (.int 0) m := rfl
def fmD (a b : Int) (wys : List Wy) : D := .tup [.int a, .int b, .tup (wys.map Wy.e)]
def wsOf (fs : List Fd) (wys : List Wy) : List Nat := List.zipWith (fun f w => Wy.w f.b w) fs wys
theorem breadths_run {fs : List Fd} {n : Int} {m : Sto} (h : fs.length <= 1000) : Run (gBreadths [shD fs n] m) fun a m' => a = .lst (fs.map fun f => .int f.b) /\ m' = m := by
 unfold gBreadths gBreadths0 shD; walk_at "w"
 rw [aComp_map (ds := fs.map Fd.e) (fun d => match d with | .tup [_, b, _] => b | d => d)]
 ·walk_at "w"
  refine Run.ok ⟨?_, rfl⟩
  rw [List.map_map]
  rfl
 ·walk_at "w"
 ·rw [List.length_map]; omega
 ·intro d hd
  simp only [List.mem_map] at hd
  obtain ⟨f, _, rfl⟩ := hd
  exact ⟨_, rfl, (ix_t1 (.str f.nm) (.int f.b) [f.kd.e] : ixD (.tup _) (.int 1) m = _)⟩
theorem zip_ws : ∀ (fs : List Fd) (wys : List Wy), zipD (wys.map Wy.e) (fs.map fun f => D.int f.b) = List.zipWith (fun (f : Fd) (w : Wy) => D.tup [w.e, .int f.b]) fs wys
 | [], [] => rfl
 | [], _ :: _ => rfl
 | _ :: _, [] => rfl
 | f :: fs, w :: ws => by simp only [List.map_cons, zipD, List.zipWith_cons_cons, zip_ws fs ws]
theorem map_zw {α β γ δ : Type} (g : γ -> δ) (f : α -> β -> γ) : ∀ (a : List α) (b : List β), (List.zipWith f a b).map g = List.zipWith (fun x y => g (f x y)) a b
 | [], _ => by simp
 | _ :: _, [] => by simp
 | x :: a, y :: b => by simp [map_zw g f a b]
theorem mem_zw {α β γ : Type} (f : α -> β -> γ) : ∀ (a : List α) (b : List β) {c : γ}, c ∈ List.zipWith f a b -> ∃ x y, c = f x y
 | [], _, c, h => by simp at h
 | _ :: _, [], c, h => by simp at h
 | x :: a, y :: b, c, h => by
  simp only [List.zipWith_cons_cons, List.mem_cons] at h
  rcases h with h | h
  ·exact ⟨x, y, h⟩
  ·exact mem_zw f a b h
def wdF (d : D) : D := match d with
 | .tup [a, b] => match gWidthOf [a, b] [] with
  | .ok x _ => x
  | _ => .non
 | d => d
theorem widths_run {fs : List Fd} {n a b : Int} {wys : List Wy} {m : Sto} (h : fs.length <= 1000) (hl : wys.length = fs.length) : Run (gWidths [shD fs n, fmD a b wys] m) fun x m' => x = .lst ((wsOf fs wys).map fun k : Nat => .int k) /\ m' = m := by
 unfold gWidths gWidths0 fmD; walk_at "w"; rw [aComp_map (ds := List.zipWith (fun (f : Fd) (w : Wy) => D.tup [w.e, .int f.b]) fs wys) wdF]
 ·walk_at "w"
  refine Run.ok ⟨?_, rfl⟩
  rw [map_zw, wsOf, map_zw]
  congr 2
  funext f w
  show (match gWidthOf [w.e, .int f.b] [] with | .ok x _ => x | _ => .non) = _
  rw [run_eq widthOf_run]
 ·walk_at "w"; rw [run_eq (breadths_run h)]; walk_at "w"; simp only [zip2]; rw [if_pos (by simp [hl]), zip_ws]
 ·simp; (clear hl; omega)
 ·intro d hd
  obtain ⟨f, w, rfl⟩ := mem_zw _ _ _ hd
  refine ⟨_, rfl, ?_⟩
  show gWidthOf [w.e, .int f.b] m = .ok (match gWidthOf [w.e, .int f.b] [] with | .ok x _ => x | _ => .non) m
  rw [run_eq widthOf_run, run_eq widthOf_run]
def sumN (ws : List Nat) (k : Nat) : Nat := (ws.take k).sum
theorem sumN_succ {ws : List Nat} {k w : Nat} (h : ws[k]? = some w) : sumN ws (k + 1) = sumN ws k + w := by
 unfold sumN; rw [take_snoc h, List.sum_append]
 simp
theorem sl_str {z : Str} {lo hi : Option Int} {m : Sto} (h : z.length <= sizeLine) : slD (.str z) lo hi m = .ok (.str (Txt.slice z lo hi)) m := if_pos h
theorem enum_at {τ : Type} {f : τ -> D} : ∀ {xs : List τ} {k i : Nat} {d : D}, (enumD k (xs.map f))[i]? = some d -> ∃ x, xs[i]? = some x /\ d = .tup [.int ((k + i : Nat) : Int), f x]
 | [], k, i, d, h => by simp [enumD] at h
 | x :: xs, k, 0, d, h => by
  simp only [List.map_cons, enumD, List.getElem?_cons_zero, Option.some.injEq] at h
  exact ⟨x, rfl, h.symm⟩
 | x :: xs, k, i + 1, d, h => by
  simp only [List.map_cons, enumD, List.getElem?_cons_succ] at h
  obtain ⟨y, h1, h2⟩ := enum_at h
  exact ⟨y, by simpa using h1, by rw [h2, show k + 1 + i = k + (i + 1) by omega]⟩
theorem enum_len {τ : Type} {f : τ -> D} : ∀ {xs : List τ} {k : Nat}, (enumD k (xs.map f)).length = xs.length
 | [], k => rfl
 | x :: xs, k => by simp [enumD, enum_len]
structure HdOk (fs : List Fd) (fo : List Int) : Prop where
 len : fo.length = fs.length
 at' : ∀ (i : Nat) (f : Fd) (v : Int), fs[i]? = some f -> fo[i]? = some v -> 0 <= v /\ v < 2 ^ f.b
structure WyOk (fs : List Fd) (wys : List Wy) : Prop where
 len : wys.length = fs.length
 at' : ∀ (i : Nat) (f : Fd) (w : Wy), fs[i]? = some f -> wys[i]? = some w -> w.Ok f.b
theorem wsOf_len {fs : List Fd} {wys : List Wy} (h : WyOk fs wys) : (wsOf fs wys).length = fs.length := by simp [wsOf, h.len]
theorem wsOf_at {fs : List Fd} {wys : List Wy} {i : Nat} {f : Fd} {w : Wy} (hf : fs[i]? = some f) (hw : wys[i]? = some w) : (wsOf fs wys)[i]? = some (w.w f.b) := by
 rw [wsOf, List.getElem?_zipWith, hf, hw]
open PySem PyProof.Rows L2 Mth
section
variable {m : Sto}
theorem isi_tt (xs : List D) : isiD "tuple" (.tup xs) m = .ok (.bl true) m := rfl
theorem isi_ti (a : Int) : isiD "tuple" (.int a) m = .ok (.bl false) m := rfl
theorem isi_ii (a : Int) : isiD "int" (.int a) m = .ok (.bl true) m := rfl
theorem isi_bi (a : Int) : isiD "bool" (.int a) m = .ok (.bl false) m := rfl
theorem isi_si (a : Int) : isiD "str" (.int a) m = .ok (.bl false) m := rfl
theorem is_ni (a : Int) : isD (.int a) .non m = .ok (.bl false) m := rfl
end
theorem same_int {n : Nat} {a : Int} {m : Sto} : Run (gLawSameN (n + 1) [.int a, .int a] m) fun x m' => x = .bl true /\ m' = m := by
 rw [gLawSameN]
 unfold gLawSame0; walk_at "w"; rw [isi_ti]; walk_at "w"; rw [is_ni]; walk_at "w"; rw [isi_si]; walk_at "w"; rw [isi_ii]; walk_at "w"; rw [isi_bi]; walk_at "w"; exact Run.ok ⟨by simp, rfl⟩
theorem lift {τ : Type} (enc : τ -> D) (P : Nat -> τ -> Prop) : ∀ (xs : List D) (k : Nat), (∀ i x, xs[i]? = some x -> ∃ t, x = enc t /\ P (k + i) t) -> ∃ l : List τ, xs = l.map enc /\ ∀ i t, l[i]? = some t -> P (k + i) t
 | [], k, _ => ⟨[], rfl, fun i t h => by simp at h⟩
 | x :: xs, k, h => by
  obtain ⟨t, rfl, ht⟩ := h 0 x rfl
  obtain ⟨l, rfl, hl⟩ := lift enc P xs (k + 1) fun i x hx => by
   rw [show k + 1 + i = k + (i + 1) by omega]
   exact h (i + 1) x (by simpa using hx)
  refine ⟨t :: l, rfl, fun i u hu => ?_⟩
  cases i with
  | zero => simp at hu; subst hu; exact ht
  | succ i =>
   rw [show k + (i + 1) = k + 1 + i by omega]
   exact hl i u (by simpa using hu)
open PySem L2
theorem str_0 {m : Sto} : strF [.int 0] m = .ok (.str ⟨#[48]⟩) m := rfl
theorem str_1 {m : Sto} : strF [.int 1] m = .ok (.str ⟨#[49]⟩) m := rfl
theorem sumN_bd {fs : List Fd} {wys : List Wy} (hs : ShOk fs) (hw : WyOk fs wys) : ∀ k, k <= fs.length -> sumN (wsOf fs wys) k <= 40 * k
 | 0, _ => by simp [sumN]
 | k + 1, h => by
  have e1 := List.getElem?_eq_getElem (show k < fs.length by omega)
  have e2 := List.getElem?_eq_getElem (show k < wys.length by rw [hw.len]; omega)
  rw [sumN_succ (wsOf_at e1 e2)]
  have := sumN_bd hs hw k (by omega)
  have h2 := Wy.w_le (hw.at' k _ _ e1 e2)
  have h3 := (hs k _ e1).2.1
  omega
theorem pow1018 {m : Sto} : powD (.int 10) (.int 18) m = .ok (.int 1000000000000000000) m := by
 rw [powD_eq]
 have e : powR (.int 10) (.int 18) m = if (0 : Int) <= 18 /\ (18 : Int) <= 1000000 /\ (10 : Int).natAbs < 2 ^ 64 then .ok (.int ((10 : Int) ^ (18 : Int).toNat)) m else .bad := rfl
 rw [e, if_pos (by decide)]
 rfl
theorem add_s {a b : Str} {m : Sto} (h : a.length + b.length <= sizeLine) : addD (.str a) (.str b) m = .ok (.str (a ++ b)) m := if_pos h
open PySem L2
def dig (n : Int) (k : Nat) : Nat := if n / 2 ^ k % 2 = 1 then 49 else 48
def dgs (n : Int) : Nat -> List Nat
 | 0 => []
 | k + 1 => dig n k :: dgs n k
theorem dgs_len (n : Int) : ∀ k, (dgs n k).length = k
 | 0 => rfl
 | k + 1 => by rw [dgs, List.length_cons, dgs_len n k]
theorem str_ext {a b : Str} (h : a.cps.toList = b.cps.toList) : a = b := by
 cases a; cases b
 congr 1
 exact Array.ext' h
theorem bits_run' {x : Int} {w : Nat} {m : Sto} (hw : w <= 40) : Run (gLawBits [.int x, .int w] m) fun a m' => a = .str ⟨(dgs x w).toArray⟩ /\ m' = m := by
 unfold gLawBits gLawBits0; walk_at "w"; rw [rng_ok (by (clear hw; omega)) (by omega), Int.toNat_natCast]; walk_at "w"; refine Run.bind (loop_run (fun k ρ m' => ∃ (x3 : Option D), ρ = [some (.int (x / 2 ^ k)), some (.int w), some (.str ⟨(dgs x k).toArray⟩), x3] /\ m' = m) (intsD 0 w) 0 ⟨none, by rw [Int.pow_zero, Int.ediv_one]; rfl, rfl⟩ ?_) ?_
 ·rintro i d ρ m' hd ⟨x3, rfl, rfl⟩
  have hi : i < w := by
   have := (List.getElem?_eq_some_iff.mp hd).1
   rw [len_ints] at this
   exact this
  rw [Nat.zero_add]
  have hdiv : x / 2 ^ i / 2 = x / 2 ^ (i + 1) := by rw [Int.ediv_ediv_of_nonneg (Int.le_of_lt (p2 i)), Int.pow_succ]
  have fin : ∀ (c : Nat), c = dig x i -> Run ((addD (.str ⟨#[c]⟩) (.str ⟨(dgs x i).toArray⟩) m').bind fun a m => (fdivD (.int (x / 2 ^ i)) (.int 2) m).bind fun b m => Res.ok (Fl.nx [some b, some (.int w), some a, some d]) m) fun fl m2 => ∃ ρ2, fl = Fl.nx ρ2 /\ ∃ (x3 : Option D), ρ2 = [some (.int (x / 2 ^ (i + 1))), some (.int w), some (.str ⟨(dgs x (i + 1)).toArray⟩), x3] /\ m2 = m' := by
   intro c hcc
   have h1 : (⟨(dgs x i).toArray⟩ : Str).length = i := by show (dgs x i).toArray.size = i; rw [List.size_toArray, dgs_len]
   have h2 : (⟨#[c]⟩ : Str).length = 1 := rfl
   rw [add_s (by rw [h1, h2]; exact Nat.le_of_lt (small_lt (by (clear h2 h1 hcc hdiv; omega))))]; walk_at "w"; rw [div_i (by decide)]; walk_at "w"; rw [hdiv]
   have e : (⟨#[c]⟩ : Str) ++ ⟨(dgs x i).toArray⟩ = ⟨(dgs x (i + 1)).toArray⟩ := by
    refine str_ext ?_
    rw [PySem.W.KT.app_list, dgs, hcc]
    simp
   rw [e]; exact Run.ok ⟨_, rfl, _, rfl, rfl⟩
  walk_at "w"; rw [mod_i (by decide)]; walk_at "w"
  rcases (show x / 2 ^ i % 2 = 0 ∨ x / 2 ^ i % 2 = 1 by (clear hdiv hi hw; omega)) with h | h
  ·rw [h, str_0]; walk_at "w"
   exact fin 48 (by unfold dig; rw [h]; rfl)
  ·rw [h, str_1]; walk_at "w"
   exact fin 49 (by unfold dig; rw [h]; rfl)
 ·rintro _ m' ⟨ρ, rfl, x3, rfl, rfl⟩; walk_at "w"; rw [Nat.zero_add, len_ints]; walk_at "w"; exact Run.ok ⟨rfl, rfl⟩
def pcK (fs : List Fd) (wys : List Wy) (hd : List Int) : Nat -> List Nat
 | 0 => []
 | k + 1 => pcK fs wys hd k ++ match fs[k]?, wys[k]?, hd[k]? with
  | some f, some w, some v => dgs (v % 2 ^ w.w f.b) (w.w f.b)
  | _, _, _ => []
theorem pcK_len {fs : List Fd} {wys : List Wy} {hd : List Int} (hw : WyOk fs wys) (hh : HdOk fs hd) : ∀ k, k <= fs.length -> (pcK fs wys hd k).length = sumN (wsOf fs wys) k
 | 0, _ => by simp [pcK, sumN]
 | k + 1, h => by
  have e1 := List.getElem?_eq_getElem (show k < fs.length by omega)
  have e2 := List.getElem?_eq_getElem (show k < wys.length by rw [hw.len]; omega)
  have e3 := List.getElem?_eq_getElem (show k < hd.length by rw [hh.len]; omega)
  rw [pcK, e1, e2, e3, List.length_append, pcK_len hw hh k (by omega), sumN_succ (wsOf_at e1 e2)]; simp only [dgs_len]
open PySem PyProof.Rows L2 Mth
theorem asBls_map {τ : Type} (f : τ -> Bool) : ∀ l : List τ, asBls (l.map fun t => D.bl (f t)) = some (l.map f)
 | [] => rfl
 | a :: r => by simp only [List.map_cons, asBls, asBls_map f r]; rfl
open PySem L2
theorem lst_1 (a : D) {m : Sto} : gLst [a] m = .ok (.lst [a]) m := if_pos (sl_small (by simp))
theorem max_i (a b : Int) {m : Sto} : max2F [.int a, .int b] m = .ok (.int (if b > a then b else a)) m := rfl
theorem neg_i (a : Int) {m : Sto} : negD (.int a) m = .ok (.int (-a)) m := rfl
open PySem L2
theorem loop_ret {g : GV} {body : SV} (I : Nat -> En -> Sto -> Prop) (R : D -> Sto -> Prop) : ∀ (ds : List D) (k : Nat) {ρ : En} {m : Sto}, I k ρ m -> (∀ i d ρ m, ds[i]? = some d -> I (k + i) ρ m -> Run ((g d ρ m).bind body) fun fl m2 => (∃ ρ2, fl = .nx ρ2 /\ I (k + i + 1) ρ2 m2) ∨ ∃ v, fl = .rt v /\ R v m2) →
  Run (loopF g body ds ρ m) fun fl m' => (∃ ρ', fl = .nx ρ' /\ I (k + ds.length) ρ' m') ∨ ∃ v, fl = .rt v /\ R v m'
 | [], k, ρ, m, h, _ => ⟨_, m, rfl, .inl ⟨ρ, rfl, h⟩⟩
 | d :: r, k, ρ, m, h, st => by
  obtain ⟨fl, m2, e2, h2⟩ := st 0 d ρ m rfl h
  rcases h2 with ⟨ρ2, rfl, h2⟩ | ⟨v, rfl, h2⟩
  ·obtain ⟨fl', m', e3, h3⟩ := loop_ret I R r (k + 1) h2 fun i d ρ m hd hi => by
    have := st (i + 1) d ρ m (by simpa using hd) (by rw [show k + (i + 1) = k + 1 + i by omega]; exact hi)
    rw [show k + (i + 1) + 1 = k + 1 + i + 1 by omega] at this
    exact this
   refine ⟨fl', m', ?_, by rw [List.length_cons, show k + (r.length + 1) = k + 1 + r.length by (clear h3; omega)]; exact h3⟩
   rw [loopF, <- Res.bind_assoc, e2, bind_ok]
   exact e3
  ·exact ⟨.rt v, m2, by rw [loopF, <- Res.bind_assoc, e2, bind_ok], .inr ⟨v, rfl, h2⟩⟩
section
variable {m : Sto}
theorem is_nn : isD .non .non m = .ok (.bl true) m := rfl
theorem isnt_nn : isntD .non .non m = .ok (.bl false) m := rfl
end
theorem sizeOf_w {fs : List Fd} {n a b : Int} {wys : List Wy} {m : Sto} (hs : ShOk fs) (hn : fs.length <= 12) (hw : WyOk fs wys) : gSizeOf [shD fs n, fmD a b wys] m = .ok (.int ((wsOf fs wys).sum : Nat)) m := by
 apply run_eq
 unfold gSizeOf gSizeOf0; walk_at "w"; rw [run_eq (widths_run (by omega) hw.len)]; walk_at "w"
 have e : ((wsOf fs wys).map fun k : Nat => D.int k) = ((wsOf fs wys).map fun k : Nat => (k : Int)).map D.int := by rw [List.map_map]; rfl
 rw [e]; simp only [sumF, lOf, Option.bind_some, asInts_map]
 have hok : ∀ x, x ∈ ((wsOf fs wys).map fun k : Nat => (k : Int)) -> 0 <= x /\ x <= 2 ^ 50 := by
  intro x hx
  simp only [List.mem_map] at hx
  obtain ⟨k, hk, rfl⟩ := hx
  obtain ⟨i, hi⟩ := List.mem_iff_getElem?.mp hk
  have hil : i < fs.length := by have := (List.getElem?_eq_some_iff.mp hi).1; rw [wsOf_len hw] at this; exact this
  have e1 := List.getElem?_eq_getElem hil
  have e2 := List.getElem?_eq_getElem (show i < wys.length by rw [hw.len]; exact hil)
  rw [wsOf_at e1 e2] at hi
  cases hi
  have := Wy.w_le (hw.at' i _ _ e1 e2)
  have := (hs i _ e1).2.1
  (clear hn; omega)
 rw [if_pos ⟨hok, by rw [List.length_map, wsOf_len hw]; omega⟩]; walk_at "w"
 refine Run.ok ⟨?_, rfl⟩
 congr 1
 generalize wsOf fs wys = l
 induction l with
 | nil => rfl
 | cons x l ih => simp only [List.map_cons, List.sum_cons, ih]; (clear ih hn; omega)
theorem ix_sh {fs : List Fd} {n : Int} {m : Sto} : ixD (shD fs n) (.int 0) m = .ok (.tup (fs.map Fd.e)) m := ix_t0 _ _
open PySem L2
theorem isi_tn {m : Sto} : isiD "tuple" .non m = .ok (.bl false) m := rfl
theorem tup_of {xs : List D} {m : Sto} (h : xs.length <= 1000) : gTup xs m = .ok (.tup xs) m := if_pos (Nat.le_trans h (by decide))
theorem cut_to {τ : Type} (xs : List τ) (k : Nat) : cutD xs none (some (k : Int)) = xs.take k := by
 unfold cutD; rw [HT.sIx_nat, HT.sIx_none, List.drop_zero, Nat.sub_zero]
 rcases Nat.le_total k xs.length with h | h
 ·rw [Nat.min_eq_left h]
 ·rw [Nat.min_eq_right h, List.take_length, List.take_of_length_le h]
theorem mul_t {d : D} {n : Int} {m : Sto} (h : 1 <= n /\ n <= 1000) : mulD (.tup [d]) (.int n) m = .ok (.tup (List.replicate n.toNat d)) m := by rw [mulD_eq]; exact if_pos h
open PySem L2
def kGI3 (ρ : En) : Unit -> Sto -> Res En := fun _ m => .ok ρ m
def kGI2 (ρ : En) (d x : D) : D -> Sto -> Res En := fun y m => (putL x y d m).bind (kGI3 ρ)
def kGI1 (fi : EV) (ρ : En) (d : D) : D -> Sto -> Res En := fun x m => (fi ρ m).bind (kGI2 ρ d x)
section
variable {m : Sto} {ρ : En} {d x y : D} {fo fi : EV}
theorem gI_at : gI fo fi d ρ m = (fo ρ m).bind (kGI1 fi ρ d) := rfl
theorem kgi1_at : kGI1 fi ρ d x m = (fi ρ m).bind (kGI2 ρ d x) := rfl
theorem kgi2_at : kGI2 ρ d x y m = (putL x y d m).bind (kGI3 ρ) := rfl
theorem kgi3_at : kGI3 ρ () m = .ok ρ m := rfl
theorem lst_6 (a b c e f g : D) : gLst [a, b, c, e, f, g] m = .ok (.lst [a, b, c, e, f, g]) m := if_pos (sl_small (by simp))
theorem lst_7 (a b c e f g i : D) : gLst [a, b, c, e, f, g, i] m = .ok (.lst [a, b, c, e, f, g, i]) m := if_pos (sl_small (by simp))
end
theorem alpha {j : Nat} {m : Sto} (h : j < 26) : ixD (.str "abcdefghijklmnopqrstuvwxyz") (.int j) m = .ok (.str ⟨#[97 + j]⟩) m := by
 have hc : ∀ j, j < 26 -> (Str.ofString "abcdefghijklmnopqrstuvwxyz").cps.toList[j]? = some (97 + j) := by decide
 have e : ixD (.str "abcdefghijklmnopqrstuvwxyz") (.int j) m = if (Str.ofString "abcdefghijklmnopqrstuvwxyz").length <= sizeLine then opt ((L2.atI (Str.ofString "abcdefghijklmnopqrstuvwxyz").cps.toList j).map fun c => D.str ⟨#[c]⟩) m else .bad := rfl
 rw [e, if_pos (by decide), atI_nat, hc j h]
 rfl
theorem add_ss {a b : Str} {m : Sto} (h : a.length + b.length <= sizeLine) : addD (.str a) (.str b) m = .ok (.str (a ++ b)) m := if_pos h
theorem at_ints {i n : Nat} {d : D} (h : (intsD 0 n)[i]? = some d) : d = .int (i : Nat) := by
 have hi := (List.getElem?_eq_some_iff.mp h).1
 rw [len_ints] at hi
 simp only [intsD, List.getElem?_map, List.getElem?_range hi, Option.map_some, Option.some.injEq, Int.zero_add] at h
 exact h.symm
theorem odd_dvd {b : Nat} {y d : Int} (h : (2 : Int) ^ b ∣ (2 * y + 1) * d) : (2 : Int) ^ b ∣ d := by
 induction b generalizing d with
 | zero => simp
 | succ b ih =>
  obtain ⟨c, hc⟩ := h
  rw [Int.pow_succ] at hc
  have h2 : d % 2 = 0 := by
   have e1 : (2 * y + 1) * d = 2 * (y * d) + d := by rw [Int.add_mul, Int.mul_assoc, Int.one_mul]
   have e2 : 2 ^ b * 2 * c = 2 * (2 ^ b * c) := by rw [Int.mul_comm (2 ^ b) 2, Int.mul_assoc]
   rw [e1, e2] at hc
   generalize y * d = u at hc; generalize (2 : Int) ^ b * c = w at hc
   omega
  obtain ⟨d', rfl⟩ : ∃ d', d = 2 * d' := ⟨d / 2, by omega⟩
  have h3 : (2 : Int) ^ b ∣ (2 * y + 1) * d' := by
   refine ⟨c, ?_⟩
   have e1 : (2 * y + 1) * (2 * d') = 2 * ((2 * y + 1) * d') := by rw [Int.mul_left_comm]
   have e2 : 2 ^ b * 2 * c = 2 * (2 ^ b * c) := by rw [Int.mul_comm (2 ^ b) 2, Int.mul_assoc]
   rw [e1, e2] at hc
   omega
  obtain ⟨e, he⟩ := ih h3
  exact ⟨e, by rw [he, Int.pow_succ, Int.mul_comm (2 ^ b) 2, Int.mul_assoc]⟩
theorem row_inj {b : Nat} {f y : Int} {i j : Nat} (hi : (i : Int) < 2 ^ b) (hj : (j : Int) < 2 ^ b) (h : (f + (2 * y + 1) * i) % 2 ^ b = (f + (2 * y + 1) * j) % 2 ^ b) : i = j := by
 have h1 : (2 : Int) ^ b ∣ (2 * y + 1) * ((i : Int) - j) := by
  have := Int.dvd_of_emod_eq_zero (Int.emod_eq_emod_iff_emod_sub_eq_zero.mp h)
  rw [show f + (2 * y + 1) * i - (f + (2 * y + 1) * j) = (2 * y + 1) * ((i : Int) - j) by rw [Int.mul_sub]; omega] at this
  exact this
 obtain ⟨c, hc⟩ := odd_dvd h1
 have hb := p2 b
 generalize (2 : Int) ^ b = B at *
 rcases Int.lt_trichotomy c 0 with h0 | h0 | h0
 ·have : B * c <= B * (-1) := Int.mul_le_mul_of_nonneg_left (by omega) (by omega)
  omega
 ·subst h0; omega
 ·have : B * 1 <= B * c := Int.mul_le_mul_of_nonneg_left (by omega) (by omega)
  omega
theorem nodup_map {τ : Type} [DecidableEq τ] (g : Nat -> τ) : ∀ n, (∀ i j, i < n -> j < n -> g i = g j -> i = j) -> ((List.range n).map g).Nodup := fun n h => by
 rw [List.Nodup, List.pairwise_map]
 have := List.nodup_range (n := n)
 refine List.Pairwise.imp_of_mem ?_ this
 intro a b ha hb hab e
 exact hab (h a b (List.mem_range.mp ha) (List.mem_range.mp hb) e)
def Kd.Ok2 (pl b : Nat) (k : Kd) : Prop := k.Ok pl b /\ ∀ row, k = .turn row -> 2 <= row.length /\ row.Nodup
theorem all_bls (bs : List Bool) {m : Sto} : allF [.lst (bs.map D.bl)] m = .ok (.bl (bs.all id)) m := by
 simp only [allF, lOf, Option.bind_some]; rw [asBls_map (fun b => b)]
 simp
theorem slen {n : Nat} (h : n <= 100) : n <= sizeLine := Nat.le_trans h (by decide)
open PySem L2
def chB (c : Nat) : Bool := decide (97 <= c /\ c <= 122)
def nmB (x : Str) : Bool := decide (1 <= x.length /\ x.length <= 8) && x.cps.toList.all chB
structure ShG (fs : List Fd) : Prop where
 at' : ∀ (i : Nat) (f : Fd), fs[i]? = some f -> 0 < f.b /\ f.b <= 40 /\ f.kd.Ok2 i f.b
 nm : ∀ x ∈ fs.map Fd.nm, nmB x = true /\ x.length <= 8
 nd : (fs.map Fd.nm).Nodup
theorem ShG.ok {fs : List Fd} (h : ShG fs) : ShOk fs := fun i f hf => let ⟨a, b, c⟩ := h.at' i f hf; ⟨a, b, c.1⟩
open PySem L2
def boxL (q : Nat) (seed turn : Int) : List (L2.Key × D) := [(Sum.inr "own", .ob q), (Sum.inr "seed", .int seed), (Sum.inr "turn", .int turn)]
structure P3 (m0 : Sto) (p q : Nat) (c : Nat) (m : Sto) : Prop where
 ex : ∃ (own : List Int) (seed turn : Int), m[p]? = some (.dct (boxL q seed turn)) /\ m[q]? = some (.lst (own.map D.int)) /\ p ≠ q /\ own.length <= 63 /\ (∀ a ∈ own, 0 <= a) /\ 0 <= seed /\ seed < 2 ^ 62 /\ 0 <= turn /\ turn <= c
 fr : Fr p q m0 m
theorem P3.more {m0 : Sto} {p q c c' : Nat} {m : Sto} (h : P3 m0 p q c m) (k : c <= c') : P3 m0 p q c' m := by
 obtain ⟨own, s, t, h1, h2, h3, h4, h5, h6, h7, h8, h9⟩ := h.ex
 exact ⟨⟨own, s, t, h1, h2, h3, h4, h5, h6, h7, h8, by (clear h8 h7 h6 h4 h3; omega)⟩, h.fr⟩
theorem P3.re {m0 : Sto} {p q c : Nat} {m : Sto} (h : P3 m0 p q c m) : P3 m p q c m := ⟨h.ex, Fr.refl⟩
theorem P3.via {m0 : Sto} {p q c c' : Nat} {m m' : Sto} (h : P3 m0 p q c m) (h' : P3 m p q c' m') : P3 m0 p q c' m' := ⟨h'.ex, h.fr.trans h'.fr⟩
theorem P3.lt {m0 : Sto} {p q c : Nat} {m : Sto} (h : P3 m0 p q c m) : p < m.length /\ q < m.length := by
 obtain ⟨own, s, t, h1, h2, _⟩ := h.ex
 exact ⟨(List.getElem?_eq_some_iff.mp h1).1, (List.getElem?_eq_some_iff.mp h2).1⟩
theorem P3.app {m0 : Sto} {p q c : Nat} {m r : Sto} (h : P3 m0 p q c m) : P3 m0 p q c (m ++ r) := by
 obtain ⟨own, s, t, h1, h2, h3⟩ := h.ex
 exact ⟨⟨own, s, t, by rw [List.getElem?_append_left (List.getElem?_eq_some_iff.mp h1).1]; exact h1, by rw [List.getElem?_append_left (List.getElem?_eq_some_iff.mp h2).1]; exact h2, h3⟩, by rw [List.length_append]; exact Nat.le_trans h.fr.len (Nat.le_add_right _ _), fun j a b d => by rw [List.getElem?_append_left (Nat.lt_of_lt_of_le a h.fr.len)]; exact h.fr.at' j a b d⟩
theorem P3.set {m0 : Sto} {p q c r : Nat} {m : Sto} {o : MO} (h : P3 m0 p q c m) (h0 : m0.length <= r) (h1 : r ≠ p) (h2 : r ≠ q) : P3 m0 p q c (m.set r o) := by
 obtain ⟨own, s, t, g1, g2, h3⟩ := h.ex
 exact ⟨⟨own, s, t, by rw [set_other h1]; exact g1, by rw [set_other h2]; exact g2, h3⟩, by rw [List.length_set]; exact h.fr.len, fun j a b d => by rw [set_other (by omega)]; exact h.fr.at' j a b d⟩
theorem P3.kept {m : Sto} {p q c r : Nat} {m' : Sto} {o : MO} (h : P3 m p q c m') (hr : m[r]? = some o) (h1 : r ≠ p) (h2 : r ≠ q) : m'[r]? = some o := by
 rw [h.fr.at' r (List.getElem?_eq_some_iff.mp hr).1 h1 h2]; exact hr
theorem vb_own (q : Nat) (s t : Int) : valD (boxL q s t) (.inr "own") = some (.ob q) := rfl
theorem vb_seed (q : Nat) (s t : Int) : valD (boxL q s t) (.inr "seed") = some (.int s) := rfl
theorem vb_turn (q : Nat) (s t : Int) : valD (boxL q s t) (.inr "turn") = some (.int t) := rfl
theorem pb_turn (q : Nat) (s t v : Int) : putD (boxL q s t) (.inr "turn") (.int v) = boxL q s v := rfl
theorem boxL_len (q : Nat) (s t : Int) : (boxL q s t).length < sizeLine := by show 3 < sizeLine; decide
def ownT : TV := (tAndM (tV (eOp neD (eOp ixD (eVar 0) (eC (.str "own"))) (eFn gLst aNil))) (tV (eOp eqD (eOp ixD (eOp ixD (eVar 0) (eC (.str "own"))) (eC (.int 0))) (eC (.int 0)))))
def ownB : SV := (sDrop (eMeth isLst popM (eOp ixD (eVar 0) (eC (.str "own"))) (aCons (eC (.int 0)) aNil)))
theorem ne_own {q : Nat} {own : List Int} {m : Sto} (h2 : m[q]? = some (.lst (own.map D.int))) : neD (.ob q) (.lst []) m = .ok (.bl (!decide (own = []))) m := by
 have e := eqB_lst own []
 rw [List.map_nil] at e
 simp only [neD, rs, h2, e]
theorem ix_own {q : Nat} {a : Int} {own : List Int} {m : Sto} (h2 : m[q]? = some (.lst ((a :: own).map D.int))) : ixD (.ob q) (.int 0) m = .ok (.int a) m := by
 simp only [ixD, h2]
 show opt (atI _ ((0 : Nat) : Int)) m = _
 rw [atI_nat]
 rfl
theorem own_loop {p q : Nat} {seed turn : Int} {ρ : En} : ∀ (own : List Int) (n : Nat) (m : Sto), own.length < n -> m[p]? = some (.dct (boxL q seed turn)) -> m[q]? = some (.lst (own.map D.int)) -> p ≠ q →
  Run (loopW ownT ownB n (some (.ob p) :: ρ) m) fun fl m' => fl = .nx (some (.ob p) :: ρ) /\ ∃ own' : List Int, (own' = [] ∨ ∃ a r, own' = a :: r /\ a ≠ 0) /\ (∀ a ∈ own', a ∈ own) /\ own'.length <= own.length /\ m'[p]? = some (.dct (boxL q seed turn)) /\ m'[q]? = some (.lst (own'.map D.int)) /\ Fr p q m m'
 | own, 0, m, h, _, _, _ => absurd h (Nat.not_lt_zero _)
 | [], n + 1, m, h, h1, h2, h3 => by
  rw [loopW]
  have e : ownT (some (.ob p) :: ρ) m = .ok false m := by
   unfold ownT; walk_at "w"; rw [ix_key h1 (vb_own _ _ _)]; walk_at "w"; rw [ne_own (own := []) h2]
   rfl
  rw [e, bind_ok, if_neg (by decide)]; exact Run.ok ⟨rfl, [], .inl rfl, fun _ h => h, Nat.le_refl _, h1, h2, Fr.refl⟩
 | a :: own, n + 1, m, h, h1, h2, h3 => by
  rw [loopW]
  have e : ownT (some (.ob p) :: ρ) m = .ok (decide (a = 0)) m := by
   unfold ownT; walk_at "w"; rw [ix_key h1 (vb_own _ _ _)]; walk_at "w"; rw [ne_own h2]; rw [decide_eq_false (by simp)]; walk_at "w"; rw [ix_key h1 (vb_own _ _ _)]; walk_at "w"; rw [ix_own h2]; walk_at "w"
  rw [e, bind_ok]
  by_cases h0 : a = 0
  ·rw [if_pos (decide_eq_true h0)]
   have eb : ownB (some (.ob p) :: ρ) m = .ok (.nx (some (.ob p) :: ρ)) (m.set q (.lst (own.map D.int))) := by
    unfold ownB; walk_at "w"; rw [ix_key h1 (vb_own _ _ _)]; walk_at "w"; rw [if_pos (show isLst (.ob q) m = true by simp only [isLst, h2])]; walk_at "w"; rw [pop_first h2]; walk_at "w"
   rw [eb, bind_ok]
   refine Run.mono (own_loop own n (m.set q (.lst (own.map D.int))) (by simp at h; omega) (by rw [set_other (Ne.symm h3)]; exact h1) (set_get h2) h3) ?_
   rintro fl m' ⟨rfl, own', g1, g2, g3, g4, g5, g6⟩
   exact ⟨rfl, own', g1, fun x hx => List.mem_cons_of_mem _ (g2 x hx), by simp; omega, g4, g5, Fr.set'.trans g6⟩
  ·rw [if_neg (by simp [h0])]; exact Run.ok ⟨rfl, a :: own, .inr ⟨a, own, rfl, h0⟩, fun _ h => h, Nat.le_refl _, h1, h2, Fr.refl⟩
theorem gLawNext_cut : gLawNext0 = (sSeq (sWhile fuelW ownT ownB)
 (sSeq (sIf (tV (eOp neD (eOp ixD (eVar 0) (eC (.str "own"))) (eFn gLst aNil)))
 (sSeq (sAsg (eOp modD (eOp ixD (eOp ixD (eVar 0) (eC (.str "own"))) (eC (.int 0))) (eVar 1)) (gN 2))
 (sSeq (sAsg (eOp fdivD (eOp ixD (eOp ixD (eVar 0) (eC (.str "own"))) (eC (.int 0))) (eVar 1)) (gI (eOp ixD (eVar 0) (eC (.str "own"))) (eC (.int 0))))
 (sRet (eVar 2))))
 sNil)
 (sSeq (sPutD (eVar 0) (eC (.str "turn")) (eOp addD (eOp ixD (eVar 0) (eC (.str "turn"))) (eC (.int 1))))
 (sSeq (sAsg (eOp ixD (eVar 0) (eC (.str "turn"))) (gN 3))
 (sSeq (sAsg (eOp addD (eOp addD (eOp ixD (eVar 0) (eC (.str "seed"))) (eOp mulD (eOp mulD (eVar 3) (eVar 3)) (eC (.int 7919)))) (eOp mulD (eVar 3) (eC (.int 104729)))) (gN 4))
 (sSeq (sAsg (eOp modD (eOp mulD (eVar 4) (eC (.int 48271))) (eC (.int 2305843009213693921))) (gN 4))
 (sSeq (sAsg (eOp modD (eOp mulD (eVar 4) (eOp addD (eOp modD (eVar 4) (eC (.int 1000003))) (eC (.int 69621)))) (eC (.int 2305843009213693907))) (gN 4))
 (sRet (eOp modD (eOp fdivD (eVar 4) (eC (.int 65537))) (eVar 1)))))))))) := rfl
theorem put_own {q : Nat} {a b : Int} {own : List Int} {m : Sto} (h2 : m[q]? = some (.lst ((a :: own).map D.int))) : putL (.ob q) (.int 0) (.int b) m = .ok () (m.set q (.lst ((b :: own).map D.int))) := by
 have e : ixN ((a :: own).map D.int).length 0 = some 0 := by
  unfold ixN; rw [if_pos (by decide), if_pos (by simp)]
  rfl
 simp only [putL, h2, e]
 rfl
theorem while_at {n : Nat} {t : TV} {b : SV} {ρ : En} {m : Sto} : sWhile n t b ρ m = loopW t b n ρ m := rfl
theorem next_run {m0 : Sto} {p q c : Nat} {k : Int} {m : Sto} (hp : P3 m0 p q c m) (hc : c < 2 ^ 40) (k0 : 0 < k) (k1 : k < 2 ^ 64) :
  Run (gLawNext [.ob p, .int k] m) fun a m' => ∃ d : Int, a = .int d /\ 0 <= d /\ d < k /\ P3 m p q (c + 1) m' := by
 obtain ⟨own, s, t, h1, h2, h3, h4, h5, h6, h7, h8, h9⟩ := hp.ex
 unfold gLawNext; rw [gLawNext_cut, run_at]
 show Run (Res.bind (sSeq (sWhile fuelW ownT ownB) _ (some (.ob p) :: [some (.int k), none, none, none]) m) finF) _
 rw [seq_at, while_at, bind_then]; refine Run.bind (own_loop (ρ := [some (.int k), none, none, none]) own fuelW m (Nat.lt_of_le_of_lt h4 (by decide)) h1 h2 h3) ?_; rintro _ m1 ⟨rfl, own', g1, g2, g3, g4, g5, g6⟩; walk_at "w"; rw [ix_key g4 (vb_own _ _ _)]; walk_at "w"; rw [ne_own g5]
 rcases g1 with rfl | ⟨a, r, rfl, a0⟩
 ·rw [decide_eq_true rfl]; walk_at "w"; rw [ix_key g4 (vb_turn _ _ _)]; walk_at "w"; rw [put_key g4 (boxL_len _ _ _), pb_turn]
  have hp2 : (m1.set p (.dct (boxL q s (t + 1))))[p]? = some (.dct (boxL q s (t + 1))) := set_get g4
  have hq2 : (m1.set p (.dct (boxL q s (t + 1))))[q]? = some (.lst (([] : List Int).map D.int)) := by rw [set_other h3]; exact g5
  have f2 : Fr p q m (m1.set p (.dct (boxL q s (t + 1)))) := g6.trans Fr.set
  generalize hm2 : m1.set p (.dct (boxL q s (t + 1))) = m2 at hp2 hq2 f2; walk_at "w"; rw [ix_key hp2 (vb_turn _ _ _)]; walk_at "w"; rw [ix_key hp2 (vb_seed _ _ _)]; walk_at "w"; rw [mul_j ⟨by omega, by omega⟩]; walk_at "w"; rw [mul_i ⟨by decide, by decide⟩]; walk_at "w"; rw [mul_j ⟨by omega, by omega⟩]; walk_at "w"; rw [mul_i ⟨by decide, by decide⟩]; walk_at "w"; rw [mod_i (by decide)]; walk_at "w"
  rw [mod_i (by decide)]; walk_at "w"; rw [mul_i (mod_small _)]; walk_at "w"; rw [mod_i (by decide)]; walk_at "w"; rw [div_i ⟨by decide, by decide⟩]; walk_at "w"; rw [mod_i k0]; walk_at "w"; exact Run.ok ⟨_, rfl, Int.emod_nonneg _ (by omega), Int.emod_lt_of_pos _ k0, ⟨⟨[], s, t + 1, hp2, hq2, h3, by decide, fun _ h => (nomatch h), h6, h7, by omega, by omega⟩, f2⟩⟩
 ·rw [decide_eq_false (by simp)]; walk_at "w"; rw [ix_key g4 (vb_own _ _ _)]; walk_at "w"; rw [ix_own g5]; walk_at "w"; rw [mod_i k0]; walk_at "w"; rw [ix_key g4 (vb_own _ _ _)]; walk_at "w"; rw [ix_own g5]; walk_at "w"; rw [div_i ⟨k0, k1⟩]; walk_at "w"; simp only [gI_at, kgi1_at, kgi2_at, bind_ok, bind_then, eC_at, op_at, kop_at, var_0]; rw [ix_key g4 (vb_own _ _ _)]; simp only [bind_ok, then_at, kgi1_at, kgi2_at, eC_at, bind_then]
  rw [put_own g5]; simp only [bind_ok, then_at, kgi3_at]; walk_at "w"
  have ha : 0 <= a := h5 a (g2 a (by simp))
  exact Run.ok ⟨_, rfl, Int.emod_nonneg _ (by omega), Int.emod_lt_of_pos _ k0, ⟨⟨a / k :: r, s, t, by rw [set_other (Ne.symm h3)]; exact g4, set_get g5, h3, Nat.le_trans g3 h4, fun x hx => by
   rcases List.mem_cons.mp hx with rfl | hx
   ·exact Int.ediv_nonneg ha (by omega)
   ·exact h5 x (g2 x (List.mem_cons_of_mem _ hx)), h6, h7, h8, by omega⟩, g6.trans Fr.set'⟩⟩
theorem of_run {m0 : Sto} {p q c : Nat} {m : Sto} {xs : List D} (hp : P3 m0 p q c m) (hc : c < 2 ^ 40) (h0 : 0 < xs.length) (h1 : xs.length < 1000) :
  Run (gLawOf [.ob p, .lst xs] m) fun a m' => a ∈ xs /\ P3 m p q (c + 1) m' := by
 unfold gLawOf gLawOf0; walk_at "w"; refine Run.bind (next_run hp hc (by omega) (by omega)) ?_; rintro _ m1 ⟨d, rfl, d0, d1, hp1⟩; walk_at "w"
 obtain ⟨x, hx, e⟩ := ix_any (m := m1) (xs := xs) d0 d1
 rw [e]; exact Run.ok ⟨hx, hp1⟩
theorem value3_run {m0 : Sto} {p q c b : Nat} {m : Sto} (hp : P3 m0 p q c m) (hc : c + 2 < 2 ^ 40) (hb : b <= 40) :
  Run (gLawValue3 [.ob p, .int b] m) fun a m' => ∃ v : Int, a = .int v /\ 0 <= v /\ v < 2 ^ b /\ P3 m p q (c + 2) m' := by
 have hB := p2 b
 have hB2 := p2lt hb
 unfold gLawValue3 gLawValue30; walk_at "w"; rw [shl_1 (by omega)]; walk_at "w"; rw [shl_1 (by omega)]; walk_at "w"; refine Run.bind (next_run hp (by omega) hB hB2) ?_; rintro _ m1 ⟨x, rfl, x0, x1, hp1⟩; walk_at "w"; refine Run.bind (next_run hp1 (by omega) (by decide) (by decide)) ?_; rintro _ m2 ⟨y, rfl, y0, y1, hp2⟩; walk_at "w"
 obtain ⟨v, hv, e⟩ := ix_any (m := m2) (xs := [.int 0, .int 1, .int (2 ^ b - 1), .int x]) y0 y1
 rw [e]; walk_at "w"
 have hv' : ∃ n : Int, v = .int n := by
  simp only [List.mem_cons, List.not_mem_nil, or_false] at hv
  rcases hv with rfl | rfl | rfl | rfl <;> exact ⟨_, rfl⟩
 obtain ⟨n, rfl⟩ := hv'
 rw [shl_1 (by omega)]; walk_at "w"; rw [mod_i hB]; walk_at "w"; exact Run.ok ⟨_, rfl, Int.emod_nonneg _ (by omega), Int.emod_lt_of_pos _ hB, hp1.via hp2⟩
theorem neg_n (n : Int) {m : Sto} : negD (.int n) m = .ok (.int (-n)) m := rfl
theorem kind3_run {m0 : Sto} {p q c : Nat} {m : Sto} {pl b : Nat} (hp : P3 m0 p q c m) (hc : c + 8 < 2 ^ 40) (h1 : 0 < b) (h2 : b <= 40) (hpl : pl <= 100) :
  Run (gLawKind3 [.ob p, .int pl, .int b] m) fun a m' => ∃ kd : Kd, a = kd.e /\ kd.Ok2 pl b /\ P3 m p q (c + 8) m' := by
 have hB := p2 b
 have hB2 := p2lt h2
 have hB4 := p2le h2
 have hB3 : (2 : Int) <= 2 ^ b := by
  have := Nat.pow_le_pow_right (n := 2) (by decide) h1
  exact_mod_cast this
 unfold gLawKind3 gLawKind30; walk_at "w"; refine Run.bind (next_run hp (by omega) (by decide) (by decide)) ?_; rintro _ m1 ⟨w, rfl, w0, w1, hp1⟩; walk_at "w"
 by_cases c1 : w < 2
 ·rw [if_pos c1]; walk_at "w"; exact Run.ok ⟨.still, rfl, ⟨trivial, fun _ h => by cases h⟩, hp1.more (by omega)⟩
 rw [if_neg c1]; walk_at "w"
 by_cases c2 : w < 4
 ·rw [if_pos c2]; walk_at "w"; refine Run.bind (value3_run hp1 (by omega) h2) ?_; rintro _ m2 ⟨x, rfl, x0, x1, hp2⟩; walk_at "w"; exact Run.ok ⟨.step x, rfl, ⟨⟨x0, x1⟩, fun _ h => by cases h⟩, (hp1.via hp2).more (by omega)⟩
 rw [if_neg c2]; walk_at "w"
 by_cases c3 : w = 4
 ·rw [if_pos c3]; walk_at "w"; refine Run.bind (next_run hp1 (by omega) (by decide) (by decide)) ?_; rintro _ m2 ⟨x, rfl, x0, x1, hp2⟩; walk_at "w"; rw [shl_1 (by omega)]; walk_at "w"; rw [shl_1 (by omega)]; walk_at "w"; refine Run.bind (next_run hp2 (by omega) hB hB2) ?_; rintro _ m3 ⟨y, rfl, y0, y1, hp3⟩; walk_at "w"; refine Run.bind (next_run hp3 (by omega) (by decide) (by decide)) ?_; rintro _ m4 ⟨z, rfl, z0, z1, hp4⟩
  walk_at "w"; rw [mul_j ⟨by decide, by decide⟩]; walk_at "w"; generalize hn : (if (2 : Int) ^ b < 2 + x then (2 : Int) ^ b else 2 + x) = n
  have n0 : 2 <= n := by rw [<- hn]; split <;> omega
  have n1 : n <= 12 := by rw [<- hn]; split <;> omega
  have n2 : n <= 2 ^ b := by rw [<- hn]; split <;> omega
  clear hn
  obtain ⟨N, rfl⟩ : ∃ N : Nat, n = N := ⟨n.toNat, by omega⟩
  rw [aComp_map (ds := intsD 0 N) (fun d => match d with | .int i => .int ((y + (2 * z + 1) * i) % 2 ^ b) | _ => .non)]
  ·walk_at "w"
   refine Run.ok ⟨.turn ((List.range N).map fun i : Nat => (y + (2 * z + 1) * (i : Int)) % 2 ^ b), ?_, ⟨⟨?_, by simp; omega, ?_⟩, fun row h => ?_⟩, (hp1.via (hp2.via (hp3.via hp4))).more (by omega)⟩
   ·simp only [Kd.e, intsD, List.map_map, Int.zero_add]; rfl
   ·intro h
    have := congrArg List.length h
    simp at this
    omega
   ·intro v hv
    simp only [List.mem_map] at hv
    obtain ⟨i, _, rfl⟩ := hv
    exact ⟨Int.emod_nonneg _ (by omega), Int.emod_lt_of_pos _ hB⟩
   ·cases h
    exact ⟨by simp; omega, nodup_map _ _ fun i j hi hj e => row_inj (by omega) (by omega) e⟩
  ·walk_at "w"; rw [rng_ok (by omega) (by omega)]
   rfl
  ·rw [len_ints]; omega
  ·intro d hd
   simp only [intsD, List.mem_map] at hd
   obtain ⟨i, hi, rfl⟩ := hd
   refine ⟨_, rfl, ?_⟩
   show eOp modD (eOp addD (eVar 5) (eOp mulD (eVar 6) (eVar 8))) (eOp shlD (eC (.int 1)) (eVar 2)) [some (.ob p), some (.int pl), some (.int b), some (.int w), some (.int N), some (.int y), some (.int (2 * z + 1)), none, some (.int (0 + (i : Nat)))] m4 = _
   walk_at "w"; rw [mul_j ⟨by omega, by omega⟩]; walk_at "w"; rw [shl_1 (by omega)]; walk_at "w"; rw [mod_i hB]
 rw [if_neg c3]; walk_at "w"
 by_cases c4 : w < 7 /\ 0 < pl
 ·rw [if_pos c4.1]; rw [decide_eq_true (show (0 : Int) < (pl : Nat) by omega)]; walk_at "w"; rw [neg_n]; walk_at "w"; rw [neg_n]; walk_at "w"; refine Run.bind (next_run hp1 (by omega) (by decide) (by decide)) ?_; rintro _ m2 ⟨x, rfl, x0, x1, hp2⟩; walk_at "w"; rw [lst_7]; walk_at "w"; refine Run.bind (next_run hp2 (by omega) (by omega) (by omega)) ?_; rintro _ m3 ⟨y, rfl, y0, y1, hp3⟩; walk_at "w"
  refine Run.bind (of_run hp3 (by omega) (by simp) (by simp)) ?_; rintro v m4 ⟨hv, hp4⟩; walk_at "w"
  obtain ⟨i, rfl⟩ : ∃ i : Nat, y = i := ⟨y.toNat, by omega⟩
  have hv' : ∃ t : Int, v = .int t /\ -99 <= t /\ t <= 99 := by
   simp only [List.mem_cons, List.not_mem_nil, or_false] at hv
   rcases hv with rfl | rfl | rfl | rfl | rfl | rfl | rfl <;> exact ⟨_, rfl, by omega, by omega⟩
  obtain ⟨t, rfl, t0, t1⟩ := hv'
  exact Run.ok ⟨.wth i t, rfl, ⟨⟨by omega, t0, t1⟩, fun _ h => by cases h⟩, (hp1.via (hp2.via (hp3.via hp4))).more (by omega)⟩
 ·have hd : Run (Res.bind (sSeq sNil (sRet (eFn gTup (aCons (eC (.str "drawn")) aNil))) [some (.ob p), some (.int pl), some (.int b), some (.int w), none, none, none, none] m1) finF) fun a m' => ∃ kd : Kd, a = kd.e /\ kd.Ok2 pl b /\ P3 m p q (c + 8) m' := by
   walk_at "w"; exact Run.ok ⟨.drawn, rfl, ⟨trivial, fun _ h => by cases h⟩, hp1.more (by omega)⟩
  by_cases c5 : w < 7
  ·rw [if_pos c5]; rw [decide_eq_false (show ¬ (0 : Int) < (pl : Nat) by omega)]; walk_at "w"; exact Run.ok ⟨.drawn, rfl, ⟨trivial, fun _ h => by cases h⟩, hp1.more (by omega)⟩
  ·rw [if_neg c5]; walk_at "w"; exact Run.ok ⟨.drawn, rfl, ⟨trivial, fun _ h => by cases h⟩, hp1.more (by omega)⟩
theorem rep_fold (c : Nat) : ∀ (k : Nat) (a : Array Nat), ((List.replicate k #[c]).foldl (· ++ ·) a).toList = a.toList ++ List.replicate k c
 | 0, a => by simp
 | k + 1, a => by
  rw [List.replicate_succ, List.foldl_cons, rep_fold c k]
  simp [List.replicate_succ]
theorem mul_one {c : Nat} {n : Nat} (h : 1 <= n) : (Txt.mul ⟨#[c]⟩ (n : Nat)).cps.toList = List.replicate n c := by
 unfold Txt.mul
 rw [if_neg (by omega)]
 split
 ·rename_i h2
  have : n = 1 := by
   rw [Bool.or_eq_true] at h2
   rcases h2 with h2 | h2
   ·have := eq_of_beq h2
    omega
   ·exact absurd (eq_of_beq h2) (by show ¬ 1 = 0; decide)
  subst this
  rfl
 ·show ((List.replicate (n : Int).toNat #[c]).foldl (· ++ ·) #[]).toList = _
  rw [rep_fold]
  simp
theorem nm_mul {j n : Nat} (hj : j < 26) (h1 : 1 <= n) (h2 : n <= 8) : nmB (Txt.mul ⟨#[97 + j]⟩ (n : Nat)) = true /\ (Txt.mul ⟨#[97 + j]⟩ (n : Nat)).length <= 8 /\ (Txt.mul ⟨#[97 + j]⟩ (n : Nat)).cps.toList.head? = some (97 + j) := by
 have e := mul_one (c := 97 + j) h1
 have hl : (Txt.mul ⟨#[97 + j]⟩ (n : Nat)).length = n := by
  show (Txt.mul ⟨#[97 + j]⟩ (n : Nat)).cps.size = n
  rw [<- Array.length_toList, e, List.length_replicate]
 refine ⟨?_, by omega, ?_⟩
 ·unfold nmB; rw [hl, e, decide_eq_true ⟨h1, h2⟩, Bool.true_and, List.all_eq_true]
  intro x hx
  have := (List.mem_replicate.mp hx).2
  subst this
  simp only [chB, decide_eq_true_eq]
  omega
 ·rw [e]
  cases n with
  | zero => omega
  | succ n => rfl
theorem lst_8 (a b c e f g i j : D) {m : Sto} : gLst [a, b, c, e, f, g, i, j] m = .ok (.lst [a, b, c, e, f, g, i, j]) m := if_pos (sl_small (by simp))
theorem shape4_run {m0 : Sto} {p q c most : Nat} {m : Sto} (hp : P3 m0 p q c m) (hc : c + 200 < 2 ^ 40) (hm0 : 0 < most) (hm1 : most <= 12) :
  Run (gLawShape4 [.ob p, .int most] m) fun a m' => ∃ (fs : List Fd) (n : Int), a = shD fs n /\ 0 < n /\ n <= 1000000 /\ 0 < fs.length /\ fs.length <= 12 /\ ShG fs /\ P3 m p q (c + 200) m' := by
 unfold gLawShape4 gLawShape40; walk_at "w"; refine Run.bind (next_run hp (by omega) (by decide) (by decide)) ?_; rintro _ m1 ⟨f, rfl, f0, f1, hp1⟩
 obtain ⟨f, rfl⟩ : ∃ f' : Nat, f = f' := ⟨f.toNat, by omega⟩
 walk_at "w"; rw [new_0]; walk_at "w"
 have hpA : P3 m p q (c + 1) (m1 ++ [.lst []]) := hp1.app
 have hr : (m1 ++ [MO.lst []])[m1.length]? = some (.lst []) := by simp
 have hrp : m1.length ≠ p := Nat.ne_of_gt hp1.lt.1
 have hrq : m1.length ≠ q := Nat.ne_of_gt hp1.lt.2
 have hr0 : m.length <= m1.length := hp1.fr.len
 generalize m1.length = r at hr hrp hrq hr0 ⊢; generalize m1 ++ [MO.lst []] = mA at hpA hr ⊢; refine Run.bind (next_run hpA (by omega) (by omega) (by omega)) ?_; rintro _ m2 ⟨k, rfl, k0, k1, hp2⟩
 obtain ⟨k, rfl⟩ : ∃ k' : Nat, k = k' := ⟨k.toNat, by omega⟩
 have hr2 := hp2.kept hr hrp hrq
 have hpB := hpA.via hp2
 walk_at "w"; rw [rng_ok (by omega) (by omega)]; walk_at "w"; refine Run.bind (loop_run (fun i ρ m' => ∃ (fs : List Fd) (x5 x6 x7 : Option D), ρ = [some (.ob p), some (.int most), some (.str "abcdefghijklmnopqrstuvwxyz"), some (.int f), some (.ob r), x5, x6, x7] /\ m'[r]? = some (.lst (fs.map Fd.e)) /\ fs.length = i /\ (∀ (j : Nat) (g : Fd), fs[j]? = some g -> (0 < g.b /\ g.b <= 40 /\ g.kd.Ok2 j g.b) /\ nmB g.nm = true /\ g.nm.length <= 8 /\ g.nm.cps.toList.head? = some (97 + (f + 3 * j) % 26)) /\ P3 m p q (c + 2 + 9 * i) m') (intsD 0 (1 + (k : Int)).toNat) 0 ⟨[], none, none, none, rfl, hr2, rfl, fun j g h => by simp at h, hpB⟩ ?_) ?_
 ·rintro i d ρ m3 hd ⟨fs, x5, x6, x7, rfl, g1, g2, g3, g4⟩
  have hi := (List.getElem?_eq_some_iff.mp hd).1
  rw [len_ints] at hi
  have := at_ints hd
  subst this
  rw [Nat.zero_add] at g2 g4 ⊢
  walk_at "w"; rw [lst_8]; walk_at "w"; refine Run.bind (of_run g4 (by omega) (by simp) (by simp)) ?_; rintro v m4 ⟨hv, hp4⟩
  have hv' : ∃ b : Nat, v = .int b /\ 0 < b /\ b <= 40 := by
   simp only [List.mem_cons, List.not_mem_nil, or_false] at hv
   rcases hv with rfl | rfl | rfl | rfl | rfl | rfl | rfl | rfl
   ·exact ⟨1, rfl, by decide, by decide⟩
   ·exact ⟨2, rfl, by decide, by decide⟩
   ·exact ⟨3, rfl, by decide, by decide⟩
   ·exact ⟨4, rfl, by decide, by decide⟩
   ·exact ⟨5, rfl, by decide, by decide⟩
   ·exact ⟨8, rfl, by decide, by decide⟩
   ·exact ⟨16, rfl, by decide, by decide⟩
   ·exact ⟨40, rfl, by decide, by decide⟩
  obtain ⟨b, rfl, b0, b1⟩ := hv'
  walk_at "w"; rw [mul_j ⟨by decide, by decide⟩]; walk_at "w"; rw [mod_i (by decide)]; walk_at "w"; rw [show ((f : Int) + 3 * (i : Nat)) % 26 = (((f + 3 * i) % 26 : Nat) : Int) by push_cast; rfl, alpha (Nat.mod_lt _ (by decide))]; walk_at "w"; rw [mod_i (by decide)]; walk_at "w"; rw [show (1 : Int) + ((f : Int) + (i : Nat)) % 8 = ((1 + (f + i) % 8 : Nat) : Int) by push_cast; rfl, mul_s (by rfl) (by omega) (by omega)]
  walk_at "w"
  have g1' := hp4.kept g1 hrp hrq
  rw [if_pos (is_lst g1')]; walk_at "w"; refine Run.bind (kind3_run hp4 (by omega) b0 b1 (by omega)) ?_; rintro _ m5 ⟨kd, rfl, hk, hp5⟩
  have g1'' := hp5.kept g1' hrp hrq
  walk_at "w"; rw [app_ok g1'' (by rw [List.length_map]; exact small_lt (by omega))]; walk_at "w"
  obtain ⟨n1, n2, n3⟩ := nm_mul (j := (f + 3 * i) % 26) (n := 1 + (f + i) % 8) (Nat.mod_lt _ (by decide)) (by omega) (by omega)
  refine Run.ok ⟨_, rfl, fs ++ [⟨Txt.mul ⟨#[97 + (f + 3 * i) % 26]⟩ ((1 + (f + i) % 8 : Nat) : Int), b, kd⟩], _, _, _, rfl, ?_, ?_, ?_, ?_⟩
  ·rw [set_get g1'', List.map_append]
   rfl
  ·rw [List.length_append, g2]; rfl
  ·intro j g hg
   rcases Nat.lt_trichotomy j fs.length with hj | hj | hj
   ·rw [List.getElem?_append_left hj] at hg; exact g3 j g hg
   ·subst hj
    simp at hg
    subst hg
    exact ⟨⟨b0, b1, by rw [g2]; exact hk⟩, n1, n2, by rw [g2]; exact n3⟩
   ·rw [List.getElem?_eq_none (by simp; omega)] at hg; cases hg
  ·refine P3.set ((g4.via (hp4.via hp5)).more (by omega)) hr0 hrp hrq
 ·rintro _ m3 ⟨ρ, rfl, fs, x5, x6, x7, rfl, g1, g2, g3, g4⟩
  rw [Nat.zero_add, len_ints] at g2 g4
  walk_at "w"; simp only [tupF, g1]; walk_at "w"; rw [pow106]; walk_at "w"; rw [lst_8]; walk_at "w"; refine Run.bind (of_run g4 (by omega) (by simp) (by simp)) ?_; rintro v m4 ⟨hv, hp4⟩
  have hv' : ∃ n : Int, v = .int n /\ 0 < n /\ n <= 1000000 := by
   simp only [List.mem_cons, List.not_mem_nil, or_false] at hv
   rcases hv with rfl | rfl | rfl | rfl | rfl | rfl | rfl | rfl <;> exact ⟨_, rfl, by omega, by omega⟩
  obtain ⟨n, rfl, n0, n1⟩ := hv'
  walk_at "w"
  have hfl : fs.length <= 12 := by omega
  refine Run.ok ⟨fs, n, rfl, n0, n1, by omega, hfl, ⟨fun j g h => (g3 j g h).1, fun x hx => ?_, ?_⟩, (g4.via hp4).more (by omega)⟩
  ·obtain ⟨g, hg, rfl⟩ := List.mem_map.mp hx
   obtain ⟨j, hj⟩ := List.mem_iff_getElem?.mp hg
   exact ⟨(g3 j g hj).2.1, (g3 j g hj).2.2.1⟩
  ·rw [List.Nodup, List.pairwise_map, List.pairwise_iff_getElem]
   intro i j hi hj hij e
   have a1 := (g3 i fs[i] (List.getElem?_eq_getElem hi)).2.2.2
   have a2 := (g3 j fs[j] (List.getElem?_eq_getElem hj)).2.2.2
   rw [e, a2] at a1
   have := Option.some.inj a1
   omega
structure Fm where
 a : Nat
 b : Nat
 wys : List Wy
def Fm.e (f : Fm) : D := fmD f.a f.b f.wys
structure FmOk (fs : List Fd) (f : Fm) : Prop where
 a0 : 0 < f.a
 a1 : f.a <= 40
 b0 : 0 < f.b
 b1 : f.b <= 40
 wy : WyOk fs f.wys
structure Rd4 where
 skips : Nat
 gap : Nat
 late : Nat
 anew : Nat
def Rd4.e (r : Rd4) : D := .tup [.int r.skips, .int r.gap, .int r.late, .int r.anew]
structure RdOk (r : Rd4) : Prop where
 s1 : r.skips <= 39
 g0 : r.skips <= r.gap
 g1 : r.gap <= 400
 l1 : r.late <= 20
 n1 : r.anew <= 400
structure Pt where
 fs : List Fd
 n : Int
 wide : Nat
 fms : List Fm
 rd : Rd4
def Pt.e (p : Pt) : D := .tup [shD p.fs p.n, .int p.wide, .tup (p.fms.map Fm.e), p.rd.e]
structure PtOk (p : Pt) : Prop where
 n0 : 0 < p.n
 n1 : p.n <= 1000000
 f0 : 0 < p.fs.length
 f1 : p.fs.length <= 12
 sh : ShG p.fs
 w0 : 0 < p.wide
 w1 : p.wide <= 40
 fm : ∀ f ∈ p.fms, FmOk p.fs f
 fml : p.fms.length <= 12
 rd : RdOk p.rd
theorem way3_run {m0 : Sto} {p q c b : Nat} {m : Sto} (hp : P3 m0 p q c m) (hc : c + 5 < 2 ^ 40) (h0 : 0 < b) (h1 : b <= 40) :
  Run (gLawWay3 [.ob p, .int b] m) fun a m' => ∃ wy : Wy, a = wy.e /\ wy.Ok b /\ P3 m p q (c + 4) m' := by
 unfold gLawWay3 gLawWay30; walk_at "w"; refine Run.bind (next_run hp (by omega) (by decide) (by decide)) ?_; rintro _ m1 ⟨x, rfl, x0, x1, hp1⟩; walk_at "w"
 by_cases c1 : x < 3
 ·rw [if_pos c1]; walk_at "w"; exact Run.ok ⟨.keep, rfl, trivial, hp1.more (by omega)⟩
 rw [if_neg c1]; walk_at "w"
 by_cases c2 : x = 3
 ·rw [if_pos c2]; walk_at "w"; exact Run.ok ⟨.whole, rfl, trivial, hp1.more (by omega)⟩
 rw [if_neg c2]; walk_at "w"; refine Run.bind (next_run hp1 (by omega) (by omega) (by omega)) ?_; rintro _ m2 ⟨y, rfl, y0, y1, hp2⟩
 obtain ⟨w, hw⟩ : ∃ w : Nat, 1 + y = w := ⟨(1 + y).toNat, by omega⟩
 walk_at "w"; rw [hw]; refine Run.bind (value3_run hp2 (by omega) (b := w) (by omega)) ?_; rintro _ m3 ⟨v, rfl, v0, v1, hp3⟩; walk_at "w"; exact Run.ok ⟨.low w v, rfl, ⟨by omega, by omega, v0, v1⟩, (hp1.via (hp2.via hp3)).more (by omega)⟩
theorem lst_9 (a b c e f g i j k : D) {m : Sto} : gLst [a, b, c, e, f, g, i, j, k] m = .ok (.lst [a, b, c, e, f, g, i, j, k]) m := if_pos (slen (by simp))
theorem form3_run {m0 : Sto} {p q c : Nat} {m : Sto} {fs : List Fd} {n : Int} (hp : P3 m0 p q c m) (hc : c + 62 < 2 ^ 40) (hs : ShOk fs) (hn : fs.length <= 12) :
  Run (gLawForm3 [.ob p, shD fs n] m) fun x m' => ∃ f : Fm, x = f.e /\ FmOk fs f /\ P3 m p q (c + 62) m' := by
 unfold gLawForm3 gLawForm30 shD; walk_at "w"; refine Run.bind (aComp_run (ds := fs.map Fd.e) (fun k m' => P3 m p q (c + 5 * k) m') (fun i d x => ∃ w : Wy, x = w.e /\ ∀ f, fs[i]? = some f -> w.Ok f.b) (by walk_at "w") (by rw [List.length_map]; omega) hp.re ?_) ?_
 ·intro i d m' hd hI
  have hi : i < fs.length := by have := (List.getElem?_eq_some_iff.mp hd).1; simpa using this
  have e1 := List.getElem?_eq_getElem hi
  have hd' : d = fs[i].e := by
   rw [List.getElem?_map, e1] at hd
   simpa using hd.symm
  subst hd'
  obtain ⟨b0, b1, hk⟩ := hs i _ e1
  simp only [Fd.e]; walk_at "w"
  refine Run.mono (way3_run hI (by omega) b0 b1) ?_
  rintro a m3 ⟨w, rfl, hw, hp3⟩
  exact ⟨⟨w, rfl, fun f hf => by rw [e1] at hf; cases hf; exact hw⟩, (hI.via hp3).more (by omega)⟩
 ·rintro xs m' ⟨hlen, hP, hI⟩; walk_at "w"
  rw [List.length_map] at hlen hI
  obtain ⟨l, rfl, hl⟩ := lift Wy.e (fun i w => ∀ f, fs[i]? = some f -> Wy.Ok f.b w) xs 0 fun i x hx => by
   have hi : i < fs.length := by have := (List.getElem?_eq_some_iff.mp hx).1; omega
   rw [Nat.zero_add]
   exact hP i fs[i].e x (by rw [List.getElem?_map, List.getElem?_eq_getElem hi]; rfl) hx
  rw [lst_7]; walk_at "w"; refine Run.bind (of_run hI (by omega) (by simp) (by simp)) ?_; rintro v m2 ⟨hv, hp2⟩; walk_at "w"; rw [lst_9]; walk_at "w"; refine Run.bind (of_run hp2 (by omega) (by simp) (by simp)) ?_; rintro u m3 ⟨hu, hp3⟩; walk_at "w"
  have hv' : ∃ a : Nat, v = .int a /\ 0 < a /\ a <= 40 := by
   simp only [List.mem_cons, List.not_mem_nil, or_false] at hv
   rcases hv with rfl | rfl | rfl | rfl | rfl | rfl | rfl
   ·exact ⟨1, rfl, by decide, by decide⟩
   ·exact ⟨2, rfl, by decide, by decide⟩
   ·exact ⟨3, rfl, by decide, by decide⟩
   ·exact ⟨4, rfl, by decide, by decide⟩
   ·exact ⟨6, rfl, by decide, by decide⟩
   ·exact ⟨9, rfl, by decide, by decide⟩
   ·exact ⟨40, rfl, by decide, by decide⟩
  have hu' : ∃ a : Nat, u = .int a /\ 0 < a /\ a <= 40 := by
   simp only [List.mem_cons, List.not_mem_nil, or_false] at hu
   rcases hu with rfl | rfl | rfl | rfl | rfl | rfl | rfl | rfl | rfl
   ·exact ⟨1, rfl, by decide, by decide⟩
   ·exact ⟨2, rfl, by decide, by decide⟩
   ·exact ⟨3, rfl, by decide, by decide⟩
   ·exact ⟨4, rfl, by decide, by decide⟩
   ·exact ⟨5, rfl, by decide, by decide⟩
   ·exact ⟨6, rfl, by decide, by decide⟩
   ·exact ⟨8, rfl, by decide, by decide⟩
   ·exact ⟨12, rfl, by decide, by decide⟩
   ·exact ⟨40, rfl, by decide, by decide⟩
  obtain ⟨a, rfl, a0, a1⟩ := hv'
  obtain ⟨b, rfl, b0, b1⟩ := hu'
  refine Run.ok ⟨⟨a, b, l⟩, rfl, ⟨a0, a1, b0, b1, ⟨by simpa using hlen, fun i f v hf hv => ?_⟩⟩, (hI.via (hp2.via hp3)).more (by omega)⟩
  have := hl i v hv
  rw [Nat.zero_add] at this
  exact this f hf
theorem road_run {m0 : Sto} {p q c : Nat} {m : Sto} (hp : P3 m0 p q c m) (hc : c + 4 < 2 ^ 40) :
  Run (gLawRoad [.ob p] m) fun x m' => ∃ r : Rd4, x = r.e /\ RdOk r /\ P3 m p q (c + 4) m' := by
 unfold gLawRoad gLawRoad0; walk_at "w"; rw [lst_7]; walk_at "w"; refine Run.bind (of_run hp (by omega) (by simp) (by simp)) ?_; rintro v m1 ⟨hv, hp1⟩
 have hv' : ∃ s : Nat, v = .int s /\ s <= 39 := by
  simp only [List.mem_cons, List.not_mem_nil, or_false] at hv
  rcases hv with rfl | rfl | rfl | rfl | rfl | rfl | rfl
  ·exact ⟨0, rfl, by decide⟩
  ·exact ⟨0, rfl, by decide⟩
  ·exact ⟨1, rfl, by decide⟩
  ·exact ⟨2, rfl, by decide⟩
  ·exact ⟨3, rfl, by decide⟩
  ·exact ⟨5, rfl, by decide⟩
  ·exact ⟨39, rfl, by decide⟩
 obtain ⟨s, rfl, s1⟩ := hv'
 walk_at "w"; refine Run.bind (of_run hp1 (by omega) (by simp) (by simp)) ?_; rintro v m2 ⟨hv, hp2⟩
 have hv' : ∃ g : Nat, v = .int g /\ g <= 361 := by
  simp only [List.mem_cons, List.not_mem_nil, or_false] at hv
  rcases hv with rfl | rfl | rfl | rfl | rfl
  ·exact ⟨0, rfl, by decide⟩
  ·exact ⟨1, rfl, by decide⟩
  ·exact ⟨4, rfl, by decide⟩
  ·exact ⟨30, rfl, by decide⟩
  ·exact ⟨361, rfl, by decide⟩
 obtain ⟨g, rfl, g1⟩ := hv'
 walk_at "w"; rw [lst_6]; walk_at "w"; refine Run.bind (of_run hp2 (by omega) (by simp) (by simp)) ?_; rintro v m3 ⟨hv, hp3⟩
 have hv' : ∃ l : Nat, v = .int l /\ l <= 20 := by
  simp only [List.mem_cons, List.not_mem_nil, or_false] at hv
  rcases hv with rfl | rfl | rfl | rfl | rfl | rfl
  ·exact ⟨0, rfl, by decide⟩
  ·exact ⟨0, rfl, by decide⟩
  ·exact ⟨1, rfl, by decide⟩
  ·exact ⟨2, rfl, by decide⟩
  ·exact ⟨5, rfl, by decide⟩
  ·exact ⟨20, rfl, by decide⟩
 obtain ⟨l, rfl, l1⟩ := hv'
 walk_at "w"; rw [lst_7]; walk_at "w"; refine Run.bind (of_run hp3 (by omega) (by simp) (by simp)) ?_; rintro v m4 ⟨hv, hp4⟩
 have hv' : ∃ a : Nat, v = .int a /\ a <= 400 := by
  simp only [List.mem_cons, List.not_mem_nil, or_false] at hv
  rcases hv with rfl | rfl | rfl | rfl | rfl | rfl | rfl
  ·exact ⟨0, rfl, by decide⟩
  ·exact ⟨0, rfl, by decide⟩
  ·exact ⟨0, rfl, by decide⟩
  ·exact ⟨7, rfl, by decide⟩
  ·exact ⟨30, rfl, by decide⟩
  ·exact ⟨1, rfl, by decide⟩
  ·exact ⟨400, rfl, by decide⟩
 obtain ⟨a, rfl, a1⟩ := hv'
 walk_at "w"; rw [tup_of (by simp)]; walk_at "w"; exact Run.ok ⟨⟨s, s + g, l, a⟩, by simp [Rd4.e], ⟨s1, by show s <= s + g; omega, by show s + g <= 400; omega, l1, a1⟩, (hp1.via (hp2.via (hp3.via hp4))).more (by omega)⟩
theorem pact_run9 {m0 : Sto} {p q c most : Nat} {m : Sto} (hp : P3 m0 p q c m) (hc : c + 1000 < 2 ^ 40) (hm0 : 0 < most) (hm1 : most <= 12) :
  Run (gLawPact [.ob p, .int most] m) fun x m' => ∃ pt : Pt, x = pt.e /\ PtOk pt /\ 9 <= pt.wide /\ P3 m p q (c + 1000) m' := by
 unfold gLawPact gLawPact0; walk_at "w"; refine Run.bind (shape4_run hp (by omega) hm0 hm1) ?_; rintro _ m1 ⟨fs, n, rfl, n0, n1, f0, f1, hs, hp1⟩; walk_at "w"
 have hk : Run (aComp 1 (aRng rng1 (aCons (eFn gLawOf (aCons (eVar 0) (aCons (eFn gLst (aCons (eC (.int 0)) (aCons (eC (.int 1)) (aCons (eC (.int 2)) (aCons (eC (.int 3)) (aCons (eC (.int 5)) (aCons (eC (.int 12)) aNil))))))) aNil))) aNil)) (gN 4) tYesM (eFn gLawForm3 (aCons (eVar 0) (aCons (eVar 2) aNil))) [some (.ob p), some (.int most), some (shD fs n), none] m1) fun xs m' => ∃ fms : List Fm, xs = fms.map Fm.e /\ (∀ f ∈ fms, FmOk fs f) /\ fms.length <= 12 /\ P3 m p q (c + 950) m' := by
  unfold aComp; walk_at "w"; rw [lst_6]; walk_at "w"; refine Run.bind (of_run hp1 (by omega) (by simp) (by simp)) ?_; rintro v m2 ⟨hv, hp2⟩
  have hv' : ∃ k : Nat, v = .int k /\ k <= 12 := by
   simp only [List.mem_cons, List.not_mem_nil, or_false] at hv
   rcases hv with rfl | rfl | rfl | rfl | rfl | rfl
   ·exact ⟨0, rfl, by decide⟩
   ·exact ⟨1, rfl, by decide⟩
   ·exact ⟨2, rfl, by decide⟩
   ·exact ⟨3, rfl, by decide⟩
   ·exact ⟨5, rfl, by decide⟩
   ·exact ⟨12, rfl, by decide⟩
  obtain ⟨k, rfl, k1⟩ := hv'
  walk_at "w"; rw [rng_ok (by omega) (by omega)]; walk_at "w"; rw [if_pos (by rw [len_ints]; omega)]
  refine Run.mono (comp_run (g := gN 4) (ρ := [some (.ob p), some (.int most), some (shD fs n), none] ++ List.replicate 1 none) (fun k m' => P3 m p q (c + 201 + 62 * k) m') (fun i d x => ∃ f : Fm, x = f.e /\ FmOk fs f) (intsD 0 (k : Int).toNat) 0 (hp1.via hp2) ?_) ?_
  ·intro i d m' hd hI
   have hi := (List.getElem?_eq_some_iff.mp hd).1
   rw [len_ints] at hi
   rw [Nat.zero_add] at hI
   show Run (Res.bind (gN 4 d [some (.ob p), some (.int most), some (shD fs n), none, none] m') _) _
   walk_at "w"
   refine Run.mono (form3_run hI (by omega) hs.ok f1) ?_
   rintro a m3 ⟨f, rfl, hf, hp3⟩
   exact ⟨⟨f, rfl, hf⟩, (hI.via hp3).more (by omega)⟩
  ·rintro xs m' ⟨hlen, hP, hI⟩
   rw [len_ints] at hlen hI
   obtain ⟨l, rfl, hl⟩ := lift Fm.e (fun i f => FmOk fs f) xs 0 fun i x hx => by
    have hi : i < k := by have := (List.getElem?_eq_some_iff.mp hx).1; omega
    exact hP i (.int (i : Nat)) x (by simp [intsD, hi]) hx
   refine ⟨l, rfl, fun f hf => ?_, by rw [List.length_map] at hlen; omega, hI.more (by omega)⟩
   obtain ⟨i, hi⟩ := List.mem_iff_getElem?.mp hf
   exact hl i f hi
 refine Run.bind hk ?_; rintro _ m2 ⟨fms, rfl, hfm, hfl, hp2⟩; walk_at "w"; refine Run.bind (of_run hp2 (by omega) (by simp) (by simp)) ?_; rintro v m3 ⟨hv, hp3⟩
 have hv' : ∃ w : Nat, v = .int w /\ 9 <= w /\ w <= 40 := by
  simp only [List.mem_cons, List.not_mem_nil, or_false] at hv
  rcases hv with rfl | rfl | rfl | rfl
  ·exact ⟨9, rfl, by decide, by decide⟩
  ·exact ⟨12, rfl, by decide, by decide⟩
  ·exact ⟨16, rfl, by decide, by decide⟩
  ·exact ⟨40, rfl, by decide, by decide⟩
 obtain ⟨w, rfl, w0, w1⟩ := hv'
 walk_at "w"; refine Run.bind (road_run hp3 (by omega)) ?_; rintro _ m4 ⟨r, rfl, hr, hp4⟩; walk_at "w"; rw [tup_of (by simp)]; walk_at "w"; exact Run.ok ⟨⟨fs, n, w, fms, r⟩, rfl, ⟨n0, n1, f0, f1, hs, by show 0 < w; omega, w1, hfm, hfl, hr⟩, w0, (hp2.via (hp3.via hp4)).more (by omega)⟩
theorem pact_run {m0 : Sto} {p q c most : Nat} {m : Sto} (hp : P3 m0 p q c m) (hc : c + 1000 < 2 ^ 40) (hm0 : 0 < most) (hm1 : most <= 12) :
  Run (gLawPact [.ob p, .int most] m) fun x m' => ∃ pt : Pt, x = pt.e /\ PtOk pt /\ P3 m p q (c + 1000) m' := Run.mono (pact_run9 hp hc hm0 hm1) fun _ _ ⟨pt, h1, h2, _, h3⟩ => ⟨pt, h1, h2, h3⟩
theorem pow1060 {m : Sto} : powD (.int 10) (.int 60) m = .ok (.int (10 ^ 60)) m := by
 rw [powD_eq]
 have e : powR (.int 10) (.int 60) m = if (0 : Int) <= 60 /\ (60 : Int) <= 1000000 /\ (10 : Int).natAbs < 2 ^ 64 then .ok (.int ((10 : Int) ^ (60 : Int).toNat)) m else .bad := rfl
 rw [e, if_pos (by decide)]
 rfl
theorem pow1030 {m : Sto} : powD (.int 10) (.int 30) m = .ok (.int 1000000000000000000000000000000) m := by
 rw [powD_eq]
 have e : powR (.int 10) (.int 30) m = if (0 : Int) <= 30 /\ (30 : Int) <= 1000000 /\ (10 : Int).natAbs < 2 ^ 64 then .ok (.int ((10 : Int) ^ (30 : Int).toNat)) m else .bad := rfl
 rw [e, if_pos (by decide)]
 rfl
theorem mulB_i {a b : Int} {m : Sto} (h : a.natAbs.log2 < 1100 /\ b.natAbs.log2 < 1100) : mulB (.int a) (.int b) m = .ok (.int (a * b)) m := by rw [mulB_eq]; exact if_pos h
theorem far_pos : (0 : Int) < 10 ^ 60 * 10 ^ 60 * 10 ^ 60 * 10 ^ 60 * 10 ^ 60 := by decide +kernel
theorem abs_i (c : Int) {m : Sto} : absF [.int c] m = .ok (.int c.natAbs) m := by
 have e : (if c < 0 then -c else c) = (c.natAbs : Int) := by split <;> omega
 rw [<- e]
 rfl
theorem sl_scr {ns : List Int} {m : Sto} : slD (.scr (ns.map D.int)) none (some 63) m = .ok (.lst ((ns.take 63).map D.int)) m := by
 show Res.ok (D.lst (cutD (ns.map D.int) none (some ((63 : Nat) : Int)))) m = _
 rw [cut_to, List.map_take]
theorem box_run {ns : List Int} {m : Sto} (hn : ns.length <= 63) : Run (gLawBox [.scr (ns.map D.int)] m) fun a m' => ∃ p q, a = .ob p /\ P3 m' p q 0 m' := by
 unfold gLawBox gLawBox0; walk_at "w"; rw [new_0]; walk_at "w"; rw [pow1060]; walk_at "w"; rw [pow1060]; walk_at "w"; rw [mulB_i (by decide +kernel)]; walk_at "w"; rw [pow1060]; walk_at "w"; rw [mulB_i (by decide +kernel)]; walk_at "w"; rw [pow1060]; walk_at "w"; rw [mulB_i (by decide +kernel)]; walk_at "w"; rw [pow1060]; walk_at "w"; rw [mulB_i (by decide +kernel)]; walk_at "w"
 have hN := far_pos
 generalize (10 : Int) ^ 60 * 10 ^ 60 * 10 ^ 60 * 10 ^ 60 * 10 ^ 60 = N at hN; rw [sl_scr]; walk_at "w"
 have hr : (m ++ [MO.lst []])[m.length]? = some (.lst []) := by simp
 generalize m.length = r at hr ⊢; generalize m ++ [MO.lst []] = mA at hr ⊢; refine Run.bind (loop_run (fun k ρ m' => ∃ (seed : Int) (own : List Int) (x4 : Option D), ρ = [some (.scr (ns.map D.int)), some (.int seed), some (.ob r), some (.int N), x4] /\ m'[r]? = some (.lst (own.map D.int)) /\ own.length <= k /\ (∀ a ∈ own, 0 <= a) /\ 0 <= seed /\ seed < 2305843009213693951) ((ns.take 63).map D.int) 0 ⟨41, [], none, rfl, hr, Nat.le_refl _, fun _ h => (nomatch h), by decide, by decide⟩ ?_) ?_
 ·rintro i d ρ m1 hd ⟨seed, own, x4, rfl, g1, g2, g3, g4, g5⟩
  have hi := (List.getElem?_eq_some_iff.mp hd).1
  rw [List.length_map, List.length_take] at hi
  obtain ⟨v, hv, rfl⟩ := List.mem_map.mp (List.mem_of_getElem? hd)
  walk_at "w"; rw [mul_i ⟨by decide, by decide⟩]; walk_at "w"; rw [pow1030]; walk_at "w"; rw [mod_i (by decide)]; walk_at "w"; rw [mod_i (by decide)]; walk_at "w"; rw [abs_i]; walk_at "w"; rw [pow1018]; walk_at "w"; generalize hS : (seed * 1000003 + v % 1000000000000000000000000000000 + 7) % 2305843009213693951 = S
  have S0 : 0 <= S := by rw [<- hS]; exact Int.emod_nonneg _ (by decide)
  have S1 : S < 2305843009213693951 := by rw [<- hS]; exact Int.emod_lt_of_pos _ (by decide)
  by_cases hb : (1000000000000000000 : Int) <= (v.natAbs : Int)
  ·rw [if_pos hb]; walk_at "w"; rw [if_pos (is_lst g1)]; walk_at "w"; rw [abs_i]; walk_at "w"; rw [mod_i hN]; walk_at "w"; rw [app_ok g1 (by rw [List.length_map]; exact small_lt (by omega))]; walk_at "w"
   refine Run.ok ⟨_, rfl, S, own ++ [(v.natAbs : Int) % N], _, rfl, by rw [set_get g1, List.map_append]; rfl, by rw [List.length_append]; show own.length + 1 <= _; omega, fun a ha => ?_, S0, S1⟩
   rcases List.mem_append.mp ha with ha | ha
   ·exact g3 a ha
   ·rw [List.mem_singleton.mp ha]
    exact Int.emod_nonneg _ (by omega)
  ·rw [if_neg hb]; walk_at "w"; exact Run.ok ⟨_, rfl, S, own, _, rfl, g1, by omega, g3, S0, S1⟩
 ·rintro _ m1 ⟨ρ, rfl, seed, own, x4, rfl, g1, g2, g3, g4, g5⟩
  rw [Nat.zero_add, List.length_map, List.length_take] at g2
  walk_at "w"; rw [show eDict [("own", eVar 2), ("seed", eVar 1), ("turn", eC (.int 0))] [some (.scr (ns.map D.int)), some (.int seed), some (.ob r), some (.int N), x4] m1 = .ok (.ob m1.length) (m1 ++ [.dct (boxL r seed 0)]) from rfl]; walk_at "w"
  have hrl := (List.getElem?_eq_some_iff.mp g1).1
  exact Run.ok ⟨m1.length, r, rfl, ⟨⟨own, seed, 0, by simp, by rw [List.getElem?_append_left hrl]; exact g1, by omega, by omega, g3, g4, by omega, by decide, by decide⟩, Fr.refl⟩⟩
theorem add_ll {a b : List D} {m : Sto} (h : a.length + b.length <= 1000) : addD (.lst a) (.lst b) m = .ok (.lst (a ++ b)) m := if_pos (Nat.le_trans h (by decide))
open PySem L2
theorem all_trueM {τ : Type} (l : List τ) {m : Sto} : allF [.lst (l.map fun _ => D.bl true)] m = .ok (.bl true) m := by
 rw [show (l.map fun _ => D.bl true) = (l.map fun _ => true).map D.bl by simp, all_bls]
 simp
section
variable {c f mth : Str} {fa fv : EV} {fr : AV} {ρ : En} {m : Sto} {d : D} {g : List D -> Sto -> Res D}
def kFs3 (ρ : En) : Unit -> Sto -> Res Fl := fun _ m3 => .ok (.nx ρ) m3
def kFs2 (c f : Str) (ρ : En) (y : D) : D -> Sto -> Res Fl := fun x m2 => (setM c f x y m2).bind (kFs3 ρ)
def kFs1 (c f : Str) (fo : EV) (ρ : En) : D -> Sto -> Res Fl := fun y m1 => (fo ρ m1).bind (kFs2 c f ρ y)
theorem fld_at : eFld c f fa ρ m = (fa ρ m).bind (fldM c f) := rfl
theorem sfld_at : sFldM c f fa fv ρ m = (fv ρ m).bind (kFs1 c f fa ρ) := rfl
theorem kfs1_at : kFs1 c f fa ρ d m = (fa ρ m).bind (kFs2 c f ρ d) := rfl
theorem kfs2_at (x : D) : kFs2 c f ρ d x m = (setM c f x d m).bind (kFs3 ρ) := rfl
theorem kfs3_at : kFs3 ρ () m = .ok (.nx ρ) m := rfl
def kMt2 (g : List D -> Sto -> Res D) (x : D) : List D -> Sto -> Res D := fun ds m2 => g (x :: ds) m2
def kMt1 (c mth : Str) (g : List D -> Sto -> Res D) (fr : AV) (ρ : En) : D -> Sto -> Res D := fun x m1 => if insOk c mth x m1 = true then (fr ρ m1).bind (kMt2 g x) else .bad
theorem mth_at : eMth c mth g fa fr ρ m = (fa ρ m).bind (kMt1 c mth g fr ρ) := rfl
theorem kmt1_at : kMt1 c mth g fr ρ d m = if insOk c mth d m = true then (fr ρ m).bind (kMt2 g d) else .bad := rfl
theorem kmt2_at (ds : List D) : kMt2 g d ds m = g (d :: ds) m := rfl
def kPar3 (i j k : Nat) (ρ : En) : List D -> Sto -> Res Fl := fun ds m1 => match ds with
 | [x, y, z] => .ok (.nx (((ρ.set i (some x)).set j (some y)).set k (some z))) m1
 | _ => .bad
theorem par3_at (i j k : Nat) : sPar3 i j k fr ρ m = (fr ρ m).bind (kPar3 i j k ρ) := rfl
theorem kpar3_at (i j k : Nat) (x y z : D) : kPar3 i j k ρ [x, y, z] m = .ok (.nx (((ρ.set i (some x)).set j (some y)).set k (some z))) m := rfl
def kForO (h : GV) (b : SV) (ρ : En) : Nat × MO × List D -> Sto -> Res Fl := fun t m1 => loopO t.1 t.2.1 h b t.2.2 ρ m1
theorem forO_at {it : OI} {h : GV} {b : SV} : sForO it h b ρ m = (it ρ m).bind (kForO h b ρ) := rfl
theorem kforO_at {h : GV} {b : SV} (k : Nat) (o : MO) (ds : List D) : kForO h b ρ (k, o, ds) m = loopO k o h b ds ρ m := rfl
theorem objI_at : aObj fa ρ m = (fa ρ m).bind asObj := rfl
theorem isnt_in (i : Int) : isntD (.int i) .non m = .ok (.bl true) m := rfl
theorem is_in (i : Int) : isD (.int i) .non m = .ok (.bl false) m := rfl
end
local macro_rules | `(tactic| walk_at "w") => do
  let ids := ("run_at fin_nx fin_rt seq_at seq_nx seq_rt nil_at ret_at rt_at retN_at drop_at kdrop_at if_at kif_at asg_at kasg_at nx_at gs_nil gs_cons gT_at par_at kpar_at List.set_cons_zero List.set_cons_succ for_at kfor_at eC_at op_at kop_at un_at fn_at ife_at kife_at aNil_at aCons_at kcons_at kcons2_at asB_at tV_at andT_at kandT_at orT_at korT_at notT_at knotT_at and_at kand_at or_at kor_at not_at knot_at aIt_at sq_t sq_l sq_s sq_c rngA_at enumA_at kenum_t kenum_l zipA_at kzip_at zip3A_at kzip3_at kzip4_at oNone_at oSome_at ksome_at slD_at ksl1_at ksl2_at slA_at kslA1_at kslA2_at meth_at kmeth_at isStr_at isTup_at chain_at kch1_at kch2_at kch3_at put_at kputA_at kputB_at kputC_at kputE_at bind_ok bind_then then_at var_0 var_S gN_at Bool.false_eq_true reduceIte List.map_cons List.map_nil List.length_cons List.length_nil Nat.reduceAdd Nat.reduceSub List.cons_append List.nil_append add_i sub_i eq_i ne_i eq_s ne_s lt_i le_i gt_i ge_i lst_0 lst_2 lst_3 lst_4 lst_5 tup_0 tup_1 tup_2 tup_3 min_i len_t len_l tup_l l1 ix_t0 ix_t1 ix_t2 List.replicate List.append_nil decide_eq_true_eq Bool.not_true Bool.not_false eq_self not_true_eq_false not_false_eq_true decide_true decide_false ofs_eq String.reduceEq fld_at sfld_at kfs1_at kfs2_at kfs3_at mth_at kmt1_at kmt2_at par3_at kpar3_at forO_at kforO_at objI_at isnt_in is_in is_nn isnt_nn max_i".splitOn " ").toArray.map fun s => Lean.mkIdent s.toName
  `(tactic| try simp only [$[$ids:ident],*])
def onD : Option Nat -> D
 | none => .non
 | some n => .int n
section
variable {m : Sto} {k l : Nat} {pt : Pt} {hs : List (List Int)} {had base : Option Nat} {fresh : Nat}
theorem ix_pt0 (pt : Pt) {m : Sto} : ixD pt.e (.int 0) m = .ok (shD pt.fs pt.n) m := ix_t0 _ _
theorem ix_pt1 (pt : Pt) {m : Sto} : ixD pt.e (.int 1) m = .ok (.int pt.wide) m := ix_t1 _ _ _
theorem ix_pt2 (pt : Pt) {m : Sto} : ixD pt.e (.int 2) m = .ok (.tup (pt.fms.map Fm.e)) m := ix_t2 _ _ _ _
end
def wdN (n : Nat) : Nat := if n <= 1 then 0 else (n - 1).log2 + 1
theorem wdN_lt {n w : Nat} : 2 ^ w < n ↔ w < wdN n := by
 unfold wdN
 by_cases h : n <= 1
 ·rw [if_pos h]
  have := Nat.one_le_two_pow (n := w)
  omega
 ·rw [if_neg h, Nat.lt_succ_iff, Nat.le_log2 (by omega)]
  omega
def wfT : TV := (tV (eOp ltD (eVar 2) (eVar 0)))
def wfB : SV := (sSeq (sAsg (eOp mulD (eVar 2) (eC (.int 2))) (gN 2)) (sAsg (eOp addD (eVar 1) (eC (.int 1))) (gN 1)))
theorem wf_loop {n : Nat} {m : Sto} : ∀ (j w fuel : Nat), w + j = wdN n -> j < fuel -> loopW wfT wfB fuel [some (.int n), some (.int w), some (.int (2 ^ w))] m = .ok (.nx [some (.int n), some (.int (wdN n)), some (.int (2 ^ wdN n))]) m
 | 0, w, 0, _, h => absurd h (Nat.not_lt_zero _)
 | 0, w, fuel + 1, e, _ => by
  have hw : w = wdN n := by omega
  subst hw
  have hn : ¬ ((2 : Int) ^ wdN n < n) := by
   have := mt wdN_lt.mp (Nat.lt_irrefl (wdN n))
   exact_mod_cast this
  rw [loopW]
  have et : wfT [some (.int n), some (.int (wdN n)), some (.int (2 ^ wdN n))] m = .ok false m := by
   unfold wfT; walk_at "w"; rw [decide_eq_false hn]
  rw [et, bind_ok, if_neg (by decide)]
 | j + 1, w, 0, _, h => absurd h (Nat.not_lt_zero _)
 | j + 1, w, fuel + 1, e, h => by
  have hn : (2 : Int) ^ w < n := by
   have := wdN_lt.mpr (show w < wdN n by omega)
   exact_mod_cast this
  rw [loopW]
  have et : wfT [some (.int n), some (.int w), some (.int (2 ^ w))] m = .ok true m := by
   unfold wfT; walk_at "w"; rw [decide_eq_true hn]
  have eb : wfB [some (.int n), some (.int w), some (.int (2 ^ w))] m = .ok (.nx [some (.int n), some (.int ((w + 1 : Nat) : Int)), some (.int (2 ^ (w + 1)))]) m := by
   unfold wfB; walk_at "w"; rw [mul_i ⟨by decide, by decide⟩]; walk_at "w"; rw [Int.pow_succ]
   rfl
  rw [et, bind_ok, if_pos rfl, eb, bind_ok]
  exact wf_loop j (w + 1) fuel (by omega) (by omega)
theorem widthFor_w {n : Nat} {m : Sto} (h : n <= 2 ^ 50) : gWidthFor [.int n] m = .ok (.int (wdN n)) m := by
 have hw : wdN n <= 50 := Nat.le_of_not_lt fun z => by
  have := wdN_lt.mpr z
  omega
 apply run_eq
 unfold gWidthFor runF
 show Run (Res.bind (sSeq (sAsg (eC (.int 0)) (gN 1)) (sSeq (sAsg (eC (.int 1)) (gN 2)) (sSeq (sWhile fuelW wfT wfB) (sRet (eVar 1)))) [some (.int n), none, none] m) finF) _
 walk_at "w"; rw [while_at]
 have := wf_loop (n := n) (m := m) (wdN n) 0 fuelW (by omega) (Nat.lt_of_le_of_lt hw (by decide))
 rw [show ((0 : Nat) : Int) = 0 from rfl, show ((2 : Int) ^ 0) = 1 from rfl] at this
 rw [this]; walk_at "w"; exact Run.ok ⟨rfl, rfl⟩
def fmW (pt : Pt) : Fm := ⟨1, pt.wide, List.replicate pt.fs.length .whole⟩
def fmAt (pt : Pt) : Option Nat -> Fm
 | none => fmW pt
 | some i => pt.fms.getD i ⟨1, 1, []⟩
def atOk (pt : Pt) : Option Nat -> Prop
 | none => True
 | some i => i < pt.fms.length
theorem fmW_ok {pt : Pt} (h : PtOk pt) : FmOk pt.fs (fmW pt) := ⟨by show 0 < 1; decide, by show 1 <= 40; decide, h.w0, h.w1, ⟨by simp [fmW], fun i f w hf hw => by
 simp only [fmW] at hw
 have := List.mem_of_getElem? hw
 rw [(List.mem_replicate.mp this).2]
 exact trivial⟩⟩
theorem fmAt_ok {pt : Pt} (h : PtOk pt) {at' : Option Nat} (ha : atOk pt at') : FmOk pt.fs (fmAt pt at') := by
 cases at' with
 | none => exact fmW_ok h
 | some i =>
  have hi : i < pt.fms.length := ha
  show FmOk pt.fs (pt.fms.getD i ⟨1, 1, []⟩)
  simp only [List.getD, List.getElem?_eq_getElem hi, Option.getD_some]
  exact h.fm _ (List.getElem_mem hi)
def lsz (pt : Pt) (at' : Option Nat) : Nat := wdN (1 + pt.fms.length) + (fmAt pt at').b + (wsOf pt.fs (fmAt pt at').wys).sum + wdN pt.n.toNat
def ckS (hd : List Int) : Int := ((List.range hd.length).map fun i : Nat => ((i : Int) + 2) * hd.getD i 0).sum
def ckV (pt : Pt) (number : Nat) (hd : List Int) : Int := ((number : Int) + ckS hd) % pt.n
theorem sum_i {xs : List Int} {m : Sto} (h : (∀ a, a ∈ xs -> 0 <= a /\ a <= 2 ^ 50) /\ xs.length <= 1000) : sumF [.lst (xs.map D.int)] m = .ok (.int xs.sum) m := by
 simp only [sumF, lOf, Option.bind_some, asInts_map]
 exact if_pos h
def srtI : Option Nat -> Int
 | none => 0
 | some i => 1 + (i : Int)
def ltL (pt : Pt) (at' : Option Nat) (number : Nat) (hd : List Int) : List Nat := dgs (srtI at') (wdN (1 + pt.fms.length)) ++ dgs ((number : Int) % 2 ^ (fmAt pt at').b) (fmAt pt at').b ++ pcK pt.fs (fmAt pt at').wys hd pt.fs.length ++ dgs (ckV pt number hd) (wdN pt.n.toNat)
theorem wdN_le {n : Nat} (h : n <= 2 ^ 50) : wdN n <= 50 := Nat.le_of_not_lt fun z => by
 have := wdN_lt.mpr z
 omega
theorem str_app (a b : List Nat) : ((⟨a.toArray⟩ : Str) ++ ⟨b.toArray⟩) = ⟨(a ++ b).toArray⟩ := by
 apply str_ext
 show (a.toArray ++ b.toArray).toList = _
 simp
theorem add_str {a b : List Nat} {m : Sto} (h : a.length + b.length <= 100000) : addD (.str ⟨a.toArray⟩) (.str ⟨b.toArray⟩) m = .ok (.str ⟨(a ++ b).toArray⟩) m := by
 rw [add_ss (show a.toArray.size + b.toArray.size <= sizeLine from by simp; exact Nat.le_trans h (by decide)), str_app]
structure PtW (p : Pt) : Prop where
 n0 : 0 < p.n
 n1 : p.n <= 1000000
 f0 : 0 < p.fs.length
 f1 : p.fs.length <= 12
 sh : ShOk p.fs
 w0 : 0 < p.wide
 w1 : p.wide <= 40
 fm : ∀ f ∈ p.fms, FmOk p.fs f
 fml : p.fms.length <= 12
theorem zip_self : ∀ l : List D, zipD l l = l.map fun a => D.tup [a, a]
 | [] => rfl
 | a :: r => by simp only [List.map_cons, zipD, zip_self r]
theorem same_low {n : Nat} {d : D} {m : Sto} (h : d = .non ∨ ∃ a, d = .int a) : gLawSameN (n + 1) [d, d] m = .ok (.bl true) m := by
 apply run_eq
 rcases h with rfl | ⟨a, rfl⟩
 ·rw [gLawSameN]
  unfold gLawSame0; walk_at "w"; rw [isi_tn]; walk_at "w"; exact Run.ok ⟨rfl, rfl⟩
 ·exact same_int
section
variable {m0 m : Sto} {p q c : Nat} {fs : List Fd} {n : Int}
theorem anyHead_run (hp : P3 m0 p q c m) (hc : c + 30 < 2 ^ 40) (hs : ShOk fs) (hl : fs.length <= 12) :
  Run (gLawAnyHead [.ob p, shD fs n] m) fun a m' => ∃ hd, a = inD2 hd /\ HdOk fs hd /\ P3 m p q (c + 30) m' := by
 unfold gLawAnyHead gLawAnyHead0 shD; walk_at "w"; refine Run.bind (aComp_run (ds := fs.map Fd.e) (fun k m' => P3 m p q (c + 2 * k) m') (fun i d x => ∃ v : Int, x = .int v /\ ∀ f, fs[i]? = some f -> 0 <= v /\ v < 2 ^ f.b) (by walk_at "w") (by rw [List.length_map]; omega) hp.re ?_) ?_
 ·intro i d m' hd hI
  have hi : i < fs.length := by have := (List.getElem?_eq_some_iff.mp hd).1; simpa using this
  have e1 := List.getElem?_eq_getElem hi
  have hd' : d = fs[i].e := by
   rw [List.getElem?_map, e1] at hd
   simpa using hd.symm
  subst hd'
  obtain ⟨b0, b1, hk⟩ := hs i _ e1
  simp only [Fd.e]; walk_at "w"
  refine Run.mono (value3_run hI (by omega) b1) ?_
  rintro a m3 ⟨v, rfl, v0, v1, hp3⟩
  exact ⟨⟨v, rfl, fun f hf => by rw [e1] at hf; cases hf; exact ⟨v0, v1⟩⟩, (hI.via hp3).more (by omega)⟩
 ·rintro xs m' ⟨hlen, hP, hI⟩; walk_at "w"
  rw [List.length_map] at hlen hI
  obtain ⟨l, rfl, hl2⟩ := lift D.int (fun i v => ∀ f, fs[i]? = some f -> 0 <= v /\ v < 2 ^ f.b) xs 0 fun i x hx => by
   have hi : i < fs.length := by have := (List.getElem?_eq_some_iff.mp hx).1; omega
   rw [Nat.zero_add]
   exact hP i fs[i].e x (by rw [List.getElem?_map, List.getElem?_eq_getElem hi]; rfl) hx
  refine Run.ok ⟨l, rfl, ⟨by simpa using hlen, fun i f v hf hv => ?_⟩, hI.more (by omega)⟩
  have := hl2 i v hv
  rw [Nat.zero_add] at this
  exact this f hf
end
def lwT : TV := (tV (eOp ltD (eOp shlD (eC (.int 1)) (eVar 1)) (eVar 0)))
def lwB : SV := (sAsg (eOp addD (eVar 1) (eC (.int 1))) (gN 1))
theorem lw_loop {n : Nat} {m : Sto} (h50 : wdN n <= 50) : ∀ (j w fuel : Nat), w + j = wdN n -> j < fuel -> loopW lwT lwB fuel [some (.int n), some (.int w)] m = .ok (.nx [some (.int n), some (.int (wdN n))]) m
 | 0, w, 0, _, h => absurd h (Nat.not_lt_zero _)
 | 0, w, fuel + 1, e, _ => by
  have hw : w = wdN n := by omega
  subst hw
  have hn : ¬ ((2 : Int) ^ wdN n < n) := by
   have := mt wdN_lt.mp (Nat.lt_irrefl (wdN n))
   exact_mod_cast this
  rw [loopW]
  have et : lwT [some (.int n), some (.int (wdN n))] m = .ok false m := by
   unfold lwT; walk_at "w"; rw [shl_1 (by omega)]; walk_at "w"; rw [decide_eq_false hn]
  rw [et, bind_ok, if_neg (by decide)]
 | j + 1, w, 0, _, h => absurd h (Nat.not_lt_zero _)
 | j + 1, w, fuel + 1, e, h => by
  have hn : (2 : Int) ^ w < n := by
   have := wdN_lt.mpr (show w < wdN n by omega)
   exact_mod_cast this
  rw [loopW]
  have et : lwT [some (.int n), some (.int w)] m = .ok true m := by
   unfold lwT; walk_at "w"; rw [shl_1 (by omega)]; walk_at "w"; rw [decide_eq_true hn]
  have eb : lwB [some (.int n), some (.int w)] m = .ok (.nx [some (.int n), some (.int ((w + 1 : Nat) : Int))]) m := by
   unfold lwB; walk_at "w"
   rfl
  rw [et, bind_ok, if_pos rfl, eb, bind_ok]
  exact lw_loop h50 j (w + 1) fuel (by omega) (by omega)
theorem lawWidth_w {n : Nat} {m : Sto} (h : n <= 2 ^ 50) : gLawWidth2 [.int n] m = .ok (.int (wdN n)) m := by
 have hw := wdN_le h
 apply run_eq
 unfold gLawWidth2 runF
 show Run (Res.bind (sSeq (sAsg (eC (.int 0)) (gN 1)) (sSeq (sWhile fuelW lwT lwB) (sRet (eVar 1))) [some (.int n), none] m) finF) _
 walk_at "w"; rw [while_at]
 have := lw_loop (n := n) (m := m) hw (wdN n) 0 fuelW (by omega) (Nat.lt_of_le_of_lt hw (by decide))
 rw [show ((0 : Nat) : Int) = 0 from rfl] at this
 rw [this]; walk_at "w"; exact Run.ok ⟨rfl, rfl⟩
def ckP (hd : List Int) (k : Nat) : Int := ((List.range k).map fun i : Nat => ((i : Int) + 2) * hd.getD i 0).sum
theorem ckP_s (hd : List Int) (k : Nat) : ckP hd (k + 1) = ckP hd k + ((k : Int) + 2) * hd.getD k 0 := by
 unfold ckP; rw [List.range_succ, List.map_append, List.sum_append]
 simp
theorem lawCheck_w {pt : Pt} {number : Nat} {hd : List Int} {m : Sto} (h : PtOk pt) (hh : HdOk pt.fs hd) : gLawCheck [shD pt.fs pt.n, .int number, inD2 hd] m = .ok (.int (ckV pt number hd)) m := by
 have hl := hh.len
 have h1 := h.f1
 apply run_eq
 unfold gLawCheck gLawCheck0 inD2; walk_at "w"; rw [List.length_map, rng_ok (by omega) (by omega)]; walk_at "w"; refine Run.bind (loop_run (fun k ρ m' => ∃ x4 : Option D, ρ = [some (shD pt.fs pt.n), some (.int number), some (.tup (hd.map D.int)), some (.int ((number : Int) + ckP hd k)), x4] /\ m' = m) _ 0 ⟨_, by rw [show ckP hd 0 = 0 from rfl, Int.add_zero], rfl⟩ ?_) ?_
 ·rintro i d ρ m1 hd1 ⟨x4, rfl, rfl⟩
  have hi := (List.getElem?_eq_some_iff.mp hd1).1
  rw [len_ints] at hi
  have := at_ints hd1
  subst this
  rw [Nat.zero_add]
  have e2 := List.getElem?_eq_getElem (show i < hd.length by omega)
  walk_at "w"; rw [ix_ints e2]; walk_at "w"; rw [mul_j ⟨by omega, by omega⟩]; walk_at "w"
  have e3 : (number : Int) + ckP hd (i + 1) = (number : Int) + ckP hd i + ((i : Int) + 2) * hd[i] := by rw [ckP_s, List.getD, e2, Option.getD_some, Int.add_assoc]
  rw [<- e3]; exact Run.ok ⟨_, rfl, _, rfl, rfl⟩
 ·rintro _ m1 ⟨ρ, rfl, x4, rfl, rfl⟩; rw [Nat.zero_add, len_ints]; walk_at "w"; rw [show ixD (shD pt.fs pt.n) (.int 1) m1 = .ok (.int pt.n) m1 from ix_t1 _ _ _]; walk_at "w"; rw [mod_i h.n0]; exact Run.ok ⟨rfl, rfl⟩
theorem lawPieces_w {pt : Pt} {hd : List Int} {m : Sto} (h : PtOk pt) (hh : HdOk pt.fs hd) : gLawPieces2 [shD pt.fs pt.n, .non, inD2 hd] m = .ok (.str ⟨(pcK pt.fs (fmW pt).wys hd pt.fs.length).toArray⟩) m := by
 have hl := hh.len
 have h1 := h.f1
 have hw := (fmW_ok h).wy
 apply run_eq
 unfold gLawPieces2 gLawPieces20 inD2 shD; walk_at "w"; refine Run.bind (loop_run (fun k ρ m' => ∃ x4 x5 x6 : Option D, ρ = [some (.tup [.tup (pt.fs.map Fd.e), .int pt.n]), some .non, some (.tup (hd.map D.int)), some (.str ⟨(pcK pt.fs (fmW pt).wys hd k).toArray⟩), x4, x5, x6] /\ m' = m) (enumD 0 (pt.fs.map Fd.e)) 0 ⟨_, _, _, rfl, rfl⟩ ?_) ?_
 ·rintro i d ρ m1 hd1 ⟨x4, x5, x6, rfl, rfl⟩
  obtain ⟨f, e1, rfl⟩ := enum_at hd1
  have hi := (List.getElem?_eq_some_iff.mp e1).1
  obtain ⟨b0, b1, _⟩ := h.sh.ok i f e1
  have e2 := List.getElem?_eq_getElem (show i < hd.length by omega)
  have e3 : (fmW pt).wys[i]? = some .whole := by simp [fmW, hi]
  have hpl := pcK_len hw hh i (by omega)
  have hsb := sumN_bd h.sh.ok hw i (by omega)
  rw [Nat.zero_add]; walk_at "w"; simp only [Fd.e]; walk_at "w"; rw [ix_ints e2]; walk_at "w"; rw [shl_1 (by omega)]; walk_at "w"; rw [mod_i (p2 f.b)]; walk_at "w"; rw [run_eq (bits_run' b1)]; walk_at "w"; rw [add_str (by rw [dgs_len, hpl]; omega)]; walk_at "w"
  have e4 : pcK pt.fs (fmW pt).wys hd i ++ dgs (hd[i] % 2 ^ f.b) f.b = pcK pt.fs (fmW pt).wys hd (i + 1) := by
   rw [pcK, e1, e2, e3]
   rfl
  rw [e4]; exact Run.ok ⟨_, rfl, _, _, _, rfl, rfl⟩
 ·rintro _ m1 ⟨ρ, rfl, x4, x5, x6, rfl, rfl⟩; rw [Nat.zero_add, enum_len]; walk_at "w"; exact Run.ok ⟨rfl, rfl⟩
theorem lawLetter_w {pt : Pt} {number : Nat} {hd : List Int} {m : Sto} (h : PtOk pt) (hh : HdOk pt.fs hd) : gLawLetter [pt.e, .non, .int number, inD2 hd] m = .ok (.str ⟨(ltL pt none number hd).toArray⟩) m := by
 have hf := fmW_ok h
 have w1 := wdN_le (n := 1 + pt.fms.length) (by have := h.fml; omega)
 have w2 := wdN_le (n := pt.n.toNat) (by have := h.n1; omega)
 have hb := h.w1
 have hpl := pcK_len hf.wy hh pt.fs.length (Nat.le_refl _)
 have hsb := sumN_bd h.sh.ok hf.wy pt.fs.length (Nat.le_refl _)
 have hf1 := h.f1
 have hfl := h.fml
 have hn1 := h.n1
 have hn0 := h.n0
 have u1 : wdN (1 + pt.fms.length) <= 40 := Nat.le_of_not_lt fun z => by
  have := wdN_lt.mpr z
  omega
 have u2 : wdN pt.n.toNat <= 40 := Nat.le_of_not_lt fun z => by
  have := wdN_lt.mpr z
  omega
 apply run_eq
 unfold gLawLetter gLawLetter0 Pt.e
 walk_at "w"; rw [show (1 : Int) + (((pt.fms.map Fm.e).length : Nat) : Int) = ((1 + pt.fms.length : Nat) : Int) by rw [List.length_map]; omega, lawWidth_w (by omega)]; walk_at "w"; rw [run_eq (bits_run' u1)]; walk_at "w"; rw [shl_1 (by omega)]; walk_at "w"; rw [mod_i (p2 pt.wide)]; walk_at "w"; rw [run_eq (bits_run' hb)]; walk_at "w"; rw [add_str (by rw [dgs_len, dgs_len]; omega)]; walk_at "w"
 rw [lawPieces_w h hh]; walk_at "w"; rw [add_str (by rw [List.length_append, dgs_len, dgs_len, hpl]; omega)]; walk_at "w"; rw [lawCheck_w h hh]; walk_at "w"; rw [show ixD (shD pt.fs pt.n) (.int 1) m = .ok (.int pt.n) m from ix_t1 _ _ _]; walk_at "w"
 rw [show gLawWidth2 [.int pt.n] m = .ok (.int (wdN pt.n.toNat)) m by
  have := lawWidth_w (n := pt.n.toNat) (m := m) (by omega)
  rw [show ((pt.n.toNat : Nat) : Int) = pt.n by omega] at this
  exact this]
 walk_at "w"; rw [run_eq (bits_run' u2)]; walk_at "w"; rw [add_str (by rw [List.length_append, List.length_append, dgs_len, dgs_len, dgs_len, hpl]; omega)]; exact Run.ok ⟨rfl, rfl⟩
theorem fmW_6 {pt : Pt} (h : PtW pt) : FmOk pt.fs (fmW pt) := ⟨by show 0 < 1; decide, by show 1 <= 40; decide, h.w0, h.w1, ⟨by simp [fmW], fun i f w hf hw => by
 simp only [fmW] at hw
 have := List.mem_of_getElem? hw
 rw [(List.mem_replicate.mp this).2]
 exact trivial⟩⟩
theorem fmAt_6 {pt : Pt} (h : PtW pt) {at' : Option Nat} (ha : atOk pt at') : FmOk pt.fs (fmAt pt at') := by
 cases at' with
 | none => exact fmW_6 h
 | some i =>
  have hi : i < pt.fms.length := ha
  show FmOk pt.fs (pt.fms.getD i ⟨1, 1, []⟩)
  simp only [List.getD, List.getElem?_eq_getElem hi, Option.getD_some]
  exact h.fm _ (List.getElem_mem hi)
theorem formAt_6 {pt : Pt} {at' : Option Nat} {m : Sto} (h : PtW pt) (ha : atOk pt at') : gFormAt [pt.e, onD at'] m = .ok (fmAt pt at').e m := by
 apply run_eq
 unfold gFormAt gFormAt0
 cases at' with
 | none =>
  simp only [onD]; walk_at "w"; rw [ix_pt1]; walk_at "w"; rw [ix_pt0]; walk_at "w"; rw [ix_sh]; walk_at "w"; rw [List.length_map, mul_t ⟨by have := h.f0; omega, by have := h.f1; omega⟩]; walk_at "w"
  refine Run.ok ⟨?_, rfl⟩
  simp only [fmAt, fmW, Fm.e, fmD, List.map_replicate, Int.toNat_natCast, Wy.e]
  rfl
 | some i =>
  have hi : i < pt.fms.length := ha
  simp only [onD]; walk_at "w"; rw [ix_pt2]; walk_at "w"
  rw [ix_t (d := (fmAt pt (some i)).e) (by
   rw [List.getElem?_map, List.getElem?_eq_getElem hi]
   simp [fmAt, List.getD, List.getElem?_eq_getElem hi])]
  exact Run.ok ⟨rfl, rfl⟩
theorem sortW_6 {pt : Pt} {m : Sto} (h : PtW pt) : gSortWidth [pt.e] m = .ok (.int (wdN (1 + pt.fms.length))) m := by
 apply run_eq
 unfold gSortWidth gSortWidth0; walk_at "w"; rw [ix_pt2]; walk_at "w"; rw [List.length_map, show (1 : Int) + (pt.fms.length : Nat) = ((1 + pt.fms.length : Nat) : Int) by push_cast; rfl, widthFor_w (by have := h.fml; omega)]; exact Run.ok ⟨rfl, rfl⟩
theorem checkW_6 {pt : Pt} {m : Sto} (h : PtW pt) : gCheckWidth [pt.e] m = .ok (.int (wdN pt.n.toNat)) m := by
 have h0 := h.n0
 have h1 := h.n1
 apply run_eq
 unfold gCheckWidth gCheckWidth0; walk_at "w"; rw [ix_pt0]; walk_at "w"; rw [show ixD (shD pt.fs pt.n) (.int 1) m = .ok (.int pt.n) m from ix_t1 _ _ _]; walk_at "w"
 have e := widthFor_w (n := pt.n.toNat) (m := m) (by omega)
 rw [Int.toNat_of_nonneg (by omega)] at e
 rw [e]; exact Run.ok ⟨rfl, rfl⟩
theorem letterSize_6 {pt : Pt} {at' : Option Nat} {m : Sto} (h : PtW pt) (ha : atOk pt at') : gLetterSize [pt.e, onD at'] m = .ok (.int (lsz pt at')) m := by
 apply run_eq
 unfold gLetterSize gLetterSize0; walk_at "w"; rw [formAt_6 h ha]; walk_at "w"; rw [sortW_6 h]; walk_at "w"; rw [show ixD (fmAt pt at').e (.int 1) m = .ok (.int (fmAt pt at').b) m from ix_t1 _ _ _]; walk_at "w"; rw [ix_pt0]; walk_at "w"; rw [show gSizeOf [shD pt.fs pt.n, (fmAt pt at').e] m = .ok (.int ((wsOf pt.fs (fmAt pt at').wys).sum : Nat)) m from sizeOf_w h.sh h.f1 (fmAt_6 h ha).wy]; walk_at "w"
 rw [checkW_6 h]; walk_at "w"
 refine Run.ok ⟨?_, rfl⟩
 unfold lsz
 congr 1
theorem tx_size (l : List Nat) : (⟨l.toArray⟩ : Str).cps.size = l.length := List.size_toArray ..
theorem sl_txL {l : List Nat} {b : Nat} {m : Sto} (h : l.length <= 1000000) (hb : b <= l.length) : slD (.str ⟨l.toArray⟩) none (some (b : Int)) m = .ok (.str ⟨(l.take b).toArray⟩) m := by
 rw [sl_str (show (⟨l.toArray⟩ : Str).cps.size <= sizeLine by rw [tx_size]; exact Nat.le_trans h (by decide))]
 congr 2
 exact str_ext (by rw [Mth.slice_lo _ _ (by rw [tx_size]; exact hb)])
theorem sl_txM {l : List Nat} {a b : Nat} {m : Sto} (h : l.length <= 1000000) (ha : a <= b) (hb : b <= l.length) : slD (.str ⟨l.toArray⟩) (some (a : Int)) (some (b : Int)) m = .ok (.str ⟨((l.drop a).take (b - a)).toArray⟩) m := by
 rw [sl_str (show (⟨l.toArray⟩ : Str).cps.size <= sizeLine by rw [tx_size]; exact Nat.le_trans h (by decide))]
 congr 2
 exact str_ext (by rw [Mth.slice_mid _ _ _ ha (by rw [tx_size]; exact hb)])
theorem sl_txH {l : List Nat} {a : Nat} {m : Sto} (h : l.length <= 1000000) (ha : a <= l.length) : slD (.str ⟨l.toArray⟩) (some (a : Int)) none m = .ok (.str ⟨(l.drop a).toArray⟩) m := by
 rw [sl_str (show (⟨l.toArray⟩ : Str).cps.size <= sizeLine by rw [tx_size]; exact Nat.le_trans h (by decide))]
 congr 2
 exact str_ext (by rw [Mth.slice_hi _ _ (by rw [tx_size]; exact ha)])
theorem number_6 {l : List Nat} {m : Sto} (h : Bin l) : gNumberOf [.str ⟨l.toArray⟩] m = .ok (.int (numC l)) m := run_eq (number_run (z := ⟨l.toArray⟩) h)
theorem areBits_6 {l : List Nat} {m : Sto} (h : Bin l) : gAreBits [.str ⟨l.toArray⟩] m = .ok (.bl true) m := by
 apply run_eq
 unfold gAreBits gAreBits0; walk_at "w"; rw [show isiD "str" (.str ⟨l.toArray⟩) m = .ok (.bl true) m from rfl]; walk_at "w"; refine Run.bind (loop_run (fun k ρ m' => ∃ x, ρ = [some (.str ⟨l.toArray⟩), x] /\ m' = m) (signs ⟨l.toArray⟩) 0 ⟨_, rfl, rfl⟩ ?_) ?_
 ·rintro i d ρ m' hd ⟨x, rfl, rfl⟩
  obtain ⟨c, hc, rfl⟩ := signs_at hd
  walk_at "w"
  rcases h c (List.mem_of_getElem? hc) with rfl | rfl
  ·rw [if_neg (by decide)]; walk_at "w"; exact Run.ok ⟨_, rfl, _, rfl, rfl⟩
  ·rw [if_pos (by decide), show (!decide ((⟨#[49]⟩ : Str) = Str.ofString "1")) = false by decide]; walk_at "w"; exact Run.ok ⟨_, rfl, _, rfl, rfl⟩
 ·rintro _ m' ⟨ρ, rfl, x, rfl, rfl⟩; walk_at "w"; exact Run.ok ⟨rfl, rfl⟩
theorem lsz_bd {pt : Pt} {at' : Option Nat} (h : PtW pt) (ha : atOk pt at') : 0 < lsz pt at' /\ lsz pt at' <= 700 := by
 have hf := fmAt_6 h ha
 have hb0 := hf.b0
 have hb1 := hf.b1
 have hs := sumN_bd h.sh hf.wy pt.fs.length (Nat.le_refl _)
 have w1 := wdN_le (n := 1 + pt.fms.length) (by have := h.fml; omega)
 have w2 := wdN_le (n := pt.n.toNat) (by have := h.n1; omega)
 have hw : (wsOf pt.fs (fmAt pt at').wys).sum <= 40 * pt.fs.length := by
  have e : sumN (wsOf pt.fs (fmAt pt at').wys) pt.fs.length = (wsOf pt.fs (fmAt pt at').wys).sum := by
   unfold sumN; rw [List.take_of_length_le (by have := wsOf_len hf.wy; omega)]
  omega
 have := h.f1
 unfold lsz
 omega
theorem len_tx {l : List Nat} {m : Sto} (h : l.length <= 1000000) : lenF [.str ⟨l.toArray⟩] m = .ok (.int l.length) m := by
 have e : lenF [.str ⟨l.toArray⟩] m = if l.toArray.size <= sizeLine then .ok (.int (l.toArray.size : Nat)) m else .bad := rfl
 rw [e, List.size_toArray, if_pos (Nat.le_trans h (by decide))]
open PySem L2
theorem wsW (pt : Pt) : wsOf pt.fs (fmW pt).wys = pt.fs.map fun f => f.b := by
 unfold wsOf fmW
 induction pt.fs with
 | nil => rfl
 | cons f r ih =>
  show Wy.w f.b .whole :: List.zipWith (fun f w => Wy.w f.b w) r (List.replicate r.length .whole) = _
  rw [ih]
  rfl
def Sm7 : Nat -> D -> Prop
 | 0, d => d = .non ∨ (∃ a, d = .int a) ∨ ∃ s, d = .str s
 | n + 1, d => (d = .non ∨ (∃ a, d = .int a) ∨ ∃ s, d = .str s) ∨ ∃ xs, d = .tup xs /\ xs.length <= 1000 /\ ∀ x ∈ xs, Sm7 n x
theorem same_s7 {n : Nat} {s : Str} {m : Sto} : gLawSameN (n + 1) [.str s, .str s] m = .ok (.bl true) m := by
 apply run_eq
 rw [gLawSameN]
 unfold gLawSame0; walk_at "w"; rw [show isiD "tuple" (.str s) m = .ok (.bl false) m from rfl]; walk_at "w"; rw [show isD (.str s) .non m = .ok (.bl false) m from rfl]; walk_at "w"; rw [show isiD "str" (.str s) m = .ok (.bl true) m from rfl]; walk_at "w"; exact Run.ok ⟨by simp, rfl⟩
theorem same_l7 {n : Nat} {d : D} {m : Sto} (h : d = .non ∨ (∃ a, d = .int a) ∨ ∃ s, d = .str s) : gLawSameN (n + 1) [d, d] m = .ok (.bl true) m := by
 rcases h with rfl | ⟨a, rfl⟩ | ⟨s, rfl⟩
 ·exact same_low (.inl rfl)
 ·exact same_low (.inr ⟨_, rfl⟩)
 ·exact same_s7
theorem same_a7 : ∀ (n : Nat) (d : D) {m : Sto}, Sm7 n d -> gLawSameN (n + 1) [d, d] m = .ok (.bl true) m
 | 0, d, m, h => same_l7 h
 | n + 1, d, m, h => by
  rcases h with h | ⟨xs, rfl, hl, hx⟩
  ·exact same_l7 h
  apply run_eq
  rw [gLawSameN]
  unfold gLawSame0; walk_at "w"; rw [isi_tt]; walk_at "w"; rw [isi_tt]; walk_at "w"; rw [aComp_map (ds := xs.map fun a => D.tup [a, a]) (fun _ => .bl true)]
  ·walk_at "w"; rw [List.map_map, show ((fun _ => D.bl true) ∘ fun a : D => D.tup [a, a]) = fun _ => D.bl true from rfl, all_trueM]; walk_at "w"; exact Run.ok ⟨rfl, rfl⟩
  ·walk_at "w"; simp only [zip2]; rw [if_pos (Nat.le_refl _), zip_self]
  ·simp; omega
  ·intro d hd
   obtain ⟨x, hx', rfl⟩ := List.mem_map.mp hd
   refine ⟨_, rfl, ?_⟩
   exact same_a7 n x (hx x hx')
theorem sm7_i (n : Nat) (a : Int) : Sm7 n (.int a) := by cases n with
 | zero => exact .inr (.inl ⟨_, rfl⟩)
 | succ => exact .inl (.inr (.inl ⟨_, rfl⟩))
theorem sm7_s (n : Nat) (a : Str) : Sm7 n (.str a) := by cases n with
 | zero => exact .inr (.inr ⟨_, rfl⟩)
 | succ => exact .inl (.inr (.inr ⟨_, rfl⟩))
open PySem L2
theorem PtOk.w {pt : Pt} (h : PtOk pt) : PtW pt := ⟨h.n0, h.n1, h.f0, h.f1, h.sh.ok, h.w0, h.w1, h.fm, h.fml⟩
theorem widthOf_w {w : Wy} {b : Nat} {m : Sto} : gLawWidthOf [w.e, .int b] m = .ok (.int (w.w b : Nat)) m := by
 apply run_eq
 unfold gLawWidthOf gLawWidthOf0
 cases w with
 | keep =>
  simp only [Wy.e]; walk_at "w"; rw [int_bf]; walk_at "w"; rw [mul_i (by decide)]; walk_at "w"; exact Run.ok ⟨by rw [Int.mul_zero]; rfl, rfl⟩
 | whole =>
  simp only [Wy.e]; walk_at "w"; rw [show intF [.bl true] m = .ok (.int 1) m from rfl]; walk_at "w"; rw [mul_i (by decide)]; walk_at "w"; exact Run.ok ⟨by rw [Int.mul_one]; rfl, rfl⟩
 | low w bl =>
  simp only [Wy.e]; walk_at "w"; exact Run.ok ⟨rfl, rfl⟩
theorem pieces2_w {fs : List Fd} {n : Int} {wys : List Wy} {hd : List Int} {m : Sto} (hs : ShOk fs) (hn : fs.length <= 12) (hw : WyOk fs wys) (hh : HdOk fs hd) : gLawPieces2 [shD fs n, .tup (wys.map Wy.e), .tup (hd.map D.int)] m = .ok (.str ⟨(pcK fs wys hd fs.length).toArray⟩) m := by
 have hl := hh.len
 apply run_eq
 unfold gLawPieces2 gLawPieces20 shD; walk_at "w"; refine Run.bind (loop_run (fun k ρ m' => ∃ x4 x5 x6 : Option D, ρ = [some (.tup [.tup (fs.map Fd.e), .int n]), some (.tup (wys.map Wy.e)), some (.tup (hd.map D.int)), some (.str ⟨(pcK fs wys hd k).toArray⟩), x4, x5, x6] /\ m' = m) (enumD 0 (fs.map Fd.e)) 0 ⟨_, _, _, rfl, rfl⟩ ?_) ?_
 ·rintro i d ρ m1 hd1 ⟨x4, x5, x6, rfl, rfl⟩
  obtain ⟨f, e1, rfl⟩ := enum_at hd1
  have hi := (List.getElem?_eq_some_iff.mp e1).1
  obtain ⟨b0, b1, _⟩ := hs i f e1
  have e2 := List.getElem?_eq_getElem (show i < hd.length by omega)
  have e3 := List.getElem?_eq_getElem (show i < wys.length by rw [hw.len]; exact hi)
  generalize wys[i]'(by rw [hw.len]; exact hi) = wy at e3
  have hwl := Wy.w_le (hw.at' i f wy e1 e3)
  have hpl := pcK_len hw hh i (by omega)
  have hsb := sumN_bd hs hw i (by omega)
  rw [Nat.zero_add]; walk_at "w"; rw [show isD (.tup (wys.map Wy.e)) .non m1 = .ok (.bl false) m1 from rfl]; walk_at "w"; rw [ix_t (d := wy.e) (by rw [List.getElem?_map, e3]; rfl)]; walk_at "w"; simp only [Fd.e]; walk_at "w"; rw [widthOf_w]; walk_at "w"; rw [ix_ints e2]; walk_at "w"; rw [shl_1 (by omega)]; walk_at "w"; rw [mod_i (p2 _)]; walk_at "w"; rw [run_eq (bits_run' (by omega))]; walk_at "w"
  rw [add_str (by rw [dgs_len, hpl]; omega)]; walk_at "w"
  have e4 : pcK fs wys hd i ++ dgs (hd[i] % 2 ^ wy.w f.b) (wy.w f.b) = pcK fs wys hd (i + 1) := by
   rw [pcK, e1, e2, e3]
  rw [e4]; exact Run.ok ⟨_, rfl, _, _, _, rfl, rfl⟩
 ·rintro _ m1 ⟨ρ, rfl, x4, x5, x6, rfl, rfl⟩; rw [Nat.zero_add, enum_len]; walk_at "w"; exact Run.ok ⟨rfl, rfl⟩
theorem ltL_len {pt : Pt} {at' : Option Nat} {number : Nat} {hd : List Int} (h : PtOk pt) (ha : atOk pt at') (hh : HdOk pt.fs hd) : (ltL pt at' number hd).length = lsz pt at' := by
 have hpl := pcK_len (fmAt_ok h ha).wy hh pt.fs.length (Nat.le_refl _)
 unfold ltL lsz; rw [List.length_append, List.length_append, List.length_append, dgs_len, dgs_len, dgs_len, hpl]
 have : sumN (wsOf pt.fs (fmAt pt at').wys) pt.fs.length = (wsOf pt.fs (fmAt pt at').wys).sum := by
  unfold sumN; rw [List.take_of_length_le (by rw [wsOf_len (fmAt_ok h ha).wy]; exact Nat.le_refl _)]
 omega
section
variable {m : Sto} {k l r i n : Nat} {pt : Pt} {hs : List (List Int)} {had base : Option Nat} {fresh : Nat} {hd : List Int} {f : Fm}
end
section
variable {m : Sto} {pt : Pt}
theorem ix_f38 {pt : Pt} {i : Nat} {m : Sto} (hi : i < pt.fms.length) : ixD (.tup (pt.fms.map Fm.e)) (.int i) m = .ok (fmAt pt (some i)).e m := ix_t (by rw [List.getElem?_map, List.getElem?_eq_getElem hi]; show some _ = some (pt.fms.getD i _).e; rw [List.getD_eq_getElem?_getD, List.getElem?_eq_getElem hi]; rfl)
theorem letter38 {i number : Nat} {hd : List Int} (h : PtOk pt) (hi : i < pt.fms.length) (hh : HdOk pt.fs hd) : gLawLetter [pt.e, .int i, .int number, inD2 hd] m = .ok (.str ⟨(ltL pt (some i) number hd).toArray⟩) m := by
 have hf := fmAt_6 h.w (at' := some i) hi
 have w1 := wdN_le (n := 1 + pt.fms.length) (by have := h.fml; omega)
 have w2 := wdN_le (n := pt.n.toNat) (by have := h.n1; omega)
 have hb := hf.b1
 have hpl := pcK_len hf.wy hh pt.fs.length (Nat.le_refl _)
 have hsb := sumN_bd h.sh.ok hf.wy pt.fs.length (Nat.le_refl _)
 have hf1 := h.f1
 have hfl := h.fml
 have hn1 := h.n1
 have hn0 := h.n0
 have u1 : wdN (1 + pt.fms.length) <= 40 := Nat.le_of_not_lt fun z => by
  have := wdN_lt.mpr z
  omega
 have u2 : wdN pt.n.toNat <= 40 := Nat.le_of_not_lt fun z => by
  have := wdN_lt.mpr z
  omega
 apply run_eq
 unfold gLawLetter gLawLetter0 Pt.e
 walk_at "w"; rw [ix_f38 hi, show (fmAt pt (some i)).e = .tup [.int (fmAt pt (some i)).a, .int (fmAt pt (some i)).b, .tup ((fmAt pt (some i)).wys.map Wy.e)] from rfl]; walk_at "w"; rw [ix_f38 hi, show (fmAt pt (some i)).e = .tup [.int (fmAt pt (some i)).a, .int (fmAt pt (some i)).b, .tup ((fmAt pt (some i)).wys.map Wy.e)] from rfl]; walk_at "w"; rw [show (1 : Int) + (((pt.fms.map Fm.e).length : Nat) : Int) = ((1 + pt.fms.length : Nat) : Int) by rw [List.length_map]; omega, lawWidth_w (by omega)]
 walk_at "w"; rw [run_eq (bits_run' u1)]; walk_at "w"; rw [shl_1 (by omega)]; walk_at "w"; rw [mod_i (p2 _)]; walk_at "w"; rw [run_eq (bits_run' hb)]; walk_at "w"; rw [add_str (by rw [dgs_len, dgs_len]; omega)]; walk_at "w"; rw [show gLawPieces2 [shD pt.fs pt.n, .tup ((fmAt pt (some i)).wys.map Wy.e), inD2 hd] m = .ok (.str ⟨(pcK pt.fs (fmAt pt (some i)).wys hd pt.fs.length).toArray⟩) m from pieces2_w h.sh.ok h.f1 hf.wy hh]
 walk_at "w"; rw [add_str (by rw [List.length_append, dgs_len, dgs_len, hpl]; omega)]; walk_at "w"; rw [lawCheck_w h hh]; walk_at "w"; rw [show ixD (shD pt.fs pt.n) (.int 1) m = .ok (.int pt.n) m from ix_t1 _ _ _]; walk_at "w"
 rw [show gLawWidth2 [.int pt.n] m = .ok (.int (wdN pt.n.toNat)) m by
  have := lawWidth_w (n := pt.n.toNat) (m := m) (by omega)
  rw [show ((pt.n.toNat : Nat) : Int) = pt.n by omega] at this
  exact this]
 walk_at "w"; rw [run_eq (bits_run' u2)]; walk_at "w"; rw [add_str (by rw [List.length_append, List.length_append, dgs_len, dgs_len, dgs_len, hpl]; omega)]; exact Run.ok ⟨rfl, rfl⟩
theorem letter38' {at' : Option Nat} {number : Nat} {hd : List Int} (h : PtOk pt) (ha : atOk pt at') (hh : HdOk pt.fs hd) : gLawLetter [pt.e, onD at', .int number, inD2 hd] m = .ok (.str ⟨(ltL pt at' number hd).toArray⟩) m := by
 cases at' with
 | none => exact lawLetter_w h hh
 | some i => exact letter38 h ha hh
end
theorem idx_hi_big (l : Option Int) (n b : Nat) (h : n <= b) : Builtin.Str.strSliceIndices l (some (b : Int)) 1 n = Builtin.Str.strSliceIndices l (some (n : Int)) 1 n := by
 have e : max 0 (min (if (b : Int) < 0 then (b : Int) + n else b) (n : Int)) = max 0 (min (if (n : Int) < 0 then (n : Int) + n else n) (n : Int)) := by
  rw [if_neg (by omega), if_neg (by omega)]
  omega
 unfold Builtin.Str.strSliceIndices
 simp
 rw [e]
theorem idx_lo_big (u : Option Int) (n b : Nat) (h : n <= b) : Builtin.Str.strSliceIndices (some (b : Int)) u 1 n = Builtin.Str.strSliceIndices (some (n : Int)) u 1 n := by
 have e : max 0 (min (if (b : Int) < 0 then (b : Int) + n else b) (n : Int)) = max 0 (min (if (n : Int) < 0 then (n : Int) + n else n) (n : Int)) := by
  rw [if_neg (by omega), if_neg (by omega)]
  omega
 unfold Builtin.Str.strSliceIndices
 simp
 rw [e]
theorem sl_tL {l : List Nat} {b : Nat} {m : Sto} (h : l.length <= 1000000) : slD (.str ⟨l.toArray⟩) none (some (b : Int)) m = .ok (.str ⟨(l.take b).toArray⟩) m := by
 by_cases hb : b <= l.length
 ·exact sl_txL h hb
 ·have e : Txt.slice ⟨l.toArray⟩ none (some (b : Int)) = Txt.slice ⟨l.toArray⟩ none (some (l.length : Int)) := by
   unfold Txt.slice
   rw [show (⟨l.toArray⟩ : Str).length = l.length from List.size_toArray .., idx_hi_big none l.length b (by omega)]
  have e2 := sl_txL (m := m) h (Nat.le_refl l.length)
  rw [sl_str (show (⟨l.toArray⟩ : Str).cps.size <= sizeLine by rw [tx_size]; exact Nat.le_trans h (by decide))] at e2 ⊢
  rw [e, e2, List.take_of_length_le (Nat.le_refl _), List.take_of_length_le (by omega)]
theorem sl_tH {l : List Nat} {a : Nat} {m : Sto} (h : l.length <= 1000000) : slD (.str ⟨l.toArray⟩) (some (a : Int)) none m = .ok (.str ⟨(l.drop a).toArray⟩) m := by
 by_cases ha : a <= l.length
 ·exact sl_txH h ha
 ·have e : Txt.slice ⟨l.toArray⟩ (some (a : Int)) none = Txt.slice ⟨l.toArray⟩ (some (l.length : Int)) none := by
   unfold Txt.slice
   rw [show (⟨l.toArray⟩ : Str).length = l.length from List.size_toArray .., idx_lo_big none l.length a (by omega)]
  have e2 := sl_txH (m := m) h (Nat.le_refl l.length)
  rw [sl_str (show (⟨l.toArray⟩ : Str).cps.size <= sizeLine by rw [tx_size]; exact Nat.le_trans h (by decide))] at e2 ⊢
  rw [e, e2, List.drop_of_length_le (Nat.le_refl _), List.drop_of_length_le (by omega)]
instance (l : List Nat) : Decidable (Bin l) := by unfold Bin; infer_instance
theorem areBits_no {l : List Nat} {m : Sto} (h : ¬ Bin l) : gAreBits [.str ⟨l.toArray⟩] m = .ok (.bl false) m := by
 apply run_eq
 unfold gAreBits gAreBits0; walk_at "w"; rw [show isiD "str" (.str ⟨l.toArray⟩) m = .ok (.bl true) m from rfl]; walk_at "w"; refine Run.bind (loop_ret (fun k ρ m' => (∃ x, ρ = [some (.str ⟨l.toArray⟩), x]) /\ m' = m /\ Bin (l.take k)) (fun v m' => v = .bl false /\ m' = m) (signs ⟨l.toArray⟩) 0 ⟨⟨_, rfl⟩, rfl, by simp [Bin]⟩ ?_) ?_
 ·rintro i d ρ m' hd ⟨⟨x, rfl⟩, rfl, hb⟩
  obtain ⟨c, hc, rfl⟩ := signs_at hd
  have hc : l[i]? = some c := by simpa using hc
  have hi := (List.getElem?_eq_some_iff.mp hc).1
  rw [Nat.zero_add] at hb ⊢
  walk_at "w"
  by_cases h0 : c = 48
  ·subst h0
   rw [if_neg (by decide)]; walk_at "w"
   refine Run.ok (.inl ⟨_, rfl, ⟨_, rfl⟩, rfl, ?_⟩)
   rw [List.take_succ, hc]
   intro x hx
   rcases List.mem_append.mp hx with hx | hx
   ·exact hb x hx
   ·simp at hx; exact .inl hx
  ·by_cases h1 : c = 49
   ·subst h1
    rw [if_pos (by decide), show (!decide ((⟨#[49]⟩ : Str) = Str.ofString "1")) = false by decide]; walk_at "w"
    refine Run.ok (.inl ⟨_, rfl, ⟨_, rfl⟩, rfl, ?_⟩)
    rw [List.take_succ, hc]
    intro x hx
    rcases List.mem_append.mp hx with hx | hx
    ·exact hb x hx
    ·simp at hx; exact .inr hx
   ·have e0 : ((⟨#[c]⟩ : Str) = Str.ofString "0") = False := by
     apply propext
     refine ⟨fun z => h0 ?_, False.elim⟩
     have z' := congrArg (fun s => s.cps.toList) z
     have e : (Str.ofString "0").cps.toList = [48] := by decide
     rw [e] at z'
     simpa using z'
    have e1 : ((⟨#[c]⟩ : Str) = Str.ofString "1") = False := by
     apply propext
     refine ⟨fun z => h1 ?_, False.elim⟩
     have z' := congrArg (fun s => s.cps.toList) z
     have e : (Str.ofString "1").cps.toList = [49] := by decide
     rw [e] at z'
     simpa using z'
    simp only [e0, e1, decide_false, Bool.not_false, if_true]; walk_at "w"
    exact Run.ok (.inr ⟨_, rfl, rfl, rfl⟩)
 ·rintro fl m' (⟨ρ, rfl, _, rfl, hb⟩ | ⟨v, rfl, rfl, rfl⟩)
  ·refine absurd ?_ h
   rw [Nat.zero_add, show (signs ⟨l.toArray⟩).length = l.length by simp [signs], List.take_of_length_le (Nat.le_refl _)] at hb
   exact hb
  ·walk_at "w"; exact Run.ok ⟨rfl, rfl⟩
theorem areBits_not {d : D} {m : Sto} (h : isiD "str" d m = .ok (.bl false) m) : gAreBits [d] m = .ok (.bl false) m := by
 apply run_eq
 unfold gAreBits gAreBits0; walk_at "w"; rw [h]; walk_at "w"; exact Run.ok ⟨rfl, rfl⟩
theorem tw_all {p : Nat -> Bool} : ∀ {L : List Nat}, (∀ c ∈ L, p c = true) -> L.takeWhile p = L
 | [], _ => rfl
 | a :: r, h => by rw [List.takeWhile_cons_of_pos (h a (List.mem_cons_self ..)), tw_all fun c hc => h c (List.mem_cons_of_mem _ hc)]
theorem tw_lt {p : Nat -> Bool} {c : Nat} (hc : p c = false) : ∀ {L : List Nat}, c ∈ L -> (L.takeWhile p).length < L.length
 | [], h => nomatch h
 | a :: r, h => by
  cases ha : p a with
  | false => rw [List.takeWhile_cons_of_neg (by rw [ha]; decide)]; simp
  | true =>
   rw [List.takeWhile_cons_of_pos ha, List.length_cons, List.length_cons]
   rcases List.mem_cons.mp h with rfl | h
   ·rw [ha] at hc; cases hc
   ·exact Nat.succ_lt_succ (tw_lt hc h)
theorem tw_at {p : Nat -> Bool} : ∀ {L : List Nat}, (L.takeWhile p).length < L.length -> ∃ c, c ∈ L.drop (L.takeWhile p).length /\ p c = false
 | [], h => nomatch h
 | a :: r, h => by
  cases ha : p a with
  | false => rw [List.takeWhile_cons_of_neg (by rw [ha]; decide)]; exact ⟨a, by simp, ha⟩
  | true =>
   rw [List.takeWhile_cons_of_pos ha] at h ⊢
   rw [List.length_cons, List.length_cons] at h
   obtain ⟨c, h1, h2⟩ := tw_at (L := r) (Nat.lt_of_succ_lt_succ h)
   exact ⟨c, by rw [List.length_cons, List.drop_succ_cons]; exact h1, h2⟩
theorem strip_bin {l : List Nat} : Txt.stripChars ⟨l.toArray⟩ "01" = Str.ofString "" ↔ Bin l := by
 have hc : (Str.ofString "01").cps.contains = fun c => decide (c = 48 ∨ c = 49) := by
  funext c
  rw [show (Str.ofString "01").cps = #[48, 49] by decide]
  simp
 have hl : (⟨l.toArray⟩ : Str).cps.toList = l := by simp
 have hn : (⟨l.toArray⟩ : Str).length = l.length := List.size_toArray ..
 unfold Txt.stripChars
 rw [PyProof.Rows.stripBy_eq, hc]
 have hlo : stripLo (fun c => decide (c = 48 ∨ c = 49)) true ⟨l.toArray⟩ = (l.takeWhile fun c => decide (c = 48 ∨ c = 49)).length := by
  unfold stripLo; rw [if_pos rfl, hl]
 have hhi : ∀ lo, stripHi (fun c => decide (c = 48 ∨ c = 49)) true ⟨l.toArray⟩ lo = l.length - (((l.drop lo).reverse).takeWhile fun c => decide (c = 48 ∨ c = 49)).length := fun lo => by
  unfold stripHi; rw [if_pos rfl, hl, hn]
 rw [hlo, hhi]
 unfold Builtin.Str.strSub
 have e0 : Str.ofString "" = (⟨#[]⟩ : Str) := by decide
 rw [e0]
 constructor
 ·intro h
  have hs := congrArg (fun s => s.cps.size) h
  simp only [Array.size_extract, List.size_toArray, List.size_toArray, List.length_nil] at hs
  by_cases hb : Bin l
  ·exact hb
  ·obtain ⟨c, hc1, hc2⟩ : ∃ c ∈ l, decide (c = 48 ∨ c = 49) = false := by
    apply Classical.byContradiction
    intro z
    refine hb fun c hc => ?_
    apply Classical.byContradiction
    intro y
    exact z ⟨c, hc, decide_eq_false y⟩
   have h1 := tw_lt (p := fun c => decide (c = 48 ∨ c = 49)) hc2 hc1
   obtain ⟨c', h2, h3⟩ := tw_at h1
   have h4 := tw_lt (p := fun c => decide (c = 48 ∨ c = 49)) h3 (List.mem_reverse.mpr h2)
   rw [List.length_reverse, List.length_drop] at h4
   have hs' : min (l.length - (((l.drop (l.takeWhile fun c => decide (c = 48 ∨ c = 49)).length).reverse).takeWhile fun c => decide (c = 48 ∨ c = 49)).length) l.length - (l.takeWhile fun c => decide (c = 48 ∨ c = 49)).length = 0 := hs
   omega
 ·intro hb
  have e1 : (l.takeWhile fun c => decide (c = 48 ∨ c = 49)) = l := tw_all fun c hc => decide_eq_true (hb c hc)
  rw [e1]
  congr 1
  apply Array.ext
  ·simp
  ·intro i h1 h2
   simp at h2
section
variable {ρ : En} {m m1 m2 : Sto} {fa : EV} {fr : AV} {c : TV} {f g : SV} {i : Nat} {d : D} {ds : List D} {x : Str} {h : List D -> Sto -> Res D} {e : Exc}
theorem puA (q : fa ρ m = .ok d m1) : sSeq (sPu (sAsg fa (gN i))) g ρ m = g (ρ.set i (some d)) m1 := by
 show (Res.pu (Res.bind (fa ρ m) _)).bind _ = _
 rw [q]
 rfl
theorem puR (q : fa ρ m = .ok d m1) : sPu (sRet fa) ρ m = .ok (.rt d) m1 := by
 show Res.pu (Res.bind (fa ρ m) _) = _
 rw [q]
 rfl
theorem exT {a : D} (q : c ρ m = .ok true m1) : sSeq (sIf (tPu c) (sExcA x (aPu (aCons (eC a) aNil))) sNil) g ρ m = .exc ⟨x, []⟩ m1 := by
 show (Res.bind (Res.pu (c ρ m)) _).bind _ = _
 rw [q]
 rfl
theorem exF (q : c ρ m = .ok false m1) : sSeq (sIf (tPu c) f sNil) g ρ m = g ρ m1 := by
 show (Res.bind (Res.pu (c ρ m)) _).bind _ = _
 rw [q]
 rfl
theorem caA (q : fr ρ m = .ok ds m1) (r : h ds m1 = .ok d m2) : sSeq (sAsg (eFn h (aPu fr)) (gN i)) g ρ m = g (ρ.set i (some d)) m2 := by
 show (Res.bind (Res.bind (Res.pu (fr ρ m)) h) _).bind _ = _
 rw [q]
 show (Res.bind (h ds m1) _).bind _ = _
 rw [r]
 rfl
theorem caX (q : fr ρ m = .ok ds m1) (r : h ds m1 = .exc e m2) : sSeq (sAsg (eFn h (aPu fr)) (gN i)) g ρ m = .exc e m2 := by
 show (Res.bind (Res.bind (Res.pu (fr ρ m)) h) _).bind _ = _
 rw [q]
 show (Res.bind (h ds m1) _).bind _ = _
 rw [r]
 rfl
end
def srtZ (pt : Pt) (l : List Nat) : Nat := (numC (l.take (wdN (1 + pt.fms.length)))).toNat
def atZ (s : Nat) : Option Nat := if s = 0 then none else some (s - 1)
def ckZ (pt : Pt) (l : List Nat) : Int := numC (l.drop (l.length - wdN pt.n.toNat))
structure OkZ (pt : Pt) (l : List Nat) : Prop where
 b : Bin l
 s : srtZ pt l <= pt.fms.length
 l' : l.length = lsz pt (atZ (srtZ pt l))
 c : ckZ pt l < pt.n
def tuZ (pt : Pt) (l : List Nat) : D := .tup [onD (atZ (srtZ pt l)), .int (numC ((l.drop (wdN (1 + pt.fms.length))).take (fmAt pt (atZ (srtZ pt l))).b)), .str ⟨((l.drop (wdN (1 + pt.fms.length) + (fmAt pt (atZ (srtZ pt l))).b)).take (l.length - wdN pt.n.toNat - (wdN (1 + pt.fms.length) + (fmAt pt (atZ (srtZ pt l))).b))).toArray⟩, .int (ckZ pt l)]
theorem numC_nn {l : List Nat} : 0 <= numC l := by
 have : ∀ (l : List Nat) (a : Int), 0 <= a -> 0 <= l.foldl (fun a c => a * 2 + if c = 49 then 1 else 0) a := by
  intro l
  induction l with
  | nil => exact fun a h => h
  | cons c r ih =>
   intro a h
   refine ih _ ?_
   show 0 <= a * 2 + (if c = 49 then 1 else 0)
   split <;> omega
 exact this l 0 (Int.le_refl _)
theorem srtZ_i (pt : Pt) (l : List Nat) : ((srtZ pt l : Nat) : Int) = numC (l.take (wdN (1 + pt.fms.length))) := Int.toNat_of_nonneg numC_nn
theorem Bin.take' {l : List Nat} (h : Bin l) (n : Nat) : Bin (l.take n) := fun c hc => h c (List.mem_of_mem_take hc)
theorem Bin.drop' {l : List Nat} (h : Bin l) (n : Nat) : Bin (l.drop n) := fun c hc => h c (List.mem_of_mem_drop hc)
theorem atZ_ok {pt : Pt} {s : Nat} (h : s <= pt.fms.length) : atOk pt (atZ s) := by
 unfold atZ
 split
 ·exact trivial
 ·show s - 1 < pt.fms.length
  omega
section
variable {pt : Pt} {l : List Nat} {m : Sto}
theorem sortZ (h : PtW pt) (hb : Bin l) (hl : l.length <= 100000) : gSortTold2 [pt.e, .str ⟨l.toArray⟩] m = if srtZ pt l <= pt.fms.length then .ok (onD (atZ (srtZ pt l))) m else .exc ⟨"NoLetter", []⟩ m := by
 have e0 : gSortTold2 [pt.e, .str ⟨l.toArray⟩] m = (gSortTold20 [some pt.e, some (.str ⟨l.toArray⟩), none] m).bind finF := rfl
 have hz := srtZ_i pt l
 rw [e0]
 unfold gSortTold20
 rw [puA (d := .int (srtZ pt l)) (m1 := m) (by
  walk_at "w"; rw [sortW_6 h]; walk_at "w"; rw [sl_tL (by omega)]; walk_at "w"
  rw [number_6 (hb.take' _), hz])]
 have et : (tV (eOp gtD (eVar 2) (eFn lenF (aCons (eOp ixD (eVar 0) (eC (.int 2))) aNil)))) ([some pt.e, some (.str ⟨l.toArray⟩), none].set 2 (some (.int (srtZ pt l)))) m = .ok (decide ((pt.fms.length : Int) < (srtZ pt l : Nat))) m := by
  walk_at "w"; rw [ix_pt2]; walk_at "w"; rw [List.length_map]
 by_cases hs : srtZ pt l <= pt.fms.length
 ·rw [if_pos hs, exF (m1 := m) (by rw [et, decide_eq_false (by omega)]), puR (d := onD (atZ (srtZ pt l))) (m1 := m) (by
   walk_at "w"
   by_cases h0 : srtZ pt l = 0
   ·rw [h0]; walk_at "w"
    rfl
   ·rw [if_neg (by omega)]; walk_at "w"
    unfold atZ; rw [if_neg h0]
    show _ = Res.ok (D.int ((srtZ pt l - 1 : Nat) : Int)) m
    congr 2
    omega)]
  rfl
 ·rw [if_neg hs, exT (m1 := m) (by rw [et, decide_eq_true (by omega)])]
  rfl
theorem tup_4' (a b c d : D) : gTup [a, b, c, d] m = .ok (.tup [a, b, c, d]) m := if_pos (sl_small (by simp))
theorem partZ (h : PtW pt) (hl : l.length <= 100000) : (OkZ pt l -> gParted2 [pt.e, .str ⟨l.toArray⟩] m = .ok (tuZ pt l) m) /\ (¬ OkZ pt l -> gParted2 [pt.e, .str ⟨l.toArray⟩] m = .exc ⟨"NoLetter", []⟩ m) := by
 have e0 : gParted2 [pt.e, .str ⟨l.toArray⟩] m = (gParted20 [some pt.e, some (.str ⟨l.toArray⟩), none, none, none, none, none] m).bind finF := rfl
 rw [e0]
 unfold gParted20
 by_cases hb : Bin l
 ·rw [exF (m1 := m) (by
   walk_at "w"; rw [areBits_6 hb]
   walk_at "w")]
  have es := sortZ (m := m) h hb hl
  by_cases hs : srtZ pt l <= pt.fms.length
  ·rw [if_pos hs] at es
   have ha := atZ_ok hs
   have hbd := lsz_bd h ha
   have ez : lsz pt (atZ (srtZ pt l)) = wdN (1 + pt.fms.length) + (fmAt pt (atZ (srtZ pt l))).b + (wsOf pt.fs (fmAt pt (atZ (srtZ pt l))).wys).sum + wdN pt.n.toNat := rfl
   have e1 : ∀ m, ixD (fmAt pt (atZ (srtZ pt l))).e (.int 1) m = .ok (.int (fmAt pt (atZ (srtZ pt l))).b) m := fun m => ix_t1 _ _ _
   rw [caA (ds := [pt.e, .str ⟨l.toArray⟩]) (m1 := m) (by walk_at "w") es]
   have en : (tV (eOp neD (eFn lenF (aCons (eVar 1) aNil)) (eFn gLetterSize (aCons (eVar 0) (aCons (eVar 2) aNil))))) ([some pt.e, some (.str ⟨l.toArray⟩), none, none, none, none, none].set 2 (some (onD (atZ (srtZ pt l))))) m = .ok (!decide (l.length = lsz pt (atZ (srtZ pt l)))) m := by
    walk_at "w"; rw [len_tx (by omega)]; walk_at "w"; rw [letterSize_6 h ha]; walk_at "w"
    congr 2
    exact decide_eq_decide.mpr Int.ofNat_inj
   by_cases hn : l.length = lsz pt (atZ (srtZ pt l))
   ·rw [exF (m1 := m) (by rw [en, decide_eq_true hn]; rfl)]
    rw [puA (d := .int (wdN (1 + pt.fms.length))) (m1 := m) (by
     walk_at "w"
     rw [sortW_6 h])]
    rw [puA (d := .int ((wdN (1 + pt.fms.length) + (fmAt pt (atZ (srtZ pt l))).b : Nat) : Int)) (m1 := m) (by
     walk_at "w"; rw [formAt_6 h ha]; walk_at "w"; rw [e1]; walk_at "w"
     rfl)]
    rw [puA (d := .int ((l.length - wdN pt.n.toNat : Nat) : Int)) (m1 := m) (by
     walk_at "w"; rw [len_tx (by omega)]; walk_at "w"; rw [checkW_6 h]; walk_at "w"
     congr 2
     omega)]
    rw [puA (d := .int (ckZ pt l)) (m1 := m) (by
     walk_at "w"; rw [sl_tH (by omega)]; walk_at "w"; rw [number_6 (hb.drop' _)]
     rfl)]
    have ec : (tV (eOp geD (eVar 6) (eOp ixD (eOp ixD (eVar 0) (eC (.int 0))) (eC (.int 1))))) (((((([some pt.e, some (.str ⟨l.toArray⟩), none, none, none, none, none].set 2 (some (onD (atZ (srtZ pt l))))).set 3 (some (.int (wdN (1 + pt.fms.length))))).set 4 (some (.int ((wdN (1 + pt.fms.length) + (fmAt pt (atZ (srtZ pt l))).b : Nat) : Int)))).set 5 (some (.int ((l.length - wdN pt.n.toNat : Nat) : Int)))).set 6 (some (.int (ckZ pt l)))))  m = .ok (decide (pt.n <= ckZ pt l)) m := by
     walk_at "w"; rw [ix_pt0]; walk_at "w"; rw [show ixD (shD pt.fs pt.n) (.int 1) m = .ok (.int pt.n) m from ix_t1 _ _ _]; walk_at "w"
    by_cases hc : ckZ pt l < pt.n
    ·refine ⟨fun _ => ?_, fun z => absurd ⟨hb, hs, hn, hc⟩ z⟩
     rw [exF (m1 := m) (by rw [ec, decide_eq_false (by omega)]), puR (d := tuZ pt l) (m1 := m) (by
      walk_at "w"; rw [sl_txM (by omega) (by omega) (by omega), Nat.add_sub_cancel_left]; walk_at "w"; rw [number_6 ((hb.drop' _).take' _)]; walk_at "w"; rw [sl_txM (by omega) (by omega) (by omega)]; walk_at "w"; rw [tup_4']
      rfl)]
     rfl
    ·refine ⟨fun z => absurd z.c hc, fun _ => ?_⟩
     rw [exT (m1 := m) (by rw [ec, decide_eq_true (by omega)])]
     rfl
   ·refine ⟨fun z => absurd z.l' hn, fun _ => ?_⟩
    rw [exT (m1 := m) (by rw [en, decide_eq_false hn]; rfl)]
    rfl
  ·rw [if_neg hs] at es
   refine ⟨fun z => absurd z.s hs, fun _ => ?_⟩
   rw [caX (ds := [pt.e, .str ⟨l.toArray⟩]) (m1 := m) (by walk_at "w") es]
   rfl
 ·refine ⟨fun z => absurd z.b hb, fun _ => ?_⟩
  rw [exT (m1 := m) (by
   walk_at "w"; rw [areBits_no hb]
   walk_at "w")]
  rfl
theorem partN {d : D} (hd : isiD "str" d m = .ok (.bl false) m) : gParted2 [pt.e, d] m = .exc ⟨"NoLetter", []⟩ m := by
 have e0 : gParted2 [pt.e, d] m = (gParted20 [some pt.e, some d, none, none, none, none, none] m).bind finF := rfl
 rw [e0]
 unfold gParted20
 rw [exT (m1 := m) (by
  walk_at "w"; rw [areBits_not hd]
  walk_at "w")]
 rfl
end
theorem aComp_en {τ : Type} (enc : τ -> D) {n : Nat} {it : AV} {g : GV} {el : EV} {ρ : En} {m : Sto} {l : List τ} (f : τ -> D) (h : it ρ m = .ok (l.map enc) m) (hl : l.length <= 1000000) (hf : ∀ t ∈ l, ∃ ρ1, g (enc t) (ρ ++ List.replicate n none) m = .ok ρ1 m /\ el ρ1 m = .ok (f t) m) : aComp n it g tYesM el ρ m = .ok (l.map f) m := by
 apply run_eq
 refine Run.mono (aComp_run (ds := l.map enc) (fun _ m' => m' = m) (fun i _ y => ∃ t, l[i]? = some t /\ y = f t) h (by rw [List.length_map]; exact hl) rfl ?_) ?_
 ·rintro i d m1 hd rfl
  rw [List.getElem?_map] at hd
  obtain ⟨t, ht, rfl⟩ := Option.map_eq_some_iff.mp hd
  obtain ⟨ρ1, e1, e2⟩ := hf t (List.mem_of_getElem? ht)
  rw [e1]
  show Run (el ρ1 m1) _
  rw [e2]; exact Run.ok ⟨⟨t, ht, rfl⟩, rfl⟩
 ·rintro ys m1 ⟨hlen, hP, rfl⟩
  rw [List.length_map] at hlen
  refine ⟨List.ext_getElem? fun i => ?_, rfl⟩
  rw [List.getElem?_map]
  by_cases hi : i < l.length
  ·have e1 : ys[i]? = some (ys[i]'(by omega)) := List.getElem?_eq_getElem _
   have e2 : (l.map enc)[i]? = some ((l.map enc)[i]'(by rw [List.length_map]; exact hi)) := List.getElem?_eq_getElem _
   obtain ⟨t, ht, hy⟩ := hP i _ _ e2 e1
   rw [e1, ht, hy]
   rfl
  ·rw [List.getElem?_eq_none (by omega), List.getElem?_eq_none (by omega)]
   rfl
def tl25 : SV :=
 (sSeq (sAsg (eOp addD (eOp addD (eVar 6) (eVar 10)) (eFn sumF (aCons (eVar 11) aNil))) (gN 12))
 (sSeq (sAsg (eFn gLawNumber (aCons (eSl (eVar 1) (oSome (eVar 12)) oNone) aNil)) (gN 13))
 (sSeq (sIf (tOrM (tV (eOp neD (eFn lenF (aCons (eVar 1) aNil)) (eOp addD (eVar 12) (eVar 7)))) (tV (eOp geD (eVar 13) (eOp ixD (eVar 2) (eC (.int 1))))))
 (sRet (eC .non))
 sNil)
 (sRet (eFn gTup (aCons (eVar 9) (aCons (eFn gLawNumber (aCons (eSl (eVar 1) (oSome (eVar 6)) (oSome (eOp addD (eVar 6) (eVar 10)))) aNil)) (aCons (eSl (eVar 1) (oSome (eOp addD (eVar 6) (eVar 10))) (oSome (eVar 12))) (aCons (eVar 13) aNil)))))))))
def sz25 : SV := (sSeq (sPar3 9 10 11 (aCons (eC .non) (aCons (eVar 3) (aCons (eFn gL1 (aComp 1 (aIt (eOp ixD (eVar 2) (eC (.int 0)))) (gN 14) tYesM (eOp ixD (eVar 14) (eC (.int 1))))) aNil))))
 (sSeq (sIf (tV (eOp gtD (eVar 8) (eC (.int 0))))
 (sSeq (sPar 9 10 (aCons (eOp subD (eVar 8) (eC (.int 1))) (aCons (eOp ixD (eOp ixD (eVar 4) (eOp subD (eVar 8) (eC (.int 1)))) (eC (.int 1))) aNil)))
 (sAsg (eFn gL1 (aComp 2 (aZip (eOp ixD (eOp ixD (eVar 4) (eVar 9)) (eC (.int 2))) (eOp ixD (eVar 2) (eC (.int 0)))) (gT 2 (gsCons (gN 14) (gsCons (gN 15) gsNil))) tYesM (eFn gLawWidthOf (aCons (eVar 14) (aCons (eOp ixD (eVar 15) (eC (.int 1))) aNil))))) (gN 11)))
 sNil)
 tl25))
theorem split_cut : gLawSplit0 = (sSeq (sAsg (eVar 0) (gT 4 (gsCons (gN 2) (gsCons (gN 3) (gsCons (gN 4) (gsCons (gN 5) gsNil))))))
 (sSeq (sIf (tOrM (tNotM (tV (eUn (isiD "str") (eVar 1)))) (tV (eOp neD (eMeth isStr stripM (eVar 1) (aCons (eC (.str "01")) aNil)) (eC (.str "")))))
 (sRet (eC .non))
 sNil)
 (sSeq (sPar 6 7 (aCons (eFn gLawWidth2 (aCons (eOp addD (eC (.int 1)) (eFn lenF (aCons (eVar 4) aNil))) aNil)) (aCons (eFn gLawWidth2 (aCons (eOp ixD (eVar 2) (eC (.int 1))) aNil)) aNil)))
 (sSeq (sAsg (eFn gLawNumber (aCons (eSl (eVar 1) oNone (oSome (eVar 6))) aNil)) (gN 8))
 (sSeq (sIf (tOrM (tV (eOp ltD (eFn lenF (aCons (eVar 1) aNil)) (eVar 6))) (tV (eOp gtD (eVar 8) (eFn lenF (aCons (eVar 4) aNil)))))
 (sRet (eC .non))
 sNil)
 sz25))))) := rfl
section
variable {pt : Pt} {l : List Nat} {m : Sto}
theorem lawNum_6 (h : Bin l) : gLawNumber [.str ⟨l.toArray⟩] m = .ok (.int (numC l)) m := run_eq (lawNumber_run (z := ⟨l.toArray⟩) h)
theorem strip_m (hl : l.length <= 100000) : stripM (.str ⟨l.toArray⟩) [.str "01"] m = .ok (.str (Txt.stripChars ⟨l.toArray⟩ "01")) m := if_pos (by
 show l.toArray.size <= sizeLine
 rw [List.size_toArray]
 exact Nat.le_trans hl (by decide))
theorem tail25 {at' : Option Nat} {ws : List Nat} {x0 x3 x4 x5 x8 x12 x13 : Option D} (h : PtW pt) (hb : Bin l) (hl : l.length <= 100000) (ha : atOk pt at') (hw : ws.sum = (wsOf pt.fs (fmAt pt at').wys).sum) (hwb : ∀ a ∈ ws, a <= 40) (hwl : ws.length <= 12) :
  tl25 [x0, some (.str ⟨l.toArray⟩), some (shD pt.fs pt.n), x3, x4, x5, some (.int (wdN (1 + pt.fms.length))), some (.int (wdN pt.n.toNat)), x8, some (onD at'), some (.int (fmAt pt at').b), some (.lst (ws.map fun k : Nat => D.int k)), x12, x13] m =
   .ok (.rt (if l.length = lsz pt at' /\ ckZ pt l < pt.n then .tup [onD at', .int (numC ((l.drop (wdN (1 + pt.fms.length))).take (fmAt pt at').b)), .str ⟨((l.drop (wdN (1 + pt.fms.length) + (fmAt pt at').b)).take (l.length - wdN pt.n.toNat - (wdN (1 + pt.fms.length) + (fmAt pt at').b))).toArray⟩, .int (ckZ pt l)] else .non)) m := by
 have hbd := lsz_bd h ha
 have ez : lsz pt at' = wdN (1 + pt.fms.length) + (fmAt pt at').b + (wsOf pt.fs (fmAt pt at').wys).sum + wdN pt.n.toNat := rfl
 have em : ∀ k : Nat, ((ws.take k).map fun k : Nat => D.int k) = ((ws.take k).map fun k : Nat => (k : Int)).map D.int := fun k => by rw [List.map_map]; rfl
 have es : sumF [.lst (ws.map fun k : Nat => D.int k)] m = .ok (.int (ws.sum : Nat)) m := by
  rw [show (ws.map fun k : Nat => D.int k) = (ws.map fun k : Nat => (k : Int)).map D.int by rw [List.map_map]; rfl, sum_i ⟨fun a ha => by
   obtain ⟨k, hk, rfl⟩ := List.mem_map.mp ha
   have := hwb k hk
   omega, by rw [List.length_map]; omega⟩]
  congr 2
  clear hw hwb hwl em
  induction ws with
  | nil => rfl
  | cons a r ih => rw [List.map_cons, List.sum_cons, List.sum_cons, ih]; push_cast; rfl
 apply run_eq
 unfold tl25; walk_at "w"; rw [es, hw]; walk_at "w"; rw [show ((wdN (1 + pt.fms.length) : Nat) : Int) + ((fmAt pt at').b : Nat) + ((wsOf pt.fs (fmAt pt at').wys).sum : Nat) = ((wdN (1 + pt.fms.length) + (fmAt pt at').b + (wsOf pt.fs (fmAt pt at').wys).sum : Nat) : Int) by push_cast; rfl, sl_tH (by omega)]; walk_at "w"; rw [lawNum_6 (hb.drop' _)]; walk_at "w"; rw [len_tx (by omega)]; walk_at "w"
 by_cases hn : l.length = lsz pt at'
 ·rw [if_neg (by rw [decide_eq_true (by omega)]; decide)]
  have ed : l.length - wdN pt.n.toNat = wdN (1 + pt.fms.length) + (fmAt pt at').b + (wsOf pt.fs (fmAt pt at').wys).sum := by omega
  have ec : numC (l.drop (wdN (1 + pt.fms.length) + (fmAt pt at').b + (wsOf pt.fs (fmAt pt at').wys).sum)) = ckZ pt l := by
   unfold ckZ; rw [ed]
  rw [ec, show ixD (shD pt.fs pt.n) (.int 1) m = .ok (.int pt.n) m from ix_t1 _ _ _]; walk_at "w"
  by_cases hc : ckZ pt l < pt.n
  ·rw [if_neg (by omega), if_pos ⟨hn, hc⟩]; walk_at "w"; rw [show ((wdN (1 + pt.fms.length) : Nat) : Int) + ((fmAt pt at').b : Nat) = ((wdN (1 + pt.fms.length) + (fmAt pt at').b : Nat) : Int) by push_cast; rfl, sl_txM (by omega) (by omega) (by omega), Nat.add_sub_cancel_left]; walk_at "w"; rw [lawNum_6 ((hb.drop' _).take' _)]; walk_at "w"; rw [show ((wdN (1 + pt.fms.length) : Nat) : Int) + ((fmAt pt at').b : Nat) = ((wdN (1 + pt.fms.length) + (fmAt pt at').b : Nat) : Int) by push_cast; rfl, sl_txM (by omega) (by omega) (by omega)]
   walk_at "w"; rw [tup_4', ed]; walk_at "w"; exact Run.ok ⟨rfl, rfl⟩
  ·rw [if_pos (by omega), if_neg fun z => hc z.2]; walk_at "w"; exact Run.ok ⟨rfl, rfl⟩
 ·rw [if_pos (by rw [decide_eq_false (by omega)]; decide), if_neg fun z => hn z.1]; walk_at "w"; exact Run.ok ⟨rfl, rfl⟩
theorem zip_ww {fs : List Fd} : ∀ {ws : List Wy}, zipD (ws.map Wy.e) (fs.map Fd.e) = (ws.zip fs).map fun p => .tup [p.1.e, p.2.e] := by
 induction fs with
 | nil => intro ws; cases ws <;> rfl
 | cons f r ih =>
  intro ws
  cases ws with
  | nil => rfl
  | cons w s => rw [List.map_cons, List.map_cons, zipD, ih]; rfl
theorem zip_wd {fs : List Fd} : ∀ {ws : List Wy}, ((ws.zip fs).map fun p => D.int (p.1.w p.2.b : Nat)) = (wsOf fs ws).map fun k : Nat => D.int k := by
 induction fs with
 | nil => intro ws; cases ws <;> rfl
 | cons f r ih =>
  intro ws
  cases ws with
  | nil => rfl
  | cons w s =>
   show _ :: ((s.zip r).map _) = _ :: ((wsOf r s).map _)
   rw [ih]
theorem size25 {x0 x5 x7 x9 x10 x11 x12 x13 : Option D} {s : Nat} (h : PtW pt) (hb : Bin l) (hl : l.length <= 100000) (hs : s <= pt.fms.length) (h7 : x7 = some (.int (wdN pt.n.toNat))) :
  sz25 [x0, some (.str ⟨l.toArray⟩), some (shD pt.fs pt.n), some (.int pt.wide), some (.tup (pt.fms.map Fm.e)), x5, some (.int (wdN (1 + pt.fms.length))), x7, some (.int s), x9, x10, x11, x12, x13] m =
   .ok (.rt (if l.length = lsz pt (atZ s) /\ ckZ pt l < pt.n then .tup [onD (atZ s), .int (numC ((l.drop (wdN (1 + pt.fms.length))).take (fmAt pt (atZ s)).b)), .str ⟨((l.drop (wdN (1 + pt.fms.length) + (fmAt pt (atZ s)).b)).take (l.length - wdN pt.n.toNat - (wdN (1 + pt.fms.length) + (fmAt pt (atZ s)).b))).toArray⟩, .int (ckZ pt l)] else .non)) m := by
 have hf1 := h.f1
 subst h7
 apply run_eq
 unfold sz25; walk_at "w"
 rw [aComp_map (ds := pt.fs.map Fd.e) (fun d => match d with | .tup [_, b, _] => b | _ => .non) (by
  walk_at "w"; rw [ix_sh]
  walk_at "w") (by rw [List.length_map]; omega) (by
  intro d hd
  obtain ⟨f, hf, rfl⟩ := List.mem_map.mp hd
  refine ⟨_, rfl, ?_⟩
  simp only [Fd.e]
  walk_at "w")]
 walk_at "w"
 have e1 : (pt.fs.map Fd.e).map (fun d => match d with | .tup [_, b, _] => b | _ => .non) = (pt.fs.map fun f => f.b).map fun k : Nat => D.int k := by
  rw [List.map_map, List.map_map]
  rfl
 rw [e1]
 by_cases h0 : s = 0
 ·subst h0
  rw [if_neg (by decide)]; walk_at "w"
  have hb40 : ∀ a ∈ (pt.fs.map fun f => f.b), a <= 40 := fun a ha => by
   obtain ⟨f, hf, rfl⟩ := List.mem_map.mp ha
   obtain ⟨i, hi⟩ := List.mem_iff_getElem?.mp hf
   exact (h.sh i f hi).2.1
  have := tail25 (m := m) (x0 := x0) (x3 := some (.int pt.wide)) (x4 := some (.tup (pt.fms.map Fm.e))) (x5 := x5) (x8 := some (.int 0)) (x12 := x12) (x13 := x13) (at' := none) h hb hl trivial (ws := pt.fs.map fun f => f.b) (by rw [show fmAt pt none = fmW pt from rfl, wsW]) hb40 (by rw [List.length_map]; omega)
  exact ⟨_, _, this, rfl, rfl⟩
 ·rw [if_pos (by omega)]
  have hi : s - 1 < pt.fms.length := by omega
  have ea : atZ s = some (s - 1) := by unfold atZ; rw [if_neg h0]
  have ef := ix_f38 (pt := pt) (m := m) hi
  have hfm := fmAt_6 h (at' := some (s - 1)) hi
  have hwl := wsOf_len hfm.wy
  walk_at "w"; rw [show ((s : Nat) : Int) - 1 = ((s - 1 : Nat) : Int) by omega, ef]; walk_at "w"; rw [show ixD (fmAt pt (some (s - 1))).e (.int 1) m = .ok (.int (fmAt pt (some (s - 1))).b) m from ix_t1 _ _ _]; walk_at "w"
  rw [aComp_en (l := (fmAt pt (some (s - 1))).wys.zip pt.fs) (fun p => D.tup [p.1.e, p.2.e]) (fun p => D.int (p.1.w p.2.b : Nat)) (by
   walk_at "w"; rw [ef]; walk_at "w"; rw [show ixD (fmAt pt (some (s - 1))).e (.int 2) m = .ok (.tup ((fmAt pt (some (s - 1))).wys.map Wy.e)) m from ix_t2 _ _ _ _]; walk_at "w"; rw [ix_sh]; walk_at "w"; simp only [zip2]
   rw [if_pos (by rw [List.length_map, List.length_map, hfm.wy.len]; exact Nat.le_refl _), zip_ww]) (by
   rw [List.length_zip]
   omega) (by
   rintro ⟨w, f⟩ _
   refine ⟨_, rfl, ?_⟩
   simp only [Fd.e]; walk_at "w"
   rw [widthOf_w])]
  walk_at "w"; rw [zip_wd]
  have hb40 : ∀ a ∈ wsOf pt.fs (fmAt pt (some (s - 1))).wys, a <= 40 := fun a ha => by
   obtain ⟨i, hi⟩ := List.mem_iff_getElem?.mp ha
   have hil := (List.getElem?_eq_some_iff.mp hi).1
   rw [hwl] at hil
   unfold wsOf at hi
   rw [List.getElem?_zipWith, List.getElem?_eq_getElem hil, List.getElem?_eq_getElem (show i < (fmAt pt (some (s - 1))).wys.length by rw [hfm.wy.len]; exact hil)] at hi
   simp at hi
   have hfi := h.sh i _ (List.getElem?_eq_getElem hil)
   have := Wy.w_le (hfm.wy.at' i _ _ (List.getElem?_eq_getElem hil) (List.getElem?_eq_getElem (show i < (fmAt pt (some (s - 1))).wys.length by rw [hfm.wy.len]; exact hil)))
   omega
  have := tail25 (m := m) (x0 := x0) (x3 := some (.int pt.wide)) (x4 := some (.tup (pt.fms.map Fm.e))) (x5 := x5) (x8 := some (.int s)) (x12 := x12) (x13 := x13) (at' := some (s - 1)) h hb hl hi (ws := wsOf pt.fs (fmAt pt (some (s - 1))).wys) rfl hb40 (by rw [hwl]; exact hf1)
  rw [ea]
  exact ⟨_, _, this, rfl, rfl⟩
theorem splitZ (h : PtW pt) (hl : l.length <= 100000) : (OkZ pt l -> gLawSplit [pt.e, .str ⟨l.toArray⟩] m = .ok (tuZ pt l) m) /\ (¬ OkZ pt l -> gLawSplit [pt.e, .str ⟨l.toArray⟩] m = .ok .non m) := by
 have hn0 := h.n0
 have hn1 := h.n1
 have hz := srtZ_i pt l
 have ec : ∀ m, gLawWidth2 [.int pt.n] m = .ok (.int (wdN pt.n.toNat)) m := fun m => by
  have := lawWidth_w (n := pt.n.toNat) (m := m) (by omega)
  rwa [Int.toNat_of_nonneg (by omega)] at this
 have e0 : gLawSplit [pt.e, .str ⟨l.toArray⟩] m = (gLawSplit0 [some (.tup [shD pt.fs pt.n, .int pt.wide, .tup (pt.fms.map Fm.e), pt.rd.e]), some (.str ⟨l.toArray⟩), none, none, none, none, none, none, none, none, none, none, none, none] m).bind finF := rfl
 have go : gLawSplit [pt.e, .str ⟨l.toArray⟩] m = .ok (if Bin l /\ srtZ pt l <= pt.fms.length /\ l.length = lsz pt (atZ (srtZ pt l)) /\ ckZ pt l < pt.n then tuZ pt l else .non) m := by
  rw [e0, split_cut]
  apply run_eq
  walk_at "w"; rw [show isiD "str" (.str ⟨l.toArray⟩) m = .ok (.bl true) m from rfl]; walk_at "w"; rw [strip_m hl]; walk_at "w"
  by_cases hb : Bin l
  ·rw [decide_eq_true (strip_bin.mpr hb)]; walk_at "w"; rw [List.length_map, show (1 : Int) + (pt.fms.length : Nat) = ((1 + pt.fms.length : Nat) : Int) by push_cast; rfl, lawWidth_w (by have := h.fml; omega)]; walk_at "w"; rw [show ixD (shD pt.fs pt.n) (.int 1) m = .ok (.int pt.n) m from ix_t1 _ _ _]; walk_at "w"; rw [ec]; walk_at "w"; rw [sl_tL (by omega)]; walk_at "w"; rw [lawNum_6 (hb.take' _), <- hz]
   walk_at "w"; rw [len_tx (by omega)]; walk_at "w"
   by_cases hw : l.length < wdN (1 + pt.fms.length)
   ·rw [if_pos (by omega)]; walk_at "w"
    rw [if_neg fun z => by
     have : wdN (1 + pt.fms.length) <= lsz pt (atZ (srtZ pt l)) := by unfold lsz; omega
     have := z.2.2.1
     omega]
    exact Run.ok ⟨rfl, rfl⟩
   ·rw [if_neg (by omega)]; walk_at "w"; rw [List.length_map]
    by_cases hs : srtZ pt l <= pt.fms.length
    ·rw [if_neg (by omega)]; walk_at "w"; rw [size25 h hb hl hs rfl]; walk_at "w"
     refine Run.ok ⟨?_, rfl⟩
     by_cases hq : l.length = lsz pt (atZ (srtZ pt l)) /\ ckZ pt l < pt.n
     ·rw [if_pos hq, if_pos ⟨hb, hs, hq⟩]
      rfl
     ·rw [if_neg hq, if_neg fun z => hq z.2.2]
    ·rw [if_pos (by omega)]; walk_at "w"; rw [if_neg fun z => hs z.2.1]; exact Run.ok ⟨rfl, rfl⟩
  ·rw [decide_eq_false fun z => hb (strip_bin.mp z)]; walk_at "w"; rw [if_neg fun z => hb z.1]; exact Run.ok ⟨rfl, rfl⟩
 rw [go]
 refine ⟨fun z => by rw [if_pos ⟨z.b, z.s, z.l', z.c⟩], fun z => by rw [if_neg fun y => z ⟨y.1, y.2.1, y.2.2.1, y.2.2.2⟩]⟩
theorem tryX {es : List Str} {x : Str} {fb fs : SV} {i : Nat} {ρ : En} {c : Exc} {m1 : Sto} (q : fb ρ m = .exc c m1) (hx : (es.contains c.cls && isX c.cls x) = true) : sTry es x fb i fs ρ m = (fs (ρ.set i (some (.exn c.cls c.args))) m1).bind fun fl m2 => .ok (freeX i fl) m2 := by
 unfold sTry; rw [q]
 exact if_pos hx
theorem refX {d : D} (q : gParted2 [pt.e, d] m = .exc ⟨"NoLetter", []⟩ m) : gLawRefused [pt.e, d] m = .ok (.bl true) m := by
 have e0 : gLawRefused [pt.e, d] m = (gLawRefused0 [some pt.e, some d, none, none] m).bind finF := rfl
 rw [e0]
 unfold gLawRefused0
 have et := tryX (es := ["HeadError", "NoHead", "NoLetter", "NoStream", "NoText"]) (x := "HeadError") (fb := (sDrop (eFn gParted2 (aPu (aCons (eVar 0) (aCons (eVar 1) aNil)))))) (i := 3) (fs := (sSeq (sAsg (eAnd (eUn (isiX ["HeadError", "NoHead", "NoLetter", "NoStream", "NoText"] "NoLetter") (eVar 3)) (eUn (isiV ["HeadError", "NoHead", "NoLetter", "NoStream", "NoText"]) (eVar 3))) (gN 2))
 (sIf (tV (eUn (isiT ["HeadError", "NoHead", "NoLetter", "NoStream", "NoText"] ["NoHead", "NoStream", "NoText"]) (eVar 3)))
 (sAsg (eC (.bl false)) (gN 2))
 sNil))) (ρ := [some pt.e, some d, some .non, none]) (m := m) (m1 := m) (c := ⟨"NoLetter", []⟩) (by
  show (Res.bind (Res.bind (Res.pu (Res.ok [pt.e, d] m)) gParted2) _) = _
  show (Res.bind (gParted2 [pt.e, d] m) _) = _
  rw [q]
  rfl) (by decide)
 show Res.bind ((sSeq (sTry _ _ _ _ _) _) [some pt.e, some d, some .non, none] m) finF = _
 rw [seq_at, et]
 rfl
end
section
variable {pt : Pt} {l : List Nat} {m : Sto}
theorem sm7_o (n : Nat) (o : Option Nat) : Sm7 n (onD o) := by
 cases o with
 | none => cases n with
  | zero => exact .inl rfl
  | succ => exact .inl (.inl rfl)
 | some a => exact sm7_i _ _
theorem same_tuZ : gLawSame [tuZ pt l, tuZ pt l] m = .ok (.bl true) m := same_a7 11 _ (.inr ⟨_, rfl, by simp, fun y hy => by
 simp only [List.mem_cons, List.not_mem_nil, or_false] at hy
 rcases hy with rfl | rfl | rfl | rfl
 ·exact sm7_o _ _
 ·exact sm7_i _ _
 ·exact sm7_s _ _
 ·exact sm7_i _ _⟩)
theorem rightZ (h : PtW pt) (hl : l.length <= 100000) : gLawRight5 [pt.e, .str ⟨l.toArray⟩] m = .ok (.bl true) m := by
 apply run_eq
 unfold gLawRight5 gLawRight50; walk_at "w"
 by_cases hz : OkZ pt l
 ·rw [(splitZ h hl).1 hz]; walk_at "w"; rw [show isD (tuZ pt l) .non m = .ok (.bl false) m from rfl]; walk_at "w"; rw [show puF gParted2 [pt.e, .str ⟨l.toArray⟩] m = .ok (tuZ pt l) m by unfold puF; rw [(partZ h hl).1 hz]; rfl]; walk_at "w"; rw [same_tuZ]; walk_at "w"; exact Run.ok ⟨rfl, rfl⟩
 ·rw [(splitZ h hl).2 hz]; walk_at "w"; rw [refX ((partZ h hl).2 hz)]; walk_at "w"; exact Run.ok ⟨rfl, rfl⟩
theorem refN {d : D} (hd : isiD "str" d m = .ok (.bl false) m) : gLawRefused [pt.e, d] m = .ok (.bl true) m := refX (partN hd)
theorem sl_neg1 (h : l.length <= 100000) (h0 : 0 < l.length) : slD (.str ⟨l.toArray⟩) none (some (-1)) m = .ok (.str ⟨(l.take (l.length - 1)).toArray⟩) m := by
 have e : Txt.slice ⟨l.toArray⟩ none (some (-1)) = Txt.slice ⟨l.toArray⟩ none (some ((l.length - 1 : Nat) : Int)) := by
  unfold Txt.slice
  have e2 : Builtin.Str.strSliceIndices none (some (-1)) 1 l.length = Builtin.Str.strSliceIndices none (some ((l.length - 1 : Nat) : Int)) 1 l.length := by
   have e3 : max 0 (min (if (-1 : Int) < 0 then -1 + (l.length : Int) else -1) (l.length : Int)) = max 0 (min (if ((l.length - 1 : Nat) : Int) < 0 then ((l.length - 1 : Nat) : Int) + l.length else ((l.length - 1 : Nat) : Int)) (l.length : Int)) := by
    rw [if_pos (by decide), if_neg (by omega)]
    omega
   unfold Builtin.Str.strSliceIndices
   simp only [gt_iff_lt, Int.zero_lt_one, if_true, e3]
  rw [show (⟨l.toArray⟩ : Str).length = l.length from List.size_toArray .., e2]
 have e2 := sl_tL (l := l) (b := l.length - 1) (m := m) (by omega)
 rw [sl_str (show (⟨l.toArray⟩ : Str).cps.size <= sizeLine by rw [tx_size]; exact Nat.le_trans (by omega : l.length <= 1000000) (by decide))] at e2 ⊢
 rw [e, e2]
theorem ones_m {w : Nat} (hw : w <= 40) : ∃ z : List Nat, z.length <= 40 /\ mulD (.str "1") (.int w) m = .ok (.str ⟨z.toArray⟩) m := by
 by_cases h0 : w = 0
 ·subst h0
  refine ⟨[], by simp, ?_⟩
  rw [mulD_eq]
  rfl
 ·refine ⟨List.replicate w 49, by simp; omega, ?_⟩
  rw [mulD_eq]
  show (if _ then _ else _) = _
  rw [if_pos ⟨by omega, by omega, by decide⟩]
  congr 2
  have e1 : (Str.ofString "1") = (⟨#[49]⟩ : Str) := by decide
  have e2 := mul_one (c := 49) (n := w) (by omega)
  rw [e1]
  exact str_ext (by rw [e2])
end
section
variable {m0 m : Sto} {p q c : Nat} {pt : Pt} {l : List Nat}
theorem k_2 : (D.str "2") = D.str ⟨[50].toArray⟩ := congrArg D.str (by decide)
theorem k_s : (D.str " ") = D.str ⟨[32].toArray⟩ := congrArg D.str (by decide)
theorem k_d : (D.str "-") = D.str ⟨[45].toArray⟩ := congrArg D.str (by decide)
theorem k_e : (D.str "") = D.str ⟨([] : List Nat).toArray⟩ := congrArg D.str (by decide)
theorem ix_01 {d : Int} (h0 : 0 <= d) (h1 : d < 2) : ∃ s : Nat, ixD (.str "01") (.int d) m = .ok (.str ⟨[s].toArray⟩) m := by
 rcases (show d = 0 ∨ d = 1 by omega) with rfl | rfl
 ·exact ⟨48, rfl⟩
 ·exact ⟨49, rfl⟩
def Txs (n : Nat) (xs : List D) : Prop := ∀ d ∈ xs, ∃ z : List Nat, d = .str ⟨z.toArray⟩ /\ z.length <= n
theorem Txs.cons {n : Nat} {z : List Nat} {xs : List D} (h : z.length <= n) (h' : Txs n xs) : Txs n (.str ⟨z.toArray⟩ :: xs) := fun d hd => by
 rcases List.mem_cons.mp hd with rfl | hd
 ·exact ⟨z, rfl, h⟩
 ·exact h' d hd
theorem Txs.nil {n : Nat} : Txs n [] := fun d hd => nomatch hd
theorem bent_run (hp : P3 m0 p q c m) (hc : c + 10 < 2 ^ 40) (h : PtW pt) (hl : l.length <= 700) (h0 : 0 < l.length) (hq : wdN pt.n.toNat <= l.length) :
  Run (gLawBent [.ob p, pt.e, .str ⟨l.toArray⟩] m) fun a m' => ∃ xs, a = .lst xs /\ xs.length <= 20 /\ Txs 2000 xs /\ P3 m p q (c + 3) m' := by
 have hn0 := h.n0
 have hn1 := h.n1
 have ec : ∀ m, gLawWidth2 [.int pt.n] m = .ok (.int (wdN pt.n.toNat)) m := fun m => by
  have := lawWidth_w (n := pt.n.toNat) (m := m) (by omega)
  rwa [Int.toNat_of_nonneg (by omega)] at this
 have w1 := wdN_le (n := 1 + pt.fms.length) (by have := h.fml; omega)
 have w2 := wdN_le (n := pt.n.toNat) (by omega)
 have w1' : wdN (1 + pt.fms.length) <= 4 := by
  have := wdN_lt (n := 1 + pt.fms.length) (w := 4)
  have hf := h.fml
  by_cases z : wdN (1 + pt.fms.length) <= 4
  ·exact z
  ·have := this.mpr (by omega)
   omega
 have w2' : wdN pt.n.toNat <= 20 := by
  have := wdN_lt (n := pt.n.toNat) (w := 20)
  by_cases z : wdN pt.n.toNat <= 20
  ·exact z
  ·have := this.mpr (by omega)
   omega
 unfold gLawBent gLawBent0; rw [k_2, k_s, k_d, k_e]; walk_at "w"; rw [len_tx (by omega)]; walk_at "w"; refine Run.bind (next_run hp (by omega) (by omega) (by omega)) ?_; rintro _ m1 ⟨a', rfl, a0, a1, hp1⟩
 obtain ⟨a, rfl⟩ : ∃ a : Nat, a' = a := ⟨a'.toNat, by omega⟩
 walk_at "w"; refine Run.bind (next_run hp1 (by omega) (by decide) (by decide)) ?_; rintro _ m2 ⟨d, rfl, d0, d1, hp2⟩
 obtain ⟨s, es⟩ := ix_01 (m := m2) d0 d1
 have h2 := hp1.via hp2
 walk_at "w"; rw [es]
 have ea : ((a : Nat) : Int) + 1 = ((a + 1 : Nat) : Int) := by push_cast; rfl
 walk_at "w"; rw [sl_tL (by omega)]; walk_at "w"; rw [add_str (by simp; omega)]; walk_at "w"; rw [sl_tH (by omega)]; walk_at "w"; rw [add_str (by simp; omega)]; walk_at "w"; rw [sl_tL (by omega)]; walk_at "w"; rw [ea, sl_tH (by omega)]; walk_at "w"; rw [add_str (by simp; omega)]; walk_at "w"; rw [sl_tL (by omega)]; walk_at "w"; rw [add_str (by simp; omega)]; walk_at "w"; rw [ea, sl_tH (by omega)]
 walk_at "w"; rw [add_str (by simp; omega)]; walk_at "w"; rw [add_str (by simp; omega)]; walk_at "w"; rw [add_str (by simp; omega)]; walk_at "w"; rw [show slD (.str ⟨l.toArray⟩) (some 1) none m2 = .ok (.str ⟨(l.drop 1).toArray⟩) m2 from sl_tH (a := 1) (by omega)]; walk_at "w"; rw [neg_i]; walk_at "w"; rw [sl_neg1 (by omega) h0]; walk_at "w"; rw [add_str (by omega)]; walk_at "w"; rw [lst_6]
 walk_at "w"; rw [add_ll (by simp)]; walk_at "w"; rw [ix_pt2]; walk_at "w"; rw [List.length_map, show (1 : Int) + (pt.fms.length : Nat) = ((1 + pt.fms.length : Nat) : Int) by push_cast; rfl, lawWidth_w (by have := h.fml; omega)]; walk_at "w"; rw [ix_pt0]; walk_at "w"; rw [show ixD (shD pt.fs pt.n) (.int 1) m2 = .ok (.int pt.n) m2 from ix_t1 _ _ _]; walk_at "w"; rw [ec]; walk_at "w"
 obtain ⟨z1, z1l, e1⟩ := ones_m (m := m2) (w := wdN (1 + pt.fms.length)) (by omega)
 obtain ⟨z2, z2l, e2⟩ := ones_m (m := m2) (w := wdN pt.n.toNat) (by omega)
 rw [e1]; walk_at "w"; rw [sl_tH (by omega)]; walk_at "w"; rw [add_str (by simp; omega)]; walk_at "w"; rw [len_tx (by omega)]; walk_at "w"
 obtain ⟨z3, z3l, e3⟩ : ∃ z : List Nat, z.length <= 700 /\ slD (.str ⟨l.toArray⟩) none (some ((l.length : Int) - (wdN pt.n.toNat : Nat))) m2 = .ok (.str ⟨z.toArray⟩) m2 := by
  refine ⟨l.take (l.length - wdN pt.n.toNat), by simp; omega, ?_⟩
  rw [show (l.length : Int) - (wdN pt.n.toNat : Nat) = ((l.length - wdN pt.n.toNat : Nat) : Int) by omega]
  exact sl_tL (by omega)
 rw [e3]; walk_at "w"; rw [e2]; walk_at "w"; rw [add_str (by omega)]; walk_at "w"; rw [add_ll (by simp)]; walk_at "w"; rw [shl_1 (by omega)]; walk_at "w"
 have hB := p2 (wdN (1 + pt.fms.length))
 have hB2 := p2lt (b := wdN (1 + pt.fms.length)) (by omega)
 refine Run.bind (next_run h2 (by omega) hB (by omega)) ?_; rintro _ m3 ⟨y, rfl, y0, y1, hp3⟩
 have h3 := h2.via hp3
 walk_at "w"; rw [run_eq (bits_run' (by omega))]; walk_at "w"; rw [sl_tH (by omega)]; walk_at "w"; rw [add_str (by simp [dgs_len]; omega)]; walk_at "w"; rw [sl_tL (by omega)]; walk_at "w"; rw [add_ll (by simp)]; walk_at "w"; rw [sl_tL (by omega)]; walk_at "w"; rw [add_str (by simp; omega)]; walk_at "w"; rw [sl_tH (by omega)]; walk_at "w"; rw [add_str (by simp; omega)]; walk_at "w"; rw [add_str (by simp; omega)]
 walk_at "w"; rw [sl_tL (by omega)]; walk_at "w"; rw [add_str (by simp; omega)]; walk_at "w"; rw [ea, sl_tH (by omega)]; walk_at "w"; rw [add_str (by simp; omega)]; walk_at "w"; rw [add_ll (by simp)]; walk_at "w"
 refine Run.ok ⟨_, rfl, by simp, ?_, h3⟩
 simp only [List.cons_append, List.nil_append, List.append_assoc]
 repeat (first | exact Txs.nil | refine Txs.cons (by first | (simp [dgs_len]; done) | (simp [dgs_len]; omega) | omega) ?_)
def in25 : SV := (sSeq (sAsg (eFn gLawOf (aCons (eVar 1) (aCons (eOp addD (eFn gLst (aCons (eC .non) aNil)) (eFn lstRF (aCons (eFn lenF (aCons (eOp ixD (eVar 3) (eC (.int 2))) aNil)) aNil))) aNil))) (gN 6))
 (sSeq (sAsg (eFn gLawLetter (aCons (eVar 3) (aCons (eVar 6) (aCons (eFn gLawValue3 (aCons (eVar 1) (aCons (eOp ixD (eVar 3) (eC (.int 1))) aNil))) (aCons (eFn gLawAnyHead (aCons (eVar 1) (aCons (eOp ixD (eVar 3) (eC (.int 0))) aNil))) aNil))))) (gN 4))
 (sSeq (sAsg (eOp addD (eFn gLst (aCons (eVar 4) aNil)) (eFn gLawBent (aCons (eVar 1) (aCons (eVar 3) (aCons (eVar 4) aNil))))) (gN 7))
 (sIf (tNotM (tV (eFn allF (aCons (eFn gL1 (aComp 1 (aIt (eVar 7)) (gN 9) tYesM (eFn gLawRight5 (aCons (eVar 3) (aCons (eVar 9) aNil))))) aNil))))
 (sRet (eC (.bl false)))
 sNil))))
theorem in25_run {x0 x2 x5 x6 x7 x8 : Option D} {x4 : D} (hp : P3 m0 p q c m) (hc : c + 50 < 2 ^ 40) (h : PtOk pt) :
  Run (in25 [x0, some (.ob p), x2, some pt.e, some x4, x5, x6, x7, x8] m) fun fl m' => ∃ (l : List Nat) (y6 y7 : Option D), fl = .nx [x0, some (.ob p), x2, some pt.e, some (.str ⟨l.toArray⟩), x5, y6, y7, x8] /\ P3 m p q (c + 40) m' := by
 have hf := h.fml
 unfold in25; walk_at "w"; rw [lst_1]; walk_at "w"; rw [ix_pt2]; walk_at "w"; rw [List.length_map, show lstRF [.int (pt.fms.length : Nat)] m = .ok (.lst (intsD 0 pt.fms.length)) m from if_pos ⟨by omega, by omega⟩]; walk_at "w"; rw [add_ll (by simp [intsD]; omega)]; walk_at "w"; refine Run.bind (of_run hp (by omega) (by simp) (by simp [intsD]; omega)) ?_; rintro a m1 ⟨ha, hp1⟩
 obtain ⟨at', rfl, hat⟩ : ∃ at', a = onD at' /\ atOk pt at' := by
  rcases List.mem_cons.mp ha with rfl | ha
  ·exact ⟨none, rfl, trivial⟩
  ·obtain ⟨i, hi⟩ := List.mem_iff_getElem?.mp ha
   have hil := (List.getElem?_eq_some_iff.mp hi).1
   rw [len_ints] at hil
   have := at_ints hi
   subst this
   refine ⟨some i, ?_, hil⟩
   simp [onD]
 walk_at "w"; rw [ix_pt1]; walk_at "w"; refine Run.bind (value3_run hp1 (by omega) h.w1) ?_; rintro _ m2 ⟨v', rfl, v0, v1, hp2⟩
 obtain ⟨v, rfl⟩ : ∃ v : Nat, v' = v := ⟨v'.toNat, by omega⟩
 walk_at "w"; rw [ix_pt0]; walk_at "w"; refine Run.bind (anyHead_run hp2 (by omega) h.sh.ok h.f1) ?_; rintro _ m3 ⟨hd, rfl, hh, hp3⟩; walk_at "w"; rw [letter38' h hat hh]
 have hlen := ltL_len (number := v) h hat hh
 have hbd := lsz_bd h.w hat
 walk_at "w"; rw [lst_1]; walk_at "w"; refine Run.bind (bent_run hp3 (by omega) h.w (l := ltL pt at' v hd) (by omega) (by omega) (by rw [hlen]; unfold lsz; omega)) ?_; rintro _ m4 ⟨xs, rfl, xl, xt, hp4⟩; walk_at "w"; rw [add_ll (by simp; omega)]; walk_at "w"
 rw [aComp_map (ds := .str ⟨(ltL pt at' v hd).toArray⟩ :: xs) (fun _ => .bl true) (by walk_at "w") (by simp; omega) (by
  intro d hd'
  refine ⟨_, rfl, ?_⟩
  obtain ⟨z, rfl, hz⟩ : ∃ z : List Nat, d = .str ⟨z.toArray⟩ /\ z.length <= 100000 := by
   rcases List.mem_cons.mp hd' with rfl | hd'
   ·exact ⟨_, rfl, by omega⟩
   ·obtain ⟨z, e, hz⟩ := xt d hd'
    exact ⟨z, e, by omega⟩
  walk_at "w"
  rw [rightZ h.w hz])]
 walk_at "w"; rw [show (D.bl true :: List.map (fun _ => D.bl true) xs) = ((D.non :: xs).map fun _ => D.bl true) from rfl, all_trueM]; walk_at "w"
 exact Run.ok ⟨_, _, _, rfl, hp1.via (hp2.via (hp3.via hp4)) |>.more (by omega)⟩
end
section
variable {m0 m : Sto} {p q c : Nat} {pt : Pt} {l : List Nat}
def th25 : SV := (sFor (aIt (eFn gLst (aCons (eC .non) (aCons (eC (.int 7)) (aCons (eC (.bl true)) (aCons (eFn gTup aNil) (aCons (eFn lstSF (aCons (eC (.str "01")) aNil)) (aCons (eFn gTup (aCons (eC (.str "0")) (aCons (eC (.str "1")) aNil))) (aCons (eDict []) (aCons (eC (.int 0)) (aCons (eFn gLst (aCons (eVar 4) aNil)) (aCons (eFn gTup (aCons (eVar 4) aNil)) aNil)))))))))))) (gN 8)
 (sIf (tNotM (tV (eFn gLawRefused (aCons (eVar 3) (aCons (eVar 8) aNil)))))
 (sRet (eC (.bl false)))
 sNil))
theorem gLaw27_cut : gLaw270 = (sSeq (sAsg (eFn gLawBox (aCons (eVar 0) aNil)) (gN 1))
 (sSeq (sFor (aRng rng1 (aCons (eC (.int 4)) aNil)) (gN 2)
 (sSeq (sAsg (eFn gTup (aCons (eFn gLawPact (aCons (eVar 1) (aCons (eC (.int 5)) aNil))) (aCons (eC (.str "")) aNil))) (gT 2 (gsCons (gN 3) (gsCons (gN 4) gsNil))))
 (sSeq (sFor (aRng rng1 (aCons (eC (.int 4)) aNil)) (gN 5) in25)
 th25)))
 (sRet (eC (.bl true))))) := rfl
theorem lstS_any {z : Str} (h : z.length <= sizeLine) : ∃ sg, lstSF [.str z] m = .ok (.lst sg) m := ⟨_, if_pos h⟩
theorem lst_10 {a b c d e f g h i j : D} : gLst [a, b, c, d, e, f, g, h, i, j] m = .ok (.lst [a, b, c, d, e, f, g, h, i, j]) m := if_pos (Nat.le_trans (by simp : _ <= 10) (by decide))
theorem things25 {M : Sto} {k : Nat} {sg : List D} {x4 s0 s1 : D} (hk : M[k]? = some (.dct [])) : ∃ xs, gLst [.non, .int 7, .bl true, .tup [], .lst sg, .tup [s0, s1], .ob k, .int 0, .lst [x4], .tup [x4]] M = .ok (.lst xs) M /\ ∀ d ∈ xs, isiD "str" d M = .ok (.bl false) M := by
 refine ⟨_, lst_10, fun d hd => ?_⟩
 simp only [List.mem_cons, List.not_mem_nil, or_false] at hd
 rcases hd with rfl | rfl | rfl | rfl | rfl | rfl | rfl | rfl | rfl | rfl
 any_goals rfl
 unfold isiD tyN; simp only [hk]
 rfl
theorem th25_run {x0 x2 x5 x6 x7 x8 : Option D} {x4 : D} (hp : P3 m0 p q c m) :
  Run (th25 [x0, some (.ob p), x2, some pt.e, some x4, x5, x6, x7, x8] m) fun fl m' => ∃ (y8 : Option D), fl = .nx [x0, some (.ob p), x2, some pt.e, some x4, x5, x6, x7, y8] /\ P3 m p q c m' := by
 have hk : (m ++ [MO.dct []])[m.length]? = some (.dct []) := by simp
 have hpA : P3 m p q c (m ++ [MO.dct []]) := hp.re.app
 unfold th25; walk_at "w"
 obtain ⟨sg, hsg⟩ : ∃ sg, lstSF [.str "01"] m = .ok (.lst sg) m := lstS_any (by
  rw [show (Str.ofString "01").length = 2 by decide]
  decide)
 rw [hsg]; walk_at "w"; rw [show ∀ ρ, eDict [] ρ m = .ok (.ob m.length) (m ++ [MO.dct []]) from fun _ => rfl]; generalize hM : m ++ [MO.dct []] = M at hk hpA; walk_at "w"; rw [lst_1]; walk_at "w"
 obtain ⟨xs, ex, hx⟩ := things25 (sg := sg) (x4 := x4) (s0 := .str "0") (s1 := .str "1") hk
 rw [ex]; walk_at "w"
 refine Run.mono (loop_run (fun k ρ m' => ∃ y8 : Option D, ρ = [x0, some (.ob p), x2, some pt.e, some x4, x5, x6, x7, y8] /\ m' = M) xs 0 ⟨_, rfl, rfl⟩ ?_) ?_
 ·rintro i d ρ m' hd ⟨y8, rfl, rfl⟩; walk_at "w"; rw [refN (hx d (List.mem_of_getElem? hd))]; walk_at "w"; exact Run.ok ⟨_, rfl, _, rfl, rfl⟩
 ·rintro fl m' ⟨ρ, rfl, y8, rfl, rfl⟩
  exact ⟨_, rfl, hpA⟩
theorem law_worth25 {ns : List Int} (hn : ns.length <= 63) : Run (gLaw27 [.scr (ns.map D.int)] []) fun a _ => a = .bl true := by
 unfold gLaw27; rw [gLaw27_cut]; walk_at "w"; refine Run.bind (box_run hn) ?_; rintro _ m1 ⟨p, q, rfl, hp1⟩; walk_at "w"; rw [rng_ok (by decide) (by decide)]; walk_at "w"; refine Run.bind (loop_run (fun k ρ m' => ∃ (x2 x3 x4 x5 x6 x7 x8 : Option D), ρ = [some (.scr (ns.map D.int)), some (.ob p), x2, x3, x4, x5, x6, x7, x8] /\ P3 m1 p q (1300 * k) m') (intsD 0 (4 : Int).toNat) 0 ⟨_, _, _, _, _, _, _, rfl, hp1⟩ ?_) ?_
 ·rintro i d ρ m2 hd ⟨x2, x3, x4, x5, x6, x7, x8, rfl, hI⟩
  have hi := (List.getElem?_eq_some_iff.mp hd).1
  rw [len_ints] at hi
  have hi4 : i < 4 := hi
  walk_at "w"; refine Run.bind (pact_run (most := 5) hI (by omega) (by decide) (by decide)) ?_; rintro _ m3 ⟨pt, rfl, hpt, hp3⟩
  have hI3 := hI.via hp3
  walk_at "w"; rw [rng_ok (by decide) (by decide)]; walk_at "w"; refine Run.bind (loop_run (fun k ρ m' => ∃ (y4 : D) (y5 y6 y7 : Option D), ρ = [some (.scr (ns.map D.int)), some (.ob p), some d, some pt.e, some y4, y5, y6, y7, x8] /\ P3 m1 p q (1300 * (0 + i) + 1000 + 50 * k) m') (intsD 0 (4 : Int).toNat) 0 ⟨_, _, _, _, rfl, hI3⟩ ?_) ?_
  ·rintro j d2 ρ m4 hd2 ⟨y4, y5, y6, y7, rfl, hJ⟩
   have hj := (List.getElem?_eq_some_iff.mp hd2).1
   rw [len_ints] at hj
   have hj4 : j < 4 := hj
   walk_at "w"
   refine Run.mono (in25_run hJ (by omega) hpt) ?_
   rintro _ m5 ⟨l, y6', y7', rfl, hp5⟩
   exact ⟨_, rfl, _, _, _, _, rfl, (hJ.via hp5).more (by omega)⟩
  ·rintro _ m4 ⟨ρ, rfl, y4, y5, y6, y7, rfl, hJ⟩; walk_at "w"
   refine Run.mono (th25_run hJ) ?_
   rintro _ m5 ⟨y8, rfl, hp5⟩
   refine ⟨_, rfl, _, _, _, _, _, _, _, rfl, (hJ.via hp5).more ?_⟩
   rw [len_ints]
   show 1300 * (0 + i) + 1000 + 50 * (0 + 4) <= 1300 * (0 + i + 1)
   omega
 ·rintro _ m2 ⟨ρ, rfl, x2, x3, x4, x5, x6, x7, x8, rfl, hI⟩; walk_at "w"
  exact Run.ok rfl
end
end MD
set_option autoImplicit false
namespace K25
open PySem PyProof.Rows L2 MD
structure Txt (mg : Str -> Option Value) : Prop where
 ValueError : mg "ValueError" = none
 sum : mg "sum" = none
 range : mg "range" = none
 tuple : mg "tuple" = none
 enumerate : mg "enumerate" = none
 isi : mg "isinstance" = none
 str : mg "str" = none
 len : mg "len" = none
 min : mg "min" = none
 int : mg "int" = none
 all : mg "all" = none
 zip : mg "zip" = none
 abs : mg "abs" = none
 bool : mg "bool" = none
 list : mg "list" = none
set_option maxHeartbeats 16000000
section
variable (P : Program) (w : World) {K : PySem.W.Frag} {mg : Str -> Option Value} (base : Heap) {cl : Str -> Addr} {f : Addr} {fd : FuncData}
theorem scAreBits : FnScope ["thing", "sign"] ["thing"] (defScope sAreBits) := sco
theorem ok_AreBits (F : Fun K "are_bits" "are_bits" sAreBits f fd) (b : Binds K fd ["thing"] []) (m : mg "are_bits" = some (.ref f)) (T : Txt mg) (TX : TxE K cl ["HeadError", "NoHead", "NoLetter", "NoStream", "NoText"] ["NoLetter"]) : FnX P w K mg base cl "are_bits" 1 1 gAreBits :=
 have h := mkx P w base cl 0 F b m scAreBits fun cdv A outer s H E hr =>
  (qss_cons (qs_if (qt_not (qt_val (qe_isi (n := "str") (by decide) (by rfl) T.isi (by rfl) T.str boot_str (qe_var 0))))
  (qss_one (qs_ret qe_bl))
  qss_nil)
  (qss_cons (qs_for PassesOwn.never rfl (qi_seq (qe_var 0)) (qg_name (i := 1) scAreBits.nd rfl (Or.inl rfl))
  (qss_one (qs_if (qt_bool (qw_and (qt_cmp (op_neA hr.units) od_ne (qe_var 1) qe_str (nomark _)) (qw_and1 (qt_cmp (op_neA hr.units) od_ne (qe_var 1) qe_str (nomark _)))))
  (qss_one (qs_ret qe_bl))
  qss_nil)))
  (qss_one (qs_ret qe_bl))))
 h
theorem scNumberOf : FnScope ["bits", "number", "sign"] ["bits"] (defScope sNumberOf) := sco
theorem ok_NumberOf (F : Fun K "number_of" "number_of" sNumberOf f fd) (b : Binds K fd ["bits"] []) (m : mg "number_of" = some (.ref f)) (T : Txt mg) (TX : TxE K cl ["HeadError", "NoHead", "NoLetter", "NoStream", "NoText"] ["NoLetter"]) : FnX P w K mg base cl "number_of" 1 1 gNumberOf :=
 have h := mkx P w base cl 0 F b m scNumberOf fun cdv A outer s H E hr =>
  (qss_cons (qs_set (i := 1) scNumberOf.nd rfl (Or.inl rfl) qe_int)
  (qss_cons (qs_for PassesOwn.never rfl (qi_seq (qe_var 0)) (qg_name (i := 2) scNumberOf.nd rfl (Or.inl rfl))
  (qss_one (qs_set (i := 1) scNumberOf.nd rfl (Or.inl rfl) (qe_op op_addA od_add (qe_op op_mulA od_mul (qe_var 1) qe_int) (qe_callTy call_intA fd_int (by rfl) T.int boot_int (qa_cons (qe_var 2) qa_nil))))))
  (qss_one (qs_ret (qe_var 1)))))
 h
theorem scWidthFor : FnScope ["many", "width", "room"] ["many"] (defScope sWidthFor) := sco
theorem ok_WidthFor (F : Fun K "width_for" "width_for" sWidthFor f fd) (b : Binds K fd ["many"] []) (m : mg "width_for" = some (.ref f)) (T : Txt mg) (TX : TxE K cl ["HeadError", "NoHead", "NoLetter", "NoStream", "NoText"] ["NoLetter"]) : FnX P w K mg base cl "width_for" 1 1 gWidthFor :=
 have h := mkx P w base cl 0 F b m scWidthFor fun cdv A outer s H E hr =>
  (qss_cons (qs_set (i := 1) scWidthFor.nd rfl (Or.inl rfl) qe_int)
  (qss_cons (qs_set (i := 2) scWidthFor.nd rfl (Or.inl rfl) qe_int)
  (qss_cons (qs_while (n := fuelW) PassesOwn.never (qt_cmp op_ltA od_lt (qe_var 2) (qe_var 0) (nomark _))
  (qss_cons (qs_set (i := 2) scWidthFor.nd rfl (Or.inl rfl) (qe_op op_mulA od_mul (qe_var 2) qe_int))
  (qss_one (qs_set (i := 1) scWidthFor.nd rfl (Or.inl rfl) (qe_op op_addA od_add (qe_var 1) qe_int)))))
  (qss_one (qs_ret (qe_var 1))))))
 h
theorem scBreadths : FnScope ["shape"] ["shape"] (defScope sBreadths) := sco
theorem ok_Breadths (F : Fun K "breadths" "breadths" sBreadths f fd) (b : Binds K fd ["shape"] []) (m : mg "breadths" = some (.ref f)) (T : Txt mg) (TX : TxE K cl ["HeadError", "NoHead", "NoLetter", "NoStream", "NoText"] ["NoLetter"]) : FnX P w K mg base cl "breadths" 1 1 gBreadths :=
 have h := mkx P w base cl 0 F b m scBreadths fun cdv A outer s H E hr =>
  (qss_one (qs_ret (qe_comp rfl rfl (N0 := ["shape"]) (xs := ["field"]) ⟨(by with_unfolding_all rfl), rfl, rfl, rfl, (by repeat (first | exact trivial | refine ⟨rfl, ?_⟩)), rfl, .inl rfl⟩ (qi_seq (qxi hr (qe_var 0) qe_int)) (fun _ _ _ _ => (qg_name (i := 1) (by decide +kernel : (["shape", "field"] : List Str).Nodup) rfl (Or.inl rfl))) (fun _ _ _ _ => qif_nil) (fun _ _ _ _ => (qxi hr (qe_var 1) qe_int)))))
 h
theorem scWidthOf : FnScope ["way", "breadth"] ["way", "breadth"] (defScope sWidthOf) := sco
theorem ok_WidthOf (F : Fun K "width_of" "width_of" sWidthOf f fd) (b : Binds K fd ["way", "breadth"] []) (m : mg "width_of" = some (.ref f)) (T : Txt mg) (TX : TxE K cl ["HeadError", "NoHead", "NoLetter", "NoStream", "NoText"] ["NoLetter"]) : FnX P w K mg base cl "width_of" 1 2 gWidthOf :=
 have h := mkx P w base cl 0 F b m scWidthOf fun cdv A outer s H E hr =>
  (qss_cons (qs_if (qt_cmp (op_eqA hr.units) od_eq (qxi hr (qe_var 0) qe_int) qe_str (nomark _))
  (qss_one (qs_ret qe_int))
  qss_nil)
  (qss_cons (qs_if (qt_cmp (op_eqA hr.units) od_eq (qxi hr (qe_var 0) qe_int) qe_str (nomark _))
  (qss_one (qs_ret (qxi hr (qe_var 0) qe_int)))
  qss_nil)
  (qss_one (qs_ret (qe_var 1)))))
 h
theorem scWidths : FnScope ["shape", "form"] ["shape", "form"] (defScope sWidths) := sco
theorem ok_Widths (F : Fun K "widths" "widths" sWidths f fd) (b : Binds K fd ["shape", "form"] []) (m : mg "widths" = some (.ref f)) (T : Txt mg) (TX : TxE K cl ["HeadError", "NoHead", "NoLetter", "NoStream", "NoText"] ["NoLetter"]) (hBreadths : FnX P w K mg base cl "breadths" 1 1 gBreadths) (hWidthOf : FnX P w K mg base cl "width_of" 1 2 gWidthOf) : FnX P w K mg base cl "widths" 2 2 gWidths :=
 have h := mkx P w base cl 1 F b m scWidths fun cdv A outer s H E hr =>
  (qss_one (qs_ret (qe_comp rfl rfl (N0 := ["shape", "form"]) (xs := ["way", "breadth"]) ⟨(by with_unfolding_all rfl), rfl, rfl, rfl, (by repeat (first | exact trivial | refine ⟨rfl, ?_⟩)), rfl, .inl rfl⟩ (qi_zip (by rfl) T.zip (qxi hr (qe_var 1) qe_int) (qfn hBreadths hr (qa_cons (qe_var 0) qa_nil))) (fun _ _ _ _ => (qg_tup (n := 2) rfl (qgs_cons (qg_name (i := 2) (by decide +kernel : (["shape", "form", "way", "breadth"] : List Str).Nodup) rfl (Or.inl rfl)) (qgs_cons (qg_name (i := 3) (by decide +kernel : (["shape", "form", "way", "breadth"] : List Str).Nodup) rfl (Or.inl rfl)) qgs_nil)))) (fun _ _ _ _ => qif_nil) (fun _ _ _ _ => (qfn hWidthOf hr (qa_cons (qe_var 2) (qa_cons (qe_var 3) qa_nil)))))))
 h
theorem scSizeOf : FnScope ["shape", "form"] ["shape", "form"] (defScope sSizeOf) := sco
theorem ok_SizeOf (F : Fun K "size_of" "size_of" sSizeOf f fd) (b : Binds K fd ["shape", "form"] []) (m : mg "size_of" = some (.ref f)) (T : Txt mg) (TX : TxE K cl ["HeadError", "NoHead", "NoLetter", "NoStream", "NoText"] ["NoLetter"]) (hWidths : FnX P w K mg base cl "widths" 2 2 gWidths) : FnX P w K mg base cl "size_of" 3 2 gSizeOf :=
 have h := mkx P w base cl 2 F b m scSizeOf fun cdv A outer s H E hr =>
  (qss_one (qs_ret (qe_callB (call_sumL rfl) fd_sum (by rfl) T.sum boot_sum (qa_cons (qfn hWidths hr (qa_cons (qe_var 0) (qa_cons (qe_var 1) qa_nil))) qa_nil))))
 h
theorem scFormAt : FnScope ["pact", "at"] ["pact", "at"] (defScope sFormAt) := sco
theorem ok_FormAt (F : Fun K "form_at" "form_at" sFormAt f fd) (b : Binds K fd ["pact", "at"] []) (m : mg "form_at" = some (.ref f)) (T : Txt mg) (TX : TxE K cl ["HeadError", "NoHead", "NoLetter", "NoStream", "NoText"] ["NoLetter"]) : FnX P w K mg base cl "form_at" 1 2 gFormAt :=
 have h := mkx P w base cl 0 F b m scFormAt fun cdv A outer s H E hr =>
  (qss_cons (qs_if (qt_cmp op_isA od_is (qe_var 1) qe_non (nomark _))
  (qss_one (qs_ret (qe_tup (qa_cons qe_int (qa_cons (qxi hr (qe_var 0) qe_int) (qa_cons (qe_op op_mulA od_mul (qe_tup (qa_cons (qe_tup (qa_cons qe_str qa_nil)) qa_nil)) (qe_callB call_lenA fd_len (by rfl) T.len PySem.boot_len (qa_cons (qxi hr (qxi hr (qe_var 0) qe_int) qe_int) qa_nil))) qa_nil))))))
  qss_nil)
  (qss_one (qs_ret (qxi hr (qxi hr (qe_var 0) qe_int) (qe_var 1)))))
 h
theorem scSortWidth : FnScope ["pact"] ["pact"] (defScope sSortWidth) := sco
theorem ok_SortWidth (F : Fun K "sort_width" "sort_width" sSortWidth f fd) (b : Binds K fd ["pact"] []) (m : mg "sort_width" = some (.ref f)) (T : Txt mg) (TX : TxE K cl ["HeadError", "NoHead", "NoLetter", "NoStream", "NoText"] ["NoLetter"]) (hWidthFor : FnX P w K mg base cl "width_for" 1 1 gWidthFor) : FnX P w K mg base cl "sort_width" 2 1 gSortWidth :=
 have h := mkx P w base cl 1 F b m scSortWidth fun cdv A outer s H E hr =>
  (qss_one (qs_ret (qfn hWidthFor hr (qa_cons (qe_op op_addA od_add qe_int (qe_callB call_lenA fd_len (by rfl) T.len PySem.boot_len (qa_cons (qxi hr (qe_var 0) qe_int) qa_nil))) qa_nil))))
 h
theorem scCheckWidth : FnScope ["pact"] ["pact"] (defScope sCheckWidth) := sco
theorem ok_CheckWidth (F : Fun K "check_width" "check_width" sCheckWidth f fd) (b : Binds K fd ["pact"] []) (m : mg "check_width" = some (.ref f)) (T : Txt mg) (TX : TxE K cl ["HeadError", "NoHead", "NoLetter", "NoStream", "NoText"] ["NoLetter"]) (hWidthFor : FnX P w K mg base cl "width_for" 1 1 gWidthFor) : FnX P w K mg base cl "check_width" 2 1 gCheckWidth :=
 have h := mkx P w base cl 1 F b m scCheckWidth fun cdv A outer s H E hr =>
  (qss_one (qs_ret (qfn hWidthFor hr (qa_cons (qxi hr (qxi hr (qe_var 0) qe_int) qe_int) qa_nil))))
 h
theorem scLetterSize : FnScope ["pact", "at", "form"] ["pact", "at"] (defScope sLetterSize) := sco
theorem ok_LetterSize (F : Fun K "letter_size" "letter_size" sLetterSize f fd) (b : Binds K fd ["pact", "at"] []) (m : mg "letter_size" = some (.ref f)) (T : Txt mg) (TX : TxE K cl ["HeadError", "NoHead", "NoLetter", "NoStream", "NoText"] ["NoLetter"]) (hCheckWidth : FnX P w K mg base cl "check_width" 2 1 gCheckWidth) (hFormAt : FnX P w K mg base cl "form_at" 1 2 gFormAt) (hSizeOf : FnX P w K mg base cl "size_of" 3 2 gSizeOf) (hSortWidth : FnX P w K mg base cl "sort_width" 2 1 gSortWidth) : FnX P w K mg base cl "letter_size" 4 2 gLetterSize :=
 have h := mkx P w base cl 3 F b m scLetterSize fun cdv A outer s H E hr =>
  (qss_cons (qs_set (i := 2) scLetterSize.nd rfl (Or.inl rfl) (qfn hFormAt hr (qa_cons (qe_var 0) (qa_cons (qe_var 1) qa_nil))))
  (qss_one (qs_ret (qe_op op_addA od_add (qe_op op_addA od_add (qe_op op_addA od_add (qfn hSortWidth hr (qa_cons (qe_var 0) qa_nil)) (qxi hr (qe_var 2) qe_int)) (qfn hSizeOf hr (qa_cons (qxi hr (qe_var 0) qe_int) (qa_cons (qe_var 2) qa_nil)))) (qfn hCheckWidth hr (qa_cons (qe_var 0) qa_nil))))))
 h
theorem scSortTold : FnScope ["pact", "bits", "sort"] ["pact", "bits"] (defScope sSortTold) := sco
theorem ok_SortTold (F : Fun K "sort_told" "sort_told" sSortTold f fd) (b : Binds K fd ["pact", "bits"] []) (m : mg "sort_told" = some (.ref f)) (T : Txt mg) (TX : TxE K cl ["HeadError", "NoHead", "NoLetter", "NoStream", "NoText"] ["NoLetter"]) (hNumberOf : FnX P w K mg base cl "number_of" 1 1 gNumberOf) (hSortWidth : FnX P w K mg base cl "sort_width" 2 1 gSortWidth) : FnE P w K mg base cl "sort_told" 3 2 gSortTold2 :=
 have h := FnE.mk' (P := P) (w := w) (base := base) (cl := cl) (k := 2) F b m scSortTold rfl fun cdv A outer s H E hr =>
  (yss_cons (ys_pu rfl (qs_set (i := 2) scSortTold.nd rfl (Or.inl rfl) (qfn hNumberOf hr (qa_cons (qe_sl (qe_var 1) qo_none (qo_some (qfn hSortWidth hr (qa_cons (qe_var 0) qa_nil)))) qa_nil))))
  (yss_cons (ys_if rfl (qt_cmp op_gt od_gt (qe_var 2) (qe_callB call_lenA fd_len (by rfl) T.len PySem.boot_len (qa_cons (qxi hr (qe_var 0) qe_int) qa_nil)) (nomark _))
  (yss_one (YB.ys (yb_raise rfl rfl TX (.head _) rfl (qa_cons qe_str qa_nil) (aCons_len aNil_len))))
  yss_nil)
  (yss_one (ys_pu rfl (qs_ret (qe_if (qt_cmp (op_eqA hr.units) od_eq (qe_var 2) qe_int (nomark _)) qe_non (qe_op op_sub od_sub (qe_var 2) qe_int)))))))
 h
theorem scParted : FnScope ["pact", "letter", "at", "begin", "behind", "last", "check"] ["pact", "letter"] (defScope sParted) := sco
theorem ok_Parted (F : Fun K "parted" "parted" sParted f fd) (b : Binds K fd ["pact", "letter"] []) (m : mg "parted" = some (.ref f)) (T : Txt mg) (TX : TxE K cl ["HeadError", "NoHead", "NoLetter", "NoStream", "NoText"] ["NoLetter"]) (hAreBits : FnX P w K mg base cl "are_bits" 1 1 gAreBits) (hCheckWidth : FnX P w K mg base cl "check_width" 2 1 gCheckWidth) (hFormAt : FnX P w K mg base cl "form_at" 1 2 gFormAt) (hLetterSize : FnX P w K mg base cl "letter_size" 4 2 gLetterSize) (hNumberOf : FnX P w K mg base cl "number_of" 1 1 gNumberOf) (hSortTold : FnE P w K mg base cl "sort_told" 3 2 gSortTold2) (hSortWidth : FnX P w K mg base cl "sort_width" 2 1 gSortWidth) : FnE P w K mg base cl "parted" 5 2 gParted2 :=
 have h := FnE.mk' (P := P) (w := w) (base := base) (cl := cl) (k := 4) F b m scParted rfl fun cdv A outer s H E hr =>
  (yss_cons (ys_if rfl (qt_not (qt_val (qfn hAreBits hr (qa_cons (qe_var 1) qa_nil))))
  (yss_one (YB.ys (yb_raise rfl rfl TX (.head _) rfl (qa_cons qe_str qa_nil) (aCons_len aNil_len))))
  yss_nil)
  (yss_cons (YB.ys (yb_set (i := 2) scParted.nd rfl (Or.inl rfl) (ye_fn rfl hSortTold rfl (hr.mono (by decide)) rfl (qa_cons (qe_var 0) (qa_cons (qe_var 1) qa_nil)) (aCons_len (aCons_len aNil_len)))))
  (yss_cons (ys_if rfl (qt_cmp (op_neA hr.units) od_ne (qe_callB call_lenA fd_len (by rfl) T.len PySem.boot_len (qa_cons (qe_var 1) qa_nil)) (qfn hLetterSize hr (qa_cons (qe_var 0) (qa_cons (qe_var 2) qa_nil))) (nomark _))
  (yss_one (YB.ys (yb_raise rfl rfl TX (.head _) rfl (qa_cons qe_str qa_nil) (aCons_len aNil_len))))
  yss_nil)
  (yss_cons (ys_pu rfl (qs_set (i := 3) scParted.nd rfl (Or.inl rfl) (qfn hSortWidth hr (qa_cons (qe_var 0) qa_nil))))
  (yss_cons (ys_pu rfl (qs_set (i := 4) scParted.nd rfl (Or.inl rfl) (qe_op op_addA od_add (qe_var 3) (qxi hr (qfn hFormAt hr (qa_cons (qe_var 0) (qa_cons (qe_var 2) qa_nil))) qe_int))))
  (yss_cons (ys_pu rfl (qs_set (i := 5) scParted.nd rfl (Or.inl rfl) (qe_op op_sub od_sub (qe_callB call_lenA fd_len (by rfl) T.len PySem.boot_len (qa_cons (qe_var 1) qa_nil)) (qfn hCheckWidth hr (qa_cons (qe_var 0) qa_nil)))))
  (yss_cons (ys_pu rfl (qs_set (i := 6) scParted.nd rfl (Or.inl rfl) (qfn hNumberOf hr (qa_cons (qe_sl (qe_var 1) (qo_some (qe_var 5)) qo_none) qa_nil))))
  (yss_cons (ys_if rfl (qt_cmp op_ge od_ge (qe_var 6) (qxi hr (qxi hr (qe_var 0) qe_int) qe_int) (nomark _))
  (yss_one (YB.ys (yb_raise rfl rfl TX (.head _) rfl (qa_cons qe_str qa_nil) (aCons_len aNil_len))))
  yss_nil)
  (yss_one (ys_pu rfl (qs_ret (qe_tup (qa_cons (qe_var 2) (qa_cons (qfn hNumberOf hr (qa_cons (qe_sl (qe_var 1) (qo_some (qe_var 3)) (qo_some (qe_var 4))) qa_nil)) (qa_cons (qe_sl (qe_var 1) (qo_some (qe_var 4)) (qo_some (qe_var 5))) (qa_cons (qe_var 6) qa_nil))))))))))))))))
 h
theorem scLawBox : FnScope ["_law_script", "_law_seed", "_law_own", "_law_far", "_law_cell"] ["_law_script"] (defScope sLawBox) := sco
theorem ok_LawBox (F : Fun K "_law_box" "_law_box" sLawBox f fd) (b : Binds K fd ["_law_script"] []) (m : mg "_law_box" = some (.ref f)) (T : Txt mg) (TX : TxE K cl ["HeadError", "NoHead", "NoLetter", "NoStream", "NoText"] ["NoLetter"]) : FnX P w K mg base cl "_law_box" 1 1 gLawBox :=
 have h := mkx P w base cl 0 F b m scLawBox fun cdv A outer s H E hr =>
  (qss_cons (qs_set (i := 1) scLawBox.nd rfl (Or.inl rfl) qe_int)
  (qss_cons (qs_set (i := 2) scLawBox.nd rfl (Or.inl rfl) (qe_newl qa_nil))
  (qss_cons (qs_set (i := 3) scLawBox.nd rfl (Or.inl rfl) (qe_op op_mulB od_mulB (qe_op op_mulB od_mulB (qe_op op_mulB od_mulB (qe_op op_mulB od_mulB (qe_op op_pow od_pow qe_int qe_int) (qe_op op_pow od_pow qe_int qe_int)) (qe_op op_pow od_pow qe_int qe_int)) (qe_op op_pow od_pow qe_int qe_int)) (qe_op op_pow od_pow qe_int qe_int)))
  (qss_cons (qs_for PassesOwn.never rfl (qi_seq (qe_sl (qe_var 0) qo_none (qo_some qe_int))) (qg_name (i := 4) scLawBox.nd rfl (Or.inl rfl))
  (qss_cons (qs_set (i := 1) scLawBox.nd rfl (Or.inl rfl) (qe_op op_mod od_mod (qe_op op_addA od_add (qe_op op_addA od_add (qe_op op_mulA od_mul (qe_var 1) qe_int) (qe_op op_mod od_mod (qe_var 4) (qe_op op_pow od_pow qe_int qe_int))) qe_int) qe_int))
  (qss_one (qs_if (qt_cmp op_ge od_ge (qe_callB call_abs fd_abs (by rfl) T.abs boot_abs (qa_cons (qe_var 4) qa_nil)) (qe_op op_pow od_pow qe_int qe_int) (nomark _))
  (qss_one (qs_drop (qe_bm PySem.F.plainAttrs_list PySem.F.slot_list_append PySem.F.type_list_append mt_append ty_lst md_append (qe_var 2) (qa_cons (qe_op op_mod od_mod (qe_callB call_abs fd_abs (by rfl) T.abs boot_abs (qa_cons (qe_var 4) qa_nil)) (qe_var 3)) qa_nil))))
  qss_nil))))
  (qss_one (qs_ret (qe_dict (QPs.cons (qe_var 2) (QPs.cons (qe_var 1) (QPs.cons qe_int QPs.nil))) (by simp) (by decide))))))))
 h
theorem scLawNext : FnScope ["_law_box_here", "_law_many", "_law_digit", "_law_turn", "_law_mixed"] ["_law_box_here", "_law_many"] (defScope sLawNext) := sco
theorem ok_LawNext (F : Fun K "_law_next" "_law_next" sLawNext f fd) (b : Binds K fd ["_law_box_here", "_law_many"] []) (m : mg "_law_next" = some (.ref f)) (T : Txt mg) (TX : TxE K cl ["HeadError", "NoHead", "NoLetter", "NoStream", "NoText"] ["NoLetter"]) : FnX P w K mg base cl "_law_next" 1 2 gLawNext :=
 have h := mkx P w base cl 0 F b m scLawNext fun cdv A outer s H E hr =>
  (qss_cons (qs_while (n := fuelW) PassesOwn.never (qt_bool (qw_and (qt_cmp (op_neA hr.units) od_ne (qxi hr (qe_var 0) qe_str) (qe_lst qa_nil) (nomark _)) (qw_and1 (qt_cmp (op_eqA hr.units) od_eq (qxi hr (qxi hr (qe_var 0) qe_str) qe_int) qe_int (nomark _)))))
  (qss_one (qs_drop (qe_bm PySem.F.plainAttrs_list PySem.F.slot_list_pop PySem.F.type_list_pop mt_popAt ty_lst md_pop (qxi hr (qe_var 0) qe_str) (qa_cons qe_int qa_nil)))))
  (qss_cons (qs_if (qt_cmp (op_neA hr.units) od_ne (qxi hr (qe_var 0) qe_str) (qe_lst qa_nil) (nomark _))
  (qss_cons (qs_set (i := 2) scLawNext.nd rfl (Or.inl rfl) (qe_op op_mod od_mod (qxi hr (qxi hr (qe_var 0) qe_str) qe_int) (qe_var 1)))
  (qss_cons (qs_asg (qe_op op_fdivL od_fdiv (qxi hr (qxi hr (qe_var 0) qe_str) qe_int) (qe_var 1)) (qg_item (qxi hr (qe_var 0) qe_str) qe_int))
  (qss_one (qs_ret (qe_var 2)))))
  qss_nil)
  (qss_cons (qs_dput (hu_of hr) (qe_var 0) qe_str (qe_op op_addA od_add (qxi hr (qe_var 0) qe_str) qe_int) rfl)
  (qss_cons (qs_set (i := 3) scLawNext.nd rfl (Or.inl rfl) (qxi hr (qe_var 0) qe_str))
  (qss_cons (qs_set (i := 4) scLawNext.nd rfl (Or.inl rfl) (qe_op op_addA od_add (qe_op op_addA od_add (qxi hr (qe_var 0) qe_str) (qe_op op_mulA od_mul (qe_op op_mulA od_mul (qe_var 3) (qe_var 3)) qe_int)) (qe_op op_mulA od_mul (qe_var 3) qe_int)))
  (qss_cons (qs_set (i := 4) scLawNext.nd rfl (Or.inl rfl) (qe_op op_mod od_mod (qe_op op_mulA od_mul (qe_var 4) qe_int) qe_int))
  (qss_cons (qs_set (i := 4) scLawNext.nd rfl (Or.inl rfl) (qe_op op_mod od_mod (qe_op op_mulA od_mul (qe_var 4) (qe_op op_addA od_add (qe_op op_mod od_mod (qe_var 4) qe_int) qe_int)) qe_int))
  (qss_one (qs_ret (qe_op op_mod od_mod (qe_op op_fdivL od_fdiv (qe_var 4) qe_int) (qe_var 1)))))))))))
 h
theorem scLawOf : FnScope ["_law_box_here", "_law_some"] ["_law_box_here", "_law_some"] (defScope sLawOf) := sco
theorem ok_LawOf (F : Fun K "_law_of" "_law_of" sLawOf f fd) (b : Binds K fd ["_law_box_here", "_law_some"] []) (m : mg "_law_of" = some (.ref f)) (T : Txt mg) (TX : TxE K cl ["HeadError", "NoHead", "NoLetter", "NoStream", "NoText"] ["NoLetter"]) (hLawNext : FnX P w K mg base cl "_law_next" 1 2 gLawNext) : FnX P w K mg base cl "_law_of" 2 2 gLawOf :=
 have h := mkx P w base cl 1 F b m scLawOf fun cdv A outer s H E hr =>
  (qss_one (qs_ret (qxi hr (qe_var 1) (qfn hLawNext hr (qa_cons (qe_var 0) (qa_cons (qe_callB call_lenA fd_len (by rfl) T.len PySem.boot_len (qa_cons (qe_var 1) qa_nil)) qa_nil))))))
 h
theorem scLawValue : FnScope ["_law_box_here", "_law_breadth", "_law_some"] ["_law_box_here", "_law_breadth"] (defScope sLawValue) := sco
theorem ok_LawValue (F : Fun K "_law_value" "_law_value" sLawValue f fd) (b : Binds K fd ["_law_box_here", "_law_breadth"] []) (m : mg "_law_value" = some (.ref f)) (T : Txt mg) (TX : TxE K cl ["HeadError", "NoHead", "NoLetter", "NoStream", "NoText"] ["NoLetter"]) (hLawNext : FnX P w K mg base cl "_law_next" 1 2 gLawNext) : FnX P w K mg base cl "_law_value" 2 2 gLawValue3 :=
 have h := mkx P w base cl 1 F b m scLawValue fun cdv A outer s H E hr =>
  (qss_cons (qs_set (i := 2) scLawValue.nd rfl (Or.inl rfl) (qe_lst (qa_cons qe_int (qa_cons qe_int (qa_cons (qe_op op_sub od_sub (qe_op op_shl od_shl qe_int (qe_var 1)) qe_int) (qa_cons (qfn hLawNext hr (qa_cons (qe_var 0) (qa_cons (qe_op op_shl od_shl qe_int (qe_var 1)) qa_nil))) qa_nil))))))
  (qss_one (qs_ret (qe_op op_mod od_mod (qxi hr (qe_var 2) (qfn hLawNext hr (qa_cons (qe_var 0) (qa_cons qe_int qa_nil)))) (qe_op op_shl od_shl qe_int (qe_var 1))))))
 h
theorem scLawKind : FnScope ["_law_box_here", "_law_place", "_law_breadth", "_law_way_here", "_law_many", "_law_first", "_law_step", "_law_times"] ["_law_box_here", "_law_place", "_law_breadth"] (defScope sLawKind) := sco
theorem ok_LawKind (F : Fun K "_law_kind" "_law_kind" sLawKind f fd) (b : Binds K fd ["_law_box_here", "_law_place", "_law_breadth"] []) (m : mg "_law_kind" = some (.ref f)) (T : Txt mg) (TX : TxE K cl ["HeadError", "NoHead", "NoLetter", "NoStream", "NoText"] ["NoLetter"]) (hLawNext : FnX P w K mg base cl "_law_next" 1 2 gLawNext) (hLawOf : FnX P w K mg base cl "_law_of" 2 2 gLawOf) (hLawValue : FnX P w K mg base cl "_law_value" 2 2 gLawValue3) : FnX P w K mg base cl "_law_kind" 3 3 gLawKind3 :=
 have h := mkx P w base cl 2 F b m scLawKind fun cdv A outer s H E hr =>
  (qss_cons (qs_set (i := 3) scLawKind.nd rfl (Or.inl rfl) (qfn hLawNext hr (qa_cons (qe_var 0) (qa_cons qe_int qa_nil))))
  (qss_cons (qs_if (qt_cmp op_ltA od_lt (qe_var 3) qe_int (nomark _))
  (qss_one (qs_ret (qe_tup (qa_cons qe_str qa_nil))))
  qss_nil)
  (qss_cons (qs_if (qt_cmp op_ltA od_lt (qe_var 3) qe_int (nomark _))
  (qss_one (qs_ret (qe_tup (qa_cons qe_str (qa_cons (qfn hLawValue hr (qa_cons (qe_var 0) (qa_cons (qe_var 2) qa_nil))) qa_nil)))))
  qss_nil)
  (qss_cons (qs_if (qt_cmp (op_eqA hr.units) od_eq (qe_var 3) qe_int (nomark _))
  (qss_cons (qs_set (i := 4) scLawKind.nd rfl (Or.inl rfl) (qe_callB (call_min2 rfl) fd_min2 (by rfl) T.min boot_min (qa_cons (qe_op op_addA od_add qe_int (qfn hLawNext hr (qa_cons (qe_var 0) (qa_cons qe_int qa_nil)))) (qa_cons (qe_op op_shl od_shl qe_int (qe_var 2)) qa_nil))))
  (qss_cons (qs_asg (qe_tup (qa_cons (qfn hLawNext hr (qa_cons (qe_var 0) (qa_cons (qe_op op_shl od_shl qe_int (qe_var 2)) qa_nil))) (qa_cons (qe_op op_addA od_add (qe_op op_mulA od_mul qe_int (qfn hLawNext hr (qa_cons (qe_var 0) (qa_cons qe_int qa_nil)))) qe_int) qa_nil))) (qg_tup (n := 2) rfl (qgs_cons (qg_name (i := 5) scLawKind.nd rfl (Or.inr rfl)) (qgs_cons (qg_name (i := 6) scLawKind.nd rfl (Or.inr rfl)) qgs_nil))))
  (qss_one (qs_ret (qe_tup (qa_cons qe_str (qa_cons (qe_callTy (call_tupA rfl) fd_tup (by rfl) T.tuple boot_tuple (qa_cons (qe_comp rfl rfl (N0 := ["_law_box_here", "_law_place", "_law_breadth", "_law_way_here", "_law_many", "_law_first", "_law_step", "_law_times"]) (xs := ["_law_k"]) ⟨(by with_unfolding_all rfl), rfl, rfl, rfl, (by repeat (first | exact trivial | refine ⟨rfl, ?_⟩)), rfl, .inl rfl⟩ (qi_rng1 (by rfl) T.range (qa_cons (qe_var 4) qa_nil)) (fun _ _ _ _ => (qg_name (i := 8) (by decide +kernel : (["_law_box_here", "_law_place", "_law_breadth", "_law_way_here", "_law_many", "_law_first", "_law_step", "_law_times", "_law_k"] : List Str).Nodup) rfl (Or.inl rfl))) (fun _ _ _ _ => qif_nil) (fun _ _ _ _ => (qe_op op_mod od_mod (qe_op op_addA od_add (qe_var 5) (qe_op op_mulA od_mul (qe_var 6) (qe_var 8))) (qe_op op_shl od_shl qe_int (qe_var 2))))) qa_nil)) qa_nil)))))))
  qss_nil)
  (qss_cons (qs_if (qt_bool (qw_and (qt_cmp op_ltA od_lt (qe_var 3) qe_int (nomark _)) (qw_and1 (qt_cmp op_gt od_gt (qe_var 1) qe_int (nomark _)))))
  (qss_cons (qs_set (i := 7) scLawKind.nd rfl (Or.inl rfl) (qe_lst (qa_cons qe_int (qa_cons qe_int (qa_cons (qe_un un_neg ud_neg qe_int) (qa_cons qe_int (qa_cons qe_int (qa_cons (qe_un un_neg ud_neg qe_int) (qa_cons (qe_op op_sub od_sub (qfn hLawNext hr (qa_cons (qe_var 0) (qa_cons qe_int qa_nil))) qe_int) qa_nil)))))))))
  (qss_one (qs_ret (qe_tup (qa_cons qe_str (qa_cons (qfn hLawNext hr (qa_cons (qe_var 0) (qa_cons (qe_var 1) qa_nil))) (qa_cons (qfn hLawOf hr (qa_cons (qe_var 0) (qa_cons (qe_var 7) qa_nil))) qa_nil)))))))
  qss_nil)
  (qss_one (qs_ret (qe_tup (qa_cons qe_str qa_nil)))))))))
 h
theorem scLawShape : FnScope ["_law_box_here", "_law_most", "_law_letters", "_law_first", "_law_fields", "_law_place", "_law_breadth", "_law_name"] ["_law_box_here", "_law_most"] (defScope sLawShape) := sco
theorem ok_LawShape (F : Fun K "_law_shape" "_law_shape" sLawShape f fd) (b : Binds K fd ["_law_box_here", "_law_most"] []) (m : mg "_law_shape" = some (.ref f)) (T : Txt mg) (TX : TxE K cl ["HeadError", "NoHead", "NoLetter", "NoStream", "NoText"] ["NoLetter"]) (hLawKind : FnX P w K mg base cl "_law_kind" 3 3 gLawKind3) (hLawNext : FnX P w K mg base cl "_law_next" 1 2 gLawNext) (hLawOf : FnX P w K mg base cl "_law_of" 2 2 gLawOf) : FnX P w K mg base cl "_law_shape" 4 2 gLawShape4 :=
 have h := mkx P w base cl 3 F b m scLawShape fun cdv A outer s H E hr =>
  (qss_cons (qs_set (i := 2) scLawShape.nd rfl (Or.inl rfl) qe_str)
  (qss_cons (qs_par (i := 3) (j := 4) rfl scLawShape.nd rfl rfl (by decide) rfl rfl (qa_cons (qfn hLawNext hr (qa_cons (qe_var 0) (qa_cons qe_int qa_nil))) (qa_cons (qe_newl qa_nil) qa_nil)) rfl)
  (qss_cons (qs_for PassesOwn.never rfl (qi_rng1 (by rfl) T.range (qa_cons (qe_op op_addA od_add qe_int (qfn hLawNext hr (qa_cons (qe_var 0) (qa_cons (qe_var 1) qa_nil)))) qa_nil)) (qg_name (i := 5) scLawShape.nd rfl (Or.inl rfl))
  (qss_cons (qs_set (i := 6) scLawShape.nd rfl (Or.inl rfl) (qfn hLawOf hr (qa_cons (qe_var 0) (qa_cons (qe_lst (qa_cons qe_int (qa_cons qe_int (qa_cons qe_int (qa_cons qe_int (qa_cons qe_int (qa_cons qe_int (qa_cons qe_int (qa_cons qe_int qa_nil))))))))) qa_nil))))
  (qss_cons (qs_set (i := 7) scLawShape.nd rfl (Or.inl rfl) (qe_op op_mulA od_mul (qxi hr (qe_var 2) (qe_op op_mod od_mod (qe_op op_addA od_add (qe_var 3) (qe_op op_mulA od_mul qe_int (qe_var 5))) qe_int)) (qe_op op_addA od_add qe_int (qe_op op_mod od_mod (qe_op op_addA od_add (qe_var 3) (qe_var 5)) qe_int))))
  (qss_one (qs_drop (qe_bm PySem.F.plainAttrs_list PySem.F.slot_list_append PySem.F.type_list_append mt_append ty_lst md_append (qe_var 4) (qa_cons (qe_tup (qa_cons (qe_var 7) (qa_cons (qe_var 6) (qa_cons (qfn hLawKind hr (qa_cons (qe_var 0) (qa_cons (qe_var 5) (qa_cons (qe_var 6) qa_nil)))) qa_nil)))) qa_nil)))))))
  (qss_one (qs_ret (qe_tup (qa_cons (qe_callTy (call_tupA rfl) fd_tup (by rfl) T.tuple boot_tuple (qa_cons (qe_var 4) qa_nil)) (qa_cons (qfn hLawOf hr (qa_cons (qe_var 0) (qa_cons (qe_lst (qa_cons qe_int (qa_cons qe_int (qa_cons qe_int (qa_cons qe_int (qa_cons qe_int (qa_cons qe_int (qa_cons qe_int (qa_cons (qe_op op_pow od_pow qe_int qe_int) qa_nil))))))))) qa_nil))) qa_nil))))))))
 h
theorem scLawWay : FnScope ["_law_box_here", "_law_breadth", "_law_way_here", "_law_width_here"] ["_law_box_here", "_law_breadth"] (defScope sLawWay) := sco
theorem ok_LawWay (F : Fun K "_law_way" "_law_way" sLawWay f fd) (b : Binds K fd ["_law_box_here", "_law_breadth"] []) (m : mg "_law_way" = some (.ref f)) (T : Txt mg) (TX : TxE K cl ["HeadError", "NoHead", "NoLetter", "NoStream", "NoText"] ["NoLetter"]) (hLawNext : FnX P w K mg base cl "_law_next" 1 2 gLawNext) (hLawValue : FnX P w K mg base cl "_law_value" 2 2 gLawValue3) : FnX P w K mg base cl "_law_way" 3 2 gLawWay3 :=
 have h := mkx P w base cl 2 F b m scLawWay fun cdv A outer s H E hr =>
  (qss_cons (qs_set (i := 2) scLawWay.nd rfl (Or.inl rfl) (qfn hLawNext hr (qa_cons (qe_var 0) (qa_cons qe_int qa_nil))))
  (qss_cons (qs_if (qt_cmp op_ltA od_lt (qe_var 2) qe_int (nomark _))
  (qss_one (qs_ret (qe_tup (qa_cons qe_str qa_nil))))
  qss_nil)
  (qss_cons (qs_if (qt_cmp (op_eqA hr.units) od_eq (qe_var 2) qe_int (nomark _))
  (qss_one (qs_ret (qe_tup (qa_cons qe_str qa_nil))))
  qss_nil)
  (qss_cons (qs_set (i := 3) scLawWay.nd rfl (Or.inl rfl) (qe_op op_addA od_add qe_int (qfn hLawNext hr (qa_cons (qe_var 0) (qa_cons (qe_var 1) qa_nil)))))
  (qss_one (qs_ret (qe_tup (qa_cons qe_str (qa_cons (qe_var 3) (qa_cons (qfn hLawValue hr (qa_cons (qe_var 0) (qa_cons (qe_var 3) qa_nil))) qa_nil))))))))))
 h
theorem scLawForm : FnScope ["_law_box_here", "_law_shape_here", "_law_ways"] ["_law_box_here", "_law_shape_here"] (defScope sLawForm) := sco
theorem ok_LawForm (F : Fun K "_law_form" "_law_form" sLawForm f fd) (b : Binds K fd ["_law_box_here", "_law_shape_here"] []) (m : mg "_law_form" = some (.ref f)) (T : Txt mg) (TX : TxE K cl ["HeadError", "NoHead", "NoLetter", "NoStream", "NoText"] ["NoLetter"]) (hLawOf : FnX P w K mg base cl "_law_of" 2 2 gLawOf) (hLawWay : FnX P w K mg base cl "_law_way" 3 2 gLawWay3) : FnX P w K mg base cl "_law_form" 4 2 gLawForm3 :=
 have h := mkx P w base cl 3 F b m scLawForm fun cdv A outer s H E hr =>
  (qss_cons (qs_set (i := 2) scLawForm.nd rfl (Or.inl rfl) (qe_callTy (call_tupA rfl) fd_tup (by rfl) T.tuple boot_tuple (qa_cons (qe_comp rfl rfl (N0 := ["_law_box_here", "_law_shape_here", "_law_ways"]) (xs := ["_law_field"]) ⟨(by with_unfolding_all rfl), rfl, rfl, rfl, (by repeat (first | exact trivial | refine ⟨rfl, ?_⟩)), rfl, .inl rfl⟩ (qi_seq (qxi hr (qe_var 1) qe_int)) (fun _ _ _ _ => (qg_name (i := 3) (by decide +kernel : (["_law_box_here", "_law_shape_here", "_law_ways", "_law_field"] : List Str).Nodup) rfl (Or.inl rfl))) (fun _ _ _ _ => qif_nil) (fun _ _ _ _ => (qfn hLawWay hr (qa_cons (qe_var 0) (qa_cons (qxi hr (qe_var 3) qe_int) qa_nil))))) qa_nil)))
  (qss_one (qs_ret (qe_tup (qa_cons (qfn hLawOf hr (qa_cons (qe_var 0) (qa_cons (qe_lst (qa_cons qe_int (qa_cons qe_int (qa_cons qe_int (qa_cons qe_int (qa_cons qe_int (qa_cons qe_int (qa_cons qe_int qa_nil)))))))) qa_nil))) (qa_cons (qfn hLawOf hr (qa_cons (qe_var 0) (qa_cons (qe_lst (qa_cons qe_int (qa_cons qe_int (qa_cons qe_int (qa_cons qe_int (qa_cons qe_int (qa_cons qe_int (qa_cons qe_int (qa_cons qe_int (qa_cons qe_int qa_nil)))))))))) qa_nil))) (qa_cons (qe_var 2) qa_nil)))))))
 h
theorem scLawRoad : FnScope ["_law_box_here", "_law_skips", "_law_gap"] ["_law_box_here"] (defScope sLawRoad) := sco
theorem ok_LawRoad (F : Fun K "_law_road" "_law_road" sLawRoad f fd) (b : Binds K fd ["_law_box_here"] []) (m : mg "_law_road" = some (.ref f)) (T : Txt mg) (TX : TxE K cl ["HeadError", "NoHead", "NoLetter", "NoStream", "NoText"] ["NoLetter"]) (hLawOf : FnX P w K mg base cl "_law_of" 2 2 gLawOf) : FnX P w K mg base cl "_law_road" 3 1 gLawRoad :=
 have h := mkx P w base cl 2 F b m scLawRoad fun cdv A outer s H E hr =>
  (qss_cons (qs_set (i := 1) scLawRoad.nd rfl (Or.inl rfl) (qfn hLawOf hr (qa_cons (qe_var 0) (qa_cons (qe_lst (qa_cons qe_int (qa_cons qe_int (qa_cons qe_int (qa_cons qe_int (qa_cons qe_int (qa_cons qe_int (qa_cons qe_int qa_nil)))))))) qa_nil))))
  (qss_cons (qs_set (i := 2) scLawRoad.nd rfl (Or.inl rfl) (qe_op op_addA od_add (qe_var 1) (qfn hLawOf hr (qa_cons (qe_var 0) (qa_cons (qe_lst (qa_cons qe_int (qa_cons qe_int (qa_cons qe_int (qa_cons qe_int (qa_cons qe_int qa_nil)))))) qa_nil)))))
  (qss_one (qs_ret (qe_tup (qa_cons (qe_var 1) (qa_cons (qe_var 2) (qa_cons (qfn hLawOf hr (qa_cons (qe_var 0) (qa_cons (qe_lst (qa_cons qe_int (qa_cons qe_int (qa_cons qe_int (qa_cons qe_int (qa_cons qe_int (qa_cons qe_int qa_nil))))))) qa_nil))) (qa_cons (qfn hLawOf hr (qa_cons (qe_var 0) (qa_cons (qe_lst (qa_cons qe_int (qa_cons qe_int (qa_cons qe_int (qa_cons qe_int (qa_cons qe_int (qa_cons qe_int (qa_cons qe_int qa_nil)))))))) qa_nil))) qa_nil)))))))))
 h
theorem scLawPact : FnScope ["_law_box_here", "_law_most", "_law_shape_here", "_law_forms"] ["_law_box_here", "_law_most"] (defScope sLawPact) := sco
theorem ok_LawPact (F : Fun K "_law_pact" "_law_pact" sLawPact f fd) (b : Binds K fd ["_law_box_here", "_law_most"] []) (m : mg "_law_pact" = some (.ref f)) (T : Txt mg) (TX : TxE K cl ["HeadError", "NoHead", "NoLetter", "NoStream", "NoText"] ["NoLetter"]) (hLawForm : FnX P w K mg base cl "_law_form" 4 2 gLawForm3) (hLawOf : FnX P w K mg base cl "_law_of" 2 2 gLawOf) (hLawRoad : FnX P w K mg base cl "_law_road" 3 1 gLawRoad) (hLawShape : FnX P w K mg base cl "_law_shape" 4 2 gLawShape4) : FnX P w K mg base cl "_law_pact" 5 2 gLawPact :=
 have h := mkx P w base cl 4 F b m scLawPact fun cdv A outer s H E hr =>
  (qss_cons (qs_set (i := 2) scLawPact.nd rfl (Or.inr rfl) (qfn hLawShape hr (qa_cons (qe_var 0) (qa_cons (qe_var 1) qa_nil))))
  (qss_cons (qs_set (i := 3) scLawPact.nd rfl (Or.inl rfl) (qe_callTy (call_tupA rfl) fd_tup (by rfl) T.tuple boot_tuple (qa_cons (qe_comp rfl rfl (N0 := ["_law_box_here", "_law_most", "_law_shape_here", "_law_forms"]) (xs := ["_law_k"]) ⟨(by with_unfolding_all rfl), rfl, rfl, rfl, (by repeat (first | exact trivial | refine ⟨rfl, ?_⟩)), rfl, .inl rfl⟩ (qi_rng1 (by rfl) T.range (qa_cons (qfn hLawOf hr (qa_cons (qe_var 0) (qa_cons (qe_lst (qa_cons qe_int (qa_cons qe_int (qa_cons qe_int (qa_cons qe_int (qa_cons qe_int (qa_cons qe_int qa_nil))))))) qa_nil))) qa_nil)) (fun _ _ _ _ => (qg_name (i := 4) (by decide +kernel : (["_law_box_here", "_law_most", "_law_shape_here", "_law_forms", "_law_k"] : List Str).Nodup) rfl (Or.inl rfl))) (fun _ _ _ _ => qif_nil) (fun _ _ _ _ => (qfn hLawForm hr (qa_cons (qe_var 0) (qa_cons (qe_var 2) qa_nil))))) qa_nil)))
  (qss_one (qs_ret (qe_tup (qa_cons (qe_var 2) (qa_cons (qfn hLawOf hr (qa_cons (qe_var 0) (qa_cons (qe_lst (qa_cons qe_int (qa_cons qe_int (qa_cons qe_int (qa_cons qe_int qa_nil))))) qa_nil))) (qa_cons (qe_var 3) (qa_cons (qfn hLawRoad hr (qa_cons (qe_var 0) qa_nil)) qa_nil)))))))))
 h
theorem scLawAnyHead : FnScope ["_law_box_here", "_law_shape_here"] ["_law_box_here", "_law_shape_here"] (defScope sLawAnyHead) := sco
theorem ok_LawAnyHead (F : Fun K "_law_any_head" "_law_any_head" sLawAnyHead f fd) (b : Binds K fd ["_law_box_here", "_law_shape_here"] []) (m : mg "_law_any_head" = some (.ref f)) (T : Txt mg) (TX : TxE K cl ["HeadError", "NoHead", "NoLetter", "NoStream", "NoText"] ["NoLetter"]) (hLawValue : FnX P w K mg base cl "_law_value" 2 2 gLawValue3) : FnX P w K mg base cl "_law_any_head" 3 2 gLawAnyHead :=
 have h := mkx P w base cl 2 F b m scLawAnyHead fun cdv A outer s H E hr =>
  (qss_one (qs_ret (qe_callTy (call_tupA rfl) fd_tup (by rfl) T.tuple boot_tuple (qa_cons (qe_comp rfl rfl (N0 := ["_law_box_here", "_law_shape_here"]) (xs := ["_law_field"]) ⟨(by with_unfolding_all rfl), rfl, rfl, rfl, (by repeat (first | exact trivial | refine ⟨rfl, ?_⟩)), rfl, .inl rfl⟩ (qi_seq (qxi hr (qe_var 1) qe_int)) (fun _ _ _ _ => (qg_name (i := 2) (by decide +kernel : (["_law_box_here", "_law_shape_here", "_law_field"] : List Str).Nodup) rfl (Or.inl rfl))) (fun _ _ _ _ => qif_nil) (fun _ _ _ _ => (qfn hLawValue hr (qa_cons (qe_var 0) (qa_cons (qxi hr (qe_var 2) qe_int) qa_nil))))) qa_nil))))
 h
theorem scLawBits : FnScope ["_law_number_here", "_law_width_here", "_law_found", "_law_k"] ["_law_number_here", "_law_width_here"] (defScope sLawBits) := sco
theorem ok_LawBits (F : Fun K "_law_bits" "_law_bits" sLawBits f fd) (b : Binds K fd ["_law_number_here", "_law_width_here"] []) (m : mg "_law_bits" = some (.ref f)) (T : Txt mg) (TX : TxE K cl ["HeadError", "NoHead", "NoLetter", "NoStream", "NoText"] ["NoLetter"]) : FnX P w K mg base cl "_law_bits" 1 2 gLawBits :=
 have h := mkx P w base cl 0 F b m scLawBits fun cdv A outer s H E hr =>
  (qss_cons (qs_set (i := 2) scLawBits.nd rfl (Or.inl rfl) qe_str)
  (qss_cons (qs_for PassesOwn.never rfl (qi_rng1 (by rfl) T.range (qa_cons (qe_var 1) qa_nil)) (qg_name (i := 3) scLawBits.nd rfl (Or.inl rfl))
  (qss_cons (qs_set (i := 2) scLawBits.nd rfl (Or.inl rfl) (qe_op op_addA od_add (qe_callTy call_str_int fd_str (by rfl) T.str boot_str (qa_cons (qe_op op_mod od_mod (qe_var 0) qe_int) qa_nil)) (qe_var 2)))
  (qss_one (qs_set (i := 0) scLawBits.nd rfl (Or.inl rfl) (qe_op op_fdivL od_fdiv (qe_var 0) qe_int)))))
  (qss_one (qs_ret (qe_var 2)))))
 h
theorem scLawWidth : FnScope ["_law_many", "_law_width_here"] ["_law_many"] (defScope sLawWidth) := sco
theorem ok_LawWidth (F : Fun K "_law_width" "_law_width" sLawWidth f fd) (b : Binds K fd ["_law_many"] []) (m : mg "_law_width" = some (.ref f)) (T : Txt mg) (TX : TxE K cl ["HeadError", "NoHead", "NoLetter", "NoStream", "NoText"] ["NoLetter"]) : FnX P w K mg base cl "_law_width" 1 1 gLawWidth2 :=
 have h := mkx P w base cl 0 F b m scLawWidth fun cdv A outer s H E hr =>
  (qss_cons (qs_set (i := 1) scLawWidth.nd rfl (Or.inl rfl) qe_int)
  (qss_cons (qs_while (n := fuelW) PassesOwn.never (qt_cmp op_ltA od_lt (qe_op op_shl od_shl qe_int (qe_var 1)) (qe_var 0) (nomark _))
  (qss_one (qs_set (i := 1) scLawWidth.nd rfl (Or.inl rfl) (qe_op op_addA od_add (qe_var 1) qe_int))))
  (qss_one (qs_ret (qe_var 1)))))
 h
theorem scLawCheck : FnScope ["_law_shape_here", "_law_number_here", "_law_head", "_law_total", "_law_place"] ["_law_shape_here", "_law_number_here", "_law_head"] (defScope sLawCheck) := sco
theorem ok_LawCheck (F : Fun K "_law_check" "_law_check" sLawCheck f fd) (b : Binds K fd ["_law_shape_here", "_law_number_here", "_law_head"] []) (m : mg "_law_check" = some (.ref f)) (T : Txt mg) (TX : TxE K cl ["HeadError", "NoHead", "NoLetter", "NoStream", "NoText"] ["NoLetter"]) : FnX P w K mg base cl "_law_check" 1 3 gLawCheck :=
 have h := mkx P w base cl 0 F b m scLawCheck fun cdv A outer s H E hr =>
  (qss_cons (qs_set (i := 3) scLawCheck.nd rfl (Or.inl rfl) (qe_var 1))
  (qss_cons (qs_for PassesOwn.never rfl (qi_rng1 (by rfl) T.range (qa_cons (qe_callB call_lenA fd_len (by rfl) T.len PySem.boot_len (qa_cons (qe_var 2) qa_nil)) qa_nil)) (qg_name (i := 4) scLawCheck.nd rfl (Or.inl rfl))
  (qss_one (qs_set (i := 3) scLawCheck.nd rfl (Or.inl rfl) (qe_op op_addA od_add (qe_var 3) (qe_op op_mulA od_mul (qe_op op_addA od_add (qe_var 4) qe_int) (qxi hr (qe_var 2) (qe_var 4)))))))
  (qss_one (qs_ret (qe_op op_mod od_mod (qe_var 3) (qxi hr (qe_var 0) qe_int))))))
 h
theorem scLawWidthOf : FnScope ["_law_way_here", "_law_breadth"] ["_law_way_here", "_law_breadth"] (defScope sLawWidthOf) := sco
theorem ok_LawWidthOf (F : Fun K "_law_width_of" "_law_width_of" sLawWidthOf f fd) (b : Binds K fd ["_law_way_here", "_law_breadth"] []) (m : mg "_law_width_of" = some (.ref f)) (T : Txt mg) (TX : TxE K cl ["HeadError", "NoHead", "NoLetter", "NoStream", "NoText"] ["NoLetter"]) : FnX P w K mg base cl "_law_width_of" 1 2 gLawWidthOf :=
 have h := mkx P w base cl 0 F b m scLawWidthOf fun cdv A outer s H E hr =>
  (qss_cons (qs_if (qt_cmp (op_eqA hr.units) od_eq (qxi hr (qe_var 0) qe_int) qe_str (nomark _))
  (qss_one (qs_ret (qxi hr (qe_var 0) qe_int)))
  qss_nil)
  (qss_one (qs_ret (qe_op op_mulA od_mul (qe_var 1) (qe_callTy call_intA fd_int (by rfl) T.int boot_int (qa_cons (qe_cmp (op_eqA hr.units) od_eq (qxi hr (qe_var 0) qe_int) qe_str (nomark _)) qa_nil))))))
 h
theorem scLawPieces : FnScope ["_law_shape_here", "_law_ways", "_law_head", "_law_found", "_law_place", "_law_field", "_law_width_here"] ["_law_shape_here", "_law_ways", "_law_head"] (defScope sLawPieces) := sco
theorem ok_LawPieces (F : Fun K "_law_pieces" "_law_pieces" sLawPieces f fd) (b : Binds K fd ["_law_shape_here", "_law_ways", "_law_head"] []) (m : mg "_law_pieces" = some (.ref f)) (T : Txt mg) (TX : TxE K cl ["HeadError", "NoHead", "NoLetter", "NoStream", "NoText"] ["NoLetter"]) (hLawBits : FnX P w K mg base cl "_law_bits" 1 2 gLawBits) (hLawWidthOf : FnX P w K mg base cl "_law_width_of" 1 2 gLawWidthOf) : FnX P w K mg base cl "_law_pieces" 2 3 gLawPieces2 :=
 have h := mkx P w base cl 1 F b m scLawPieces fun cdv A outer s H E hr =>
  (qss_cons (qs_set (i := 3) scLawPieces.nd rfl (Or.inl rfl) qe_str)
  (qss_cons (qs_for PassesOwn.never rfl (qi_enum (by rfl) T.enumerate (qxi hr (qe_var 0) qe_int)) (qg_tup (n := 2) rfl (qgs_cons (qg_name (i := 4) scLawPieces.nd rfl (Or.inl rfl)) (qgs_cons (qg_name (i := 5) scLawPieces.nd rfl (Or.inl rfl)) qgs_nil)))
  (qss_cons (qs_set (i := 6) scLawPieces.nd rfl (Or.inl rfl) (qe_if (qt_cmp op_isA od_is (qe_var 1) qe_non (nomark _)) (qxi hr (qe_var 5) qe_int) (qfn hLawWidthOf hr (qa_cons (qxi hr (qe_var 1) (qe_var 4)) (qa_cons (qxi hr (qe_var 5) qe_int) qa_nil)))))
  (qss_one (qs_set (i := 3) scLawPieces.nd rfl (Or.inl rfl) (qe_op op_addA od_add (qe_var 3) (qfn hLawBits hr (qa_cons (qe_op op_mod od_mod (qxi hr (qe_var 2) (qe_var 4)) (qe_op op_shl od_shl qe_int (qe_var 6))) (qa_cons (qe_var 6) qa_nil))))))))
  (qss_one (qs_ret (qe_var 3)))))
 h
theorem scLawLetter : FnScope ["_law_pact_here", "_law_at", "_law_number_here", "_law_head", "_law_shape_here", "_law_wide", "_law_forms", "_law_road_here", "_law_count", "_law_ways", "_law_sort", "_law_found"] ["_law_pact_here", "_law_at", "_law_number_here", "_law_head"] (defScope sLawLetter) := sco
theorem ok_LawLetter (F : Fun K "_law_letter" "_law_letter" sLawLetter f fd) (b : Binds K fd ["_law_pact_here", "_law_at", "_law_number_here", "_law_head"] []) (m : mg "_law_letter" = some (.ref f)) (T : Txt mg) (TX : TxE K cl ["HeadError", "NoHead", "NoLetter", "NoStream", "NoText"] ["NoLetter"]) (hLawBits : FnX P w K mg base cl "_law_bits" 1 2 gLawBits) (hLawCheck : FnX P w K mg base cl "_law_check" 1 3 gLawCheck) (hLawPieces : FnX P w K mg base cl "_law_pieces" 2 3 gLawPieces2) (hLawWidth : FnX P w K mg base cl "_law_width" 1 1 gLawWidth2) : FnX P w K mg base cl "_law_letter" 3 4 gLawLetter :=
 have h := mkx P w base cl 2 F b m scLawLetter fun cdv A outer s H E hr =>
  (qss_cons (qs_asg (qe_var 0) (qg_tup (n := 4) rfl (qgs_cons (qg_name (i := 4) scLawLetter.nd rfl (Or.inl rfl)) (qgs_cons (qg_name (i := 5) scLawLetter.nd rfl (Or.inl rfl)) (qgs_cons (qg_name (i := 6) scLawLetter.nd rfl (Or.inl rfl)) (qgs_cons (qg_name (i := 7) scLawLetter.nd rfl (Or.inl rfl)) qgs_nil))))))
  (qss_cons (qs_par3 (i := 8) (j := 9) (k := 10) rfl scLawLetter.nd rfl rfl rfl (by decide) (by decide) (by decide) rfl rfl rfl (qa_cons (qe_var 5) (qa_cons qe_non (qa_cons qe_int qa_nil))) rfl)
  (qss_cons (qs_if (qt_cmp op_isntA od_isnt (qe_var 1) qe_non (nomark _))
  (qss_one (qs_par3 (i := 8) (j := 9) (k := 10) rfl scLawLetter.nd rfl rfl rfl (by decide) (by decide) (by decide) rfl rfl rfl (qa_cons (qxi hr (qxi hr (qe_var 6) (qe_var 1)) qe_int) (qa_cons (qxi hr (qxi hr (qe_var 6) (qe_var 1)) qe_int) (qa_cons (qe_op op_addA od_add qe_int (qe_var 1)) qa_nil))) rfl))
  qss_nil)
  (qss_cons (qs_set (i := 11) scLawLetter.nd rfl (Or.inl rfl) (qe_op op_addA od_add (qfn hLawBits hr (qa_cons (qe_var 10) (qa_cons (qfn hLawWidth hr (qa_cons (qe_op op_addA od_add qe_int (qe_callB call_lenA fd_len (by rfl) T.len PySem.boot_len (qa_cons (qe_var 6) qa_nil))) qa_nil)) qa_nil))) (qfn hLawBits hr (qa_cons (qe_op op_mod od_mod (qe_var 2) (qe_op op_shl od_shl qe_int (qe_var 8))) (qa_cons (qe_var 8) qa_nil)))))
  (qss_cons (qs_set (i := 11) scLawLetter.nd rfl (Or.inl rfl) (qe_op op_addA od_add (qe_var 11) (qfn hLawPieces hr (qa_cons (qe_var 4) (qa_cons (qe_var 9) (qa_cons (qe_var 3) qa_nil))))))
  (qss_one (qs_ret (qe_op op_addA od_add (qe_var 11) (qfn hLawBits hr (qa_cons (qfn hLawCheck hr (qa_cons (qe_var 4) (qa_cons (qe_var 2) (qa_cons (qe_var 3) qa_nil)))) (qa_cons (qfn hLawWidth hr (qa_cons (qxi hr (qe_var 4) qe_int) qa_nil)) qa_nil)))))))))))
 h
theorem scLawNumber : FnScope ["_law_bits_here", "_law_number_here", "_law_sign"] ["_law_bits_here"] (defScope sLawNumber) := sco
theorem ok_LawNumber (F : Fun K "_law_number" "_law_number" sLawNumber f fd) (b : Binds K fd ["_law_bits_here"] []) (m : mg "_law_number" = some (.ref f)) (T : Txt mg) (TX : TxE K cl ["HeadError", "NoHead", "NoLetter", "NoStream", "NoText"] ["NoLetter"]) : FnX P w K mg base cl "_law_number" 1 1 gLawNumber :=
 have h := mkx P w base cl 0 F b m scLawNumber fun cdv A outer s H E hr =>
  (qss_cons (qs_set (i := 1) scLawNumber.nd rfl (Or.inl rfl) qe_int)
  (qss_cons (qs_for PassesOwn.never rfl (qi_seq (qe_var 0)) (qg_name (i := 2) scLawNumber.nd rfl (Or.inl rfl))
  (qss_one (qs_set (i := 1) scLawNumber.nd rfl (Or.inl rfl) (qe_op op_addA od_add (qe_op op_mulA od_mul qe_int (qe_var 1)) (qe_callTy call_intA fd_int (by rfl) T.int boot_int (qa_cons (qe_cmp (op_eqA hr.units) od_eq (qe_var 2) qe_str (nomark _)) qa_nil))))))
  (qss_one (qs_ret (qe_var 1)))))
 h
theorem scLawSplit : FnScope ["_law_pact_here", "_law_letter_here", "_law_shape_here", "_law_wide", "_law_forms", "_law_road_here", "_law_first", "_law_last", "_law_sort", "_law_at", "_law_count", "_law_sizes", "_law_end", "_law_check_here"] ["_law_pact_here", "_law_letter_here"] (defScope sLawSplit) := sco
theorem ok_LawSplit (F : Fun K "_law_split" "_law_split" sLawSplit f fd) (b : Binds K fd ["_law_pact_here", "_law_letter_here"] []) (m : mg "_law_split" = some (.ref f)) (T : Txt mg) (TX : TxE K cl ["HeadError", "NoHead", "NoLetter", "NoStream", "NoText"] ["NoLetter"]) (hLawNumber : FnX P w K mg base cl "_law_number" 1 1 gLawNumber) (hLawWidth : FnX P w K mg base cl "_law_width" 1 1 gLawWidth2) (hLawWidthOf : FnX P w K mg base cl "_law_width_of" 1 2 gLawWidthOf) : FnX P w K mg base cl "_law_split" 2 2 gLawSplit :=
 have h := mkx P w base cl 1 F b m scLawSplit fun cdv A outer s H E hr =>
  (qss_cons (qs_asg (qe_var 0) (qg_tup (n := 4) rfl (qgs_cons (qg_name (i := 2) scLawSplit.nd rfl (Or.inl rfl)) (qgs_cons (qg_name (i := 3) scLawSplit.nd rfl (Or.inl rfl)) (qgs_cons (qg_name (i := 4) scLawSplit.nd rfl (Or.inl rfl)) (qgs_cons (qg_name (i := 5) scLawSplit.nd rfl (Or.inl rfl)) qgs_nil))))))
  (qss_cons (qs_if (qt_bool (qw_or (qt_not (qt_val (qe_isi (n := "str") (by decide) (by rfl) T.isi (by rfl) T.str boot_str (qe_var 1)))) (qw_or1 (qt_cmp (op_neA hr.units) od_ne (qe_bm PySem.F.plainAttrs_str PySem.F.slot_str_strip PySem.F.type_str_strip mt_strip ty_str md_strip (qe_var 1) (qa_cons qe_str qa_nil)) qe_str (nomark _)))))
  (qss_one (qs_ret qe_non))
  qss_nil)
  (qss_cons (qs_par (i := 6) (j := 7) rfl scLawSplit.nd rfl rfl (by decide) rfl rfl (qa_cons (qfn hLawWidth hr (qa_cons (qe_op op_addA od_add qe_int (qe_callB call_lenA fd_len (by rfl) T.len PySem.boot_len (qa_cons (qe_var 4) qa_nil))) qa_nil)) (qa_cons (qfn hLawWidth hr (qa_cons (qxi hr (qe_var 2) qe_int) qa_nil)) qa_nil)) rfl)
  (qss_cons (qs_set (i := 8) scLawSplit.nd rfl (Or.inl rfl) (qfn hLawNumber hr (qa_cons (qe_sl (qe_var 1) qo_none (qo_some (qe_var 6))) qa_nil)))
  (qss_cons (qs_if (qt_bool (qw_or (qt_cmp op_ltA od_lt (qe_callB call_lenA fd_len (by rfl) T.len PySem.boot_len (qa_cons (qe_var 1) qa_nil)) (qe_var 6) (nomark _)) (qw_or1 (qt_cmp op_gt od_gt (qe_var 8) (qe_callB call_lenA fd_len (by rfl) T.len PySem.boot_len (qa_cons (qe_var 4) qa_nil)) (nomark _)))))
  (qss_one (qs_ret qe_non))
  qss_nil)
  (qss_cons (qs_par3 (i := 9) (j := 10) (k := 11) rfl scLawSplit.nd rfl rfl rfl (by decide) (by decide) (by decide) rfl rfl rfl (qa_cons qe_non (qa_cons (qe_var 3) (qa_cons (qe_comp rfl rfl (N0 := ["_law_pact_here", "_law_letter_here", "_law_shape_here", "_law_wide", "_law_forms", "_law_road_here", "_law_first", "_law_last", "_law_sort", "_law_at", "_law_count", "_law_sizes", "_law_end", "_law_check_here"]) (xs := ["_law_field"]) ⟨(by with_unfolding_all rfl), rfl, rfl, rfl, (by repeat (first | exact trivial | refine ⟨rfl, ?_⟩)), rfl, .inl rfl⟩ (qi_seq (qxi hr (qe_var 2) qe_int)) (fun _ _ _ _ => (qg_name (i := 14) (by decide +kernel : (["_law_pact_here", "_law_letter_here", "_law_shape_here", "_law_wide", "_law_forms", "_law_road_here", "_law_first", "_law_last", "_law_sort", "_law_at", "_law_count", "_law_sizes", "_law_end", "_law_check_here", "_law_field"] : List Str).Nodup) rfl (Or.inl rfl))) (fun _ _ _ _ => qif_nil) (fun _ _ _ _ => (qxi hr (qe_var 14) qe_int))) qa_nil))) rfl)
  (qss_cons (qs_if (qt_cmp op_gt od_gt (qe_var 8) qe_int (nomark _))
  (qss_cons (qs_par (i := 9) (j := 10) rfl scLawSplit.nd rfl rfl (by decide) rfl rfl (qa_cons (qe_op op_sub od_sub (qe_var 8) qe_int) (qa_cons (qxi hr (qxi hr (qe_var 4) (qe_op op_sub od_sub (qe_var 8) qe_int)) qe_int) qa_nil)) rfl)
  (qss_one (qs_setC (i := 11) rfl rfl scLawSplit.nd rfl rfl (N0 := ["_law_pact_here", "_law_letter_here", "_law_shape_here", "_law_wide", "_law_forms", "_law_road_here", "_law_first", "_law_last", "_law_sort", "_law_at", "_law_count", "_law_sizes", "_law_end", "_law_check_here"]) (xs := ["_law_way_here", "_law_field"]) ⟨(by with_unfolding_all rfl), rfl, rfl, rfl, (by repeat (first | exact trivial | refine ⟨rfl, ?_⟩)), rfl, .inl rfl⟩ (qi_zip (by rfl) T.zip (qxi hr (qxi hr (qe_var 4) (qe_var 9)) qe_int) (qxi hr (qe_var 2) qe_int)) (fun _ _ _ _ => (qg_tup (n := 2) rfl (qgs_cons (qg_name (i := 14) (by decide +kernel : (["_law_pact_here", "_law_letter_here", "_law_shape_here", "_law_wide", "_law_forms", "_law_road_here", "_law_first", "_law_last", "_law_sort", "_law_at", "_law_count", "_law_sizes", "_law_end", "_law_check_here", "_law_way_here", "_law_field"] : List Str).Nodup) rfl (Or.inl rfl)) (qgs_cons (qg_name (i := 15) (by decide +kernel : (["_law_pact_here", "_law_letter_here", "_law_shape_here", "_law_wide", "_law_forms", "_law_road_here", "_law_first", "_law_last", "_law_sort", "_law_at", "_law_count", "_law_sizes", "_law_end", "_law_check_here", "_law_way_here", "_law_field"] : List Str).Nodup) rfl (Or.inl rfl)) qgs_nil)))) (fun _ _ _ _ => qif_nil) (fun _ _ _ _ => (qfn hLawWidthOf hr (qa_cons (qe_var 14) (qa_cons (qxi hr (qe_var 15) qe_int) qa_nil)))))))
  qss_nil)
  (qss_cons (qs_set (i := 12) scLawSplit.nd rfl (Or.inl rfl) (qe_op op_addA od_add (qe_op op_addA od_add (qe_var 6) (qe_var 10)) (qe_callB (call_sumL rfl) fd_sum (by rfl) T.sum boot_sum (qa_cons (qe_var 11) qa_nil))))
  (qss_cons (qs_set (i := 13) scLawSplit.nd rfl (Or.inl rfl) (qfn hLawNumber hr (qa_cons (qe_sl (qe_var 1) (qo_some (qe_var 12)) qo_none) qa_nil)))
  (qss_cons (qs_if (qt_bool (qw_or (qt_cmp (op_neA hr.units) od_ne (qe_callB call_lenA fd_len (by rfl) T.len PySem.boot_len (qa_cons (qe_var 1) qa_nil)) (qe_op op_addA od_add (qe_var 12) (qe_var 7)) (nomark _)) (qw_or1 (qt_cmp op_ge od_ge (qe_var 13) (qxi hr (qe_var 2) qe_int) (nomark _)))))
  (qss_one (qs_ret qe_non))
  qss_nil)
  (qss_one (qs_ret (qe_tup (qa_cons (qe_var 9) (qa_cons (qfn hLawNumber hr (qa_cons (qe_sl (qe_var 1) (qo_some (qe_var 6)) (qo_some (qe_op op_addA od_add (qe_var 6) (qe_var 10)))) qa_nil)) (qa_cons (qe_sl (qe_var 1) (qo_some (qe_op op_addA od_add (qe_var 6) (qe_var 10))) (qo_some (qe_var 12))) (qa_cons (qe_var 13) qa_nil)))))))))))))))))
 h
theorem scLawSame : FnScope ["_law_found", "_law_due"] ["_law_found", "_law_due"] (defScope sLawSame) := sco
theorem okN_LawSame (F : Fun K "_law_same" "_law_same" sLawSame f fd) (b : Binds K fd ["_law_found", "_law_due"] []) (m : mg "_law_same" = some (.ref f)) (T : Txt mg) (TX : TxE K cl ["HeadError", "NoHead", "NoLetter", "NoStream", "NoText"] ["NoLetter"]) : ∀ n, FnX P w K mg base cl "_law_same" (0 + n) 2 (gLawSameN n)
 | 0 => FnX.none F b m
 | n + 1 => by
  have hLawSame := okN_LawSame F b m T TX  n
  have h := mkx P w base cl (0 + n) F b m scLawSame fun cdv A outer s H E hr =>
   (qss_cons (qs_if (qt_val (qe_isi (n := "tuple") (by decide) (by rfl) T.isi (by rfl) T.tuple boot_tuple (qe_var 1)))
   (qss_cons (qs_if (qt_bool (qw_or (qt_not (qt_val (qe_isi (n := "tuple") (by decide) (by rfl) T.isi (by rfl) T.tuple boot_tuple (qe_var 0)))) (qw_or1 (qt_cmp (op_neA hr.units) od_ne (qe_callB call_lenA fd_len (by rfl) T.len PySem.boot_len (qa_cons (qe_var 0) qa_nil)) (qe_callB call_lenA fd_len (by rfl) T.len PySem.boot_len (qa_cons (qe_var 1) qa_nil)) (nomark _)))))
   (qss_one (qs_ret qe_bl))
   qss_nil)
   (qss_one (qs_ret (qe_callB (call_allB rfl) fd_all (by rfl) T.all boot_all (qa_cons (qe_comp rfl rfl (N0 := ["_law_found", "_law_due"]) (xs := ["_law_one", "_law_other"]) ⟨(by with_unfolding_all rfl), rfl, rfl, rfl, (by repeat (first | exact trivial | refine ⟨rfl, ?_⟩)), rfl, .inl rfl⟩ (qi_zip (by rfl) T.zip (qe_var 0) (qe_var 1)) (fun _ _ _ _ => (qg_tup (n := 2) rfl (qgs_cons (qg_name (i := 2) (by decide +kernel : (["_law_found", "_law_due", "_law_one", "_law_other"] : List Str).Nodup) rfl (Or.inl rfl)) (qgs_cons (qg_name (i := 3) (by decide +kernel : (["_law_found", "_law_due", "_law_one", "_law_other"] : List Str).Nodup) rfl (Or.inl rfl)) qgs_nil)))) (fun _ _ _ _ => qif_nil) (fun _ _ _ _ => (qe_fn hLawSame rfl (hr.mono (Nat.le_refl _)) rfl (qa_cons (qe_var 2) (qa_cons (qe_var 3) qa_nil)) (aCons_len (aCons_len aNil_len))))) qa_nil)))))
   qss_nil)
   (qss_cons (qs_if (qt_cmp op_isA od_is (qe_var 1) qe_non (nomark _))
   (qss_one (qs_ret (qe_cmp op_isA od_is (qe_var 0) qe_non (nomark _))))
   qss_nil)
   (qss_cons (qs_if (qt_val (qe_isi (n := "str") (by decide) (by rfl) T.isi (by rfl) T.str boot_str (qe_var 1)))
   (qss_one (qs_ret (qe_and (qe_isi (n := "str") (by decide) (by rfl) T.isi (by rfl) T.str boot_str (qe_var 0)) (qe_one (qe_cmp (op_eqA hr.units) od_eq (qe_var 0) (qe_var 1) (nomark _))))))
   qss_nil)
   (qss_one (qs_ret (qe_and (qe_isi (n := "int") (by decide) (by rfl) T.isi (by rfl) T.int boot_int (qe_var 0)) (qe_and (qe_not (qe_isi (n := "bool") (by decide) (by rfl) T.isi (by rfl) T.bool boot_bool (qe_var 0))) (qe_one (qe_cmp (op_eqA hr.units) od_eq (qe_var 0) (qe_var 1) (nomark _))))))))))
  exact h
theorem ok_LawSame (F : Fun K "_law_same" "_law_same" sLawSame f fd) (b : Binds K fd ["_law_found", "_law_due"] []) (m : mg "_law_same" = some (.ref f)) (T : Txt mg) (TX : TxE K cl ["HeadError", "NoHead", "NoLetter", "NoStream", "NoText"] ["NoLetter"]) : FnX P w K mg base cl "_law_same" 12 2 gLawSame := okN_LawSame P w base F b m T TX  12
theorem scLawRefused : FnScope ["_law_pact_here", "_law_letter_here", "_law_found", "e"] ["_law_pact_here", "_law_letter_here"] (defScope sLawRefused) := sco
theorem ok_LawRefused (F : Fun K "_law_refused" "_law_refused" sLawRefused f fd) (b : Binds K fd ["_law_pact_here", "_law_letter_here"] []) (m : mg "_law_refused" = some (.ref f)) (T : Txt mg) (TX : TxE K cl ["HeadError", "NoHead", "NoLetter", "NoStream", "NoText"] ["NoLetter"]) (hParted : FnE P w K mg base cl "parted" 5 2 gParted2) : FnX P w K mg base cl "_law_refused" 6 2 gLawRefused :=
 have h := mkx P w base cl 5 F b m scLawRefused fun cdv A outer s H E hr =>
  (qss_cons (qs_set (i := 2) scLawRefused.nd rfl (Or.inl rfl) qe_non)
  (qss_cons (qs_try (i := 3) rfl rfl TX (.head _) rfl scLawRefused.nd rfl rfl (yb_drop (ye_fn rfl hParted rfl (hr.mono (by decide)) rfl (qa_cons (qe_var 0) (qa_cons (qe_var 1) qa_nil)) (aCons_len (aCons_len aNil_len)))) (fun _ => (qss_cons (qs_set (i := 2) scLawRefused.nd rfl (Or.inl rfl) (qe_and (qe_isiX TX (.tail _ (.tail _ (.head _))) (by rfl) T.isi (by rfl) (qe_var 3)) (qe_one (qe_isiV TX (by rfl) T.isi (by rfl) T.ValueError (qe_var 3)))))
  (qss_one (qs_if (qt_val (qe_isiT TX (allN_cons (.tail _ (.head _)) (allN_cons (.tail _ (.tail _ (.tail _ (.head _)))) (allN_cons (.tail _ (.tail _ (.tail _ (.tail _ (.head _))))) allN_nil))) (by rfl) T.isi (qe_var 3) (qn_cons TX (.tail _ (.head _)) (by rfl) (qn_cons TX (.tail _ (.tail _ (.tail _ (.head _)))) (by rfl) (qn_cons TX (.tail _ (.tail _ (.tail _ (.tail _ (.head _))))) (by rfl) qn_nil)))))
  (qss_one (qs_set (i := 2) scLawRefused.nd rfl (Or.inl rfl) qe_bl))
  qss_nil)))))
  (qss_one (qs_ret (qe_cmp op_isA od_is (qe_var 2) qe_bl (nomark _))))))
 h
theorem scLawBent : FnScope ["_law_box_here", "_law_pact_here", "_law_letter_here", "_law_at", "_law_sign", "_law_some", "_law_first", "_law_last"] ["_law_box_here", "_law_pact_here", "_law_letter_here"] (defScope sLawBent) := sco
theorem ok_LawBent (F : Fun K "_law_bent" "_law_bent" sLawBent f fd) (b : Binds K fd ["_law_box_here", "_law_pact_here", "_law_letter_here"] []) (m : mg "_law_bent" = some (.ref f)) (T : Txt mg) (TX : TxE K cl ["HeadError", "NoHead", "NoLetter", "NoStream", "NoText"] ["NoLetter"]) (hLawBits : FnX P w K mg base cl "_law_bits" 1 2 gLawBits) (hLawNext : FnX P w K mg base cl "_law_next" 1 2 gLawNext) (hLawWidth : FnX P w K mg base cl "_law_width" 1 1 gLawWidth2) : FnX P w K mg base cl "_law_bent" 2 3 gLawBent :=
 have h := mkx P w base cl 1 F b m scLawBent fun cdv A outer s H E hr =>
  (qss_cons (qs_set (i := 3) scLawBent.nd rfl (Or.inl rfl) (qfn hLawNext hr (qa_cons (qe_var 0) (qa_cons (qe_op op_addA od_add (qe_callB call_lenA fd_len (by rfl) T.len PySem.boot_len (qa_cons (qe_var 2) qa_nil)) qe_int) qa_nil))))
  (qss_cons (qs_set (i := 4) scLawBent.nd rfl (Or.inl rfl) (qxi hr qe_str (qfn hLawNext hr (qa_cons (qe_var 0) (qa_cons qe_int qa_nil)))))
  (qss_cons (qs_set (i := 5) scLawBent.nd rfl (Or.inl rfl) (qe_lst (qa_cons (qe_op op_addA od_add (qe_op op_addA od_add (qe_sl (qe_var 2) qo_none (qo_some (qe_var 3))) (qe_var 4)) (qe_sl (qe_var 2) (qo_some (qe_var 3)) qo_none)) (qa_cons (qe_op op_addA od_add (qe_sl (qe_var 2) qo_none (qo_some (qe_var 3))) (qe_sl (qe_var 2) (qo_some (qe_op op_addA od_add (qe_var 3) qe_int)) qo_none)) (qa_cons (qe_op op_addA od_add (qe_op op_addA od_add (qe_sl (qe_var 2) qo_none (qo_some (qe_var 3))) (qe_var 4)) (qe_sl (qe_var 2) (qo_some (qe_op op_addA od_add (qe_var 3) qe_int)) qo_none)) qa_nil)))))
  (qss_cons (qs_set (i := 5) scLawBent.nd rfl (Or.inl rfl) (qe_op op_addA od_add (qe_var 5) (qe_lst (qa_cons (qe_op op_addA od_add (qe_var 2) (qe_var 4)) (qa_cons (qe_op op_addA od_add (qe_var 4) (qe_var 2)) (qa_cons (qe_sl (qe_var 2) (qo_some qe_int) qo_none) (qa_cons (qe_sl (qe_var 2) qo_none (qo_some (qe_un un_neg ud_neg qe_int))) (qa_cons qe_str (qa_cons (qe_op op_addA od_add (qe_var 2) (qe_var 2)) qa_nil)))))))))
  (qss_cons (qs_par (i := 6) (j := 7) rfl scLawBent.nd rfl rfl (by decide) rfl rfl (qa_cons (qfn hLawWidth hr (qa_cons (qe_op op_addA od_add qe_int (qe_callB call_lenA fd_len (by rfl) T.len PySem.boot_len (qa_cons (qxi hr (qe_var 1) qe_int) qa_nil))) qa_nil)) (qa_cons (qfn hLawWidth hr (qa_cons (qxi hr (qxi hr (qe_var 1) qe_int) qe_int) qa_nil)) qa_nil)) rfl)
  (qss_cons (qs_set (i := 5) scLawBent.nd rfl (Or.inl rfl) (qe_op op_addA od_add (qe_var 5) (qe_lst (qa_cons (qe_op op_addA od_add (qe_op op_mulA od_mul qe_str (qe_var 6)) (qe_sl (qe_var 2) (qo_some (qe_var 6)) qo_none)) (qa_cons (qe_op op_addA od_add (qe_sl (qe_var 2) qo_none (qo_some (qe_op op_sub od_sub (qe_callB call_lenA fd_len (by rfl) T.len PySem.boot_len (qa_cons (qe_var 2) qa_nil)) (qe_var 7)))) (qe_op op_mulA od_mul qe_str (qe_var 7))) qa_nil)))))
  (qss_cons (qs_set (i := 5) scLawBent.nd rfl (Or.inl rfl) (qe_op op_addA od_add (qe_var 5) (qe_lst (qa_cons (qe_op op_addA od_add (qfn hLawBits hr (qa_cons (qfn hLawNext hr (qa_cons (qe_var 0) (qa_cons (qe_op op_shl od_shl qe_int (qe_var 6)) qa_nil))) (qa_cons (qe_var 6) qa_nil))) (qe_sl (qe_var 2) (qo_some (qe_var 6)) qo_none)) (qa_cons (qe_sl (qe_var 2) qo_none (qo_some (qe_var 3))) qa_nil)))))
  (qss_one (qs_ret (qe_op op_addA od_add (qe_var 5) (qe_lst (qa_cons (qe_op op_addA od_add (qe_op op_addA od_add (qe_sl (qe_var 2) qo_none (qo_some (qe_var 3))) qe_str) (qe_sl (qe_var 2) (qo_some (qe_var 3)) qo_none)) (qa_cons (qe_op op_addA od_add qe_str (qe_var 2)) (qa_cons (qe_op op_addA od_add (qe_op op_addA od_add (qe_sl (qe_var 2) qo_none (qo_some (qe_var 3))) qe_str) (qe_sl (qe_var 2) (qo_some (qe_op op_addA od_add (qe_var 3) qe_int)) qo_none)) qa_nil))))))))))))))
 h
theorem scLawRight : FnScope ["_law_pact_here", "_law_letter_here", "_law_due"] ["_law_pact_here", "_law_letter_here"] (defScope sLawRight) := sco
theorem ok_LawRight (F : Fun K "_law_right" "_law_right" sLawRight f fd) (b : Binds K fd ["_law_pact_here", "_law_letter_here"] []) (m : mg "_law_right" = some (.ref f)) (T : Txt mg) (TX : TxE K cl ["HeadError", "NoHead", "NoLetter", "NoStream", "NoText"] ["NoLetter"]) (hLawRefused : FnX P w K mg base cl "_law_refused" 6 2 gLawRefused) (hLawSame : FnX P w K mg base cl "_law_same" 12 2 gLawSame) (hLawSplit : FnX P w K mg base cl "_law_split" 2 2 gLawSplit) (hParted : FnE P w K mg base cl "parted" 5 2 gParted2) : FnX P w K mg base cl "_law_right" 13 2 gLawRight5 :=
 have h := mkx P w base cl 12 F b m scLawRight fun cdv A outer s H E hr =>
  (qss_cons (qs_set (i := 2) scLawRight.nd rfl (Or.inl rfl) (qfn hLawSplit hr (qa_cons (qe_var 0) (qa_cons (qe_var 1) qa_nil))))
  (qss_cons (qs_if (qt_cmp op_isA od_is (qe_var 2) qe_non (nomark _))
  (qss_one (qs_ret (qfn hLawRefused hr (qa_cons (qe_var 0) (qa_cons (qe_var 1) qa_nil)))))
  qss_nil)
  (qss_one (qs_ret (qfn hLawSame hr (qa_cons (qfn hParted.pure hr (qa_cons (qe_var 0) (qa_cons (qe_var 1) qa_nil))) (qa_cons (qe_var 2) qa_nil)))))))
 h
theorem scLaw : FnScope ["_law_script", "_law_box_here", "_law_turn", "_law_pact_here", "_law_letter_here", "_law_more", "_law_at", "_law_some", "_law_thing"] ["_law_script"] (defScope sLaw) := sco
theorem ok_Law (F : Fun K "law" "law" sLaw f fd) (b : Binds K fd ["_law_script"] []) (m : mg "law" = some (.ref f)) (T : Txt mg) (TX : TxE K cl ["HeadError", "NoHead", "NoLetter", "NoStream", "NoText"] ["NoLetter"]) (hLawAnyHead : FnX P w K mg base cl "_law_any_head" 3 2 gLawAnyHead) (hLawBent : FnX P w K mg base cl "_law_bent" 2 3 gLawBent) (hLawBox : FnX P w K mg base cl "_law_box" 1 1 gLawBox) (hLawLetter : FnX P w K mg base cl "_law_letter" 3 4 gLawLetter) (hLawOf : FnX P w K mg base cl "_law_of" 2 2 gLawOf) (hLawPact : FnX P w K mg base cl "_law_pact" 5 2 gLawPact) (hLawRefused : FnX P w K mg base cl "_law_refused" 6 2 gLawRefused) (hLawRight : FnX P w K mg base cl "_law_right" 13 2 gLawRight5) (hLawValue : FnX P w K mg base cl "_law_value" 2 2 gLawValue3) : FnOk P w K mg base CX0 14 f fd ["_law_script"] (spD K cl X0 1 gLaw27) :=
 have h := fnO (P := P) (w := w) (mg := mg) (base := base) (cl := cl) (k := 13) F scLaw rfl fun cdv A outer s H E hr =>
  (qss_cons (qs_set (i := 1) scLaw.nd rfl (Or.inl rfl) (qfn hLawBox hr (qa_cons (qe_var 0) qa_nil)))
  (qss_cons (qs_for PassesOwn.never rfl (qi_rng1 (by rfl) T.range (qa_cons qe_int qa_nil)) (qg_name (i := 2) scLaw.nd rfl (Or.inl rfl))
  (qss_cons (qs_asg (qe_tup (qa_cons (qfn hLawPact hr (qa_cons (qe_var 1) (qa_cons qe_int qa_nil))) (qa_cons qe_str qa_nil))) (qg_tup (n := 2) rfl (qgs_cons (qg_name (i := 3) scLaw.nd rfl (Or.inr rfl)) (qgs_cons (qg_name (i := 4) scLaw.nd rfl (Or.inl rfl)) qgs_nil))))
  (qss_cons (qs_for PassesOwn.never rfl (qi_rng1 (by rfl) T.range (qa_cons qe_int qa_nil)) (qg_name (i := 5) scLaw.nd rfl (Or.inl rfl))
  (qss_cons (qs_set (i := 6) scLaw.nd rfl (Or.inl rfl) (qfn hLawOf hr (qa_cons (qe_var 1) (qa_cons (qe_op op_addA od_add (qe_lst (qa_cons qe_non qa_nil)) (qe_lstR rfl (by rfl) T.list (by rfl) T.range (qa_cons (qe_callB call_lenA fd_len (by rfl) T.len PySem.boot_len (qa_cons (qxi hr (qe_var 3) qe_int) qa_nil)) qa_nil))) qa_nil))))
  (qss_cons (qs_set (i := 4) scLaw.nd rfl (Or.inl rfl) (qfn hLawLetter hr (qa_cons (qe_var 3) (qa_cons (qe_var 6) (qa_cons (qfn hLawValue hr (qa_cons (qe_var 1) (qa_cons (qxi hr (qe_var 3) qe_int) qa_nil))) (qa_cons (qfn hLawAnyHead hr (qa_cons (qe_var 1) (qa_cons (qxi hr (qe_var 3) qe_int) qa_nil))) qa_nil))))))
  (qss_cons (qs_set (i := 7) scLaw.nd rfl (Or.inl rfl) (qe_op op_addA od_add (qe_lst (qa_cons (qe_var 4) qa_nil)) (qfn hLawBent hr (qa_cons (qe_var 1) (qa_cons (qe_var 3) (qa_cons (qe_var 4) qa_nil))))))
  (qss_one (qs_if (qt_not (qt_val (qe_callB (call_allB rfl) fd_all (by rfl) T.all boot_all (qa_cons (qe_comp rfl rfl (N0 := ["_law_script", "_law_box_here", "_law_turn", "_law_pact_here", "_law_letter_here", "_law_more", "_law_at", "_law_some", "_law_thing"]) (xs := ["_law_one"]) ⟨(by with_unfolding_all rfl), rfl, rfl, rfl, (by repeat (first | exact trivial | refine ⟨rfl, ?_⟩)), rfl, .inl rfl⟩ (qi_seq (qe_var 7)) (fun _ _ _ _ => (qg_name (i := 9) (by decide +kernel : (["_law_script", "_law_box_here", "_law_turn", "_law_pact_here", "_law_letter_here", "_law_more", "_law_at", "_law_some", "_law_thing", "_law_one"] : List Str).Nodup) rfl (Or.inl rfl))) (fun _ _ _ _ => qif_nil) (fun _ _ _ _ => (qfn hLawRight hr (qa_cons (qe_var 3) (qa_cons (qe_var 9) qa_nil))))) qa_nil))))
  (qss_one (qs_ret qe_bl))
  qss_nil))))))
  (qss_one (qs_for PassesOwn.never rfl (qi_seq (qe_lst (qa_cons qe_non (qa_cons qe_int (qa_cons qe_bl (qa_cons (qe_tup qa_nil) (qa_cons (qe_callTy (call_lstS rfl) fd_lstS (by rfl) T.list boot_list (qa_cons qe_str qa_nil)) (qa_cons (qe_tup (qa_cons qe_str (qa_cons qe_str qa_nil))) (qa_cons qe_dict0 (qa_cons qe_int (qa_cons (qe_lst (qa_cons (qe_var 4) qa_nil)) (qa_cons (qe_tup (qa_cons (qe_var 4) qa_nil)) qa_nil)))))))))))) (qg_name (i := 8) scLaw.nd rfl (Or.inl rfl))
  (qss_one (qs_if (qt_not (qt_val (qfn hLawRefused hr (qa_cons (qe_var 3) (qa_cons (qe_var 8) qa_nil)))))
  (qss_one (qs_ret qe_bl))
  qss_nil)))))))
  (qss_one (qs_ret qe_bl))))
 h
end
end K25
set_option autoImplicit false
namespace K25
open PySem L2 MD
theorem law_worth {ns : List Int} (h : ns.length <= 63) : ∃ a m, gLaw27 [.scr (ns.map D.int)] [] = .ok a m /\ a = .bl true := law_worth25 h
end K25
set_option autoImplicit false
namespace K25
open PySem PyProof.Rows L2 MD PySem.W.Fast
theorem trH {α β : Type} {f f' g g' : α -> β} (a : f = f') (c : g = g') {w : α} (b : f' w = g' w) : f w = g w := by rw [a, c]; exact b
theorem hl : PySem.W.LeftO pw vw [] xt (fun s => obs (Kof 324 s.heap)) (fun _ => expd) 4628 := fun w => both (parts4 21 (trH te9374140906088894777 te13290439758766366632 (hlq0 w)) (trH te4452609877867576086 te2244115527052001716 (hlq1 w)) (trH te9776564211115356239 te9232380618827211823 (hlq2 w)) (trH te7364248110048096471 te1339219424140788616 (hlq3 w)) (trH te9687795802231777670 te3907122946921695695 (hlq4 w)) (trH te7915008042239740199 te4649680030761793408 (hlq5 w)) (trH te17827279897097871225 te9622198275134259551 (hlq6 w)) (trH te17098620748114302789 te6549817764405269070 (hlq7 w))) (both4 (trH te4958890110445115510 te9898295685078944418 (hlq8 w)) (trH te3646209460898463870 te15984450447774090056 (hlq9 w)) (joinH (joinH (joinH (joinH (joinH (trH te1769005854800021369 te7030971545831972613 (hlq10 w)) (trH te16233623091973807719 te9993319802984908280 (hlq11 w))) (trH te3271628838718989630 te14639475989557418690 (hlq12 w))) (trH te5043996643716494801 te1849634542071456748 (hlq13 w))) (trH te16025214374055076438 te14298028075829580699 (hlq14 w))) (trH te1111754444165912676 te11934692034196978744 (hlq15 w))))
theorem all_mk {l : PySem.W.OpenLaw} {w : World} {K : PySem.W.Frag} {h : Heap} {mg : Str -> Option Value} {fa : Addr} (y : obs K = expd) (X : K.In h) (G : h.Ns mainGlobals mg) (hfa : mg "law" = some (.ref fa)) :
  ∃ fd : FuncData, (∀ (s : Shared) (v : Value), BindsTo s fd ⟨[v], []⟩ [("_law_script", v)]) /\ ∀ base : Heap, K.In base -> base.Ns mainGlobals mg -> FnOk l.prog w K mg base CX0 14 fa fd ["_law_script"] (spLaw K) := by
 have y1 : nms.map (PySem.W.nsIn K mainGlobals) = nmsE := congrArg (fun x => x.1) y
 have y2 : fnd.map (fun p => PySem.W.findIn K (.ref p.1) p.2) = fndE := congrArg (fun x => x.2.1) y
 have y3 : fns.map (fnV K) = fnsE := congrArg (fun x => x.2.2.1) y
 have y4 : bls K = blsE := congrArg (fun x => x.2.2.2) y
 have n : ∀ (i : Nat) {x : Str} {v : Value}, nms[i]? = some x -> nmsE[i]? = some (some (some v)) -> mg x = some v := fun i _ _ a b => PySem.W.mg_of X G (pick y1 i a b)
 have o : ∀ (i : Nat) {x : Str}, nms[i]? = some x -> nmsE[i]? = some (some none) -> mg x = none := fun i _ a b => PySem.W.mg_none_of X G (pick y1 i a b)
 have u : ∀ (st : Stmt) (i : Nat) {a : Addr} {x q : Str}, fns[i]? = some a -> fnsE[i]? = some (fnE x q st) -> ∃ fd, Fun K x q st a fd := fun st i _ _ _ a b => fun_of (st := st) (pick y3 i a b)
 have e := hfa.symm.trans (n 36 rfl rfl)
 cases e
 have T : Txt mg := ⟨o 42 rfl rfl, o 43 rfl rfl, o 44 rfl rfl, o 45 rfl rfl, o 46 rfl rfl, o 47 rfl rfl, o 48 rfl rfl, o 49 rfl rfl, o 50 rfl rfl, o 51 rfl rfl, o 52 rfl rfl, o 53 rfl rfl, o 54 rfl rfl, o 55 rfl rfl, o 56 rfl rfl⟩
 obtain ⟨cl, eHeadError, eNoHead, eNoLetter, eNoStream, eNoText⟩ : ∃ cl : Str -> Addr, cl "HeadError" = 45 /\ cl "NoHead" = 58 /\ cl "NoLetter" = 70 /\ cl "NoStream" = 82 /\ cl "NoText" = 101 := ⟨fun x => if x = "HeadError" then 45 else if x = "NoHead" then 58 else if x = "NoLetter" then 70 else if x = "NoStream" then 82 else if x = "NoText" then 101 else 0, if_pos rfl, (if_neg (by decide)).trans (if_pos rfl), (if_neg (by decide)).trans ((if_neg (by decide)).trans (if_pos rfl)), (if_neg (by decide)).trans ((if_neg (by decide)).trans ((if_neg (by decide)).trans (if_pos rfl))), (if_neg (by decide)).trans ((if_neg (by decide)).trans ((if_neg (by decide)).trans ((if_neg (by decide)).trans (if_pos rfl))))⟩
 have ly : ∀ (i : Nat) (b : Bool), (bls K)[i]? = some b -> b = true := fun i b hb => by
  rw [y4] at hb
  exact List.mem_replicate.mp (List.mem_of_getElem? (show (List.replicate 2 true)[i]? = some b from hb)) |>.2
 have TX : TxE K cl ["HeadError", "NoHead", "NoLetter", "NoStream", "NoText"] ["NoLetter"] := ⟨(allN_cons (by rw [eHeadError]; exact (pick y1 37 rfl rfl)) (allN_cons (by rw [eNoHead]; exact (pick y1 38 rfl rfl)) (allN_cons (by rw [eNoLetter]; exact (pick y1 39 rfl rfl)) (allN_cons (by rw [eNoStream]; exact (pick y1 40 rfl rfl)) (allN_cons (by rw [eNoText]; exact (pick y1 41 rfl rfl)) allN_nil))))), ly 0 _ rfl, ly 1 _ rfl, (allN_cons (.tail _ (.tail _ (.head _))) allN_nil)⟩
 have ⟨_, F36⟩ := u sLaw 36 rfl rfl
 have Fx := F36
 obtain ⟨oc, od, kV, doc, pm, an, cdv, ct, osl, rfl, lk, hcd⟩ := Fx.ex
 refine ⟨PySem.W.fnOf "law" "law" (defArgs sLaw) (defBody sLaw) (defScope sLaw) .none kV doc pm an cdv ct, fun s v => .of_eq rfl, fun base _ _ => ?_⟩
 have ⟨_, F14⟩ := u sLawNext 14 rfl rfl
 have g14 := ok_LawNext l.prog w base F14 F14.bindA (n 14 rfl rfl) T TX
 have ⟨_, F16⟩ := u sLawValue 16 rfl rfl
 have g16 := ok_LawValue l.prog w base F16 F16.bindA (n 16 rfl rfl) T TX g14
 have ⟨_, F23⟩ := u sLawAnyHead 23 rfl rfl
 have g23 := ok_LawAnyHead l.prog w base F23 F23.bindA (n 23 rfl rfl) T TX g16
 have ⟨_, F24⟩ := u sLawBits 24 rfl rfl
 have g24 := ok_LawBits l.prog w base F24 F24.bindA (n 24 rfl rfl) T TX
 have ⟨_, F25⟩ := u sLawWidth 25 rfl rfl
 have g25 := ok_LawWidth l.prog w base F25 F25.bindA (n 25 rfl rfl) T TX
 have ⟨_, F34⟩ := u sLawBent 34 rfl rfl
 have g34 := ok_LawBent l.prog w base F34 F34.bindA (n 34 rfl rfl) T TX g24 g14 g25
 have ⟨_, F13⟩ := u sLawBox 13 rfl rfl
 have g13 := ok_LawBox l.prog w base F13 F13.bindA (n 13 rfl rfl) T TX
 have ⟨_, F26⟩ := u sLawCheck 26 rfl rfl
 have g26 := ok_LawCheck l.prog w base F26 F26.bindA (n 26 rfl rfl) T TX
 have ⟨_, F27⟩ := u sLawWidthOf 27 rfl rfl
 have g27 := ok_LawWidthOf l.prog w base F27 F27.bindA (n 27 rfl rfl) T TX
 have ⟨_, F28⟩ := u sLawPieces 28 rfl rfl
 have g28 := ok_LawPieces l.prog w base F28 F28.bindA (n 28 rfl rfl) T TX g24 g27
 have ⟨_, F29⟩ := u sLawLetter 29 rfl rfl
 have g29 := ok_LawLetter l.prog w base F29 F29.bindA (n 29 rfl rfl) T TX g24 g26 g28 g25
 have ⟨_, F15⟩ := u sLawOf 15 rfl rfl
 have g15 := ok_LawOf l.prog w base F15 F15.bindA (n 15 rfl rfl) T TX g14
 have ⟨_, F19⟩ := u sLawWay 19 rfl rfl
 have g19 := ok_LawWay l.prog w base F19 F19.bindA (n 19 rfl rfl) T TX g14 g16
 have ⟨_, F20⟩ := u sLawForm 20 rfl rfl
 have g20 := ok_LawForm l.prog w base F20 F20.bindA (n 20 rfl rfl) T TX g15 g19
 have ⟨_, F21⟩ := u sLawRoad 21 rfl rfl
 have g21 := ok_LawRoad l.prog w base F21 F21.bindA (n 21 rfl rfl) T TX g15
 have ⟨_, F17⟩ := u sLawKind 17 rfl rfl
 have g17 := ok_LawKind l.prog w base F17 F17.bindA (n 17 rfl rfl) T TX g14 g15 g16
 have ⟨_, F18⟩ := u sLawShape 18 rfl rfl
 have g18 := ok_LawShape l.prog w base F18 F18.bindA (n 18 rfl rfl) T TX g17 g14 g15
 have ⟨_, F22⟩ := u sLawPact 22 rfl rfl
 have g22 := ok_LawPact l.prog w base F22 F22.bindA (n 22 rfl rfl) T TX g20 g15 g21 g18
 have ⟨_, F0⟩ := u sAreBits 0 rfl rfl
 have g0 := ok_AreBits l.prog w base F0 F0.bindA (n 0 rfl rfl) T TX
 have ⟨_, F2⟩ := u sWidthFor 2 rfl rfl
 have g2 := ok_WidthFor l.prog w base F2 F2.bindA (n 2 rfl rfl) T TX
 have ⟨_, F9⟩ := u sCheckWidth 9 rfl rfl
 have g9 := ok_CheckWidth l.prog w base F9 F9.bindA (n 9 rfl rfl) T TX g2
 have ⟨_, F7⟩ := u sFormAt 7 rfl rfl
 have g7 := ok_FormAt l.prog w base F7 F7.bindA (n 7 rfl rfl) T TX
 have ⟨_, F3⟩ := u sBreadths 3 rfl rfl
 have g3 := ok_Breadths l.prog w base F3 F3.bindA (n 3 rfl rfl) T TX
 have ⟨_, F4⟩ := u sWidthOf 4 rfl rfl
 have g4 := ok_WidthOf l.prog w base F4 F4.bindA (n 4 rfl rfl) T TX
 have ⟨_, F5⟩ := u sWidths 5 rfl rfl
 have g5 := ok_Widths l.prog w base F5 F5.bindA (n 5 rfl rfl) T TX g3 g4
 have ⟨_, F6⟩ := u sSizeOf 6 rfl rfl
 have g6 := ok_SizeOf l.prog w base F6 F6.bindA (n 6 rfl rfl) T TX g5
 have ⟨_, F8⟩ := u sSortWidth 8 rfl rfl
 have g8 := ok_SortWidth l.prog w base F8 F8.bindA (n 8 rfl rfl) T TX g2
 have ⟨_, F10⟩ := u sLetterSize 10 rfl rfl
 have g10 := ok_LetterSize l.prog w base F10 F10.bindA (n 10 rfl rfl) T TX g9 g7 g6 g8
 have ⟨_, F1⟩ := u sNumberOf 1 rfl rfl
 have g1 := ok_NumberOf l.prog w base F1 F1.bindA (n 1 rfl rfl) T TX
 have ⟨_, F11⟩ := u sSortTold 11 rfl rfl
 have g11 := ok_SortTold l.prog w base F11 F11.bindA (n 11 rfl rfl) T TX g1 g8
 have ⟨_, F12⟩ := u sParted 12 rfl rfl
 have g12 := ok_Parted l.prog w base F12 F12.bindA (n 12 rfl rfl) T TX g0 g9 g7 g10 g1 g11 g8
 have ⟨_, F33⟩ := u sLawRefused 33 rfl rfl
 have g33 := ok_LawRefused l.prog w base F33 F33.bindA (n 33 rfl rfl) T TX g12
 have ⟨_, F32⟩ := u sLawSame 32 rfl rfl
 have g32 := ok_LawSame l.prog w base F32 F32.bindA (n 32 rfl rfl) T TX
 have ⟨_, F30⟩ := u sLawNumber 30 rfl rfl
 have g30 := ok_LawNumber l.prog w base F30 F30.bindA (n 30 rfl rfl) T TX
 have ⟨_, F31⟩ := u sLawSplit 31 rfl rfl
 have g31 := ok_LawSplit l.prog w base F31 F31.bindA (n 31 rfl rfl) T TX g30 g25 g27
 have ⟨_, F35⟩ := u sLawRight 35 rfl rfl
 have g35 := ok_LawRight l.prog w base F35 F35.bindA (n 35 rfl rfl) T TX g33 g32 g31 g12
 have g36 := ok_Law l.prog w base F36 F36.bindA (n 36 rfl rfl) T TX g23 g34 g13 g29 g15 g22 g33 g35 g16
 exact MD.law_fn g36 fun _ h => law_worth h
end K25
open PySem PySem.W PyProof.Rows
set_option maxRecDepth 100000 in
theorem PySem.Challenge.cw_shorthead_k25_what_is_no_letter_holds : PySem.Challenge.rw_shorthead_k25_what_is_no_letter.Holds := by
 w_on; o_law
 refine PySem.W.holds_openX (q := K25.vw) (loose := []) (Xt := K25.xt) (XP := PySem.W.XL K25.vw []) (Yf := fun s => K25.obs (MD.Kof 324 s.heap)) (Ya := fun _ => K25.expd) (N := 4628) K25.hl (fun s e => PySem.W.xl_of s (Bool.and_eq_true_iff.mp e).1) PySem.W.XL.keeps (by rfl) (by rfl) (by rfl) (fun s e => PySem.W.recFacts_of (Bool.and_eq_true_iff.mp e).2) (by rfl) (by first | assumption | decide +kernel) (by decide +kernel) ⟨rfl, rfl, rfl, rfl, rfl, by decide +kernel⟩ ?hw ?hc
 case hw => w_witness2
 case hc => exact MD.walk_ofY (l := PySem.Challenge.rw_shorthead_k25_what_is_no_letter) (n := 63) (k := 14) (x := "_law_script") (CX := L2.CX0) (sp := MD.spLaw) rfl (by decide) rfl ⟨rfl, by decide, by decide, rfl⟩ (fun K y w mg fa h X G hmg => K25.all_mk y X G hmg) (fun _ _ a ns hl _ hS => ⟨a, ns, rfl, hS, hl, fun _ => rfl⟩) fun _ _ _ _ z => z
